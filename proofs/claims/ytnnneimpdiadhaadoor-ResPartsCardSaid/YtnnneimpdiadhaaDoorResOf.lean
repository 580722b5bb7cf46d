/- A vector as the document's: as it is. -/
import Derived.Test.YtnnneimpdiadhaaDoorResReads
import Derived.StillTailTactics
namespace Go.Proofs.YtnnneimpdiadhaaDoor.Vec
open Go.RowKit
set_option linter.unusedVariables false

theorem refInfo : (Tryd.prog.info? 43).map (fun i => (i.zero, i.size, i.bytes)) = some (some (.agg #[.string ByteArray.empty, .int .i64 0]), 2, 24) := by kernel_rfl

theorem take_next {l : V} {k : Nat} (h : k < l.length) : l.take (k + 1) = l.take k ++ [(nm l k, qn l k)] := by
  rw [List.take_add_one]; congr 1
  have : l.getD k (ByteArray.empty, 0) = l[k] := by simp [List.getD, h]
  have e : (nm l k, qn l k) = l[k] := by simp only [nm, qn, this]
  rw [e]; simp [h]

set_option maxRecDepth 100000 in
set_option maxHeartbeats 1600000 in
theorem of_any (a : Option Addr) (len cap : Nat) (l : V) (w : World) (hr : VecAt w a len l) (hlen : len ≤ 1000000) :
    Calls Tryd.prog 9 #[.slice a len cap] w (fun e w' => ∃ x, e = .returned x ∧ Reads w' x l ∧ Kept w w') := by
  have hl := hr.1
  obtain ⟨i0, hi, hz0, hz1, hz2⟩ := info_parts refInfo
  rcases hr.form with h0 | ⟨b, off, rfl⟩
  · subst h0
    have hl0 : l = [] := List.eq_nil_of_length_eq_zero hl
    subst hl0
    clear hr hl hi hz0 hz1 hz2
    go_enter Tryd.func9, Tryd.ntmps9
    go_wp2
    refine wp_loop_rounds 1 ?_
    rw [rounds_succ]
    go_wp2
    go_ret
    exact ⟨_, rfl, Reads.nil _, Kept.refl _⟩
  · have HR := Lib.hid hr
    have HL := Lib.hid hl
    have HF := Lib.hid hr.2.2.1
    clear hr hl
    go_enter Tryd.func9, Tryd.ntmps9
    go_wp2
    go_loopw [3, 4] (fun v i wr => ∃ k : Nat, k ≤ len ∧ i = .int .i64 k ∧ OwnV 43 wr w.heap.size v (l.take k) ∧ Below w.heap.size w wr) (fun _ i _ => len - (intOf i).toNat)
    case atStart => exact ⟨0, Nat.zero_le _, rfl, OwnV.nil _ _ _, Below.refl _ _⟩
    case round =>
      obtain ⟨k, hk, rfl, ho, hB⟩ := hrel
      have HO := Lib.hid ho
      have HB := Lib.hid hB
      have HT := Lib.hid (show (l.take k).length = k by rw [List.length_take, HL.out]; omega)
      have HOWN := Lib.hid (show wr.ownsRow w.heap.size 43 2 u3 k (cellsOf (l.take k)) by have := HO.out.1; rw [HT.out] at this; exact this)
      by_cases hlt : k < len
      · obtain ⟨hb, c1, c2⟩ := (HR.out.kept hB).cells hlt
        have HI := Lib.hid (show k < l.length by rw [HL.out]; exact hlt)
        have hbw : b < w.heap.size := (HR.out.cells hlt).1
        have hbase : w.heap.size ≤ wr.heap.size := hB.size
        have HNE := Lib.hid (show u3.ownBlock ≠ some b by
          intro e
          have := (HOWN.out.lt b e).1
          omega)
        have HBASE := Lib.hid (show w.heap.size ≤ (wr.alloc (.cells #[.string (nm l k), .int .i64 (qn l k)] 43)).drew.heap.size by simp; omega)
        have HBD := Lib.hid (show Below w.heap.size w ((wr.alloc (.cells #[.string (nm l k), .int .i64 (qn l k)] 43)).drew) from HB.out.trans (Below.mono ((kept_alloc wr _).trans (Kept.drewN _ 1)) hbase))
        have hk1 : (k : Int) < (len : Int) := by omega
        have HFK := Lib.hid (HF.out k HI.out)
        clear ho hB
        go_wp2_with fail
        go_region_held3 (fun W => W.cell? ⟨b, off + k * 2, none⟩ = some (.string (nm l k)) ∧ W.cell? ⟨b, off + k * 2 + 1, none⟩ = some (.int .i64 (qn l k)))
          (first
            | go_keep
            | (go_split_ands
               refine ⟨?_, ?_⟩
               · (refine (hgrow.cell_far ⟨b, off + k * 2, none⟩ (by simp; omega) (Ne.symm HNE.out)).trans ?_; assumption)
               · (refine (hgrow.cell_far ⟨b, off + k * 2 + 1, none⟩ (by simp; omega) (Ne.symm HNE.out)).trans ?_; assumption)))
          ((refine step_append_lies _ (by rfl) _ _ _ (by rfl) w.heap.size 43 i0 _ 2 24 Tryd.underlying27 hi hz0 hz1 hz2 rfl (by decide) u3 k (cellsOf (l.take k)) (by rfl) ((HOWN.out.alloc _).drew)
                ⟨wr.heap.size, 0, none⟩ 1 1 [.string (nm l k), .int .i64 (qn l k)] (by rfl) (by rfl) (World.news_of_block (cs := #[.string (nm l k), .int .i64 (qn l k)]) (t := 43) (fr := (0, 0)) (heap_alloc_new wr _)) (cellsOf_one [(nm l k, qn l k)])
                (by decide) (by unfold maxLen; omega) (by omega) (by simp; omega) (wr.heap.size + 1) (by simp) ?_; intro gg cap1 w1 hown1 hgrow hat hlt1))
        all_goals
          go_wp2
          go_roundw
          case rel => exact ⟨k + 1, by omega, by go_num, ⟨by rw [take_next HI.out, cellsOf_append, List.length_append, HT.out]; exact hown1, by rw [take_next HI.out]; exact HO.out.2.snoc HFK.out.1 HFK.out.2.1 HFK.out.2.2⟩, HBD.out.grown hgrow HBASE.out (fun j hj => (HOWN.out.lt j hj).1)⟩
          case measure => simp [intOf]; omega
      · have HK := Lib.hid (show l.take k = l by rw [List.take_of_length_le (by rw [HL.out]; omega)])
        clear ho hB
        go_wp2
        go_ret
        exact ⟨_, rfl, by have h := HO.out; rw [HK.out] at h; exact h.at_, HB.out⟩

end Go.Proofs.YtnnneimpdiadhaaDoor.Vec
