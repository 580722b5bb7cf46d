/- As the reference has them: Of, OfTols. -/
import Derived.Test.YthlhaefaafjmlaaDoorTaFew
import Derived.Test.YthlhaefaafjmlaaDoorGJoin
import Derived.StillTailTactics
import Derived.Deep.RegionHeld3
namespace Go.Proofs.YthlhaefaafjmlaaDoor
open Go.RowKit
set_option linter.unusedVariables false

theorem refInfoA : (Tryd.prog.info? 40).map (fun i => (i.zero, i.size, i.bytes)) = some (some (.agg #[.string ByteArray.empty, .string ByteArray.empty, .bool false]), 3, 40) := by kernel_rfl

set_option maxRecDepth 100000 in
set_option maxHeartbeats 1600000 in
theorem ofA_any (a : Option Addr) (len cap : Nat) (l : NL) (w : World) (hr : RowAt TaLay w a len l) (hlen : len ≤ 1000000) :
    Calls Tryd.prog 11 #[.slice a len cap] w (fun e w' => ∃ x, e = .returned x ∧ Reads TaLay w' x l ∧ Kept w w') := by
  have hl := hr.1
  obtain ⟨i0, hi, hz0, hz1, hz2'⟩ := info_parts refInfoA
  rcases hr.form with h0 | ⟨b, off, rfl⟩
  · subst h0
    have hl0 : l = [] := List.eq_nil_of_length_eq_zero hl
    subst hl0
    clear hr hl hi hz0 hz1 hz2'
    go_enter Tryd.func11, Tryd.ntmps11
    go_wp2
    refine wp_loop_rounds 1 ?_
    rw [rounds_succ]
    go_wp2
    go_ret
    exact ⟨_, rfl, Reads.nil _, Kept.refl _⟩
  · have HR := Lib.hid hr
    have HL := Lib.hid hl
    clear hr hl
    go_enter Tryd.func11, Tryd.ntmps11
    go_wp2
    go_loopw [3, 4] (fun v i wr => ∃ k : Nat, k ≤ len ∧ i = .int .i64 k ∧ Own TaLay 40 wr w.heap.size v (l.take k) ∧ Below w.heap.size w wr) (fun _ i _ => len - (intOf i).toNat)
    case atStart => exact ⟨0, Nat.zero_le _, rfl, Own.nil _ _ _, Below.refl _ _⟩
    case round =>
      obtain ⟨k, hk, rfl, ho, hB⟩ := hrel
      have HO := Lib.hid ho
      have HB := Lib.hid hB
      have HT := Lib.hid (show (l.take k).length = k by rw [List.length_take, HL.out]; omega)
      have HOWN := Lib.hid (show wr.ownsRow w.heap.size 40 3 u3 k (rowCells TaLay (l.take k)) by have := HO.out.1; rw [HT.out] at this; exact this)
      by_cases hlt : k < len
      · obtain ⟨x, y, m, hx, hd, hb, hz, hz2, c0, c1, c2⟩ := (HR.out.kept hB).tri hlt
        have HX := Lib.hid hx
        have hbw : b < w.heap.size := by obtain ⟨z, _, _, h, _⟩ := HR.out.cells hlt; exact h
        have hbase : w.heap.size ≤ wr.heap.size := hB.size
        have HNE := Lib.hid (show u3.ownBlock ≠ some b by
          intro e
          have := (HOWN.out.lt b e).1
          omega)
        have HBASE := Lib.hid (show w.heap.size ≤ (wr.alloc (.cells #[.string x, .string y, .bool m] 40)).drew.heap.size by simp; omega)
        have HBD := Lib.hid (show Below w.heap.size w ((wr.alloc (.cells #[.string x, .string y, .bool m] 40)).drew) from HB.out.trans (Below.mono ((kept_alloc wr _).trans (Kept.drewN _ 1)) hbase))
        have hk1 : (k : Int) < (len : Int) := by omega
        have HFK := Lib.hid (show TaLay.fine (x, y, m) from ⟨hz, hz2⟩)
        clear ho hB hx hd hz hz2
        go_wp2_with fail
        go_region_held3 (fun W => W.cell? ⟨b, off + k * 3, none⟩ = some (.string x) ∧ W.cell? ⟨b, off + k * 3 + 1, none⟩ = some (.string y) ∧ W.cell? ⟨b, off + k * 3 + 2, none⟩ = some (.bool m))
          (first
            | go_keep
            | (go_split_ands
               refine ⟨?_, ?_, ?_⟩
               · (refine (hgrow.cell_far ⟨b, off + k * 3, none⟩ (by simp; omega) (Ne.symm HNE.out)).trans ?_; assumption)
               · (refine (hgrow.cell_far ⟨b, off + k * 3 + 1, none⟩ (by simp; omega) (Ne.symm HNE.out)).trans ?_; assumption)
               · (refine (hgrow.cell_far ⟨b, off + k * 3 + 2, none⟩ (by simp; omega) (Ne.symm HNE.out)).trans ?_; assumption)))
          ((refine step_append_lies _ (by rfl) _ _ _ (by rfl) w.heap.size 40 i0 _ 3 40 Tryd.underlying27 hi hz0 hz1 hz2' rfl (by decide) u3 k (rowCells TaLay (l.take k)) (by rfl) ((HOWN.out.alloc _).drew)
                ⟨wr.heap.size, 0, none⟩ 1 1 [.string x, .string y, .bool m] (by rfl) (by rfl) (World.news_of_block (cs := #[.string x, .string y, .bool m]) (t := 40) (fr := (0, 0)) (heap_alloc_new wr _)) (one_ssb x y m)
                (by decide) (by unfold maxLen; omega) (by omega) (by simp; omega) (wr.heap.size + 1) (by simp) ?_; intro gg cap1 w1 hown1 hgrow hat hlt1))
        all_goals
          go_wp2
          go_roundw
          case rel => exact ⟨k + 1, by omega, by go_num, by rw [take_snoc HX.out]; exact Own.snoc hown1 (by rw [HT.out]) HO.out.2 HFK.out, HBD.out.grown hgrow HBASE.out (fun j hj => (HOWN.out.lt j hj).1)⟩
          case measure => simp [intOf]; omega
      · have HK := Lib.hid (show l.take k = l by rw [List.take_of_length_le (by rw [HL.out]; omega)])
        clear ho hB
        go_wp2
        go_ret
        exact ⟨_, rfl, by have h := HO.out; rw [HK.out] at h; exact h.reads, HB.out⟩

theorem refInfoO : (Tryd.prog.info? 69).map (fun i => (i.zero, i.size, i.bytes)) = some (some (.agg #[.string ByteArray.empty, .string ByteArray.empty, .bool false]), 3, 40) := by kernel_rfl

set_option maxRecDepth 100000 in
set_option maxHeartbeats 1600000 in
theorem ofO_any (a : Option Addr) (len cap : Nat) (l : NL) (w : World) (hr : RowAt TaLay w a len l) (hlen : len ≤ 1000000) :
    Calls Tryd.prog 12 #[.slice a len cap] w (fun e w' => ∃ x, e = .returned x ∧ Reads TaLay w' x l ∧ Kept w w') := by
  have hl := hr.1
  obtain ⟨i0, hi, hz0, hz1, hz2'⟩ := info_parts refInfoO
  rcases hr.form with h0 | ⟨b, off, rfl⟩
  · subst h0
    have hl0 : l = [] := List.eq_nil_of_length_eq_zero hl
    subst hl0
    clear hr hl hi hz0 hz1 hz2'
    go_enter Tryd.func12, Tryd.ntmps12
    go_wp2
    refine wp_loop_rounds 1 ?_
    rw [rounds_succ]
    go_wp2
    go_ret
    exact ⟨_, rfl, Reads.nil _, Kept.refl _⟩
  · have HR := Lib.hid hr
    have HL := Lib.hid hl
    clear hr hl
    go_enter Tryd.func12, Tryd.ntmps12
    go_wp2
    go_loopw [3, 4] (fun v i wr => ∃ k : Nat, k ≤ len ∧ i = .int .i64 k ∧ Own TaLay 69 wr w.heap.size v (l.take k) ∧ Below w.heap.size w wr) (fun _ i _ => len - (intOf i).toNat)
    case atStart => exact ⟨0, Nat.zero_le _, rfl, Own.nil _ _ _, Below.refl _ _⟩
    case round =>
      obtain ⟨k, hk, rfl, ho, hB⟩ := hrel
      have HO := Lib.hid ho
      have HB := Lib.hid hB
      have HT := Lib.hid (show (l.take k).length = k by rw [List.length_take, HL.out]; omega)
      have HOWN := Lib.hid (show wr.ownsRow w.heap.size 69 3 u3 k (rowCells TaLay (l.take k)) by have := HO.out.1; rw [HT.out] at this; exact this)
      by_cases hlt : k < len
      · obtain ⟨x, y, m, hx, hd, hb, hz, hz2, c0, c1, c2⟩ := (HR.out.kept hB).tri hlt
        have HX := Lib.hid hx
        have hbw : b < w.heap.size := by obtain ⟨z, _, _, h, _⟩ := HR.out.cells hlt; exact h
        have hbase : w.heap.size ≤ wr.heap.size := hB.size
        have HNE := Lib.hid (show u3.ownBlock ≠ some b by
          intro e
          have := (HOWN.out.lt b e).1
          omega)
        have HBASE := Lib.hid (show w.heap.size ≤ (wr.alloc (.cells #[.string x, .string y, .bool m] 69)).drew.heap.size by simp; omega)
        have HBD := Lib.hid (show Below w.heap.size w ((wr.alloc (.cells #[.string x, .string y, .bool m] 69)).drew) from HB.out.trans (Below.mono ((kept_alloc wr _).trans (Kept.drewN _ 1)) hbase))
        have hk1 : (k : Int) < (len : Int) := by omega
        have HFK := Lib.hid (show TaLay.fine (x, y, m) from ⟨hz, hz2⟩)
        clear ho hB hx hd hz hz2
        go_wp2_with fail
        go_region_held3 (fun W => W.cell? ⟨b, off + k * 3, none⟩ = some (.string x) ∧ W.cell? ⟨b, off + k * 3 + 1, none⟩ = some (.string y) ∧ W.cell? ⟨b, off + k * 3 + 2, none⟩ = some (.bool m))
          (first
            | go_keep
            | (go_split_ands
               refine ⟨?_, ?_, ?_⟩
               · (refine (hgrow.cell_far ⟨b, off + k * 3, none⟩ (by simp; omega) (Ne.symm HNE.out)).trans ?_; assumption)
               · (refine (hgrow.cell_far ⟨b, off + k * 3 + 1, none⟩ (by simp; omega) (Ne.symm HNE.out)).trans ?_; assumption)
               · (refine (hgrow.cell_far ⟨b, off + k * 3 + 2, none⟩ (by simp; omega) (Ne.symm HNE.out)).trans ?_; assumption)))
          ((refine step_append_lies _ (by rfl) _ _ _ (by rfl) w.heap.size 69 i0 _ 3 40 Tryd.underlying29 hi hz0 hz1 hz2' rfl (by decide) u3 k (rowCells TaLay (l.take k)) (by rfl) ((HOWN.out.alloc _).drew)
                ⟨wr.heap.size, 0, none⟩ 1 1 [.string x, .string y, .bool m] (by rfl) (by rfl) (World.news_of_block (cs := #[.string x, .string y, .bool m]) (t := 69) (fr := (0, 0)) (heap_alloc_new wr _)) (one_ssb x y m)
                (by decide) (by unfold maxLen; omega) (by omega) (by simp; omega) (wr.heap.size + 1) (by simp) ?_; intro gg cap1 w1 hown1 hgrow hat hlt1))
        all_goals
          go_wp2
          go_roundw
          case rel => exact ⟨k + 1, by omega, by go_num, by rw [take_snoc HX.out]; exact Own.snoc hown1 (by rw [HT.out]) HO.out.2 HFK.out, HBD.out.grown hgrow HBASE.out (fun j hj => (HOWN.out.lt j hj).1)⟩
          case measure => simp [intOf]; omega
      · have HK := Lib.hid (show l.take k = l by rw [List.take_of_length_le (by rw [HL.out]; omega)])
        clear ho hB
        go_wp2
        go_ret
        exact ⟨_, rfl, by have h := HO.out; rw [HK.out] at h; exact h.reads, HB.out⟩


theorem ofAS {v : Value} {l : NL} {w : World} (h : Reads TaLay w v l) (hf : l.length ≤ 1000000) :
    Calls Tryd.prog 11 #[v] w (fun e w' => ∃ x, e = .returned x ∧ Reads TaLay w' x l ∧ Kept w w') := by
  obtain ⟨a, cap, rfl, h1, h2, h3⟩ := h
  exact ofA_any a _ cap l w h3 hf
theorem ofAR {v : Value} {l : NL} {w : World} (h : Reads TaLay w v l) (hf : fewN l = true) :
    Calls Tryd.prog 11 #[v] w (fun e w' => ∃ x, e = .returned x ∧ Reads TaLay w' x l ∧ Kept w w') := ofAS h (by have := (few_mid hf).1; omega)

theorem ofOS {v : Value} {l : NL} {w : World} (h : Reads TaLay w v l) (hf : l.length ≤ 1000000) :
    Calls Tryd.prog 12 #[v] w (fun e w' => ∃ x, e = .returned x ∧ Reads TaLay w' x l ∧ Kept w w') := by
  obtain ⟨a, cap, rfl, h1, h2, h3⟩ := h
  exact ofO_any a _ cap l w h3 hf
theorem ofOR {v : Value} {l : NL} {w : World} (h : Reads TaLay w v l) (hf : fewN l = true) :
    Calls Tryd.prog 12 #[v] w (fun e w' => ∃ x, e = .returned x ∧ Reads TaLay w' x l ∧ Kept w w') := ofOS h (by have := (few_mid hf).1; omega)

end Go.Proofs.YthlhaefaafjmlaaDoor
