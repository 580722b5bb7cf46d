/- Of of lists as long as memory is. -/
import Derived.Test.YtflllkpnkcmegaaGreatDoorPodOf
namespace Go.Proofs.YtflllkpnkcmegaaGreatDoor
open Go.RowKit
set_option linter.unusedVariables false

set_option maxRecDepth 100000 in
set_option maxHeartbeats 1600000 in
theorem of_ownM (a : Option Addr) (len cap : Nat) (l : PL) (w : World) (hr : RowAt PairLay w a len l) (hlen : len * 32 ≤ 140737488351232) :
    Calls Tryz.prog 46 #[.slice a len cap] w (fun e w' => ∃ x, e = .returned x ∧ Own PairLay 157 w' w.heap.size x l ∧ Kept w w') := by
  have hl := hr.1
  obtain ⟨i0, hi, hz0, hz1, hz2'⟩ := info_parts refInfoP
  rcases hr.form with h0 | ⟨b, off, rfl⟩
  · subst h0
    have hl0 : l = [] := List.eq_nil_of_length_eq_zero hl
    subst hl0
    clear hr hl hi hz0 hz1 hz2'
    go_enter Tryz.func46, Tryz.ntmps46
    go_wp2
    refine wp_loop_rounds 1 ?_
    rw [rounds_succ]
    go_wp2
    go_ret
    exact ⟨_, rfl, Own.nil _ _ _, Kept.refl _⟩
  · have HR := Lib.hid hr
    have HL := Lib.hid hl
    clear hr hl
    go_enter Tryz.func46, Tryz.ntmps46
    go_wp2
    go_loopw [3, 4] (fun v i wr => ∃ k : Nat, k ≤ len ∧ i = .int .i64 k ∧ Own PairLay 157 wr w.heap.size v (l.take k) ∧ Below w.heap.size w wr) (fun _ i _ => len - (intOf i).toNat)
    case atStart => exact ⟨0, Nat.zero_le _, rfl, Own.nil _ _ _, Below.refl _ _⟩
    case round =>
      obtain ⟨k, hk, rfl, ho, hB⟩ := hrel
      have HO := Lib.hid ho
      have HB := Lib.hid hB
      have HT := Lib.hid (show (l.take k).length = k by rw [List.length_take, HL.out]; omega)
      have HOWN := Lib.hid (show wr.ownsRow w.heap.size 157 2 u3 k (rowCells PairLay (l.take k)) by have := HO.out.1; rw [HT.out] at this; exact this)
      by_cases hlt : k < len
      · obtain ⟨x, y, hx, hd, hb, hz, hz2, c1, c2⟩ := (HR.out.kept hB).pair hlt
        have HX := Lib.hid hx
        have hbw : b < w.heap.size := by obtain ⟨z, _, _, h, _⟩ := HR.out.cells hlt; exact h
        have hbase : w.heap.size ≤ wr.heap.size := hB.size
        have HNE := Lib.hid (show u3.ownBlock ≠ some b by
          intro e
          have := (HOWN.out.lt b e).1
          omega)
        have HBASE := Lib.hid (show w.heap.size ≤ (wr.alloc (.cells #[.string x, .string y] 157)).drew.heap.size by simp; omega)
        have HBD := Lib.hid (show Below w.heap.size w ((wr.alloc (.cells #[.string x, .string y] 157)).drew) from HB.out.trans (Below.mono ((kept_alloc wr _).trans (Kept.drewN _ 1)) hbase))
        have hk1 : (k : Int) < (len : Int) := by omega
        have HFK := Lib.hid (show PairLay.fine (x, y) from ⟨hz, hz2⟩)
        clear ho hB hx hd hz hz2
        go_wp2_with fail
        go_region_held3 (fun W => W.cell? ⟨b, off + k * 2, none⟩ = some (.string x) ∧ W.cell? ⟨b, off + k * 2 + 1, none⟩ = some (.string y))
          (first
            | go_keep
            | (go_split_ands
               refine ⟨?_, ?_⟩
               · (refine (hgrow.cell_far ⟨b, off + k * 2, none⟩ (by simp; omega) (Ne.symm HNE.out)).trans ?_; assumption)
               · (refine (hgrow.cell_far ⟨b, off + k * 2 + 1, none⟩ (by simp; omega) (Ne.symm HNE.out)).trans ?_; assumption)))
          ((refine step_append_lies _ (by rfl) _ _ _ (by rfl) w.heap.size 157 i0 _ 2 32 Tryz.underlying34 hi hz0 hz1 hz2' rfl (by decide) u3 k (rowCells PairLay (l.take k)) (by rfl) ((HOWN.out.alloc _).drew)
                ⟨wr.heap.size, 0, none⟩ 1 1 [.string x, .string y] (by rfl) (by rfl) (World.news_of_block (cs := #[.string x, .string y]) (t := 157) (fr := (0, 0)) (heap_alloc_new wr _)) (one_ss x y)
                (by decide) (by unfold maxLen; omega) (by omega) (by simp; omega) (wr.heap.size + 1) (by simp) ?_; intro gg cap1 w1 hown1 hgrow hat hlt1))
        all_goals
          go_wp2
          go_roundw
          case rel => exact ⟨k + 1, by omega, by go_num, by rw [take_snoc HX.out]; exact Own.snoc hown1 (by rw [HT.out]) HO.out.2 HFK.out, HBD.out.grown hgrow HBASE.out (fun j hj => (HOWN.out.lt j hj).1)⟩
          case measure => simp [intOf]; omega
      · have HK := Lib.hid (show l.take k = l by rw [List.take_of_length_le (by rw [HL.out]; omega)])
        clear ho hB
        go_wp2
        go_ret
        exact ⟨_, rfl, by have h := HO.out; rw [HK.out] at h; exact h, HB.out⟩

set_option maxRecDepth 100000 in
set_option maxHeartbeats 1600000 in
theorem ofSel_ownM (a : Option Addr) (len cap : Nat) (l : TL) (w : World) (hr : RowAt TermLay w a len l) (hlen : len * 40 ≤ 140737488351232) :
    Calls Tryz.prog 47 #[.slice a len cap] w (fun e w' => ∃ x, e = .returned x ∧ Own TermLay 158 w' w.heap.size x l ∧ Kept w w') := by
  have hl := hr.1
  obtain ⟨i0, hi, hz0, hz1, hz2'⟩ := info_parts refInfoT
  rcases hr.form with h0 | ⟨b, off, rfl⟩
  · subst h0
    have hl0 : l = [] := List.eq_nil_of_length_eq_zero hl
    subst hl0
    clear hr hl hi hz0 hz1 hz2'
    go_enter Tryz.func47, Tryz.ntmps47
    go_wp2
    refine wp_loop_rounds 1 ?_
    rw [rounds_succ]
    go_wp2
    go_ret
    exact ⟨_, rfl, Own.nil _ _ _, Kept.refl _⟩
  · have HR := Lib.hid hr
    have HL := Lib.hid hl
    clear hr hl
    go_enter Tryz.func47, Tryz.ntmps47
    go_wp2
    go_loopw [3, 4] (fun v i wr => ∃ k : Nat, k ≤ len ∧ i = .int .i64 k ∧ Own TermLay 158 wr w.heap.size v (l.take k) ∧ Below w.heap.size w wr) (fun _ i _ => len - (intOf i).toNat)
    case atStart => exact ⟨0, Nat.zero_le _, rfl, Own.nil _ _ _, Below.refl _ _⟩
    case round =>
      obtain ⟨k, hk, rfl, ho, hB⟩ := hrel
      have HO := Lib.hid ho
      have HB := Lib.hid hB
      have HT := Lib.hid (show (l.take k).length = k by rw [List.length_take, HL.out]; omega)
      have HOWN := Lib.hid (show wr.ownsRow w.heap.size 158 3 u3 k (rowCells TermLay (l.take k)) by have := HO.out.1; rw [HT.out] at this; exact this)
      by_cases hlt : k < len
      · obtain ⟨o, x, y, hx, hd, hb, ho9, hz, hz2, c0, c1, c2⟩ := (HR.out.kept hB).term hlt
        have HX := Lib.hid hx
        have hbw : b < w.heap.size := by obtain ⟨z, _, _, h, _⟩ := HR.out.cells hlt; exact h
        have hbase : w.heap.size ≤ wr.heap.size := hB.size
        have HNE := Lib.hid (show u3.ownBlock ≠ some b by
          intro e
          have := (HOWN.out.lt b e).1
          omega)
        have HBASE := Lib.hid (show w.heap.size ≤ (wr.alloc (.cells #[.int .i64 o, .string x, .string y] 158)).drew.heap.size by simp; omega)
        have HBD := Lib.hid (show Below w.heap.size w ((wr.alloc (.cells #[.int .i64 o, .string x, .string y] 158)).drew) from HB.out.trans (Below.mono ((kept_alloc wr _).trans (Kept.drewN _ 1)) hbase))
        have hk1 : (k : Int) < (len : Int) := by omega
        have HFK := Lib.hid (show TermLay.fine (o, x, y) from ⟨ho9, hz, hz2⟩)
        clear ho hB hx hd hz hz2
        go_wp2_with fail
        go_region_held3 (fun W => W.cell? ⟨b, off + k * 3, none⟩ = some (.int .i64 o) ∧ W.cell? ⟨b, off + k * 3 + 1, none⟩ = some (.string x) ∧ W.cell? ⟨b, off + k * 3 + 2, none⟩ = some (.string y))
          (first
            | go_keep
            | (go_split_ands
               refine ⟨?_, ?_, ?_⟩
               · (refine (hgrow.cell_far ⟨b, off + k * 3, none⟩ (by simp; omega) (Ne.symm HNE.out)).trans ?_; assumption)
               · (refine (hgrow.cell_far ⟨b, off + k * 3 + 1, none⟩ (by simp; omega) (Ne.symm HNE.out)).trans ?_; assumption)
               · (refine (hgrow.cell_far ⟨b, off + k * 3 + 2, none⟩ (by simp; omega) (Ne.symm HNE.out)).trans ?_; assumption)))
          ((refine step_append_lies _ (by rfl) _ _ _ (by rfl) w.heap.size 158 i0 _ 3 40 Tryz.underlying35 hi hz0 hz1 hz2' rfl (by decide) u3 k (rowCells TermLay (l.take k)) (by rfl) ((HOWN.out.alloc _).drew)
                ⟨wr.heap.size, 0, none⟩ 1 1 [.int .i64 o, .string x, .string y] (by rfl) (by rfl) (World.news_of_block (cs := #[.int .i64 o, .string x, .string y]) (t := 158) (fr := (0, 0)) (heap_alloc_new wr _)) (one_iss o x y)
                (by decide) (by unfold maxLen; omega) (by omega) (by simp; omega) (wr.heap.size + 1) (by simp) ?_; intro gg cap1 w1 hown1 hgrow hat hlt1))
        all_goals
          go_wp2
          go_roundw
          case rel => exact ⟨k + 1, by omega, by go_num, by rw [take_snoc HX.out]; exact Own.snoc hown1 (by rw [HT.out]) HO.out.2 HFK.out, HBD.out.grown hgrow HBASE.out (fun j hj => (HOWN.out.lt j hj).1)⟩
          case measure => simp [intOf]; omega
      · have HK := Lib.hid (show l.take k = l by rw [List.take_of_length_le (by rw [HL.out]; omega)])
        clear ho hB
        go_wp2
        go_ret
        exact ⟨_, rfl, by have h := HO.out; rw [HK.out] at h; exact h, HB.out⟩

set_option maxRecDepth 100000 in
set_option maxHeartbeats 1600000 in
theorem ofO_ownM (a : Option Addr) (len cap : Nat) (l : NL) (w : World) (hr : RowAt TaLay w a len l) (hlen : len * 40 ≤ 140737488351232) :
    Calls Tryz.prog 48 #[.slice a len cap] w (fun e w' => ∃ x, e = .returned x ∧ Own TaLay 159 w' w.heap.size x l ∧ Kept w w') := by
  have hl := hr.1
  obtain ⟨i0, hi, hz0, hz1, hz2'⟩ := info_parts refInfoO
  rcases hr.form with h0 | ⟨b, off, rfl⟩
  · subst h0
    have hl0 : l = [] := List.eq_nil_of_length_eq_zero hl
    subst hl0
    clear hr hl hi hz0 hz1 hz2'
    go_enter Tryz.func48, Tryz.ntmps48
    go_wp2
    refine wp_loop_rounds 1 ?_
    rw [rounds_succ]
    go_wp2
    go_ret
    exact ⟨_, rfl, Own.nil _ _ _, Kept.refl _⟩
  · have HR := Lib.hid hr
    have HL := Lib.hid hl
    clear hr hl
    go_enter Tryz.func48, Tryz.ntmps48
    go_wp2
    go_loopw [3, 4] (fun v i wr => ∃ k : Nat, k ≤ len ∧ i = .int .i64 k ∧ Own TaLay 159 wr w.heap.size v (l.take k) ∧ Below w.heap.size w wr) (fun _ i _ => len - (intOf i).toNat)
    case atStart => exact ⟨0, Nat.zero_le _, rfl, Own.nil _ _ _, Below.refl _ _⟩
    case round =>
      obtain ⟨k, hk, rfl, ho, hB⟩ := hrel
      have HO := Lib.hid ho
      have HB := Lib.hid hB
      have HT := Lib.hid (show (l.take k).length = k by rw [List.length_take, HL.out]; omega)
      have HOWN := Lib.hid (show wr.ownsRow w.heap.size 159 3 u3 k (rowCells TaLay (l.take k)) by have := HO.out.1; rw [HT.out] at this; exact this)
      by_cases hlt : k < len
      · obtain ⟨x, y, m, hx, hd, hb, hz, hz2, c0, c1, c2⟩ := (HR.out.kept hB).tri hlt
        have HX := Lib.hid hx
        have hbw : b < w.heap.size := by obtain ⟨z, _, _, h, _⟩ := HR.out.cells hlt; exact h
        have hbase : w.heap.size ≤ wr.heap.size := hB.size
        have HNE := Lib.hid (show u3.ownBlock ≠ some b by
          intro e
          have := (HOWN.out.lt b e).1
          omega)
        have HBASE := Lib.hid (show w.heap.size ≤ (wr.alloc (.cells #[.string x, .string y, .bool m] 159)).drew.heap.size by simp; omega)
        have HBD := Lib.hid (show Below w.heap.size w ((wr.alloc (.cells #[.string x, .string y, .bool m] 159)).drew) from HB.out.trans (Below.mono ((kept_alloc wr _).trans (Kept.drewN _ 1)) hbase))
        have hk1 : (k : Int) < (len : Int) := by omega
        have HFK := Lib.hid (show TaLay.fine (x, y, m) from ⟨hz, hz2⟩)
        clear ho hB hx hd hz hz2
        go_wp2_with fail
        go_region_held3 (fun W => W.cell? ⟨b, off + k * 3, none⟩ = some (.string x) ∧ W.cell? ⟨b, off + k * 3 + 1, none⟩ = some (.string y) ∧ W.cell? ⟨b, off + k * 3 + 2, none⟩ = some (.bool m))
          (first
            | go_keep
            | (go_split_ands
               refine ⟨?_, ?_, ?_⟩
               · (refine (hgrow.cell_far ⟨b, off + k * 3, none⟩ (by simp; omega) (Ne.symm HNE.out)).trans ?_; assumption)
               · (refine (hgrow.cell_far ⟨b, off + k * 3 + 1, none⟩ (by simp; omega) (Ne.symm HNE.out)).trans ?_; assumption)
               · (refine (hgrow.cell_far ⟨b, off + k * 3 + 2, none⟩ (by simp; omega) (Ne.symm HNE.out)).trans ?_; assumption)))
          ((refine step_append_lies _ (by rfl) _ _ _ (by rfl) w.heap.size 159 i0 _ 3 40 Tryz.underlying36 hi hz0 hz1 hz2' rfl (by decide) u3 k (rowCells TaLay (l.take k)) (by rfl) ((HOWN.out.alloc _).drew)
                ⟨wr.heap.size, 0, none⟩ 1 1 [.string x, .string y, .bool m] (by rfl) (by rfl) (World.news_of_block (cs := #[.string x, .string y, .bool m]) (t := 159) (fr := (0, 0)) (heap_alloc_new wr _)) (one_ssb x y m)
                (by decide) (by unfold maxLen; omega) (by omega) (by simp; omega) (wr.heap.size + 1) (by simp) ?_; intro gg cap1 w1 hown1 hgrow hat hlt1))
        all_goals
          go_wp2
          go_roundw
          case rel => exact ⟨k + 1, by omega, by go_num, by rw [take_snoc HX.out]; exact Own.snoc hown1 (by rw [HT.out]) HO.out.2 HFK.out, HBD.out.grown hgrow HBASE.out (fun j hj => (HOWN.out.lt j hj).1)⟩
          case measure => simp [intOf]; omega
      · have HK := Lib.hid (show l.take k = l by rw [List.take_of_length_le (by rw [HL.out]; omega)])
        clear ho hB
        go_wp2
        go_ret
        exact ⟨_, rfl, by have h := HO.out; rw [HK.out] at h; exact h, HB.out⟩
/-- A pod whose rows are no longer than memory is. -/
structure MemPd (n : Pd) : Prop where
  need : n.need.length * 24 ≤ 140737488351232
  labels : n.labels.length * 32 ≤ 140737488351232
  sel : n.sel.length * 40 ≤ 140737488351232
  tols : n.tols.length * 40 ≤ 140737488351232
namespace Vec
set_option maxRecDepth 100000 in
set_option maxHeartbeats 1600000 in
theorem of_ownM (a : Option Addr) (len cap : Nat) (l : V) (w : World) (hr : VecAt w a len l) (hlen : len * 24 ≤ 140737488351232) :
    Calls Tryz.prog 45 #[.slice a len cap] w (fun e w' => ∃ x, e = .returned x ∧ OwnV 156 w' w.heap.size x l ∧ Kept w w') := by
  have hl := hr.1
  obtain ⟨i0, hi, hz0, hz1, hz2⟩ := info_parts refInfo
  rcases hr.form with h0 | ⟨b, off, rfl⟩
  · subst h0
    have hl0 : l = [] := List.eq_nil_of_length_eq_zero hl
    subst hl0
    clear hr hl hi hz0 hz1 hz2
    go_enter Tryz.func45, Tryz.ntmps45
    go_wp2
    refine wp_loop_rounds 1 ?_
    rw [rounds_succ]
    go_wp2
    go_ret
    exact ⟨_, rfl, OwnV.nil _ _ _, Kept.refl _⟩
  · have HR := Lib.hid hr
    have HL := Lib.hid hl
    have HF := Lib.hid hr.2.2.1
    clear hr hl
    go_enter Tryz.func45, Tryz.ntmps45
    go_wp2
    go_loopw [3, 4] (fun v i wr => ∃ k : Nat, k ≤ len ∧ i = .int .i64 k ∧ OwnV 156 wr w.heap.size v (l.take k) ∧ Below w.heap.size w wr) (fun _ i _ => len - (intOf i).toNat)
    case atStart => exact ⟨0, Nat.zero_le _, rfl, OwnV.nil _ _ _, Below.refl _ _⟩
    case round =>
      obtain ⟨k, hk, rfl, ho, hB⟩ := hrel
      have HO := Lib.hid ho
      have HB := Lib.hid hB
      have HT := Lib.hid (show (l.take k).length = k by rw [List.length_take, HL.out]; omega)
      have HOWN := Lib.hid (show wr.ownsRow w.heap.size 156 2 u3 k (cellsOf (l.take k)) by have := HO.out.1; rw [HT.out] at this; exact this)
      by_cases hlt : k < len
      · obtain ⟨hb, c1, c2⟩ := (HR.out.kept hB).cells hlt
        have HI := Lib.hid (show k < l.length by rw [HL.out]; exact hlt)
        have hbw : b < w.heap.size := (HR.out.cells hlt).1
        have hbase : w.heap.size ≤ wr.heap.size := hB.size
        have HNE := Lib.hid (show u3.ownBlock ≠ some b by
          intro e
          have := (HOWN.out.lt b e).1
          omega)
        have HBASE := Lib.hid (show w.heap.size ≤ (wr.alloc (.cells #[.string (nm l k), .int .i64 (qn l k)] 156)).drew.heap.size by simp; omega)
        have HBD := Lib.hid (show Below w.heap.size w ((wr.alloc (.cells #[.string (nm l k), .int .i64 (qn l k)] 156)).drew) from HB.out.trans (Below.mono ((kept_alloc wr _).trans (Kept.drewN _ 1)) hbase))
        have hk1 : (k : Int) < (len : Int) := by omega
        have HFK := Lib.hid (HF.out k HI.out)
        clear ho hB
        go_wp2_with fail
        go_region_held3 (fun W => W.cell? ⟨b, off + k * 2, none⟩ = some (.string (nm l k)) ∧ W.cell? ⟨b, off + k * 2 + 1, none⟩ = some (.int .i64 (qn l k)))
          (first
            | go_keep
            | (go_split_ands
               refine ⟨?_, ?_⟩
               · (refine (hgrow.cell_far ⟨b, off + k * 2, none⟩ (by simp; omega) (Ne.symm HNE.out)).trans ?_; assumption)
               · (refine (hgrow.cell_far ⟨b, off + k * 2 + 1, none⟩ (by simp; omega) (Ne.symm HNE.out)).trans ?_; assumption)))
          ((refine step_append_lies _ (by rfl) _ _ _ (by rfl) w.heap.size 156 i0 _ 2 24 Tryz.underlying33 hi hz0 hz1 hz2 rfl (by decide) u3 k (cellsOf (l.take k)) (by rfl) ((HOWN.out.alloc _).drew)
                ⟨wr.heap.size, 0, none⟩ 1 1 [.string (nm l k), .int .i64 (qn l k)] (by rfl) (by rfl) (World.news_of_block (cs := #[.string (nm l k), .int .i64 (qn l k)]) (t := 156) (fr := (0, 0)) (heap_alloc_new wr _)) (cellsOf_one [(nm l k, qn l k)])
                (by decide) (by unfold maxLen; omega) (by omega) (by simp; omega) (wr.heap.size + 1) (by simp) ?_; intro gg cap1 w1 hown1 hgrow hat hlt1))
        all_goals
          go_wp2
          go_roundw
          case rel => exact ⟨k + 1, by omega, by go_num, ⟨by rw [take_next HI.out, cellsOf_append, List.length_append, HT.out]; exact hown1, by rw [take_next HI.out]; exact HO.out.2.snoc HFK.out.1 HFK.out.2.1 HFK.out.2.2⟩, HBD.out.grown hgrow HBASE.out (fun j hj => (HOWN.out.lt j hj).1)⟩
          case measure => simp [intOf]; omega
      · have HK := Lib.hid (show l.take k = l by rw [List.take_of_length_le (by rw [HL.out]; omega)])
        clear ho hB
        go_wp2
        go_ret
        exact ⟨_, rfl, by have h := HO.out; rw [HK.out] at h; exact h, HB.out⟩
end Vec
theorem ofPM {v : Value} {l : PL} {w : World} (h : Reads PairLay w v l) (hf : l.length * 32 ≤ 140737488351232) :
    Calls Tryz.prog 46 #[v] w (fun e w' => ∃ x, e = .returned x ∧ Own PairLay 157 w' w.heap.size x l ∧ Kept w w') := by
  obtain ⟨a, cap, rfl, h1, h2, h3⟩ := h
  exact of_ownM a _ cap l w h3 hf
theorem ofLM {v : Value} {l : TL} {w : World} (h : Reads TermLay w v l) (hf : l.length * 40 ≤ 140737488351232) :
    Calls Tryz.prog 47 #[v] w (fun e w' => ∃ x, e = .returned x ∧ Own TermLay 158 w' w.heap.size x l ∧ Kept w w') := by
  obtain ⟨a, cap, rfl, h1, h2, h3⟩ := h
  exact ofSel_ownM a _ cap l w h3 hf
theorem ofOM {v : Value} {l : NL} {w : World} (h : Reads TaLay w v l) (hf : l.length * 40 ≤ 140737488351232) :
    Calls Tryz.prog 48 #[v] w (fun e w' => ∃ x, e = .returned x ∧ Own TaLay 159 w' w.heap.size x l ∧ Kept w w') := by
  obtain ⟨a, cap, rfl, h1, h2, h3⟩ := h
  exact ofO_ownM a _ cap l w h3 hf
theorem ofVM {v : Value} {l : Vec.V} {w : World} (h : Vec.Reads w v l) (hf : l.length * 24 ≤ 140737488351232) :
    Calls Tryz.prog 45 #[v] w (fun e w' => ∃ x, e = .returned x ∧ Vec.OwnV 156 w' w.heap.size x l ∧ Kept w w') := by
  obtain ⟨a, cap, rfl, h1, h2, h3⟩ := h
  exact Vec.of_ownM a _ cap l w h3 hf

end Go.Proofs.YtflllkpnkcmegaaGreatDoor
