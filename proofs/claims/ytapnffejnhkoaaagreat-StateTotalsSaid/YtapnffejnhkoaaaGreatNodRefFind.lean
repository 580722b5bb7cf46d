/- The reference's FindNode. -/
import Derived.Test.YtapnffejnhkoaaaGreatNodOf
namespace Go.Proofs.YtapnffejnhkoaaaGreat
open Go.RowKit
set_option linter.unusedVariables false

set_option maxRecDepth 100000 in
set_option maxHeartbeats 4000000 in
theorem rfind_any (a : Option Addr) (len cap : Nat) (l : List Nod) (x : ByteArray) (w : World) (hr : NodesAt w a len l) :
    Calls Tryz.prog 54 #[.slice a len cap, .string x] w fun e w' => ∃ v, e = .returned (.tuple #[v, .bool (findN l x).isSome]) ∧ NodR w' v ((findN l x).getD Nod.zero) ∧ Kept w w' := by
  have hl := hr.1
  have hm := hr.2.1
  unfold maxLen at hm
  obtain ⟨Z, hZ⟩ : ∃ Z, w.alloc (.cells #[.string ⟨#[]⟩, .slice none 0 0, .slice none 0 0, .slice none 0 0, .bool false] 106) = Z := ⟨_, rfl⟩
  have hkz : Kept w Z := by rw [← hZ]; exact kept_alloc _ _
  have HQ := Lib.hid (show Cells5 w.heap.size (.string ⟨#[]⟩) (.slice none 0 0) (.slice none 0 0) (.slice none 0 0) (.bool false) Z from fresh5 w _ _ _ _ _ 106 Z (by rw [hZ]; exact Kept.refl _))
  have HH := Lib.hid (show Z.heap[w.heap.size]? = some (.cells #[.string ⟨#[]⟩, .slice none 0 0, .slice none 0 0, .slice none 0 0, .bool false] 106) by rw [← hZ]; exact w.alloc_heap_new _)
  have HKZ := Lib.hid hkz
  have HR := Lib.hid (hr.kept hkz)
  have HL := Lib.hid hl
  obtain ⟨⟨y0, y1, y2, y3, y4⟩, x0, x1, x2, x3, x4⟩ := HQ.out
  have P0 := Lib.hid (put_at ⟨y0, y1, y2, y3, y4⟩ ⟨#[]⟩ none none none 0 0 0 0 0 0 false)
  by_cases h0 : len = 0
  · subst h0
    have hl0 : l = [] := List.eq_nil_of_length_eq_zero hl
    have HF := Lib.hid (show findN l x = none by rw [hl0]; rfl)
    clear hr hl hkz
    go_enter Tryz.func54, Tryz.ntmps54
    go_wp2
    try rw [hZ]
    clear hZ
    refine wp_loop_rounds 1 ?_
    rw [rounds_succ]
    go_wp2
    obtain ⟨WE, hWE⟩ : ∃ W, (((((Z.setCell ⟨w.heap.size, 0, none⟩ (.string ⟨#[]⟩)).setCell ⟨w.heap.size, 1, none⟩ (.slice none 0 0)).setCell ⟨w.heap.size, 2, none⟩ (.slice none 0 0)).setCell ⟨w.heap.size, 3, none⟩ (.slice none 0 0)).setCell ⟨w.heap.size, 4, none⟩ (.bool false)) = W := ⟨_, rfl⟩
    rw [hWE] at P0 ⊢
    clear hWE y0 y1 y2 y3 y4 x0 x1 x2 x3 x4
    obtain ⟨⟨e0, e1, e2, e3, e4⟩, hsz, hbl, hkp⟩ := P0.out
    refine bodyPost_ret (by simp [results, Tryz.results54, go_sem, e0, e1, e2, e3, e4]; try rfl) rfl ?_
    rw [HF.out]
    exact ⟨_, rfl, (zero_reads 0 _).toR, hkp _ _ (Nat.le_refl _) HKZ.out⟩
  · obtain ⟨b, off, rfl⟩ := hr.form.resolve_left h0
    clear hr hl hkz h0
    go_enter Tryz.func54, Tryz.ntmps54
    go_wp2
    try rw [hZ]
    clear hZ
    go_loop [6] (fun i => ∃ k : Nat, k ≤ len ∧ i = .int .i64 k ∧ findN (l.drop k) x = findN l x) (fun i => len - (intOf i).toNat)
    case atStart => exact ⟨0, Nat.zero_le _, rfl, rfl⟩
    case round =>
      obtain ⟨k, hk, rfl, hrest⟩ := hrel
      have HS := Lib.hid hrest
      by_cases hlt : k < len
      · obtain ⟨n, a1, m1, c1, a2, m2, c2, a3, m3, c3, hn, hd, hb, p0, p1, p2, p3, p4, hat⟩ := HR.out.at_ hlt
        have HAT := Lib.hid hat
        have HD := Lib.hid hd
        clear hrest hat hd hn
        by_cases he : eqS n.name x = true
        · have he' : (n.name.toList == x.toList) = true := he
          have HF := Lib.hid (show findN l x = some n by rw [← HS.out, HD.out]; unfold findN; rw [List.find?_cons, he])
          have P := Lib.hid (put_at ⟨y0, y1, y2, y3, y4⟩ n.name a1 a2 a3 m1 c1 m2 c2 m3 c3 n.cordon)
          obtain ⟨⟨z, l1, l2, l3, cd⟩, hnn⟩ : ∃ m, m = n := ⟨n, rfl⟩
          subst hnn
          dsimp only at P he' p0 p4
          clear he
          go_wp2
          obtain ⟨WE, hWE⟩ : ∃ W, (((((Z.setCell ⟨w.heap.size, 0, none⟩ (.string z)).setCell ⟨w.heap.size, 1, none⟩ (.slice a1 m1 c1)).setCell ⟨w.heap.size, 2, none⟩ (.slice a2 m2 c2)).setCell ⟨w.heap.size, 3, none⟩ (.slice a3 m3 c3)).setCell ⟨w.heap.size, 4, none⟩ (.bool cd)) = W := ⟨_, rfl⟩
          rw [hWE] at P ⊢
          clear hWE y0 y1 y2 y3 y4 x0 x1 x2 x3 x4
          obtain ⟨⟨e0, e1, e2, e3, e4⟩, hsz, hbl, hkp⟩ := P.out
          refine bodyPost_ret (by simp [results, Tryz.results54, go_sem, e0, e1, e2, e3, e4]; try rfl) rfl ?_
          rw [HF.out]
          exact ⟨_, rfl, ⟨_, _, _, rfl, node_past HAT.out hsz hbl (no_row HH.out)⟩, hkp _ _ (Nat.le_refl _) HKZ.out⟩
        · have he : eqS n.name x = false := by simpa using he
          have he' : (n.name.toList == x.toList) = false := he
          have HE := Lib.hid (show findN (l.drop k) x = findN (l.drop (k + 1)) x by rw [HD.out]; unfold findN; rw [List.find?_cons, he])
          clear he
          go_wp2
          go_round
          case rel => exact ⟨k + 1, by omega, by go_num, HE.out.symm.trans HS.out⟩
          case measure => simp [intOf]; omega
      · have HF := Lib.hid (show findN l x = none by rw [← hrest, List.drop_of_length_le (by rw [HL.out]; omega)]; rfl)
        clear hrest
        go_wp2
        obtain ⟨WE, hWE⟩ : ∃ W, (((((Z.setCell ⟨w.heap.size, 0, none⟩ (.string ⟨#[]⟩)).setCell ⟨w.heap.size, 1, none⟩ (.slice none 0 0)).setCell ⟨w.heap.size, 2, none⟩ (.slice none 0 0)).setCell ⟨w.heap.size, 3, none⟩ (.slice none 0 0)).setCell ⟨w.heap.size, 4, none⟩ (.bool false)) = W := ⟨_, rfl⟩
        rw [hWE] at P0 ⊢
        clear hWE y0 y1 y2 y3 y4 x0 x1 x2 x3 x4
        obtain ⟨⟨e0, e1, e2, e3, e4⟩, hsz, hbl, hkp⟩ := P0.out
        refine bodyPost_ret (by simp [results, Tryz.results54, go_sem, e0, e1, e2, e3, e4]; try rfl) rfl ?_
        rw [HF.out]
        exact ⟨_, rfl, (zero_reads 0 _).toR, hkp _ _ (Nat.le_refl _) HKZ.out⟩

theorem rfindR {v : Value} {l : List Nod} {x : ByteArray} {w : World} (h : NodesR w v l) :
    Calls Tryz.prog 54 #[v, .string x] w fun e w' => ∃ v, e = .returned (.tuple #[v, .bool (findN l x).isSome]) ∧ NodR w' v ((findN l x).getD Nod.zero) ∧ Kept w w' := by
  obtain ⟨a, cap, rfl, _, _, hr⟩ := h
  exact rfind_any a _ cap l x w hr

end Go.Proofs.YtapnffejnhkoaaaGreat
