/- The reference's FindPod. -/
import Derived.Test.YtflllkpnkcmegaaGreatDoorPodOf
import Derived.Test.YtflllkpnkcmegaaGreatDoorPodFind
namespace Go.Proofs.YtflllkpnkcmegaaGreatDoor
open Go.RowKit
set_option linter.unusedVariables false

set_option maxRecDepth 100000 in
set_option maxHeartbeats 8000000 in
theorem rfindP_any (a : Option Addr) (len cap : Nat) (l : List Pd) (x : ByteArray) (w : World) (hr : PodsAt w a len l) :
    Calls Tryz.prog 26 #[.slice a len cap, .string x] w fun e w' => ∃ v, e = .returned (.tuple #[v, .bool (findP l x).isSome]) ∧ PodR w' v ((findP l x).getD Pd.zero) ∧ Kept w w' := by
  have hl := hr.1
  have hm := hr.2.1
  unfold maxLen at hm
  obtain ⟨Z, hZ⟩ : ∃ Z, w.alloc (.cells #[.string ⟨#[]⟩, .string ⟨#[]⟩, .int .i64 0, .slice none 0 0, .slice none 0 0, .slice none 0 0, .slice none 0 0, .string ⟨#[]⟩, .int .i64 0, .string ⟨#[]⟩, .bool false] 38) = Z := ⟨_, rfl⟩
  have hkz : Kept w Z := by rw [← hZ]; exact kept_alloc _ _
  have HQ := Lib.hid (show CellsN w.heap.size [.string ⟨#[]⟩, .string ⟨#[]⟩, .int .i64 0, .slice none 0 0, .slice none 0 0, .slice none 0 0, .slice none 0 0, .string ⟨#[]⟩, .int .i64 0, .string ⟨#[]⟩, .bool false] Z from freshN w (.string ⟨#[]⟩) [.string ⟨#[]⟩, .int .i64 0, .slice none 0 0, .slice none 0 0, .slice none 0 0, .slice none 0 0, .string ⟨#[]⟩, .int .i64 0, .string ⟨#[]⟩, .bool false] 38 Z (by rw [hZ]; exact Kept.refl _))
  have HKZ := Lib.hid hkz
  have HR0 := Lib.hid hr
  have HR := Lib.hid (hr.kept hkz)
  have HL := Lib.hid hl
  have HSZ := Lib.hid (show Z.heap.size = w.heap.size + 1 by rw [← hZ]; simp)
  have x0 := HQ.out.at_ 0 _ rfl
  have f0 := HQ.out.free 0
  have x1 := HQ.out.at_ 1 _ rfl
  have f1 := HQ.out.free 1
  have x2 := HQ.out.at_ 2 _ rfl
  have f2 := HQ.out.free 2
  have x3 := HQ.out.at_ 3 _ rfl
  have f3 := HQ.out.free 3
  have x4 := HQ.out.at_ 4 _ rfl
  have f4 := HQ.out.free 4
  have x5 := HQ.out.at_ 5 _ rfl
  have f5 := HQ.out.free 5
  have x6 := HQ.out.at_ 6 _ rfl
  have f6 := HQ.out.free 6
  have x7 := HQ.out.at_ 7 _ rfl
  have f7 := HQ.out.free 7
  have x8 := HQ.out.at_ 8 _ rfl
  have f8 := HQ.out.free 8
  have x9 := HQ.out.at_ 9 _ rfl
  have f9 := HQ.out.free 9
  have x10 := HQ.out.at_ 10 _ rfl
  have f10 := HQ.out.free 10
  have P0 := Lib.hid (putN (vs := [.string ⟨#[]⟩, .string ⟨#[]⟩, .int .i64 0, .slice none 0 0, .slice none 0 0, .slice none 0 0, .slice none 0 0, .string ⟨#[]⟩, .int .i64 0, .string ⟨#[]⟩, .bool false]) HQ.out rfl)
  by_cases h0 : len = 0
  · subst h0
    have hl0 : l = [] := List.eq_nil_of_length_eq_zero hl
    have HF := Lib.hid (show findP l x = none by rw [hl0]; rfl)
    clear hr hl hkz
    go_enter Tryz.func26, Tryz.ntmps26
    go_wp2
    try rw [hZ]
    clear hZ
    refine wp_loop_rounds 1 ?_
    rw [rounds_succ]
    go_wp2
    obtain ⟨WE, hWE⟩ : ∃ W, Z.setCells w.heap.size 0 [.string ⟨#[]⟩, .string ⟨#[]⟩, .int .i64 0, .slice none 0 0, .slice none 0 0, .slice none 0 0, .slice none 0 0, .string ⟨#[]⟩, .int .i64 0, .string ⟨#[]⟩, .bool false] = W := ⟨_, rfl⟩
    have hWE2 : (((((((((((Z.setCell ⟨w.heap.size, 0, none⟩ (.string ⟨#[]⟩)).setCell ⟨w.heap.size, 1, none⟩ (.string ⟨#[]⟩)).setCell ⟨w.heap.size, 2, none⟩ (.int .i64 0)).setCell ⟨w.heap.size, 3, none⟩ (.slice none 0 0)).setCell ⟨w.heap.size, 4, none⟩ (.slice none 0 0)).setCell ⟨w.heap.size, 5, none⟩ (.slice none 0 0)).setCell ⟨w.heap.size, 6, none⟩ (.slice none 0 0)).setCell ⟨w.heap.size, 7, none⟩ (.string ⟨#[]⟩)).setCell ⟨w.heap.size, 8, none⟩ (.int .i64 0)).setCell ⟨w.heap.size, 9, none⟩ (.string ⟨#[]⟩)).setCell ⟨w.heap.size, 10, none⟩ (.bool false)) = WE := hWE
    have P9 := Lib.hid P0.out
    rw [hWE] at P9
    rw [hWE2]
    clear hWE hWE2 x0 f0 x1 f1 x2 f2 x3 f3 x4 f4 x5 f5 x6 f6 x7 f7 x8 f8 x9 f9 x10 f10
    obtain ⟨PC, hsz, hbl, hkp⟩ := P9.out
    refine bodyPost_ret (by simp [results, Tryz.results26, go_sem, PC.at_ 0 _ rfl, PC.at_ 1 _ rfl, PC.at_ 2 _ rfl, PC.at_ 3 _ rfl, PC.at_ 4 _ rfl, PC.at_ 5 _ rfl, PC.at_ 6 _ rfl, PC.at_ 7 _ rfl, PC.at_ 8 _ rfl, PC.at_ 9 _ rfl, PC.at_ 10 _ rfl]; try rfl) rfl ?_
    rw [HF.out]
    exact ⟨_, rfl, (zero_readsP 0 _).toR, hkp _ _ (Nat.le_refl _) HKZ.out⟩
  · obtain ⟨b, off, rfl⟩ := hr.form.resolve_left h0
    clear hr hl hkz h0
    go_enter Tryz.func26, Tryz.ntmps26
    go_wp2
    try rw [hZ]
    clear hZ
    go_loop [6] (fun i => ∃ k : Nat, k ≤ len ∧ i = .int .i64 k ∧ findP (l.drop k) x = findP l x) (fun i => len - (intOf i).toNat)
    case atStart => exact ⟨0, Nat.zero_le _, rfl, rfl⟩
    case round =>
      obtain ⟨k, hk, rfl, hrest⟩ := hrel
      have HS := Lib.hid hrest
      by_cases hlt : k < len
      · obtain ⟨n, a1, m1, c1, a2, m2, c2, a3, m3, c3, a4, m4, c4, hn, hd, hb, p0, p1, p2, p3, p4, p5, p6, p7, p8, p9, p10, hat⟩ := HR0.out.at_ hlt
        have p0 := cell_later HKZ.out p0
        have p1 := cell_later HKZ.out p1
        have p2 := cell_later HKZ.out p2
        have p3 := cell_later HKZ.out p3
        have p4 := cell_later HKZ.out p4
        have p5 := cell_later HKZ.out p5
        have p6 := cell_later HKZ.out p6
        have p7 := cell_later HKZ.out p7
        have p8 := cell_later HKZ.out p8
        have p9 := cell_later HKZ.out p9
        have p10 := cell_later HKZ.out p10
        have HAT := Lib.hid hat
        have HD := Lib.hid hd
        clear hrest hat hd hn
        by_cases he : eqS n.name x = true
        · have he' : (n.name.toList == x.toList) = true := he
          have HF := Lib.hid (show findP l x = some n by rw [← HS.out, HD.out]; unfold findP; rw [List.find?_cons, he])
          obtain ⟨⟨z0, z1, z2, l1, l2, l3, l4, z3, z4, z5, z6⟩, hnn⟩ : ∃ m, m = n := ⟨n, rfl⟩
          subst hnn
          dsimp only at he' p0 p1 p2 p7 p8 p9 p10
          have P := Lib.hid (putN (vs := [.string z0, .string z1, .int .i64 z2, .slice a1 m1 c1, .slice a2 m2 c2, .slice a3 m3 c3, .slice a4 m4 c4, .string z3, .int .i64 z4, .string z5, .bool z6]) HQ.out rfl)
          clear he
          go_wp2
          obtain ⟨WE, hWE⟩ : ∃ W, Z.setCells w.heap.size 0 [.string z0, .string z1, .int .i64 z2, .slice a1 m1 c1, .slice a2 m2 c2, .slice a3 m3 c3, .slice a4 m4 c4, .string z3, .int .i64 z4, .string z5, .bool z6] = W := ⟨_, rfl⟩
          have hWE2 : (((((((((((Z.setCell ⟨w.heap.size, 0, none⟩ (.string z0)).setCell ⟨w.heap.size, 1, none⟩ (.string z1)).setCell ⟨w.heap.size, 2, none⟩ (.int .i64 z2)).setCell ⟨w.heap.size, 3, none⟩ (.slice a1 m1 c1)).setCell ⟨w.heap.size, 4, none⟩ (.slice a2 m2 c2)).setCell ⟨w.heap.size, 5, none⟩ (.slice a3 m3 c3)).setCell ⟨w.heap.size, 6, none⟩ (.slice a4 m4 c4)).setCell ⟨w.heap.size, 7, none⟩ (.string z3)).setCell ⟨w.heap.size, 8, none⟩ (.int .i64 z4)).setCell ⟨w.heap.size, 9, none⟩ (.string z5)).setCell ⟨w.heap.size, 10, none⟩ (.bool z6)) = WE := hWE
          have P9 := Lib.hid P.out
          rw [hWE] at P9
          rw [hWE2]
          clear hWE hWE2 x0 f0 x1 f1 x2 f2 x3 f3 x4 f4 x5 f5 x6 f6 x7 f7 x8 f8 x9 f9 x10 f10
          obtain ⟨PC, hsz, hbl, hkp⟩ := P9.out
          refine bodyPost_ret (by simp [results, Tryz.results26, go_sem, PC.at_ 0 _ rfl, PC.at_ 1 _ rfl, PC.at_ 2 _ rfl, PC.at_ 3 _ rfl, PC.at_ 4 _ rfl, PC.at_ 5 _ rfl, PC.at_ 6 _ rfl, PC.at_ 7 _ rfl, PC.at_ 8 _ rfl, PC.at_ 9 _ rfl, PC.at_ 10 _ rfl]; try rfl) rfl ?_
          rw [HF.out]
          exact ⟨_, rfl, ⟨_, _, _, _, rfl, HAT.out.kept (hkp _ _ (Nat.le_refl _) HKZ.out)⟩, hkp _ _ (Nat.le_refl _) HKZ.out⟩
        · have he : eqS n.name x = false := by simpa using he
          have he' : (n.name.toList == x.toList) = false := he
          have HE := Lib.hid (show findP (l.drop k) x = findP (l.drop (k + 1)) x by rw [HD.out]; unfold findP; rw [List.find?_cons, he])
          clear he
          go_wp2
          go_round
          case rel => exact ⟨k + 1, by omega, by go_num, HE.out.symm.trans HS.out⟩
          case measure => simp [intOf]; omega
      · have HF := Lib.hid (show findP l x = none by rw [← hrest, List.drop_of_length_le (by rw [HL.out]; omega)]; rfl)
        clear hrest
        go_wp2
        obtain ⟨WE, hWE⟩ : ∃ W, Z.setCells w.heap.size 0 [.string ⟨#[]⟩, .string ⟨#[]⟩, .int .i64 0, .slice none 0 0, .slice none 0 0, .slice none 0 0, .slice none 0 0, .string ⟨#[]⟩, .int .i64 0, .string ⟨#[]⟩, .bool false] = W := ⟨_, rfl⟩
        have hWE2 : (((((((((((Z.setCell ⟨w.heap.size, 0, none⟩ (.string ⟨#[]⟩)).setCell ⟨w.heap.size, 1, none⟩ (.string ⟨#[]⟩)).setCell ⟨w.heap.size, 2, none⟩ (.int .i64 0)).setCell ⟨w.heap.size, 3, none⟩ (.slice none 0 0)).setCell ⟨w.heap.size, 4, none⟩ (.slice none 0 0)).setCell ⟨w.heap.size, 5, none⟩ (.slice none 0 0)).setCell ⟨w.heap.size, 6, none⟩ (.slice none 0 0)).setCell ⟨w.heap.size, 7, none⟩ (.string ⟨#[]⟩)).setCell ⟨w.heap.size, 8, none⟩ (.int .i64 0)).setCell ⟨w.heap.size, 9, none⟩ (.string ⟨#[]⟩)).setCell ⟨w.heap.size, 10, none⟩ (.bool false)) = WE := hWE
        have P9 := Lib.hid P0.out
        rw [hWE] at P9
        rw [hWE2]
        clear hWE hWE2 x0 f0 x1 f1 x2 f2 x3 f3 x4 f4 x5 f5 x6 f6 x7 f7 x8 f8 x9 f9 x10 f10
        obtain ⟨PC, hsz, hbl, hkp⟩ := P9.out
        refine bodyPost_ret (by simp [results, Tryz.results26, go_sem, PC.at_ 0 _ rfl, PC.at_ 1 _ rfl, PC.at_ 2 _ rfl, PC.at_ 3 _ rfl, PC.at_ 4 _ rfl, PC.at_ 5 _ rfl, PC.at_ 6 _ rfl, PC.at_ 7 _ rfl, PC.at_ 8 _ rfl, PC.at_ 9 _ rfl, PC.at_ 10 _ rfl]; try rfl) rfl ?_
        rw [HF.out]
        exact ⟨_, rfl, (zero_readsP 0 _).toR, hkp _ _ (Nat.le_refl _) HKZ.out⟩

end Go.Proofs.YtflllkpnkcmegaaGreatDoor
