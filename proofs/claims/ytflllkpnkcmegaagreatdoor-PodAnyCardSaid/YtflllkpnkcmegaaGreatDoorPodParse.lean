/- A pod's text read: the closure, the recovery, the face. -/
import Derived.Test.YtflllkpnkcmegaaGreatDoorPodParsed
import Derived.Recover
import Derived.Defers
import Derived.Laws.Pointers
namespace Go.Proofs.YtflllkpnkcmegaaGreatDoor
open Go.RowKit
set_option linter.unusedVariables false

theorem caughtPd_panicking (B : Nat) (q : Nat) (x y : Int) (w : World) (hq : w.cell? ⟨q, 0, none⟩ = some (.int .i64 y)) (hzq : w.frozen? ⟨q, 0, none⟩ = false) (hBq : B ≤ q) :
    CallsD Tryz.prog 114 #[.pointer (some ⟨q, 0, none⟩)] (.panicking [perr x]) w fun e u' w' =>
      e = .returned (.tuple #[]) ∧ u' = .panicking [{ perr x with recovered := true }] ∧ w' = w.setCell ⟨q, 0, none⟩ (.int .i64 x) ∧ w'.cell? ⟨q, 0, none⟩ = some (.int .i64 x) ∧ Below B w w' := by
  have hta : ∀ W, (Instr.typeAssert (.iface 41 (.int .i64 x)) 20 41 false).run Tryz.prog W = .ok (.int .i64 x) W := fun _ => by kernel_rfl
  refine callsD_of_wpS Tryz.func114 rfl fun c₀ cs hu => ?_
  apply wpS_seq
  apply wpS_region
  simp [wpOpsS, go_sem, recoverD, hu, Tryz.ntmps114, Exit.thenS]
  apply wpS_seq
  apply wpS_region
  simp [wpOpsS, go_sem, recoverD, Exit.thenS]
  refine wpS_cond (t := true) (by simp [Act.eval, Array.replicate]) ?_
  simp only [if_true]
  refine wpS_of_wp ?_
  simp [Array.replicate]
  go_wp2
  simp [bodyPostS, results, Tryz.results114]
  exact ⟨World.cell?_setCell_same' _ _ _ (by rw [hq]; rfl), (Below.refl B w).setCell (p := ⟨q, 0, none⟩) hBq _⟩

theorem caughtPd_idle (q : Addr) (w : World) :
    CallsD Tryz.prog 114 #[.pointer (some q)] .returning w fun e u' w' => e = .returned (.tuple #[]) ∧ u' = .returning ∧ w' = w := by
  refine callsD_of_wpS Tryz.func114 rfl fun c₀ cs hu => ?_
  apply wpS_seq
  apply wpS_region
  simp [wpOpsS, go_sem, recoverD, hu, Tryz.ntmps114, Exit.thenS]
  apply wpS_seq
  apply wpS_region
  simp [wpOpsS, go_sem, recoverD, hu, Exit.thenS]
  refine wpS_cond (t := false) (by simp [Act.eval, Array.replicate]) ?_
  simp only [Bool.false_eq_true, if_false]
  refine wpS_of_wp (wp_skip ?_)
  cases c₀
  simp_all [bodyPostS, results, Tryz.results114]

/-- What a call answers that recovers: a pod and an error. -/
def DonePd (c : Int) (n : Pd) (w : World) (e : Ending) (w' : World) : Prop := ∃ v, e = .returned (.tuple #[v, .int .i64 c]) ∧ PodRB w.heap.size w' v (if c = 0 then n else Pd.zero) ∧ Kept w w'

set_option maxRecDepth 100000 in
set_option maxHeartbeats 3200000 in
theorem closurePd (C : Addr) (s : List UInt8) (n : Pd) (c : Int) (w : World) (h1 : w.cell? C = some (.string (bytes s))) (hP : ∀ W, Kept w W → Calls Tryz.prog 76 #[.string (bytes s)] W (PodRes c n W)) :
    Calls Tryz.prog 75 #[.pointer (some C)] w (PodRes c n w) := by
  obtain ⟨Z, hZ⟩ : ∃ Z, w.alloc (.cells #[.string ⟨#[]⟩, .string ⟨#[]⟩, .int .i64 0, .slice none 0 0, .slice none 0 0, .slice none 0 0, .slice none 0 0, .string ⟨#[]⟩, .int .i64 0, .string ⟨#[]⟩, .bool false] 30) = Z := ⟨_, rfl⟩
  have hk : Kept w Z := by rw [← hZ]; exact kept_alloc _ _
  have hzs : Z.heap.size = w.heap.size + 1 := by rw [← hZ]; simp
  have hcc := cell_later hk h1
  have HP := Lib.hid (hP Z hk)
  have HK := Lib.hid hk
  have HQ := Lib.hid (show CellsN w.heap.size [.string ⟨#[]⟩, .string ⟨#[]⟩, .int .i64 0, .slice none 0 0, .slice none 0 0, .slice none 0 0, .slice none 0 0, .string ⟨#[]⟩, .int .i64 0, .string ⟨#[]⟩, .bool false] Z from freshN w (.string ⟨#[]⟩) [.string ⟨#[]⟩, .int .i64 0, .slice none 0 0, .slice none 0 0, .slice none 0 0, .slice none 0 0, .string ⟨#[]⟩, .int .i64 0, .string ⟨#[]⟩, .bool false] 30 Z (by rw [hZ]; exact Kept.refl _))
  have HZS := Lib.hid hzs
  clear h1 hk hP hzs
  go_enter Tryz.func75, Tryz.ntmps75
  go_wp2_with fail
  try rw [hZ]
  refine HP.out.mono ?_
  rintro e w2 ⟨g0, g1, k⟩
  have KK := Lib.hid k
  have HQ2 := Lib.hid (HQ.out.kept k)
  by_cases hx : c = 0
  · obtain ⟨v, rfl, hn⟩ := g0 hx
    have HX := Lib.hid hx
    have HN := Lib.hid hn
    obtain ⟨b1, n1, d1, b2, n2, d2, b3, n3, d3, b4, n4, d4, rfl, -⟩ := hn
    clear g0 g1 k hx hZ
    obtain ⟨z0, hz0⟩ : ∃ z, n.name = z := ⟨_, rfl⟩
    obtain ⟨z1, hz1⟩ : ∃ z, n.owner = z := ⟨_, rfl⟩
    obtain ⟨z2, hz2⟩ : ∃ z, n.prio = z := ⟨_, rfl⟩
    obtain ⟨z3, hz3⟩ : ∃ z, n.key = z := ⟨_, rfl⟩
    obtain ⟨z4, hz4⟩ : ∃ z, n.most = z := ⟨_, rfl⟩
    obtain ⟨z5, hz5⟩ : ∃ z, n.node = z := ⟨_, rfl⟩
    obtain ⟨z6, hz6⟩ : ∃ z, n.hold = z := ⟨_, rfl⟩
    unfold PodV at HN ⊢
    rw [hz0, hz1, hz2, hz3, hz4, hz5, hz6] at HN
    rw [hz0, hz1, hz2, hz3, hz4, hz5, hz6]
    have P := Lib.hid (putN (vs := [.string z0, .string z1, .int .i64 z2, .slice b1 n1 d1, .slice b2 n2 d2, .slice b3 n3 d3, .slice b4 n4 d4, .string z3, .int .i64 z4, .string z5, .bool z6]) HQ2.out rfl)
    have y0 := HQ2.out.at_ 0 _ rfl
    have y1 := HQ2.out.at_ 1 _ rfl
    have y2 := HQ2.out.at_ 2 _ rfl
    have y3 := HQ2.out.at_ 3 _ rfl
    have y4 := HQ2.out.at_ 4 _ rfl
    have y5 := HQ2.out.at_ 5 _ rfl
    have y6 := HQ2.out.at_ 6 _ rfl
    have y7 := HQ2.out.at_ 7 _ rfl
    have y8 := HQ2.out.at_ 8 _ rfl
    have y9 := HQ2.out.at_ 9 _ rfl
    have y10 := HQ2.out.at_ 10 _ rfl
    have x0 := HQ2.out.free 0
    have x1 := HQ2.out.free 1
    have x2 := HQ2.out.free 2
    have x3 := HQ2.out.free 3
    have x4 := HQ2.out.free 4
    have x5 := HQ2.out.free 5
    have x6 := HQ2.out.free 6
    have x7 := HQ2.out.free 7
    have x8 := HQ2.out.free 8
    have x9 := HQ2.out.free 9
    have x10 := HQ2.out.free 10
    clear hz0 hz1 hz2 hz3 hz4 hz5 hz6
    go_wp2
    obtain ⟨WE, hWE⟩ : ∃ W, w2.setCells w.heap.size 0 [.string z0, .string z1, .int .i64 z2, .slice b1 n1 d1, .slice b2 n2 d2, .slice b3 n3 d3, .slice b4 n4 d4, .string z3, .int .i64 z4, .string z5, .bool z6] = W := ⟨_, rfl⟩
    have hWE2 : (((((((((((w2.setCell ⟨w.heap.size, 0, none⟩ (.string z0)).setCell ⟨w.heap.size, 1, none⟩ (.string z1)).setCell ⟨w.heap.size, 2, none⟩ (.int .i64 z2)).setCell ⟨w.heap.size, 3, none⟩ (.slice b1 n1 d1)).setCell ⟨w.heap.size, 4, none⟩ (.slice b2 n2 d2)).setCell ⟨w.heap.size, 5, none⟩ (.slice b3 n3 d3)).setCell ⟨w.heap.size, 6, none⟩ (.slice b4 n4 d4)).setCell ⟨w.heap.size, 7, none⟩ (.string z3)).setCell ⟨w.heap.size, 8, none⟩ (.int .i64 z4)).setCell ⟨w.heap.size, 9, none⟩ (.string z5)).setCell ⟨w.heap.size, 10, none⟩ (.bool z6)) = WE := hWE
    rw [hWE] at P
    rw [hWE2]
    clear hWE hWE2 y0 x0 y1 x1 y2 x2 y3 x3 y4 x4 y5 x5 y6 x6 y7 x7 y8 x8 y9 x9 y10 x10
    obtain ⟨PC, hsz, hbl, hkp⟩ := P.out
    refine bodyPost_ret (by simp [results, Tryz.results75, go_sem, PC.at_ 0 _ rfl, PC.at_ 1 _ rfl, PC.at_ 2 _ rfl, PC.at_ 3 _ rfl, PC.at_ 4 _ rfl, PC.at_ 5 _ rfl, PC.at_ 6 _ rfl, PC.at_ 7 _ rfl, PC.at_ 8 _ rfl, PC.at_ 9 _ rfl, PC.at_ 10 _ rfl]; try rfl) rfl ?_
    exact ⟨fun _ => ⟨_, rfl, (HN.out.far hsz (fun b hb => hbl b (by have := HZS.out; omega))).less (by have := HZS.out; omega)⟩, fun h => absurd HX.out h, hkp _ _ (Nat.le_refl _) (HK.out.trans KK.out)⟩
  · obtain rfl := g1 hx
    have HX := Lib.hid hx
    clear g0 g1 k hx hZ
    go_wp2
    exact ⟨rfl, PodRes.bad HX.out (HK.out.trans KK.out)⟩
set_option maxRecDepth 100000 in
set_option maxHeartbeats 3200000 in
theorem caughtPd_any (C : Addr) (n : Pd) (c : Int) (w : World)
    (hk : ∀ W, Kept w W → Calls Tryz.prog 75 #[.pointer (some C)] W (PodRes c n W)) :
    Calls Tryz.prog 74 #[.func (.func 75) #[] #[.pointer (some C)]] w (DonePd c n w) := by
  have hmf : ∀ (fn : Fn) (first cap : Array Value) (w : World), (Instr.makeFunc fn first cap).run Tryz.prog w = .ok (.func fn first cap) w := fun _ _ _ _ => rfl
  obtain ⟨Z, hZ⟩ : ∃ Z, (w.alloc (.cells #[.string ⟨#[]⟩, .string ⟨#[]⟩, .int .i64 0, .slice none 0 0, .slice none 0 0, .slice none 0 0, .slice none 0 0, .string ⟨#[]⟩, .int .i64 0, .string ⟨#[]⟩, .bool false] 30)).alloc (.cells #[.int .i64 0] 41) = Z := ⟨_, rfl⟩
  have hkz : Kept w Z := by rw [← hZ]; exact kept_two _ _ _
  have hzs : Z.heap.size = w.heap.size + 2 := by rw [← hZ]; simp
  have HK := Lib.hid hkz
  have HQ := Lib.hid (show CellsN w.heap.size [.string ⟨#[]⟩, .string ⟨#[]⟩, .int .i64 0, .slice none 0 0, .slice none 0 0, .slice none 0 0, .slice none 0 0, .string ⟨#[]⟩, .int .i64 0, .string ⟨#[]⟩, .bool false] Z from freshN w (.string ⟨#[]⟩) [.string ⟨#[]⟩, .int .i64 0, .slice none 0 0, .slice none 0 0, .slice none 0 0, .slice none 0 0, .string ⟨#[]⟩, .int .i64 0, .string ⟨#[]⟩, .bool false] 30 Z (by rw [← hZ]; exact kept_alloc _ _))
  have HZE := Lib.hid (show CellsN (w.heap.size + 1) [.int .i64 0] Z by
    have := freshN (w.alloc (.cells #[.string ⟨#[]⟩, .string ⟨#[]⟩, .int .i64 0, .slice none 0 0, .slice none 0 0, .slice none 0 0, .slice none 0 0, .string ⟨#[]⟩, .int .i64 0, .string ⟨#[]⟩, .bool false] 30)) (.int .i64 0) [] 41 Z (by rw [hZ]; exact Kept.refl _)
    rw [World.size_alloc] at this
    exact this)
  have HZS := Lib.hid hzs
  have HKC := Lib.hid (hk Z hkz)
  clear hk hkz hzs
  go_enter_defers Tryz.func74, Tryz.ntmps74
  go_wp2_with fail
  try rw [hZ]
  refine HKC.out.mono ?_
  rintro e1 w1 ⟨h0, h1, hb⟩
  have KK := Lib.hid hb
  have HQ1 := Lib.hid (HQ.out.kept hb)
  have HE1 := Lib.hid (HZE.out.kept hb)
  have hws : w.heap.size + 1 < w1.heap.size := by have := hb.size; have := HZS.out; omega
  have ze := HE1.out.at_ 0 _ rfl
  have zf := HE1.out.free 0
  by_cases hx : c = 0
  · subst hx
    obtain ⟨v, rfl, hn⟩ := h0 rfl
    have HN := Lib.hid hn
    obtain ⟨b1, n1, d1, b2, n2, d2, b3, n3, d3, b4, n4, d4, rfl, -⟩ := hn
    clear h0 h1 hb hZ
    obtain ⟨z0, hz0⟩ : ∃ z, n.name = z := ⟨_, rfl⟩
    obtain ⟨z1, hz1⟩ : ∃ z, n.owner = z := ⟨_, rfl⟩
    obtain ⟨z2, hz2⟩ : ∃ z, n.prio = z := ⟨_, rfl⟩
    obtain ⟨z3, hz3⟩ : ∃ z, n.key = z := ⟨_, rfl⟩
    obtain ⟨z4, hz4⟩ : ∃ z, n.most = z := ⟨_, rfl⟩
    obtain ⟨z5, hz5⟩ : ∃ z, n.node = z := ⟨_, rfl⟩
    obtain ⟨z6, hz6⟩ : ∃ z, n.hold = z := ⟨_, rfl⟩
    unfold PodV at HN ⊢
    rw [hz0, hz1, hz2, hz3, hz4, hz5, hz6] at HN
    rw [hz0, hz1, hz2, hz3, hz4, hz5, hz6]
    have P := Lib.hid (putN (vs := [.string z0, .string z1, .int .i64 z2, .slice b1 n1 d1, .slice b2 n2 d2, .slice b3 n3 d3, .slice b4 n4 d4, .string z3, .int .i64 z4, .string z5, .bool z6]) HQ1.out rfl)
    have y0 := HQ1.out.at_ 0 _ rfl
    have y1 := HQ1.out.at_ 1 _ rfl
    have y2 := HQ1.out.at_ 2 _ rfl
    have y3 := HQ1.out.at_ 3 _ rfl
    have y4 := HQ1.out.at_ 4 _ rfl
    have y5 := HQ1.out.at_ 5 _ rfl
    have y6 := HQ1.out.at_ 6 _ rfl
    have y7 := HQ1.out.at_ 7 _ rfl
    have y8 := HQ1.out.at_ 8 _ rfl
    have y9 := HQ1.out.at_ 9 _ rfl
    have y10 := HQ1.out.at_ 10 _ rfl
    have x0 := HQ1.out.free 0
    have x1 := HQ1.out.free 1
    have x2 := HQ1.out.free 2
    have x3 := HQ1.out.free 3
    have x4 := HQ1.out.free 4
    have x5 := HQ1.out.free 5
    have x6 := HQ1.out.free 6
    have x7 := HQ1.out.free 7
    have x8 := HQ1.out.free 8
    have x9 := HQ1.out.free 9
    have x10 := HQ1.out.free 10
    clear hz0 hz1 hz2 hz3 hz4 hz5 hz6
    go_wp2_with fail
    obtain ⟨WE, hWE⟩ : ∃ W, w1.setCells w.heap.size 0 [.string z0, .string z1, .int .i64 z2, .slice b1 n1 d1, .slice b2 n2 d2, .slice b3 n3 d3, .slice b4 n4 d4, .string z3, .int .i64 z4, .string z5, .bool z6] = W := ⟨_, rfl⟩
    have hWE2 : (((((((((((w1.setCell ⟨w.heap.size, 0, none⟩ (.string z0)).setCell ⟨w.heap.size, 1, none⟩ (.string z1)).setCell ⟨w.heap.size, 2, none⟩ (.int .i64 z2)).setCell ⟨w.heap.size, 3, none⟩ (.slice b1 n1 d1)).setCell ⟨w.heap.size, 4, none⟩ (.slice b2 n2 d2)).setCell ⟨w.heap.size, 5, none⟩ (.slice b3 n3 d3)).setCell ⟨w.heap.size, 6, none⟩ (.slice b4 n4 d4)).setCell ⟨w.heap.size, 7, none⟩ (.string z3)).setCell ⟨w.heap.size, 8, none⟩ (.int .i64 z4)).setCell ⟨w.heap.size, 9, none⟩ (.string z5)).setCell ⟨w.heap.size, 10, none⟩ (.bool z6)) = WE := hWE
    rw [hWE] at P
    rw [hWE2]
    clear hWE hWE2 y0 x0 y1 x1 y2 x2 y3 x3 y4 x4 y5 x5 y6 x6 y7 x7 y8 x8 y9 x9 y10 x10
    obtain ⟨PC, hsz, hbl, hkp⟩ := P.out
    have ez : CellsN (w.heap.size + 1) [.int .i64 0] WE := HE1.out.block (hbl _ (by omega))
    have hb2 : ∀ b, b ≠ w.heap.size + 1 → (WE.setCell ⟨w.heap.size + 1, 0, none⟩ (.int .i64 0)).heap[b]? = WE.heap[b]? := fun b hb => Below.heap_setCell WE ⟨w.heap.size + 1, 0, none⟩ _ b hb
    have FE := Lib.hid (ez.set (j := 0) (u := .int .i64 0) (by simp))
    have FQ := Lib.hid (PC.block (hb2 w.heap.size (by omega)))
    have KF := Lib.hid (show Kept w (WE.setCell ⟨w.heap.size + 1, 0, none⟩ (.int .i64 0)) from (hkp _ _ (Nat.le_refl _) (HK.out.trans KK.out)).setCell (p := ⟨w.heap.size + 1, 0, none⟩) (Nat.le_succ _) _)
    have NF := Lib.hid ((HN.out.far (w' := WE.setCell ⟨w.heap.size + 1, 0, none⟩ (.int .i64 0)) (by simp [World.setCell, hsz]) (fun b hb => (hb2 b (by have := HZS.out; omega)).trans (hbl b (by have := HZS.out; omega)))).less (B' := w.heap.size) (by have := HZS.out; omega))
    obtain ⟨WF, hWF⟩ : ∃ W, WE.setCell ⟨w.heap.size + 1, 0, none⟩ (.int .i64 0) = W := ⟨_, rfl⟩
    rw [hWF] at FE FQ KF NF ⊢
    have fe := FE.out.at_ 0 _ rfl
    clear hWF hb2 ez P hbl hkp PC ze zf
    refine leaves_cons (f := 114) (args := #[.pointer (some ⟨w.heap.size + 1, 0, none⟩)]) (by simp) (by simp [go_sem]) ?_
    refine (caughtPd_idle ⟨w.heap.size + 1, 0, none⟩ _).mono ?_
    rintro e u' w'' ⟨rfl, rfl, rfl⟩
    simp [Leaves, settle, results, Tryz.results74, go_sem, fe, FQ.out.at_ 0 _ rfl, FQ.out.at_ 1 _ rfl, FQ.out.at_ 2 _ rfl, FQ.out.at_ 3 _ rfl, FQ.out.at_ 4 _ rfl, FQ.out.at_ 5 _ rfl, FQ.out.at_ 6 _ rfl, FQ.out.at_ 7 _ rfl, FQ.out.at_ 8 _ rfl, FQ.out.at_ 9 _ rfl, FQ.out.at_ 10 _ rfl]
    exact ⟨_, rfl, by rw [if_pos rfl]; exact NF.out, KF.out⟩
  · obtain rfl := h1 hx
    have HX := Lib.hid hx
    have KW := Lib.hid (HK.out.trans KK.out)
    clear h0 h1 hb hZ hx
    go_wp2_with fail
    refine leaves_cons (f := 114) (args := #[.pointer (some ⟨w.heap.size + 1, 0, none⟩)]) (by simp) (by simp [go_sem]) ?_
    refine (caughtPd_panicking w.heap.size (w.heap.size + 1) c 0 _ ze zf (by omega)).mono ?_
    rintro e u' w'' ⟨rfl, rfl, rfl, q2, q3⟩
    have hb2 : (w1.setCell ⟨w.heap.size + 1, 0, none⟩ (.int .i64 c)).heap[w.heap.size]? = w1.heap[w.heap.size]? := Below.heap_setCell w1 ⟨w.heap.size + 1, 0, none⟩ _ w.heap.size (by simp)
    have FQ := Lib.hid (HQ1.out.block hb2)
    have KF := Lib.hid (show Kept w _ from Below.trans KW.out q3)
    obtain ⟨WF, hWF⟩ : ∃ W, w1.setCell ⟨w.heap.size + 1, 0, none⟩ (.int .i64 c) = W := ⟨_, rfl⟩
    rw [hWF] at q2 FQ KF ⊢
    clear hWF hb2 q3 ze zf
    simp [Leaves, settle, results, Tryz.results74, go_sem, q2, FQ.out.at_ 0 _ rfl, FQ.out.at_ 1 _ rfl, FQ.out.at_ 2 _ rfl, FQ.out.at_ 3 _ rfl, FQ.out.at_ 4 _ rfl, FQ.out.at_ 5 _ rfl, FQ.out.at_ 6 _ rfl, FQ.out.at_ 7 _ rfl, FQ.out.at_ 8 _ rfl, FQ.out.at_ 9 _ rfl, FQ.out.at_ 10 _ rfl]
    exact ⟨_, rfl, by rw [if_neg HX.out]; exact zero_readsP _ _, KF.out⟩
set_option maxRecDepth 100000 in
set_option maxHeartbeats 3200000 in
theorem parsePd_any (s : List UInt8) (n : Pd) (c : Int) (w : World) (hP : ∀ W, Kept w W → Calls Tryz.prog 76 #[.string (bytes s)] W (PodRes c n W)) :
    Calls Tryz.prog 19 #[.string (bytes s)] w (DonePd c n w) := by
  have hmf : ∀ (fn : Fn) (first cap : Array Value) (w : World), (Instr.makeFunc fn first cap).run Tryz.prog w = .ok (.func fn first cap) w := fun _ _ _ _ => rfl
  obtain ⟨Z, hZ⟩ : ∃ Z, (w.alloc (.cells #[.string (bytes s)] 9)).alloc (.cells #[.string ⟨#[]⟩, .string ⟨#[]⟩, .int .i64 0, .slice none 0 0, .slice none 0 0, .slice none 0 0, .slice none 0 0, .string ⟨#[]⟩, .int .i64 0, .string ⟨#[]⟩, .bool false] 30) = Z := ⟨_, rfl⟩
  have hkz : Kept w Z := by rw [← hZ]; exact kept_two _ _ _
  have hzs : Z.heap.size = w.heap.size + 2 := by rw [← hZ]; simp
  have hzc : Z.cell? ⟨w.heap.size, 0, none⟩ = some (.string (bytes s)) := (freshN w (.string (bytes s)) [] 9 Z (by rw [← hZ]; exact kept_alloc _ _)).at_ 0 _ rfl
  have HK := Lib.hid hkz
  have HQ := Lib.hid (show CellsN (w.heap.size + 1) [.string ⟨#[]⟩, .string ⟨#[]⟩, .int .i64 0, .slice none 0 0, .slice none 0 0, .slice none 0 0, .slice none 0 0, .string ⟨#[]⟩, .int .i64 0, .string ⟨#[]⟩, .bool false] Z by
    have := freshN (w.alloc (.cells #[.string (bytes s)] 9)) (.string ⟨#[]⟩) [.string ⟨#[]⟩, .int .i64 0, .slice none 0 0, .slice none 0 0, .slice none 0 0, .slice none 0 0, .string ⟨#[]⟩, .int .i64 0, .string ⟨#[]⟩, .bool false] 30 Z (by rw [hZ]; exact Kept.refl _)
    rw [World.size_alloc] at this
    exact this)
  have HZS := Lib.hid hzs
  have HC := Lib.hid (caughtPd_any ⟨w.heap.size, 0, none⟩ n c Z (fun W k => closurePd ⟨w.heap.size, 0, none⟩ s n c W (cell_later k hzc) (fun W' k' => hP W' (hkz.trans (k.trans k')))))
  obtain ⟨m, hm⟩ : ∃ m, (if c = 0 then n else Pd.zero) = m := ⟨_, rfl⟩
  unfold DonePd at HC ⊢
  rw [hm] at HC
  rw [hm]
  clear hP hzc hkz hzs hm
  go_enter Tryz.func19, Tryz.ntmps19
  go_wp2_with fail
  try rw [hZ]
  refine HC.out.mono ?_
  rintro e w1 ⟨v, rfl, hn, k⟩
  have KK := Lib.hid k
  have HN := Lib.hid hn
  have HQ1 := Lib.hid (HQ.out.kept k)
  obtain ⟨b1, n1, d1, b2, n2, d2, b3, n3, d3, b4, n4, d4, rfl, -⟩ := hn
  clear k hZ
  obtain ⟨z0, hz0⟩ : ∃ z, m.name = z := ⟨_, rfl⟩
  obtain ⟨z1, hz1⟩ : ∃ z, m.owner = z := ⟨_, rfl⟩
  obtain ⟨z2, hz2⟩ : ∃ z, m.prio = z := ⟨_, rfl⟩
  obtain ⟨z3, hz3⟩ : ∃ z, m.key = z := ⟨_, rfl⟩
  obtain ⟨z4, hz4⟩ : ∃ z, m.most = z := ⟨_, rfl⟩
  obtain ⟨z5, hz5⟩ : ∃ z, m.node = z := ⟨_, rfl⟩
  obtain ⟨z6, hz6⟩ : ∃ z, m.hold = z := ⟨_, rfl⟩
  unfold PodV at HN ⊢
  rw [hz0, hz1, hz2, hz3, hz4, hz5, hz6] at HN
  rw [hz0, hz1, hz2, hz3, hz4, hz5, hz6]
  have P := Lib.hid (putN (vs := [.string z0, .string z1, .int .i64 z2, .slice b1 n1 d1, .slice b2 n2 d2, .slice b3 n3 d3, .slice b4 n4 d4, .string z3, .int .i64 z4, .string z5, .bool z6]) HQ1.out rfl)
  have y0 := HQ1.out.at_ 0 _ rfl
  have y1 := HQ1.out.at_ 1 _ rfl
  have y2 := HQ1.out.at_ 2 _ rfl
  have y3 := HQ1.out.at_ 3 _ rfl
  have y4 := HQ1.out.at_ 4 _ rfl
  have y5 := HQ1.out.at_ 5 _ rfl
  have y6 := HQ1.out.at_ 6 _ rfl
  have y7 := HQ1.out.at_ 7 _ rfl
  have y8 := HQ1.out.at_ 8 _ rfl
  have y9 := HQ1.out.at_ 9 _ rfl
  have y10 := HQ1.out.at_ 10 _ rfl
  have x0 := HQ1.out.free 0
  have x1 := HQ1.out.free 1
  have x2 := HQ1.out.free 2
  have x3 := HQ1.out.free 3
  have x4 := HQ1.out.free 4
  have x5 := HQ1.out.free 5
  have x6 := HQ1.out.free 6
  have x7 := HQ1.out.free 7
  have x8 := HQ1.out.free 8
  have x9 := HQ1.out.free 9
  have x10 := HQ1.out.free 10
  clear hz0 hz1 hz2 hz3 hz4 hz5 hz6
  go_wp2
  obtain ⟨WE, hWE⟩ : ∃ W, w1.setCells (w.heap.size + 1) 0 [.string z0, .string z1, .int .i64 z2, .slice b1 n1 d1, .slice b2 n2 d2, .slice b3 n3 d3, .slice b4 n4 d4, .string z3, .int .i64 z4, .string z5, .bool z6] = W := ⟨_, rfl⟩
  have hWE2 : (((((((((((w1.setCell ⟨(w.heap.size + 1), 0, none⟩ (.string z0)).setCell ⟨(w.heap.size + 1), 1, none⟩ (.string z1)).setCell ⟨(w.heap.size + 1), 2, none⟩ (.int .i64 z2)).setCell ⟨(w.heap.size + 1), 3, none⟩ (.slice b1 n1 d1)).setCell ⟨(w.heap.size + 1), 4, none⟩ (.slice b2 n2 d2)).setCell ⟨(w.heap.size + 1), 5, none⟩ (.slice b3 n3 d3)).setCell ⟨(w.heap.size + 1), 6, none⟩ (.slice b4 n4 d4)).setCell ⟨(w.heap.size + 1), 7, none⟩ (.string z3)).setCell ⟨(w.heap.size + 1), 8, none⟩ (.int .i64 z4)).setCell ⟨(w.heap.size + 1), 9, none⟩ (.string z5)).setCell ⟨(w.heap.size + 1), 10, none⟩ (.bool z6)) = WE := hWE
  rw [hWE] at P
  rw [hWE2]
  clear hWE hWE2 y0 x0 y1 x1 y2 x2 y3 x3 y4 x4 y5 x5 y6 x6 y7 x7 y8 x8 y9 x9 y10 x10
  obtain ⟨PC, hsz, hbl, hkp⟩ := P.out
  refine bodyPost_ret (by simp [results, Tryz.results19, go_sem, PC.at_ 0 _ rfl, PC.at_ 1 _ rfl, PC.at_ 2 _ rfl, PC.at_ 3 _ rfl, PC.at_ 4 _ rfl, PC.at_ 5 _ rfl, PC.at_ 6 _ rfl, PC.at_ 7 _ rfl, PC.at_ 8 _ rfl, PC.at_ 9 _ rfl, PC.at_ 10 _ rfl]; try rfl) rfl ?_
  exact ⟨_, rfl, (HN.out.far hsz (fun b hb => hbl b (by have := HZS.out; omega))).less (by have := HZS.out; omega), hkp _ _ (Nat.le_succ _) (HK.out.trans KK.out)⟩

end Go.Proofs.YtflllkpnkcmegaaGreatDoor
