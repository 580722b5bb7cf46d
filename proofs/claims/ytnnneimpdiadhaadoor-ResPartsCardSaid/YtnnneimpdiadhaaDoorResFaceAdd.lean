/- Package res's Add: the closure, the recovery, the face. -/
import Derived.Test.YtnnneimpdiadhaaDoorResCatch
import Derived.Test.YtnnneimpdiadhaaDoorResMergedAdd
namespace Go.Proofs.YtnnneimpdiadhaaDoor.Vec
open Go.RowKit
set_option linter.unusedVariables false

set_option maxHeartbeats 800000 in
theorem caught_add (C : Addr × Addr) (r : Int × V) (w : World) (hr : r.1 ≠ 0 → r.2 = [])
    (hk : ∀ W, Kept w W → Calls Tryd.prog 23 #[.pointer (some C.1), .pointer (some C.2)] W (VecRes r W.heap.size W)) :
    Calls Tryd.prog 22 #[.func (.func 23) #[] #[.pointer (some C.1), .pointer (some C.2)]] w (Done r w) := by
  have hmf : ∀ (fn : Fn) (first cap : Array Value) (w : World), (Instr.makeFunc fn first cap).run Tryd.prog w = .ok (.func fn first cap) w := fun _ _ _ _ => rfl
  have HK := Lib.hid hk
  have HR := Lib.hid hr
  clear hk hr
  obtain ⟨r1, r2⟩ := r
  go_enter_defers Tryd.func22, Tryd.ntmps22
  go_wp2_with fail
  refine (HK.out _ (kept_alloc _ _)).mono ?_
  rintro e1 w1 ⟨h0, h1, hb⟩
  have k1 := hb.size
  simp only [World.size_alloc] at k1
  have c2 := (hb.cell (p := ⟨w.heap.size, 0, none⟩) (by simp))
  have z2 := (hb.frozen (p := ⟨w.heap.size, 0, none⟩) (by simp))
  have e2' : w1.cell? ⟨w.heap.size, 0, none⟩ = some (.int .i64 0) := by rw [c2]; go_simp
  have y2 : w1.frozen? ⟨w.heap.size, 0, none⟩ = false := by rw [z2]; go_simp
  clear c2 z2
  have KB := Lib.hid (show Below w.heap.size w w1 from (kept_alloc w _).trans hb)
  by_cases hx : r1 = 0
  · subst hx
    obtain ⟨v, rfl, ho⟩ := h0 rfl
    have HO := Lib.hid ho
    obtain ⟨av, cv, rfl, _, _, _⟩ := ho.at_
    have hsz := World.size_alloc w (.cells #[.int .i64 0] 29)
    clear h0 h1 hb ho
    go_wp2_with fail
    refine leaves_cons (f := 42) (args := #[.pointer (some ⟨w.heap.size, 0, none⟩)]) (by simp) (by simp [go_sem]) ?_
    refine (caught_idle ⟨w.heap.size, 0, none⟩ _).mono ?_
    rintro e u' w'' ⟨rfl, rfl, rfl⟩
    simp [Leaves, settle, results, Tryd.results22, go_sem, e2']
    exact ⟨_, rfl, (HO.out.setCell_below (a := ⟨w.heap.size, 0, none⟩) (by simp) _).base_le (by simp), KB.out.setCell (p := ⟨w.heap.size, 0, none⟩) (Nat.le_refl _) _⟩
  · obtain rfl := h1 hx
    obtain rfl := HR.out hx
    clear h0 h1 hb
    go_wp2_with fail
    refine leaves_cons (f := 42) (args := #[.pointer (some ⟨w.heap.size, 0, none⟩)]) (by simp) (by simp [go_sem]) ?_
    refine (caught_panicking w.heap.size w.heap.size r1 0 _ e2' y2 (by omega)).mono ?_
    rintro e u' w'' ⟨rfl, rfl, q2, q3⟩
    simp [Leaves, settle, results, Tryd.results22, go_sem, q2]
    exact ⟨_, rfl, OwnV.nil _ _ _, KB.out.trans q3⟩

theorem closure_add (C : Addr × Addr) (a a' : Option Addr) (len cap len' cap' : Nat) (l l' : V) (w : World) (h1 : w.cell? C.1 = some (.slice a len cap)) (h2 : w.cell? C.2 = some (.slice a' len' cap'))
    (hr : VecAt w a len l) (hr' : VecAt w a' len' l') (hc : len ≤ cap) (hm : cap ≤ maxLen) (hc' : len' ≤ cap') (hm' : cap' ≤ maxLen) :
    Calls Tryd.prog 23 #[.pointer (some C.1), .pointer (some C.2)] w (VecRes (mergedV addF l l') w.heap.size w) := by
  have HR := Lib.hid hr
  have HR' := Lib.hid hr'
  have HM := Lib.hid hm
  have HM' := Lib.hid hm'
  clear hr hr' hm hm'
  go_enter Tryd.func23, Tryd.ntmps23
  go_wp2_with fail
  refine (merged_add a a' len cap len' cap' l l' _ HR.out HR'.out hc HM.out hc' HM'.out).mono ?_
  rintro e w' ⟨g0, g1, k⟩
  by_cases hx : (mergedV addF l l').1 = 0
  · obtain ⟨v, rfl, ho⟩ := g0 hx
    have HX := Lib.hid hx
    have HO := Lib.hid ho
    have HK := Lib.hid k
    clear g0 g1 hx ho k
    go_wp2
    go_ret
    exact VecRes.good HX.out HO.out HK.out
  · obtain rfl := g1 hx
    have HX := Lib.hid hx
    have HK := Lib.hid k
    clear g0 g1 hx k
    go_wp2
    exact ⟨rfl, VecRes.bad rfl HX.out HK.out⟩

theorem merged_add_none (l l' : V) : (mergedV addF l l').1 ≠ 0 → (mergedV addF l l').2 = [] := by
  unfold mergedV
  split
  · exact fun _ => rfl
  · split
    · exact fun _ => rfl
    · dsimp only
      split
      · exact fun _ => rfl
      · split
        · exact fun _ => rfl
        · exact fun h => absurd rfl h

set_option maxHeartbeats 800000 in
theorem add_any (a a' : Option Addr) (len cap len' cap' : Nat) (l l' : V) (w : World)
    (hr : VecAt w a len l) (hr' : VecAt w a' len' l') (hc : len ≤ cap) (hm : cap ≤ maxLen) (hc' : len' ≤ cap') (hm' : cap' ≤ maxLen) :
    Calls Tryd.prog 10 #[.slice a len cap, .slice a' len' cap'] w (Done (mergedV addF l l') w) := by
  have hmf : ∀ (fn : Fn) (first cap : Array Value) (w : World), (Instr.makeFunc fn first cap).run Tryd.prog w = .ok (.func fn first cap) w := fun _ _ _ _ => rfl
  have hC : ∀ W, Kept ((w.alloc (.cells #[.slice a len cap] 23)).alloc (.cells #[.slice a' len' cap'] 23)) W → Calls Tryd.prog 23 #[.pointer (some ⟨w.heap.size, 0, none⟩), .pointer (some ⟨w.heap.size + 1, 0, none⟩)] W (VecRes (mergedV addF l l') W.heap.size W) := by
    intro W k
    have c1 := k.cell (p := ⟨w.heap.size, 0, none⟩) (by simp; omega)
    have c2 := k.cell (p := ⟨w.heap.size + 1, 0, none⟩) (by simp)
    exact closure_add (⟨w.heap.size, 0, none⟩, ⟨w.heap.size + 1, 0, none⟩) a a' len cap len' cap' l l' W (by rw [c1]; go_simp) (by rw [c2]; go_simp) (hr.kept ((kept_two w _ _).trans k)) (hr'.kept ((kept_two w _ _).trans k)) hc hm hc' hm'
  have HC := Lib.hid hC
  clear hC hr hr' hm hm'
  go_enter Tryd.func10, Tryd.ntmps10
  go_wp2_with fail
  refine (caught_add (⟨w.heap.size, 0, none⟩, ⟨w.heap.size + 1, 0, none⟩) (mergedV addF l l') _ (merged_add_none l l') HC.out).mono ?_
  rintro e w' ⟨v, rfl, ho, k⟩
  have HO := Lib.hid ho
  have HK := Lib.hid k
  clear ho k
  go_wp2
  go_ret2
  exact ⟨v, rfl, HO.out.base_le (by simp; omega), (kept_two w _ _).trans HK.out⟩

end Go.Proofs.YtnnneimpdiadhaaDoor.Vec
