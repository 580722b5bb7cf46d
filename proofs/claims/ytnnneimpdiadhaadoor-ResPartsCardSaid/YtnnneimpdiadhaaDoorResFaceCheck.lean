/- Package res's Check: the closure, the recovery, the face. -/
import Derived.Test.YtnnneimpdiadhaaDoorResCatch
import Derived.Test.YtnnneimpdiadhaaDoorResMergeMath
namespace Go.Proofs.YtnnneimpdiadhaaDoor.Vec
open Go.RowKit
set_option linter.unusedVariables false

set_option maxHeartbeats 800000 in
theorem caught_check (C : Addr) (a : Option Addr) (len cap : Nat) (l : V) (w : World)
    (hk : ∀ W, Kept w W → Calls Tryd.prog 29 #[.pointer (some C)] W (Chk l (.slice a len cap) W)) :
    Calls Tryd.prog 22 #[.func (.func 29) #[] #[.pointer (some C)]] w (fun e w' => ∃ v, e = .returned (.tuple #[v, .int .i64 (checkV l)]) ∧ Kept w w') := by
  have hmf : ∀ (fn : Fn) (first cap : Array Value) (w : World), (Instr.makeFunc fn first cap).run Tryd.prog w = .ok (.func fn first cap) w := fun _ _ _ _ => rfl
  have HK := Lib.hid hk
  clear hk
  obtain ⟨r1, hr1⟩ : ∃ r1, checkV l = r1 := ⟨_, rfl⟩
  rw [hr1]
  have HR1 := Lib.hid hr1
  clear hr1
  go_enter_defers Tryd.func22, Tryd.ntmps22
  go_wp2_with fail
  refine (HK.out _ (kept_alloc _ _)).mono ?_
  rintro e1 w1 ⟨h0, h1, hb⟩
  have k1 := hb.size
  simp only [World.size_alloc] at k1
  have c2 := (hb.cell (p := ⟨w.heap.size, 0, none⟩) (by simp))
  have z2 := (hb.frozen (p := ⟨w.heap.size, 0, none⟩) (by simp))
  have e2' : w1.cell? ⟨w.heap.size, 0, none⟩ = some (.int .i64 0) := by rw [c2]; go_simp
  have y2 : w1.frozen? ⟨w.heap.size, 0, none⟩ = false := by rw [z2]; go_simp
  clear c2 z2
  have KB := Lib.hid (show Below w.heap.size w w1 from (kept_alloc w _).trans hb)
  rw [HR1.out] at h0 h1
  by_cases hx : r1 = 0
  · subst hx
    obtain rfl := h0 rfl
    have hsz := World.size_alloc w (.cells #[.int .i64 0] 29)
    clear h0 h1 hb
    go_wp2_with fail
    refine leaves_cons (f := 42) (args := #[.pointer (some ⟨w.heap.size, 0, none⟩)]) (by simp) (by simp [go_sem]) ?_
    refine (caught_idle ⟨w.heap.size, 0, none⟩ _).mono ?_
    rintro e u' w'' ⟨rfl, rfl, rfl⟩
    simp [Leaves, settle, results, Tryd.results22, go_sem, e2']
    exact KB.out.setCell (p := ⟨w.heap.size, 0, none⟩) (Nat.le_refl _) _
  · obtain rfl := h1 hx
    clear h0 h1 hb
    go_wp2_with fail
    refine leaves_cons (f := 42) (args := #[.pointer (some ⟨w.heap.size, 0, none⟩)]) (by simp) (by simp [go_sem]) ?_
    refine (caught_panicking w.heap.size w.heap.size r1 0 _ e2' y2 (by omega)).mono ?_
    rintro e u' w'' ⟨rfl, rfl, q2, q3⟩
    simp [Leaves, settle, results, Tryd.results22, go_sem, q2]
    exact KB.out.trans q3

theorem closure_check (C : Addr) (a : Option Addr) (len cap : Nat) (l : V) (w : World) (h1 : w.cell? C = some (.slice a len cap)) (hr : VecAt w a len l) :
    Calls Tryd.prog 29 #[.pointer (some C)] w (Chk l (.slice a len cap) w) := by
  have HR := Lib.hid hr
  clear hr
  go_enter Tryd.func29, Tryd.ntmps29
  go_wp2_with fail
  refine (checked_any a len cap l _ HR.out).mono ?_
  rintro e w' ⟨g0, g1, k⟩
  by_cases hx : checkV l = 0
  · obtain rfl := g0 hx
    have HX := Lib.hid hx
    have HK := Lib.hid k
    clear g0 g1 hx k
    go_wp2
    go_ret
    exact Chk.good HX.out HK.out
  · obtain rfl := g1 hx
    have HX := Lib.hid hx
    have HK := Lib.hid k
    clear g0 g1 hx k
    go_wp2
    exact ⟨rfl, Chk.bad rfl HX.out HK.out⟩

set_option maxHeartbeats 800000 in
theorem check_any (a : Option Addr) (len cap : Nat) (l : V) (w : World) (hr : VecAt w a len l) :
    Calls Tryd.prog 14 #[.slice a len cap] w fun e w' => e = .returned (.int .i64 (checkV l)) ∧ Kept w w' := by
  have hmf : ∀ (fn : Fn) (first cap : Array Value) (w : World), (Instr.makeFunc fn first cap).run Tryd.prog w = .ok (.func fn first cap) w := fun _ _ _ _ => rfl
  have hC : ∀ W, Kept (w.alloc (.cells #[.slice a len cap] 23)) W → Calls Tryd.prog 29 #[.pointer (some ⟨w.heap.size, 0, none⟩)] W (Chk l (.slice a len cap) W) := by
    intro W k
    have c1 := k.cell (p := ⟨w.heap.size, 0, none⟩) (by simp)
    exact closure_check ⟨w.heap.size, 0, none⟩ a len cap l W (by rw [c1]; go_simp) (hr.kept ((kept_alloc w _).trans k))
  have HC := Lib.hid hC
  clear hC hr
  go_enter Tryd.func14, Tryd.ntmps14
  go_wp2_with fail
  refine (caught_check ⟨w.heap.size, 0, none⟩ a len cap l _ HC.out).mono ?_
  rintro e w' ⟨v, rfl, k⟩
  have HK := Lib.hid k
  clear k
  go_wp2
  go_ret
  exact ⟨rfl, (kept_alloc w _).trans HK.out⟩

end Go.Proofs.YtnnneimpdiadhaaDoor.Vec
