/- Sum: a deferred function recovers what goes out of the loop; and the reference's Sum. -/
import Derived.Test.YtocidfnfoaapcaaQtySum
import Derived.Laws.Pointers
namespace Go.Proofs.Ytocidfnfoaapcaa
open Go.RowKit
set_option linter.unusedVariables false

theorem catch_panicking (p q : Addr) (x y : Int) (u : TypeId) (pv : Value) (older : List PanicEntry) (w : World) (hp : w.cell? p = some (.int .i64 x)) (hzp : w.frozen? p = false) (hq : (w.setCell p (.int .i64 0)).cell? q = some (.int .i64 y)) (hzq : w.frozen? q = false) :
    CallsD Try.prog 26 #[.pointer (some p), .pointer (some q)] (.panicking ({ v := .iface u pv, recovered := false } :: older)) w fun e u' w' =>
      e = .returned (.tuple #[]) ∧ u' = .panicking ({ v := .iface u pv, recovered := true } :: older) ∧ w' = (w.setCell p (.int .i64 0)).setCell q (.int .i64 5) := by
  refine callsD_of_wpS Try.func26 rfl fun c₀ cs hu => ?_
  apply wpS_seq
  apply wpS_region
  simp [wpOpsS, go_sem, recoverD, hu, Try.ntmps26, Exit.thenS]
  apply wpS_seq
  apply wpS_region
  simp [wpOpsS, go_sem, recoverD, Exit.thenS]
  refine wpS_cond (t := true) (by simp [Act.eval, Array.replicate]) ?_
  simp only [if_true]
  apply wpS_region
  simp [wpOpsS, go_sem, hp, hzp, hq, hzq, bodyPostS, results, Try.results26]

theorem catch_idle (p q : Addr) (w : World) :
    CallsD Try.prog 26 #[.pointer (some p), .pointer (some q)] .returning w fun e u' w' => e = .returned (.tuple #[]) ∧ u' = .returning ∧ w' = w := by
  refine callsD_of_wpS Try.func26 rfl fun c₀ cs hu => ?_
  apply wpS_seq
  apply wpS_region
  simp [wpOpsS, go_sem, recoverD, hu, Try.ntmps26, Exit.thenS]
  apply wpS_seq
  apply wpS_region
  simp [wpOpsS, go_sem, recoverD, hu, Exit.thenS]
  refine wpS_cond (t := false) (by simp [Act.eval, Array.replicate]) ?_
  simp only [Bool.false_eq_true, if_false]
  refine wpS_of_wp (wp_skip ?_)
  cases c₀
  simp_all [bodyPostS, results, Try.results26]

theorem Kept.two (w : World) (c d : Array Value) (s t : TypeId) : Kept w ((w.alloc (.cells c s)).alloc (.cells d t)) :=
  ((Below.refl _ _).alloc (Nat.le_refl _) _).alloc (by simp) _

set_option maxHeartbeats 400000 in
theorem sum_arg (a : Option Addr) (len cap : Nat) (f : Nat → Int) (w : World) (hr : Row w a len f) (hn : ∃ i, i < len ∧ f i < 0) :
    Calls Try.prog 20 #[.slice a len cap] w (Ans 0 1 w) := by
  have hmf : ∀ (fn : Fn) (first cap : Array Value) (w : World), (Instr.makeFunc fn first cap).run Try.prog w = .ok (.func fn first cap) w := fun _ _ _ _ => rfl
  have H := Lib.hid (fun c d s t => hr.kept (Kept.two w c d s t))
  have N := Lib.hid hn
  clear hr hn
  go_enter_defers Try.func20, Try.ntmps20
  go_wp2_with fail
  refine (any_some _ _ _ f _ (H.out _ _ _ _) N.out).mono ?_
  rintro e1 w1 ⟨rfl, rfl⟩
  go_wp2_with fail
  simp [bodyPostD, Leaves, results, Try.results20, go_sem]
  exact ⟨rfl, Kept.two _ _ _ _ _⟩

set_option maxHeartbeats 400000 in
theorem sum_ok (a : Option Addr) (len cap : Nat) (f : Nat → Int) (w : World) (hr : Row w a len f) (hn : ∀ i, i < len → 0 ≤ f i) (hs : tot f len ≤ 9223372036854775807) :
    Calls Try.prog 20 #[.slice a len cap] w (Ans (tot f len) 0 w) := by
  have hmf : ∀ (fn : Fn) (first cap : Array Value) (w : World), (Instr.makeFunc fn first cap).run Try.prog w = .ok (.func fn first cap) w := fun _ _ _ _ => rfl
  have H := Lib.hid (fun c d s t => hr.kept (Kept.two w c d s t))
  have N := Lib.hid hn
  clear hr hn
  go_enter_defers Try.func20, Try.ntmps20
  go_wp2_with fail
  refine (any_none _ _ _ f _ (H.out _ _ _ _) N.out).mono ?_
  rintro e1 w1 ⟨rfl, rfl⟩
  go_wp2_with fail
  refine (added_ok _ _ _ f _ (H.out _ _ _ _) N.out hs).mono ?_
  rintro e1 w1 ⟨rfl, rfl⟩
  go_wp2_with fail
  refine leaves_cons (f := 26) (args := #[.pointer (some ⟨w.heap.size, 0, none⟩), .pointer (some ⟨w.heap.size + 1, 0, none⟩)]) (by simp) (by simp [go_sem]) ?_
  refine (catch_idle ⟨w.heap.size, 0, none⟩ ⟨w.heap.size + 1, 0, none⟩ _).mono ?_
  rintro e u' w'' ⟨rfl, rfl, rfl⟩
  simp [Leaves, settle, results, Try.results20, go_sem]
  exact ⟨rfl, Kept.two _ _ _ _ _⟩

set_option maxHeartbeats 400000 in
theorem sum_over (a : Option Addr) (len cap : Nat) (f : Nat → Int) (w : World) (hr : Row w a len f) (hn : ∀ i, i < len → 0 ≤ f i) (hs : 9223372036854775807 < tot f len) :
    Calls Try.prog 20 #[.slice a len cap] w (Ans 0 5 w) := by
  have hmf : ∀ (fn : Fn) (first cap : Array Value) (w : World), (Instr.makeFunc fn first cap).run Try.prog w = .ok (.func fn first cap) w := fun _ _ _ _ => rfl
  have H := Lib.hid (fun c d s t => hr.kept (Kept.two w c d s t))
  have N := Lib.hid hn
  clear hr hn
  go_enter_defers Try.func20, Try.ntmps20
  go_wp2_with fail
  refine (any_none _ _ _ f _ (H.out _ _ _ _) N.out).mono ?_
  rintro e1 w1 ⟨rfl, rfl⟩
  go_wp2_with fail
  refine (added_over _ _ _ f _ (H.out _ _ _ _) N.out hs).mono ?_
  rintro e1 w1 ⟨rfl, rfl⟩
  go_wp2_with fail
  refine leaves_cons (f := 26) (args := #[.pointer (some ⟨w.heap.size, 0, none⟩), .pointer (some ⟨w.heap.size + 1, 0, none⟩)]) (by simp) (by simp [go_sem]) ?_
  refine (catch_panicking ⟨w.heap.size, 0, none⟩ ⟨w.heap.size + 1, 0, none⟩ 0 0 23 _ [] _ ?_ ?_ ?_ ?_).mono ?_
  · simp [go_sem]
  · simp [go_sem]
  · simp [go_sem]
  · simp [go_sem]
  rintro e u' w'' ⟨rfl, rfl, rfl⟩
  simp [Leaves, settle, results, Try.results20, go_sem]
  exact ⟨rfl, Kept.two _ _ _ _ _⟩

end Go.Proofs.Ytocidfnfoaapcaa
