/- RatioRows: the walk, whole. -/
import Derived.Test.YthmpkelnmlkbiaaRefSort
import Derived.Test.YthmpkelnmlkbiaaRatioRows
namespace Go.Proofs.Ythmpkelnmlkbiaa
open Go.RowKit Go.Sort
set_option linter.unusedVariables false

set_option maxRecDepth 1000000 in
set_option maxHeartbeats 8000000 in
theorem rsort_zero (a : Option Addr) (cap : Nat) (w : World) :
    Calls Try.prog 21 #[.slice a 0 cap] w (SRT [] w) := by
  unfold SRT
  have mixed := mixed_on
  go_enter Try.func21, Try.ntmps21
  go_wp2
  go_loopg [3, 4] 0 (fun g1 v vi wr => v = .slice none 0 0 ∧ vi = .int .i64 0 ∧ Hid (Kept w wr))
  case atStart => exact ⟨rfl, rfl, Kept.refl _⟩
  case round =>
    obtain ⟨rfl, rfl, HK⟩ := hrel
    go_wp2
    go_ret
    exact ⟨none, 0, [], rfl, ⟨rfl, by unfold maxLen; omega, by simp, .inl rfl⟩, List.Perm.refl _, fun i j _ h => absurd h (by simp), HK.out⟩

theorem rsort_any (a : Option Addr) (len cap : Nat) (l : List Nat) (w : World) (hr : FRow w a len l) (hlen : len ≤ 60) :
    Calls Try.prog 21 #[.slice a len cap] w (SRT l w) := by
  by_cases h0 : len = 0
  · subst h0
    have : l = [] := List.eq_nil_of_length_eq_zero hr.1
    subst this
    exact rsort_zero a cap w
  · exact rsort_try a len cap l w hr hlen h0

theorem ratioRows_walk (a : Option Addr) (len cap : Nat) (l : List Nat) (w : World) (hr : FRow w a len l) :
    Calls Try.prog 5 #[.slice a len cap] w fun e w' => e = .returned (.bool true) ∧ Below w.heap.size w w' := ratioRows_of rsort_any a len cap l w hr

end Go.Proofs.Ythmpkelnmlkbiaa
