/- PodOrder: the walk. -/
import Derived.Test.YtflllkpnkcmegaaGreatDoorPodKnown
import Derived.Test.YtflllkpnkcmegaaGreatDoorPodFew
import Derived.Test.YtflllkpnkcmegaaGreatDoorLabIns
import Derived.Deep.RegionWith
namespace Go.Proofs.YtflllkpnkcmegaaGreatDoor
open Go.RowKit
set_option linter.unusedVariables false

theorem cmpI_swap (a b : Int) : cmpI b a = -cmpI a b := by
  unfold cmpI
  by_cases h : a < b
  · rw [if_neg (by omega), if_pos h, if_pos h]; rfl
  · by_cases g : b < a
    · rw [if_pos g, if_neg h, if_pos g]
    · rw [if_neg g, if_neg h, if_neg h, if_neg g]; rfl
theorem cmpS_swap (x y : ByteArray) : cmpS y x = -cmpS x y := by
  unfold cmpS
  cases h : ltS x y with
  | true =>
    have e : eqS y x = false := by
      cases q : eqS y x with
      | false => rfl
      | true => rw [eqS_iff.1 q, lt_irrefl'] at h; cases h
    rw [if_neg (by rw [lt_asymm' h]; decide), if_neg (by rw [e]; decide), if_pos rfl]; rfl
  | false =>
    cases q : eqS x y with
    | true =>
      have e := eqS_iff.1 q
      subst e
      rw [if_neg (by rw [lt_irrefl']; decide), if_pos (eqS_self _), if_neg (by decide), if_pos rfl]; rfl
    | false =>
      have ne : x ≠ y := fun e => by rw [e, eqS_self] at q; cases q
      rw [if_pos (lt_other h ne), if_neg (by decide), if_neg (by decide)]
theorem cmpPd_swap (n m : Pd) : cmpPd m n = -cmpPd n m := by
  unfold cmpPd
  rw [cmpI_swap m.prio n.prio, cmpS_swap n.name m.name]
  by_cases z : cmpI m.prio n.prio = 0
  · rw [if_neg (by rw [z]; decide), if_neg (by rw [z]; decide)]
  · rw [if_pos (by omega), if_pos z]
end Go.Proofs.YtflllkpnkcmegaaGreatDoor
