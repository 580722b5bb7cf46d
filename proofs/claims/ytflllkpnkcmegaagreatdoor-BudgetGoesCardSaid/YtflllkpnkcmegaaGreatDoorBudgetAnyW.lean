/- BudgetAny: the walk. -/
import Derived.Test.YtflllkpnkcmegaaGreatDoorBudA
import Derived.Test.YtflllkpnkcmegaaGreatDoorBudR
import Derived.Test.YtflllkpnkcmegaaGreatDoorPodRefAll
import Derived.Test.YtflllkpnkcmegaaGreatDoorPodFew
import Derived.Test.YtflllkpnkcmegaaGreatDoorPodLow
namespace Go.Proofs.YtflllkpnkcmegaaGreatDoor
open Go.RowKit
set_option linter.unusedVariables false

theorem few_sel {n : Bd} (h : fewBd n = true) : n.sel.length ≤ 1000000 := by
  have := (fewL_parts (fewBd_parts h).2).1; omega
theorem ofAllB_k {a : Option Addr} {len cap : Nat} {l : List Bd} {w : World} (hr : BudsAt w a len l) (hlow : ∀ n ∈ l, n.sel.length ≤ 1000000) (hlen : len ≤ 1000) :
    Calls Tryz.prog 29 #[.slice a len cap] w fun e w' => ∃ x c, e = .returned (.slice x len c) ∧ len ≤ c ∧ c ≤ maxLen ∧ BudsAt w' x len l ∧ Kept w w' := by
  refine (ofAllB_any a len cap l w hr hlow hlen).mono ?_
  rintro e w' ⟨v, rfl, h, k⟩
  obtain ⟨x, c, rfl, h1, h2, h3⟩ := h
  rw [hr.1] at h1 h3 ⊢
  exact ⟨x, c, rfl, h1, h2, h3, k⟩
theorem names_k {v u : Value} {l : List ByteArray} {w : World} (h : Reads StrLay w v l) (h9 : Reads StrLay w u l) : Calls Tryz.prog 38 #[v, u] w (Say (.bool true) w) := namesR h h9

end Go.Proofs.YtflllkpnkcmegaaGreatDoor
