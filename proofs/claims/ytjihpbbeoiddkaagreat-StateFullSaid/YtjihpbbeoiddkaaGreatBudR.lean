/- Package by package: contracts of the functions that the laws call. -/
import Derived.Test.YtjihpbbeoiddkaaGreatBudA
import Derived.Test.YtjihpbbeoiddkaaGreatPodOfAll

/- Budgets as the reference has them: Of, OfAll. -/
namespace Go.Proofs.YtjihpbbeoiddkaaGreat
open Go.RowKit
set_option linter.unusedVariables false

/-- A budget, its row spelt. -/
abbrev BX := Bd × SX
def At1 (w : World) (z : BX) : Prop := BudAt w (slV z.2) z.1
theorem one_bud0 (x : BX) (u : Value) (h : u ∈ [Value.string x.1.name, slV x.2, .int .i64 x.1.floor]) : u.oneCell' = true := by
  simp only [List.mem_cons, List.not_mem_nil, or_false] at h
  rcases h with rfl | rfl | rfl <;> rfl
def BudLay0 : Lay BX := { m := 3, cs := fun x => [.string x.1.name, slV x.2, .int .i64 x.1.floor], fine := fun _ => True, len := fun _ => rfl, one := one_bud0, pos := by decide }
theorem buds_own {w : World} {T : TypeId} {B : Nat} {v : Value} {lx : List BX} (ho : Own BudLay0 T w B v lx) (hf : ∀ z ∈ lx, At1 w z) : BudsR w v (lx.map fun z => z.1) := by
  obtain ⟨a, cap, rfl, h1, h2, h3⟩ := ho.at_
  obtain ⟨g0, g1, g2, g3⟩ := h3
  refine ⟨a, cap, by rw [List.length_map], by rw [List.length_map]; exact h1, h2, rfl, by rw [List.length_map]; exact g1, ?_⟩
  rw [List.length_map]
  rcases g3 with g3 | ⟨b, off, rfl, hb, hc⟩
  · exact .inl g3
  · refine .inr ⟨b, off, rfl, hb, fun i n hi => ?_⟩
    rw [List.getElem?_map] at hi
    obtain ⟨z, hz, rfl⟩ := Option.map_eq_some_iff.1 hi
    exact ⟨slV z.2, hc i z 0 _ hz rfl, hc i z 1 _ hz rfl, hc i z 2 _ hz rfl, hf z (List.mem_of_getElem? hz)⟩
end Go.Proofs.YtjihpbbeoiddkaaGreat
