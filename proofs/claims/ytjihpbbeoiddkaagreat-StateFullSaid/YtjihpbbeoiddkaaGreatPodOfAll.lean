/- Rows of pods as the reference has them. -/
import Derived.Test.YtjihpbbeoiddkaaGreatPodOf
import Derived.Test.YtjihpbbeoiddkaaGreatNodOfAll
namespace Go.Proofs.YtjihpbbeoiddkaaGreat
open Go.RowKit
set_option linter.unusedVariables false

theorem one_pod0 (x : PX) (u : Value) (h : u ∈ [Value.string x.1.name, .string x.1.owner, .int .i64 x.1.prio, slV x.2.1, slV x.2.2.1, slV x.2.2.2.1, slV x.2.2.2.2, .string x.1.key, .int .i64 x.1.most, .string x.1.node, .bool x.1.hold]) : u.oneCell' = true := by
  simp only [List.mem_cons, List.not_mem_nil, or_false] at h
  rcases h with rfl | rfl | rfl | rfl | rfl | rfl | rfl | rfl | rfl | rfl | rfl <;> rfl
def PodLay0 : Lay PX := { m := 11, cs := fun x => [.string x.1.name, .string x.1.owner, .int .i64 x.1.prio, slV x.2.1, slV x.2.2.1, slV x.2.2.2.1, slV x.2.2.2.2, .string x.1.key, .int .i64 x.1.most, .string x.1.node, .bool x.1.hold], fine := fun _ => True, len := fun _ => rfl, one := one_pod0, pos := by decide }
theorem pods_own {w : World} {T : TypeId} {B : Nat} {v : Value} {lx : List PX} (ho : Own PodLay0 T w B v lx) (hf : ∀ z ∈ lx, At4 w z) : PodsR w v (lx.map fun z => z.1) := by
  obtain ⟨a, cap, rfl, h1, h2, h3⟩ := ho.at_
  obtain ⟨g0, g1, g2, g3⟩ := h3
  refine ⟨a, cap, by rw [List.length_map], by rw [List.length_map]; exact h1, h2, rfl, by rw [List.length_map]; exact g1, ?_⟩
  rw [List.length_map]
  rcases g3 with g3 | ⟨b, off, rfl, hb, hc⟩
  · exact .inl g3
  · refine .inr ⟨b, off, rfl, hb, fun i n hi => ?_⟩
    rw [List.getElem?_map] at hi
    obtain ⟨z, hz, rfl⟩ := Option.map_eq_some_iff.1 hi
    exact ⟨slV z.2.1, slV z.2.2.1, slV z.2.2.2.1, slV z.2.2.2.2, hc i z 0 _ hz rfl, hc i z 1 _ hz rfl, hc i z 2 _ hz rfl, hc i z 3 _ hz rfl, hc i z 4 _ hz rfl, hc i z 5 _ hz rfl, hc i z 6 _ hz rfl, hc i z 7 _ hz rfl, hc i z 8 _ hz rfl, hc i z 9 _ hz rfl, hc i z 10 _ hz rfl, hf z (List.mem_of_getElem? hz)⟩
end Go.Proofs.YtjihpbbeoiddkaaGreat
