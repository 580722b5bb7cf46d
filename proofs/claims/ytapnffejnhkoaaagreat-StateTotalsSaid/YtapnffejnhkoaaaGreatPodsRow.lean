/- Rows of pods that came in. -/
import Derived.Test.YtapnffejnhkoaaaGreatPodRow
import Derived.Test.YtapnffejnhkoaaaGreatPodOfAll
namespace Go.Proofs.YtapnffejnhkoaaaGreat
open Go.ChangeShapes Go.WideShapes Go.ChangeAt Go.RowKit Go.Deep
set_option linter.unusedVariables false

def PodLay (w : World) : Lay PX := { m := 11, cs := PodLay0.cs, fine := At4 w, len := fun _ => rfl, one := PodLay0.one, pos := by decide }
theorem podX_of_trod {H : Type} {enc : TypeId × Value → H} {w : World} {base fuel : Nat} {sp : Nat → Bool} {held : Bool} {cs : List Value} {x : DataW H × List MemPlace} (h : DataW.trod enc Tryz.prog w base sp held fuel 51 cs = some x) :
    ∃ a : PX, cs = (PodLay w).cs a ∧ (PodLay w).fine a := by
  obtain ⟨n, v1, v2, v3, v4, e, hat⟩ := pod_of_trod h
  obtain ⟨b1, n1, d1, b2, n2, d2, b3, n3, d3, b4, n4, d4, rfl, rfl, rfl, rfl⟩ := hat.spelt
  exact ⟨(n, (b1, n1, d1), (b2, n2, d2), (b3, n3, d3), (b4, n4, d4)), e, hat⟩
theorem pods_of_trod {H : Type} {enc : TypeId × Value → H} {w : World} {base fuel : Nat} {sp : Nat → Bool} {held : Bool} {v : Value} {x : DataW H × List MemPlace} (h : DataW.trod enc Tryz.prog w base sp held fuel 23 [v] = some x) : ∃ l, PodsR w v l := by
  obtain ⟨l, a, cap, rfl, h1, h2, h3⟩ := reads_of_trod (PodLay w) Tryz.underlying23 cellsPd (fun _ _ _ h => podX_of_trod h) h
  obtain ⟨g0, g1, g2, g3⟩ := h3
  refine ⟨l.map (fun z => z.1), a, cap, by rw [List.length_map], by rw [List.length_map]; exact h1, h2, rfl, by rw [List.length_map]; exact g1, ?_⟩
  rw [List.length_map]
  rcases g3 with g3 | ⟨b, off, rfl, hb, hc⟩
  · exact .inl g3
  · refine .inr ⟨b, off, rfl, hb, fun i n hi => ?_⟩
    rw [List.getElem?_map] at hi
    obtain ⟨z, hz, rfl⟩ := Option.map_eq_some_iff.1 hi
    exact ⟨slV z.2.1, slV z.2.2.1, slV z.2.2.2.1, slV z.2.2.2.2, hc i z 0 _ hz rfl, hc i z 1 _ hz rfl, hc i z 2 _ hz rfl, hc i z 3 _ hz rfl, hc i z 4 _ hz rfl, hc i z 5 _ hz rfl, hc i z 6 _ hz rfl, hc i z 7 _ hz rfl, hc i z 8 _ hz rfl, hc i z 9 _ hz rfl, hc i z 10 _ hz rfl, g2 z (List.mem_of_getElem? hz)⟩

end Go.Proofs.YtapnffejnhkoaaaGreat
