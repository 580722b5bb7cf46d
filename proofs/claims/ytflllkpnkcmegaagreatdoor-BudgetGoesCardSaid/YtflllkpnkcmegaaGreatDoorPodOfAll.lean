/- Rows of pods as the reference has them. -/
import Derived.Test.YtflllkpnkcmegaaGreatDoorPodOf
import Derived.Test.YtflllkpnkcmegaaGreatDoorNodOfAll
namespace Go.Proofs.YtflllkpnkcmegaaGreatDoor
open Go.RowKit
set_option linter.unusedVariables false

theorem one_pod0 (x : PX) (u : Value) (h : u ∈ [Value.string x.1.name, .string x.1.owner, .int .i64 x.1.prio, slV x.2.1, slV x.2.2.1, slV x.2.2.2.1, slV x.2.2.2.2, .string x.1.key, .int .i64 x.1.most, .string x.1.node, .bool x.1.hold]) : u.oneCell' = true := by
  simp only [List.mem_cons, List.not_mem_nil, or_false] at h
  rcases h with rfl | rfl | rfl | rfl | rfl | rfl | rfl | rfl | rfl | rfl | rfl <;> rfl
def PodLay0 : Lay PX := { m := 11, cs := fun x => [.string x.1.name, .string x.1.owner, .int .i64 x.1.prio, slV x.2.1, slV x.2.2.1, slV x.2.2.2.1, slV x.2.2.2.2, .string x.1.key, .int .i64 x.1.most, .string x.1.node, .bool x.1.hold], fine := fun _ => True, len := fun _ => rfl, one := one_pod0, pos := by decide }
def NotIn (v : Value) (a : Option Addr) : Prop := ∀ b off sp, a = some ⟨b, off, sp⟩ → v.ownBlock ≠ some b
/-- Each reads as its pod; its rows lie below the heap's end, not in the growing row. -/
def FarP (w : World) (v : Value) (l : List PX) : Prop := ∀ z ∈ l, At4 w z ∧ Within4 0 w.heap.size z ∧ NotIn v z.2.1.1 ∧ NotIn v z.2.2.1.1 ∧ NotIn v z.2.2.2.1.1 ∧ NotIn v z.2.2.2.2.1
theorem farP_grow {wr w1 w2 : World} {o : Obj} {v : Value} {l : List PX} {z0 : PX} {gg n cap : Nat} (hv : FarP wr v l) (k : Kept wr w1) (hz : At4 w1 z0) (hw : Within4 wr.heap.size w1.heap.size z0) (hown : ∀ g, v.ownBlock = some g → g < wr.heap.size)
    (hgrow : (w1.alloc o).grownBy w2 v.ownBlock) (hat : v.ownBlock = some gg ∨ gg = w1.heap.size + 1) : FarP w2 (.slice (some ⟨gg, 0, none⟩) n cap) (l ++ [z0]) := by
  have hs := hgrow.size
  rw [World.size_alloc] at hs
  have hk := k.size
  have key : ∀ z, At4 w1 z → Within4 0 w1.heap.size z → NotIn v z.2.1.1 → NotIn v z.2.2.1.1 → NotIn v z.2.2.2.1.1 → NotIn v z.2.2.2.2.1 →
      At4 w2 z ∧ Within4 0 w2.heap.size z ∧ NotIn (.slice (some ⟨gg, 0, none⟩) n cap) z.2.1.1 ∧ NotIn (.slice (some ⟨gg, 0, none⟩) n cap) z.2.2.1.1 ∧ NotIn (.slice (some ⟨gg, 0, none⟩) n cap) z.2.2.2.1.1 ∧ NotIn (.slice (some ⟨gg, 0, none⟩) n cap) z.2.2.2.2.1 := by
    intro z h3 hwz f1 f2 f3 f4
    have ne : ∀ b, b < w1.heap.size → v.ownBlock ≠ some b → (Value.slice (some ⟨gg, 0, none⟩) n cap).ownBlock ≠ some b := by
      intro b hb hne e
      have e : some gg = some b := e
      rcases hat with hat | hat
      · exact hne (hat.trans e)
      · have : gg = b := Option.some.inj e
        omega
    have h3' := PodAt.kept h3 (kept_alloc w1 o)
    exact ⟨⟨h3'.name, h3'.owner, h3'.key, h3'.node, h3'.prio, h3'.most, h3'.need.grown hgrow (fun b off sp e => Ne.symm (f1 b off sp e)), h3'.labels.grown hgrow (fun b off sp e => Ne.symm (f2 b off sp e)), h3'.sel.grown hgrow (fun b off sp e => Ne.symm (f3 b off sp e)), h3'.tols.grown hgrow (fun b off sp e => Ne.symm (f4 b off sp e))⟩,
      hwz.up (Nat.le_refl _) (by omega), fun b off sp e => ne b (hwz.1 b off sp e).2 (f1 b off sp e), fun b off sp e => ne b (hwz.2.1 b off sp e).2 (f2 b off sp e), fun b off sp e => ne b (hwz.2.2.1 b off sp e).2 (f3 b off sp e), fun b off sp e => ne b (hwz.2.2.2 b off sp e).2 (f4 b off sp e)⟩
  intro z hzm
  rcases List.mem_append.1 hzm with hzm | hzm
  · obtain ⟨h0, h1, h2, h3, h4, h5⟩ := hv z hzm
    exact key z (PodAt.kept h0 k) (h1.up (Nat.le_refl _) hk) h2 h3 h4 h5
  · obtain rfl : z = z0 := by simpa using hzm
    exact key z hz (hw.up (Nat.zero_le _) (Nat.le_refl _)) (fun b off sp e f => by have := (hw.1 b off sp e).1; have := hown b f; omega) (fun b off sp e f => by have := (hw.2.1 b off sp e).1; have := hown b f; omega) (fun b off sp e f => by have := (hw.2.2.1 b off sp e).1; have := hown b f; omega) (fun b off sp e f => by have := (hw.2.2.2 b off sp e).1; have := hown b f; omega)
theorem pods_own {w : World} {T : TypeId} {B : Nat} {v : Value} {lx : List PX} (ho : Own PodLay0 T w B v lx) (hf : ∀ z ∈ lx, At4 w z) : PodsR w v (lx.map fun z => z.1) := by
  obtain ⟨a, cap, rfl, h1, h2, h3⟩ := ho.at_
  obtain ⟨g0, g1, g2, g3⟩ := h3
  refine ⟨a, cap, by rw [List.length_map], by rw [List.length_map]; exact h1, h2, rfl, by rw [List.length_map]; exact g1, ?_⟩
  rw [List.length_map]
  rcases g3 with g3 | ⟨b, off, rfl, hb, hc⟩
  · exact .inl g3
  · refine .inr ⟨b, off, rfl, hb, fun i n hi => ?_⟩
    rw [List.getElem?_map] at hi
    obtain ⟨z, hz, rfl⟩ := Option.map_eq_some_iff.1 hi
    exact ⟨slV z.2.1, slV z.2.2.1, slV z.2.2.2.1, slV z.2.2.2.2, hc i z 0 _ hz rfl, hc i z 1 _ hz rfl, hc i z 2 _ hz rfl, hc i z 3 _ hz rfl, hc i z 4 _ hz rfl, hc i z 5 _ hz rfl, hc i z 6 _ hz rfl, hc i z 7 _ hz rfl, hc i z 8 _ hz rfl, hc i z 9 _ hz rfl, hc i z 10 _ hz rfl, hf z (List.mem_of_getElem? hz)⟩
theorem infoRP : (Tryz.prog.info? 38).map (fun i => (i.zero, i.size, i.bytes)) = some (some (.agg #[.string ByteArray.empty, .string ByteArray.empty, .int .i64 0, .slice none 0 0, .slice none 0 0, .slice none 0 0, .slice none 0 0, .string ByteArray.empty, .int .i64 0, .string ByteArray.empty, .bool false]), 11, 184) := by kernel_rfl

end Go.Proofs.YtflllkpnkcmegaaGreatDoor
