/- Short rows are told shortly. -/
import Derived.Test.YtppbbgppooblfaaGreatDoorNodA
import Derived.Test.YtppbbgppooblfaaGreatDoorNodFew
namespace Go.Proofs.YtppbbgppooblfaaGreatDoor
open Go.RowKit
set_option linter.unusedVariables false

theorem fewS_parts {l : PL} (h : fewS l = true) : l.length ≤ 20 ∧ ∀ x ∈ l, x.1.size ≤ 50 ∧ x.2.size ≤ 50 := by
  unfold fewS at h
  simp only [Bool.and_eq_true, decide_eq_true_eq, List.all_eq_true] at h
  refine ⟨h.1, fun x hx => ?_⟩
  have := h.2 x hx
  unfold fewP at this
  simpa only [Bool.and_eq_true, decide_eq_true_eq] using this
theorem one_size (c : UInt8) : (⟨#[c]⟩ : ByteArray).size = 1 := rfl
theorem textS_short {l : PL} (h : fewS l = true) : (textS l).size ≤ 5000 := by
  obtain ⟨h1, h2⟩ := fewS_parts h
  unfold textS
  split
  · decide
  · have := joinB_short (ts := l.map pairB) (B := 101) (fun z hz => by
      obtain ⟨x, hx, rfl⟩ := List.mem_map.1 hz
      have := h2 x hx
      unfold pairB
      rw [ByteArray.size_append, ByteArray.size_append, one_size]
      omega)
    rw [List.length_map] at this
    omega
theorem textA_short {l : NL} (h : fewN l = true) : (textA l).size ≤ 5000 := by
  obtain ⟨h1, h2⟩ := few_mid h
  unfold textA
  split
  · decide
  · have := joinB_short (ts := l.map taintB) (B := 102) (fun z hz => by
      obtain ⟨x, hx, rfl⟩ := List.mem_map.1 hz
      have := h2 x hx
      unfold taintB
      split
      · rw [ByteArray.size_append, ByteArray.size_append, ByteArray.size_append, one_size, one_size]; omega
      · rw [ByteArray.size_append, ByteArray.size_append, one_size]; omega)
    rw [List.length_map] at this
    omega
theorem few_parts {n : Nod} (h : fewNod n = true) : n.name.size ≤ 50 ∧ Vec.fewV n.cap = true ∧ fewS n.labels = true ∧ fewN n.taints = true := by
  unfold fewNod at h
  simpa only [Bool.and_eq_true, decide_eq_true_eq] using h
theorem few_midN {n : Nod} (h : fewNod n = true) : MidNod n := by
  obtain ⟨h0, h1, h2, h3⟩ := few_parts h
  have a := fewS_parts h2
  have b := few_mid h3
  exact ⟨by omega, h1, ⟨by omega, fun x hx => by have := a.2 x hx; omega⟩, ⟨by omega, fun x hx => by have := b.2 x hx; omega⟩⟩
theorem textN_short {n : Nod} (h : fewNod n = true) (hf : Vec.Fine n.cap) : (textN n).size ≤ 900000 := by
  obtain ⟨h0, h1, h2, h3⟩ := few_parts h
  have a := textV_few h1 hf
  have b := textS_short h2
  have c := textA_short h3
  have d := lastB_size n.cordon
  have e : (bytes (Vec.textV n.cap)).size = (Vec.textV n.cap).length := bytes_size _
  unfold textN
  simp only [ByteArray.size_append, one_size]
  omega

end Go.Proofs.YtppbbgppooblfaaGreatDoor
