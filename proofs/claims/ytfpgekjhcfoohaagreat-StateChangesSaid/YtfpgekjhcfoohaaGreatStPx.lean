/- Pods: a row of them as a row of cells; appended to. -/
import Derived.Test.YtfpgekjhcfoohaaGreatPodOfAll
import Derived.Test.YtfpgekjhcfoohaaGreatBase
set_option linter.unusedVariables false
namespace Go.Proofs.YtfpgekjhcfoohaaGreat
open Go.RowKit
theorem RowAt.preP {α : Type} {L : Lay α} {w : World} {b off len : Nat} {l : List α} {k : Nat} (h : RowAt L w (some ⟨b, off, none⟩) len l) (hk : k ≤ l.length) : RowAt L w (some ⟨b, off, none⟩) k (l.take k) := by
 have := h.part 0 k (by have := h.1; omega)
 simpa using this
theorem RowAt.postP {α : Type} {L : Lay α} {w : World} {b off len : Nat} {l : List α} {k : Nat} (h : RowAt L w (some ⟨b, off, none⟩) len l) (hk : k ≤ l.length) : RowAt L w (some ⟨b, off + k * L.m, none⟩) (l.length - k) (l.drop k) := by
 have := h.part k (l.length - k) (by have := h.1; omega)
 rw [List.take_of_length_le (by rw [List.length_drop]; omega)] at this
 exact this
theorem pods_px {w : World} {a : Option Addr} {len : Nat} {l : List Pd} (h : PodsAt w a len l) : ∃ lx : List PX, (lx.map fun z => z.1) = l ∧ RowAt PodLay0 w a len lx ∧ ∀ z ∈ lx, At4 w z := by
 obtain ⟨h0, h1, h2⟩ := h
 rcases h2 with h2 | ⟨b, off, rfl, hb, hc⟩
 · have : l = [] := List.eq_nil_of_length_eq_zero (by omega)
   subst this
   subst h2
   exact ⟨[], rfl, RowAt.nil w a, fun z hz => absurd hz (by simp)⟩
 · have step : ∀ m, m ≤ l.length → ∃ lx : List PX, (lx.map fun z => z.1) = l.take m ∧ (∀ i x j u, lx[i]? = some x → (PodLay0.cs x)[j]? = some u → w.cell? ⟨b, off + i * 11 + j, none⟩ = some u) ∧ ∀ z ∈ lx, At4 w z := by
    intro m
    induction m with
    | zero => exact fun _ => ⟨[], rfl, fun i x j u hi => by simp at hi, fun z hz => absurd hz (by simp)⟩
    | succ m ih =>
     intro hm
     obtain ⟨lx, e, hcell, hat⟩ := ih (by omega)
     obtain ⟨n, hn⟩ : ∃ n, l[m]? = some n := ⟨_, List.getElem?_eq_getElem (by omega)⟩
     obtain ⟨v1, v2, v3, v4, p0, p1, p2, p3, p4, p5, p6, p7, p8, p9, p10, hp⟩ := hc m n hn
     obtain ⟨b1, n1, d1, b2, n2, d2, b3, n3, d3, b4, n4, d4, rfl, rfl, rfl, rfl⟩ := hp.spelt
     have hlen : lx.length = m := by
      have := congrArg List.length e
      rw [List.length_map, List.length_take] at this; omega
     refine ⟨lx ++ [(n, (b1, n1, d1), (b2, n2, d2), (b3, n3, d3), (b4, n4, d4))], ?_, ?_, ?_⟩
     · rw [List.map_append, e, take_snoc hn]; rfl
     · intro i x j u hi hj
       by_cases him : i < m
       · rw [List.getElem?_append_left (by omega)] at hi
         exact hcell i x j u hi hj
       · have hi2 := (List.getElem?_eq_some_iff.1 hi).1
         rw [List.length_append, List.length_singleton] at hi2
         obtain rfl : i = m := by omega
         rw [List.getElem?_append_right (by omega), hlen, Nat.sub_self] at hi
         obtain rfl := Option.some.inj hi
         match j, hj with
         | 0, hj => obtain rfl := Option.some.inj hj; exact p0
         | 1, hj => obtain rfl := Option.some.inj hj; exact p1
         | 2, hj => obtain rfl := Option.some.inj hj; exact p2
         | 3, hj => obtain rfl := Option.some.inj hj; exact p3
         | 4, hj => obtain rfl := Option.some.inj hj; exact p4
         | 5, hj => obtain rfl := Option.some.inj hj; exact p5
         | 6, hj => obtain rfl := Option.some.inj hj; exact p6
         | 7, hj => obtain rfl := Option.some.inj hj; exact p7
         | 8, hj => obtain rfl := Option.some.inj hj; exact p8
         | 9, hj => obtain rfl := Option.some.inj hj; exact p9
         | 10, hj => obtain rfl := Option.some.inj hj; exact p10
         | j + 11, hj => simp [PodLay0] at hj
     · intro z hz
       rcases List.mem_append.1 hz with hz | hz
       · exact hat z hz
       · obtain rfl : z = _ := List.mem_singleton.1 hz
         exact PodAt.at4 hp
   obtain ⟨lx, e, hcell, hat⟩ := step l.length (Nat.le_refl _)
   rw [List.take_of_length_le (Nat.le_refl _)] at e
   have hl : lx.length = len := by rw [← h0, ← e, List.length_map]
   exact ⟨lx, e, ⟨hl, h1, fun _ _ => trivial, .inr ⟨b, off, rfl, hb, hcell⟩⟩, hat⟩
end Go.Proofs.YtfpgekjhcfoohaaGreat
