/- A node's text read: the reference. -/
import Derived.Test.YtfpgekjhcfoohaaGreatNodB
import Derived.Test.YtfpgekjhcfoohaaGreatLab
import Derived.Test.YtfpgekjhcfoohaaGreatTai
import Derived.Test.YtfpgekjhcfoohaaGreatResC
import Derived.BigRegion
set_option linter.unusedVariables false
namespace Go.Proofs.YtfpgekjhcfoohaaGreat
open Go.RowKit
def NoRow (W : World) (N : Nat) : Prop := ∀ o x u, W.cell? ⟨N, o, none⟩ = some (.string x) → W.cell? ⟨N, o + 1, none⟩ = some u → ∃ a n c, u = .slice a n c
theorem no_row {W : World} {N : Nat} {x : ByteArray} {a1 a2 a3 : Option Addr} {m1 c1 m2 c2 m3 c3 : Nat} {b : Bool} {T : TypeId} {fr : Nat × Nat} (hh : W.heap[N]? = some (.cells #[.string x, .slice a1 m1 c1, .slice a2 m2 c2, .slice a3 m3 c3, .bool b] T fr)) : NoRow W N := by
 intro o y u h1 h2
 rw [Lib.cell_of_heap hh] at h1 h2
 match o, h1, h2 with
 | 0, _, h2 => exact ⟨a1, m1, c1, by simpa using h2.symm⟩
 | 1, h1, _ => simp at h1
 | 2, h1, _ => simp at h1
 | 3, h1, _ => simp at h1
 | 4, h1, _ => simp at h1
 | o + 5, h1, _ => simp at h1
theorem vec_past {w w' : World} {v : Value} {l : Vec.V} {N : Nat} (h : Vec.Reads w v l) (hs : w'.heap.size = w.heap.size) (hb : ∀ b, b ≠ N → w'.heap[b]? = w.heap[b]?) (hn : NoRow w N) : Vec.Reads w' v l := by
 obtain ⟨a, cap, rfl, h1, h2, h3, h4, h5, h6⟩ := h
 refine ⟨a, cap, rfl, h1, h2, h3, h4, h5, ?_⟩
 rcases h6 with h6 | ⟨b, off, rfl, hlt, hc⟩
 · exact .inl h6
 · by_cases h0 : l.length = 0
   · exact .inl h0
   · have hne : b ≠ N := by
      rintro rfl
      obtain ⟨c0, c1⟩ := hc 0 (by omega)
      obtain ⟨_, _, _, e⟩ := hn _ _ _ c0 c1
      cases e
     exact .inr ⟨b, off, rfl, by rw [hs]; exact hlt, fun i hi => ⟨(World.cell?_of_block (a := ⟨b, off + i * 2, none⟩) (hb b hne)).trans (hc i hi).1, (World.cell?_of_block (a := ⟨b, off + i * 2 + 1, none⟩) (hb b hne)).trans (hc i hi).2⟩⟩
theorem reads_past {α : Type} {L : Lay α} {w w' : World} {v : Value} {l : List α} {N : Nat} (hL : ∀ x, ∃ s t, (L.cs x)[0]? = some (.string s) ∧ (L.cs x)[1]? = some (.string t)) (h : Reads L w v l) (hs : w'.heap.size = w.heap.size) (hb : ∀ b, b ≠ N → w'.heap[b]? = w.heap[b]?) (hn : NoRow w N) : Reads L w' v l := by
 obtain ⟨a, cap, rfl, h1, h2, h3, h4, h5, h6⟩ := h
 refine ⟨a, cap, rfl, h1, h2, h3, h4, h5, ?_⟩
 rcases h6 with h6 | ⟨b, off, rfl, hlt, hc⟩
 · exact .inl h6
 · cases l with
   | nil => exact .inl rfl
   | cons x t =>
    have hne : b ≠ N := by
     rintro rfl
     obtain ⟨s, u, g0, g1⟩ := hL x
     have c0 := hc 0 x 0 _ rfl g0
     have c1 := hc 0 x 1 _ rfl g1
     obtain ⟨_, _, _, e⟩ := hn _ _ _ c0 c1
     cases e
    exact .inr ⟨b, off, rfl, by rw [hs]; exact hlt, fun i x j u hi hj => (World.cell?_of_block (a := ⟨b, off + i * L.m + j, none⟩) (hb b hne)).trans (hc i x j u hi hj)⟩
theorem past_P (x : ByteArray × ByteArray) : ∃ s t, (PairLay.cs x)[0]? = some (.string s) ∧ (PairLay.cs x)[1]? = some (.string t) := ⟨x.1, x.2, rfl, rfl⟩
theorem past_A (x : NT) : ∃ s t, (TaLay.cs x)[0]? = some (.string s) ∧ (TaLay.cs x)[1]? = some (.string t) := ⟨x.1, x.2.1, rfl, rfl⟩
theorem node_past {w w' : World} {v1 v2 v3 : Value} {n : Nod} {N : Nat} (h : NodAt w v1 v2 v3 n) (hs : w'.heap.size = w.heap.size) (hb : ∀ b, b ≠ N → w'.heap[b]? = w.heap[b]?) (hn : NoRow w N) : NodAt w' v1 v2 v3 n :=
 ⟨h.size, vec_past h.cap hs hb hn, reads_past past_P h.labels hs hb hn, reads_past past_A h.taints hs hb hn⟩
end Go.Proofs.YtfpgekjhcfoohaaGreat
