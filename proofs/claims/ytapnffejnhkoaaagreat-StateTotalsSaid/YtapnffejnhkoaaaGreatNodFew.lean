/- Whether a node is short. -/
import Derived.Test.YtapnffejnhkoaaaGreatNodOf
import Derived.Test.YtapnffejnhkoaaaGreatLab
import Derived.Test.YtapnffejnhkoaaaGreatTai
namespace Go.Proofs.YtapnffejnhkoaaaGreat
open Go.RowKit
set_option linter.unusedVariables false

def fewNod (n : Nod) : Bool := decide (n.name.size ≤ 50) && (Vec.fewV n.cap && (fewS n.labels && fewN n.taints))
theorem few_low {n : Nod} (h : fewNod n = true) : LowNod n := by
  unfold fewNod at h
  simp only [Bool.and_eq_true, decide_eq_true_eq] at h
  obtain ⟨_, h1, h2, h3⟩ := h
  refine ⟨?_, ?_, ?_⟩
  · unfold Vec.fewV at h1; simp only [Bool.and_eq_true, decide_eq_true_eq] at h1; omega
  · unfold fewS at h2; simp only [Bool.and_eq_true, decide_eq_true_eq] at h2; omega
  · have := (few_mid h3).1; omega
set_option maxRecDepth 100000 in
set_option maxHeartbeats 4000000 in
theorem fewNod_any (n : Nod) (v1 v2 v3 : Value) (w : World) (h : NodAt w v1 v2 v3 n) :
    Calls Tryz.prog 49 #[NodV n v1 v2 v3] w (Say (.bool (fewNod n)) w) := by
  have HB := Lib.hid (show ∀ W, Kept (w.alloc (.cells #[.string n.name, v1, v2, v3, .bool n.cordon] 39)) W → W.cell? ⟨w.heap.size, 0, none⟩ = some (.string n.name) ∧ W.cell? ⟨w.heap.size, 1, none⟩ = some v1 ∧ W.cell? ⟨w.heap.size, 2, none⟩ = some v2 ∧ W.cell? ⟨w.heap.size, 3, none⟩ = some v3 ∧ W.cell? ⟨w.heap.size, 4, none⟩ = some (.bool n.cordon) from fun W k => (fresh5 w _ _ _ _ _ 39 W k).1)
  have H := Lib.hid (h.kept (kept_alloc w (.cells #[.string n.name, v1, v2, v3, .bool n.cordon] 39)))
  obtain ⟨⟨nm, l1, l2, l3, cd⟩, hnn⟩ : ∃ m, m = n := ⟨n, rfl⟩
  subst hnn
  have hsz : nm.size ≤ maxLen := h.size
  unfold maxLen at hsz
  obtain ⟨b1, hb1⟩ : ∃ b, Vec.fewV l1 = b := ⟨_, rfl⟩
  obtain ⟨b2, hb2⟩ : ∃ b, fewS l2 = b := ⟨_, rfl⟩
  obtain ⟨b3, hb3⟩ : ∃ b, fewN l3 = b := ⟨_, rfl⟩
  have HV := Lib.hid (show fewNod ⟨nm, l1, l2, l3, cd⟩ = (decide (nm.size ≤ 50) && (b1 && (b2 && b3))) by unfold fewNod; dsimp only; rw [hb1, hb2, hb3])
  have H1 := Lib.hid (Vec.fewR H.out.cap hb1)
  have H2 := Lib.hid (show Calls Tryz.prog 94 #[v2] _ fun e w' => e = .returned (.bool b2) ∧ _ = w' by rw [← hb2]; exact fewR H.out.labels)
  have H3 := Lib.hid (show Calls Tryz.prog 95 #[v3] _ fun e w' => e = .returned (.bool b3) ∧ _ = w' by rw [← hb3]; exact fewAR H.out.taints)
  clear h hb1 hb2 hb3 H
  dsimp only at HB H1 H2 H3
  obtain ⟨y0, y1, y2, y3, y4⟩ := HB.out _ (Kept.refl _)
  unfold NodV
  dsimp only
  by_cases hs : nm.size ≤ 50
  · have hs' : decide (nm.size ≤ 50) = true := decide_eq_true hs
    have hsi : (nm.size : Int) ≤ 50 := by omega
    cases b1 with
    | false =>
      go_enter Tryz.func49, Tryz.ntmps49
      go_wp2_with fail
      refine H1.out.mono ?_
      rintro e w' ⟨rfl, rfl⟩
      go_wp2
      go_ret
      exact ⟨ret_bool (by rw [HV.out, hs']; rfl), kept_alloc _ _⟩
    | true =>
      cases b2 with
      | false =>
        go_enter Tryz.func49, Tryz.ntmps49
        go_wp2_with fail
        refine H1.out.mono ?_
        rintro e w' ⟨rfl, rfl⟩
        go_wp2_with fail
        refine H2.out.mono ?_
        rintro e w' ⟨rfl, rfl⟩
        go_wp2
        go_ret
        exact ⟨ret_bool (by rw [HV.out, hs']; rfl), kept_alloc _ _⟩
      | true =>
        go_enter Tryz.func49, Tryz.ntmps49
        go_wp2_with fail
        refine H1.out.mono ?_
        rintro e w' ⟨rfl, rfl⟩
        go_wp2_with fail
        refine H2.out.mono ?_
        rintro e w' ⟨rfl, rfl⟩
        go_wp2_with fail
        refine H3.out.mono ?_
        rintro e w' ⟨rfl, rfl⟩
        go_wp2
        go_ret
        exact ⟨ret_bool (by rw [HV.out, hs']; cases b3 <;> rfl), kept_alloc _ _⟩
  · have hs' : decide (nm.size ≤ 50) = false := decide_eq_false hs
    have hsi : (50 : Int) < (nm.size : Int) := by omega
    go_enter Tryz.func49, Tryz.ntmps49
    go_wp2
    go_ret
    exact ⟨ret_bool (by rw [HV.out, hs']; rfl), kept_alloc _ _⟩
theorem fewNodR {v : Value} {n : Nod} {b : Bool} {w : World} (h : NodR w v n) (hb : fewNod n = b) : Calls Tryz.prog 49 #[v] w (Say (.bool b) w) := by
  subst hb
  obtain ⟨v1, v2, v3, rfl, h⟩ := h
  exact fewNod_any n v1 v2 v3 w h

end Go.Proofs.YtapnffejnhkoaaaGreat
