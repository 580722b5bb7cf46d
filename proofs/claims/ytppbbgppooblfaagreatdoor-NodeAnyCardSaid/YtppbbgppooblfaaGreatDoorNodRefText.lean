/- The reference's NodeText. -/
import Derived.Test.YtppbbgppooblfaaGreatDoorNodA
namespace Go.Proofs.YtppbbgppooblfaaGreatDoor
open Go.RowKit
set_option linter.unusedVariables false

theorem last_cordon (x : ByteArray) : x ++ ⟨#[32]⟩ ++ lastB true = x ++ ⟨#[32, 99, 111, 114, 100, 111, 110]⟩ := by
  apply Go.WideShapes.bytes_inj
  simp [lastB, ByteArray.data_append]
theorem last_up (x : ByteArray) : x ++ ⟨#[32]⟩ ++ lastB false = x ++ ⟨#[32, 117, 112]⟩ := by
  apply Go.WideShapes.bytes_inj
  simp [lastB, ByteArray.data_append]

set_option maxRecDepth 100000 in
set_option maxHeartbeats 1600000 in
theorem rtextN_any (n : Nod) (v1 v2 v3 : Value) (w : World) (h : NodAt w v1 v2 v3 n) (hm : MidNod n) :
    Calls Tryz.prog 49 #[NodV n v1 v2 v3] w (Say (.string (textN n)) w) := by
  obtain ⟨A, hA⟩ : ∃ A, bytes (Vec.textV n.cap) = A := ⟨_, rfl⟩
  obtain ⟨B, hB⟩ : ∃ B, textS n.labels = B := ⟨_, rfl⟩
  obtain ⟨C, hC⟩ : ∃ C, textA n.taints = C := ⟨_, rfl⟩
  obtain ⟨x, hx⟩ : ∃ x, n.name = x := ⟨_, rfl⟩
  obtain ⟨c, hc⟩ : ∃ c, n.cordon = c := ⟨_, rfl⟩
  have HV := Lib.hid (show textN n = x ++ ⟨#[32]⟩ ++ A ++ ⟨#[32]⟩ ++ B ++ ⟨#[32]⟩ ++ C ++ ⟨#[32]⟩ ++ lastB c by unfold textN; rw [hA, hB, hC, hx, hc])
  have sA : A.size ≤ 2000 := by rw [← hA]; exact textV_few hm.cap h.cap.fine
  have sB : B.size ≤ 3000000000000 := by rw [← hB]; exact textS_size hm.labels.1 hm.labels.2
  have sC : C.size ≤ 3000000000000 := by rw [← hC]; exact textA_size hm.taints.1 hm.taints.2
  have sx : x.size ≤ 1000000 := by rw [← hx]; exact hm.name
  have H1 := Lib.hid (fun W (k : Kept w W) => Vec.rtextR (h.cap.kept k) hm.cap rfl)
  have H2 := Lib.hid (fun W (k : Kept w W) => refTextR (h.labels.kept k) hm.labels.2 hm.labels.1)
  have H3 := Lib.hid (fun W (k : Kept w W) => refTextAR (h.taints.kept k) hm.taints.2 hm.taints.1)
  rw [hA] at H1
  rw [hB] at H2
  rw [hC] at H3
  unfold NodV
  rw [hc, hx]
  obtain ⟨W0, hW0⟩ : ∃ W0, w.alloc (.cells #[.string x, v1, v2, v3, .bool c] 58) = W0 := ⟨_, rfl⟩
  have K0 := Lib.hid (show Kept w W0 by rw [← hW0]; exact kept_alloc _ _)
  have HC := Lib.hid (show ∀ W, Kept W0 W → W.cell? ⟨w.heap.size, 0, none⟩ = some (.string x) ∧ W.cell? ⟨w.heap.size, 1, none⟩ = some v1 ∧ W.cell? ⟨w.heap.size, 2, none⟩ = some v2 ∧ W.cell? ⟨w.heap.size, 3, none⟩ = some v3 ∧ W.cell? ⟨w.heap.size, 4, none⟩ = some (.bool c) from fun W k => by
    have hh := w.alloc_heap_new (.cells #[.string x, v1, v2, v3, .bool c] 58)
    rw [hW0] at hh
    exact ⟨cell_later k (by rw [Lib.cell_of_heap hh]; rfl), cell_later k (by rw [Lib.cell_of_heap hh]; rfl), cell_later k (by rw [Lib.cell_of_heap hh]; rfl), cell_later k (by rw [Lib.cell_of_heap hh]; rfl), cell_later k (by rw [Lib.cell_of_heap hh]; rfl)⟩)
  have adz : (⟨#[32]⟩ : ByteArray).size = 1 := rfl
  have ad1 : ∀ W, (Op.stringOp .add (x) (⟨#[32]⟩ : ByteArray)).run Tryz.prog W = .ok (.string (x ++ (⟨#[32]⟩ : ByteArray))) W := fun W => run_string_add_sum W _ _ (by omega)
  have ad2 : ∀ W, (Op.stringOp .add (x ++ (⟨#[32]⟩ : ByteArray)) A).run Tryz.prog W = .ok (.string (x ++ (⟨#[32]⟩ : ByteArray) ++ A)) W := fun W => run_string_add_sum W _ _ (by rw [ByteArray.size_append]; omega)
  have ad3 : ∀ W, (Op.stringOp .add (x ++ (⟨#[32]⟩ : ByteArray) ++ A) (⟨#[32]⟩ : ByteArray)).run Tryz.prog W = .ok (.string (x ++ (⟨#[32]⟩ : ByteArray) ++ A ++ (⟨#[32]⟩ : ByteArray))) W := fun W => run_string_add_sum W _ _ (by rw [ByteArray.size_append, ByteArray.size_append]; omega)
  have ad4 : ∀ W, (Op.stringOp .add (x ++ (⟨#[32]⟩ : ByteArray) ++ A ++ (⟨#[32]⟩ : ByteArray)) B).run Tryz.prog W = .ok (.string (x ++ (⟨#[32]⟩ : ByteArray) ++ A ++ (⟨#[32]⟩ : ByteArray) ++ B)) W := fun W => run_string_add_sum W _ _ (by rw [ByteArray.size_append, ByteArray.size_append, ByteArray.size_append]; omega)
  have ad5 : ∀ W, (Op.stringOp .add (x ++ (⟨#[32]⟩ : ByteArray) ++ A ++ (⟨#[32]⟩ : ByteArray) ++ B) (⟨#[32]⟩ : ByteArray)).run Tryz.prog W = .ok (.string (x ++ (⟨#[32]⟩ : ByteArray) ++ A ++ (⟨#[32]⟩ : ByteArray) ++ B ++ (⟨#[32]⟩ : ByteArray))) W := fun W => run_string_add_sum W _ _ (by rw [ByteArray.size_append, ByteArray.size_append, ByteArray.size_append, ByteArray.size_append]; omega)
  have ad6 : ∀ W, (Op.stringOp .add (x ++ (⟨#[32]⟩ : ByteArray) ++ A ++ (⟨#[32]⟩ : ByteArray) ++ B ++ (⟨#[32]⟩ : ByteArray)) C).run Tryz.prog W = .ok (.string (x ++ (⟨#[32]⟩ : ByteArray) ++ A ++ (⟨#[32]⟩ : ByteArray) ++ B ++ (⟨#[32]⟩ : ByteArray) ++ C)) W := fun W => run_string_add_sum W _ _ (by rw [ByteArray.size_append, ByteArray.size_append, ByteArray.size_append, ByteArray.size_append, ByteArray.size_append]; omega)
  have af_true : ∀ W, (Op.stringOp .add (x ++ (⟨#[32]⟩ : ByteArray) ++ A ++ (⟨#[32]⟩ : ByteArray) ++ B ++ (⟨#[32]⟩ : ByteArray) ++ C) (⟨#[32, 99, 111, 114, 100, 111, 110]⟩ : ByteArray)).run Tryz.prog W = .ok (.string (x ++ (⟨#[32]⟩ : ByteArray) ++ A ++ (⟨#[32]⟩ : ByteArray) ++ B ++ (⟨#[32]⟩ : ByteArray) ++ C ++ (⟨#[32, 99, 111, 114, 100, 111, 110]⟩ : ByteArray))) W := fun W => run_string_add_sum W _ _ (by
    have z : (⟨#[32, 99, 111, 114, 100, 111, 110]⟩ : ByteArray).size = 7 := rfl
    rw [ByteArray.size_append, ByteArray.size_append, ByteArray.size_append, ByteArray.size_append, ByteArray.size_append, ByteArray.size_append]; omega)
  have af_false : ∀ W, (Op.stringOp .add (x ++ (⟨#[32]⟩ : ByteArray) ++ A ++ (⟨#[32]⟩ : ByteArray) ++ B ++ (⟨#[32]⟩ : ByteArray) ++ C) (⟨#[32, 117, 112]⟩ : ByteArray)).run Tryz.prog W = .ok (.string (x ++ (⟨#[32]⟩ : ByteArray) ++ A ++ (⟨#[32]⟩ : ByteArray) ++ B ++ (⟨#[32]⟩ : ByteArray) ++ C ++ (⟨#[32, 117, 112]⟩ : ByteArray))) W := fun W => run_string_add_sum W _ _ (by
    have z : (⟨#[32, 117, 112]⟩ : ByteArray).size = 3 := rfl
    rw [ByteArray.size_append, ByteArray.size_append, ByteArray.size_append, ByteArray.size_append, ByteArray.size_append, ByteArray.size_append]; omega)
  clear hA hB hC hx hc sA sB sC sx h hm adz
  have hsum : ∀ d, textN n = x ++ ⟨#[32]⟩ ++ A ++ ⟨#[32]⟩ ++ B ++ ⟨#[32]⟩ ++ C ++ ⟨#[32]⟩ ++ lastB d → textN n = x ++ ⟨#[32]⟩ ++ A ++ ⟨#[32]⟩ ++ B ++ ⟨#[32]⟩ ++ C ++ (if d = true then ⟨#[32, 99, 111, 114, 100, 111, 110]⟩ else ⟨#[32, 117, 112]⟩) := by
    intro d h
    rw [h]
    cases d
    · exact last_up _
    · exact last_cordon _
  have HS := Lib.hid (hsum c HV.out)
  clear hsum HV
  cases c
  · have HS := Lib.hid (show textN n = x ++ ⟨#[32]⟩ ++ A ++ ⟨#[32]⟩ ++ B ++ ⟨#[32]⟩ ++ C ++ ⟨#[32, 117, 112]⟩ from HS.out)
    rw [HS.out]
    clear HS
    go_enter Tryz.func49, Tryz.ntmps49
    go_wp2
    try rw [hW0]
    go_region_held3 (fun W => W.cell? ⟨w.heap.size, 0, none⟩ = some (.string x) ∧ W.cell? ⟨w.heap.size, 1, none⟩ = some v1 ∧ W.cell? ⟨w.heap.size, 2, none⟩ = some v2 ∧ W.cell? ⟨w.heap.size, 3, none⟩ = some v3)
      (first | exact ⟨(HC.out _ (Kept.drew _)).1, (HC.out _ (Kept.drew _)).2.1, (HC.out _ (Kept.drew _)).2.2.1, (HC.out _ (Kept.drew _)).2.2.2.1⟩ | exact ⟨(HC.out _ K1.out).1, (HC.out _ K1.out).2.1, (HC.out _ K1.out).2.2.1, (HC.out _ K1.out).2.2.2.1⟩ | exact ⟨(HC.out _ K2.out).1, (HC.out _ K2.out).2.1, (HC.out _ K2.out).2.2.1, (HC.out _ K2.out).2.2.2.1⟩ | exact ⟨(HC.out _ K3.out).1, (HC.out _ K3.out).2.1, (HC.out _ K3.out).2.2.1, (HC.out _ K3.out).2.2.2.1⟩)
      (first | (go_at_call 22; refine (H1.out _ (K0.out.trans (Kept.drew _))).mono ?_; rintro e1 w1 ⟨rfl, k1⟩; have K1 := Lib.hid ((Kept.drew _).trans k1); clear k1)
             | (go_at_call 124; refine (H2.out _ (K0.out.trans K1.out)).mono ?_; rintro e2 w2 ⟨rfl, k2⟩; have K2 := Lib.hid (K1.out.trans k2); clear k2)
             | (go_at_call 125; refine (H3.out _ (K0.out.trans K2.out)).mono ?_; rintro e3 w3 ⟨rfl, k3⟩; have K3 := Lib.hid (K2.out.trans k3); clear k3))
    have c4 := (HC.out _ K3.out).2.2.2.2
    go_wp2
    go_ret
    exact ⟨rfl, K0.out.trans K3.out⟩
  · have HS := Lib.hid (show textN n = x ++ ⟨#[32]⟩ ++ A ++ ⟨#[32]⟩ ++ B ++ ⟨#[32]⟩ ++ C ++ ⟨#[32, 99, 111, 114, 100, 111, 110]⟩ from HS.out)
    rw [HS.out]
    clear HS
    go_enter Tryz.func49, Tryz.ntmps49
    go_wp2
    try rw [hW0]
    go_region_held3 (fun W => W.cell? ⟨w.heap.size, 0, none⟩ = some (.string x) ∧ W.cell? ⟨w.heap.size, 1, none⟩ = some v1 ∧ W.cell? ⟨w.heap.size, 2, none⟩ = some v2 ∧ W.cell? ⟨w.heap.size, 3, none⟩ = some v3)
      (first | exact ⟨(HC.out _ (Kept.drew _)).1, (HC.out _ (Kept.drew _)).2.1, (HC.out _ (Kept.drew _)).2.2.1, (HC.out _ (Kept.drew _)).2.2.2.1⟩ | exact ⟨(HC.out _ K1.out).1, (HC.out _ K1.out).2.1, (HC.out _ K1.out).2.2.1, (HC.out _ K1.out).2.2.2.1⟩ | exact ⟨(HC.out _ K2.out).1, (HC.out _ K2.out).2.1, (HC.out _ K2.out).2.2.1, (HC.out _ K2.out).2.2.2.1⟩ | exact ⟨(HC.out _ K3.out).1, (HC.out _ K3.out).2.1, (HC.out _ K3.out).2.2.1, (HC.out _ K3.out).2.2.2.1⟩)
      (first | (go_at_call 22; refine (H1.out _ (K0.out.trans (Kept.drew _))).mono ?_; rintro e1 w1 ⟨rfl, k1⟩; have K1 := Lib.hid ((Kept.drew _).trans k1); clear k1)
             | (go_at_call 124; refine (H2.out _ (K0.out.trans K1.out)).mono ?_; rintro e2 w2 ⟨rfl, k2⟩; have K2 := Lib.hid (K1.out.trans k2); clear k2)
             | (go_at_call 125; refine (H3.out _ (K0.out.trans K2.out)).mono ?_; rintro e3 w3 ⟨rfl, k3⟩; have K3 := Lib.hid (K2.out.trans k3); clear k3))
    have c4 := (HC.out _ K3.out).2.2.2.2
    go_wp2
    go_ret
    exact ⟨rfl, K0.out.trans K3.out⟩
theorem rtextNR {v : Value} {n : Nod} {t : ByteArray} {w : World} (h : NodR w v n) (hm : MidNod n) (ht : textN n = t) : Calls Tryz.prog 49 #[v] w (Say (.string t) w) := by
  subst ht
  obtain ⟨v1, v2, v3, rfl, h⟩ := h
  exact rtextN_any n v1 v2 v3 w h hm

end Go.Proofs.YtppbbgppooblfaaGreatDoor
