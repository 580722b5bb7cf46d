/- Whether any two states are the same: the law, walked. -/
import Derived.Test.YtfpgekjhcfoohaaGreatStE
import Derived.Test.YtfpgekjhcfoohaaGreatStC
import Derived.Test.YtfpgekjhcfoohaaGreatPodLow
import Derived.Deep.RegionHeld3
namespace Go.Proofs.YtfpgekjhcfoohaaGreat
open Go.RowKit
set_option linter.unusedVariables false

theorem few_lowS {s : Clu} (h : fewSt s = true) : LowClu s ∧ s.nodes.length ≤ 1000 ∧ s.pods.length ≤ 1000 ∧ s.buds.length ≤ 1000 := by
  unfold fewSt fewBs at h
  simp only [Bool.and_eq_true, decide_eq_true_eq, List.all_eq_true] at h
  obtain ⟨h1, h2, ⟨h3, h4⟩, h5, h6⟩ := h
  refine ⟨⟨fun n hn => few_low (h5 n hn), fun p hp => few_lowP (h6 p hp), fun n hn => ?_, by omega, by omega, by omega⟩, by omega, by omega, by omega⟩
  have := h4 n hn
  unfold fewBd fewL at this
  simp only [Bool.and_eq_true, decide_eq_true_eq] at this
  omega
set_option maxRecDepth 100000 in
set_option maxHeartbeats 12800000 in
theorem StateTwo_walk (v : Value) (s : Clu) (u : Value) (t : Clu) (w : World) (h : CluR w v s) (g : CluR w u t) : Calls Tryz.prog 3 #[v, u] w fun e w' => e = .returned (.bool true) ∧ Kept w w' := by
  obtain ⟨e1, he1⟩ : ∃ e, fewSt s = e := ⟨_, rfl⟩
  obtain ⟨e2, he2⟩ : ∃ e, fewSt t = e := ⟨_, rfl⟩
  obtain ⟨e3, he3⟩ : ∃ e, sameSt s t = e := ⟨_, rfl⟩
  have HE1 := Lib.hid he1
  have HE2 := Lib.hid he2
  have h0 := h
  have g0 := g
  obtain ⟨v1, v2, v3, rfl, ⟨a, cap, rfl, -, -, -⟩, ⟨b, cp, rfl, -, -, -⟩, ⟨d, cb, rfl, -, -, -⟩⟩ := h0
  obtain ⟨u1, u2, u3, rfl, ⟨a9, cap9, rfl, -, -, -⟩, ⟨b9, cp9, rfl, -, -, -⟩, ⟨d9, cb9, rfl, -, -, -⟩⟩ := g0
  obtain ⟨len, hllen⟩ : ∃ q, s.nodes.length = q := ⟨_, rfl⟩
  rw [hllen] at h ⊢
  clear hllen
  obtain ⟨m, hlm⟩ : ∃ q, s.pods.length = q := ⟨_, rfl⟩
  rw [hlm] at h ⊢
  clear hlm
  obtain ⟨n, hln⟩ : ∃ q, s.buds.length = q := ⟨_, rfl⟩
  rw [hln] at h ⊢
  clear hln
  obtain ⟨len9, hllen9⟩ : ∃ q, t.nodes.length = q := ⟨_, rfl⟩
  rw [hllen9] at g ⊢
  clear hllen9
  obtain ⟨m9, hlm9⟩ : ∃ q, t.pods.length = q := ⟨_, rfl⟩
  rw [hlm9] at g ⊢
  clear hlm9
  obtain ⟨n9, hln9⟩ : ∃ q, t.buds.length = q := ⟨_, rfl⟩
  rw [hln9] at g ⊢
  clear hln9
  obtain ⟨Z, hZ⟩ : ∃ Z, (w.alloc (.cells #[.slice a len cap, .slice b m cp, .slice d n cb] 26)).alloc (.cells #[.slice a9 len9 cap9, .slice b9 m9 cp9, .slice d9 n9 cb9] 26) = Z := ⟨_, rfl⟩
  have hkz : Kept w Z := by rw [← hZ]; exact kept_two _ _ _
  have HC := Lib.hid (show CellsN w.heap.size [.slice a len cap, .slice b m cp, .slice d n cb] Z from freshN w (.slice a len cap) [.slice b m cp, .slice d n cb] 26 Z (by rw [← hZ]; exact kept_alloc _ _))
  have HD := Lib.hid (show CellsN (w.heap.size + 1) [.slice a9 len9 cap9, .slice b9 m9 cp9, .slice d9 n9 cb9] Z by
    have dd := freshN (w.alloc (.cells #[.slice a len cap, .slice b m cp, .slice d n cb] 26)) (.slice a9 len9 cap9) [.slice b9 m9 cp9, .slice d9 n9 cb9] 26 Z (by rw [hZ]; exact Kept.refl _)
    rw [World.size_alloc] at dd
    exact dd)
  have HV := Lib.hid (h.kept hkz)
  have HU := Lib.hid (g.kept hkz)
  have HKZ := Lib.hid hkz
  clear h g hkz
  go_enter Tryz.func3, Tryz.ntmps3
  go_wp2_with fail
  try rw [hZ]
  clear hZ
  refine (knownSt_any Z).mono ?_
  rintro e w1 ⟨rfl, kk⟩
  have K1 := Lib.hid kk
  clear kk
  have cq0 := (HC.out.kept K1.out).at_ 0 _ rfl
  have cq1 := (HC.out.kept K1.out).at_ 1 _ rfl
  have cq2 := (HC.out.kept K1.out).at_ 2 _ rfl
  have dq0 := (HD.out.kept K1.out).at_ 0 _ rfl
  have dq1 := (HD.out.kept K1.out).at_ 1 _ rfl
  have dq2 := (HD.out.kept K1.out).at_ 2 _ rfl
  go_wp2_with fail
  refine (fewStR (HV.out.kept K1.out) he1).mono ?_
  rintro e w2 ⟨rfl, kk⟩
  have K2 := Lib.hid (K1.out.trans kk)
  clear kk he1 cq0 dq0 cq1 dq1 cq2 dq2
  have cq0 := (HC.out.kept K2.out).at_ 0 _ rfl
  have cq1 := (HC.out.kept K2.out).at_ 1 _ rfl
  have cq2 := (HC.out.kept K2.out).at_ 2 _ rfl
  have dq0 := (HD.out.kept K2.out).at_ 0 _ rfl
  have dq1 := (HD.out.kept K2.out).at_ 1 _ rfl
  have dq2 := (HD.out.kept K2.out).at_ 2 _ rfl
  cases e1 with
  | false =>
    go_wp2
    go_ret
    exact ⟨rfl, HKZ.out.trans K2.out⟩
  | true =>
    go_wp2_with fail
    refine (fewStR (HU.out.kept K2.out) he2).mono ?_
    rintro e w3 ⟨rfl, kk⟩
    have K3 := Lib.hid (K2.out.trans kk)
    clear kk he2
    clear cq0 dq0 cq1 dq1 cq2 dq2
    have cq0 := (HC.out.kept K3.out).at_ 0 _ rfl
    have cq1 := (HC.out.kept K3.out).at_ 1 _ rfl
    have cq2 := (HC.out.kept K3.out).at_ 2 _ rfl
    have dq0 := (HD.out.kept K3.out).at_ 0 _ rfl
    have dq1 := (HD.out.kept K3.out).at_ 1 _ rfl
    have dq2 := (HD.out.kept K3.out).at_ 2 _ rfl
    cases e2 with
    | false =>
      go_wp2
      go_ret
      exact ⟨rfl, HKZ.out.trans K3.out⟩
    | true =>
      clear cq0 dq0 cq1 dq1 cq2 dq2
      obtain ⟨LS, LS1, LS2, LS3⟩ := few_lowS HE1.out
      obtain ⟨LT, LT1, LT2, LT3⟩ := few_lowS HE2.out
      have HLS := Lib.hid LS
      have HLT := Lib.hid LT
      clear LS LT
      have hself : ∀ e : Bool, (e == e) = true := fun e => by cases e <;> rfl
      have HS := Lib.hid (show ∀ W, Kept Z W → W.cell? ⟨w.heap.size, 0, none⟩ = some (.slice a len cap) ∧ W.cell? ⟨w.heap.size, 1, none⟩ = some (.slice b m cp) ∧ W.cell? ⟨w.heap.size, 2, none⟩ = some (.slice d n cb) ∧ W.cell? ⟨w.heap.size + 1, 0, none⟩ = some (.slice a9 len9 cap9) ∧ W.cell? ⟨w.heap.size + 1, 1, none⟩ = some (.slice b9 m9 cp9) ∧ W.cell? ⟨w.heap.size + 1, 2, none⟩ = some (.slice d9 n9 cb9) from fun W k => ⟨(HC.out.kept k).at_ 0 _ rfl, (HC.out.kept k).at_ 1 _ rfl, (HC.out.kept k).at_ 2 _ rfl, (HD.out.kept k).at_ 0 _ rfl, (HD.out.kept k).at_ 1 _ rfl, (HD.out.kept k).at_ 2 _ rfl⟩)
      go_wp2_with fail
      refine wp_region_held_drew (S := fun W => W.cell? ⟨w.heap.size, 0, none⟩ = some (.slice a len cap) ∧ W.cell? ⟨w.heap.size, 1, none⟩ = some (.slice b m cp) ∧ W.cell? ⟨w.heap.size, 2, none⟩ = some (.slice d n cb) ∧ W.cell? ⟨w.heap.size + 1, 0, none⟩ = some (.slice a9 len9 cap9) ∧ W.cell? ⟨w.heap.size + 1, 1, none⟩ = some (.slice b9 m9 cp9) ∧ W.cell? ⟨w.heap.size + 1, 2, none⟩ = some (.slice d9 n9 cb9)) (by kernel_rfl) (HS.out _ (K3.out.trans (Kept.drew _))) (fun hHeld => ?_)
      refine wpAnyH_take (i := 0) (v := ?_) (by rw [List.getElem?_toArray]; exact rfl) (by kernel_rfl) (by kernel_rfl) (by kernel_rfl) (by exact fun _ _ _ h => h) (Or.inl ⟨by rfl, (by intro W hSw; obtain ⟨o0, o1, o2, o3, o4, o5⟩ := hSw; go_simp <;> with_reducible rfl)⟩) (by assumption) ?_
      try simp only [Act.put, List.setIfInBounds_toArray, List.set_cons_zero, List.set_cons_succ]
      refine wpAnyH_take (i := 1) (v := ?_) (by rw [List.getElem?_toArray]; exact rfl) (by kernel_rfl) (by kernel_rfl) (by kernel_rfl) (by exact fun _ _ _ h => h) (Or.inl ⟨by rfl, (by intro W hSw; obtain ⟨o0, o1, o2, o3, o4, o5⟩ := hSw; go_simp <;> with_reducible rfl)⟩) (by assumption) ?_
      try simp only [Act.put, List.setIfInBounds_toArray, List.set_cons_zero, List.set_cons_succ]
      refine wpAnyH_take (i := 3) (v := ?_) (by rw [List.getElem?_toArray]; exact rfl) (by kernel_rfl) (by kernel_rfl) (by kernel_rfl) (by exact fun _ _ _ h => h) (Or.inl ⟨by rfl, (by intro W hSw; obtain ⟨o0, o1, o2, o3, o4, o5⟩ := hSw; go_simp <;> with_reducible rfl)⟩) (by assumption) ?_
      try simp only [Act.put, List.setIfInBounds_toArray, List.set_cons_zero, List.set_cons_succ]
      refine wpAnyH_take (i := 5) (v := ?_) (by rw [List.getElem?_toArray]; exact rfl) (by kernel_rfl) (by kernel_rfl) (by kernel_rfl) (by exact fun _ _ _ h => h) (Or.inl ⟨by rfl, (by intro W hSw; obtain ⟨o0, o1, o2, o3, o4, o5⟩ := hSw; go_simp <;> with_reducible rfl)⟩) (by assumption) ?_
      try simp only [Act.put, List.setIfInBounds_toArray, List.set_cons_zero, List.set_cons_succ]
      have J := Lib.hid (K3.out.trans (Kept.drew w3))
      refine wpAnyH_ready (rs := [2]) (by kernel_rfl) (by simp) (AllReadyH.cons (by rw [List.getElem?_toArray]; exact rfl) (fun K9 hK9 => ?_) AllReadyH.nil)
      go_simp
      refine (sameStR (HV.out.kept J.out) (HU.out.kept J.out) he3).mono ?_
      rintro e w4 ⟨rfl, kk⟩
      have J := Lib.hid (J.out.trans kk)
      clear kk
      refine hK9.out _ _ (HS.out _ J.out) (fun hHeld1 => ?_)
      clear hK9 K9
      try simp only [Act.put, List.setIfInBounds_toArray, List.set_cons_zero, List.set_cons_succ]
      refine wpAnyH_ready (rs := [4]) (by kernel_rfl) (by simp) (AllReadyH.cons (by rw [List.getElem?_toArray]; exact rfl) (fun K9 hK9 => ?_) AllReadyH.nil)
      go_simp
      refine (ofStR (HV.out.kept J.out) HLS.out LS1 LS2 LS3).mono ?_
      rintro e w5 ⟨x9, rfl, hx, kk⟩
      have J := Lib.hid (J.out.trans kk)
      have HX := Lib.hid hx
      clear hx
      clear kk
      refine hK9.out _ _ (HS.out _ J.out) (fun hHeld2 => ?_)
      clear hK9 K9
      try simp only [Act.put, List.setIfInBounds_toArray, List.set_cons_zero, List.set_cons_succ]
      refine wpAnyH_ready (rs := [6]) (by kernel_rfl) (by simp) (AllReadyH.cons (by rw [List.getElem?_toArray]; exact rfl) (fun K9 hK9 => ?_) AllReadyH.nil)
      go_simp
      refine (ofStR (HU.out.kept J.out) HLT.out LT1 LT2 LT3).mono ?_
      rintro e w6 ⟨y9, rfl, hy, kk⟩
      have J := Lib.hid (J.out.trans kk)
      have HX := Lib.hid (HX.out.kept kk)
      have HY := Lib.hid hy
      clear hy
      clear kk
      refine hK9.out _ _ (HS.out _ J.out) (fun hHeld3 => ?_)
      clear hK9 K9
      try simp only [Act.put, List.setIfInBounds_toArray, List.set_cons_zero, List.set_cons_succ]
      refine wpAnyH_ready (rs := [7]) (by kernel_rfl) (by simp) (AllReadyH.cons (by rw [List.getElem?_toArray]; exact rfl) (fun K9 hK9 => ?_) AllReadyH.nil)
      go_simp
      refine (rsameStR HX.out HY.out he3).mono ?_
      rintro e w7 ⟨rfl, kk⟩
      have J := Lib.hid (J.out.trans kk)
      clear kk
      refine hK9.out _ _ (HS.out _ J.out) (fun hHeld4 => ?_)
      clear hK9 K9
      try simp only [Act.put, List.setIfInBounds_toArray, List.set_cons_zero, List.set_cons_succ]
      have hee := hself e3
      refine wpAnyH_take (i := 8) (v := ?_) (by rw [List.getElem?_toArray]; exact rfl) (by kernel_rfl) (by kernel_rfl) (by kernel_rfl) (by exact fun _ _ _ h => h) (Or.inl ⟨by rfl, (by intro W hSw; obtain ⟨o0, o1, o2, o3, o4, o5⟩ := hSw; go_simp <;> with_reducible rfl)⟩) (by assumption) ?_
      try simp only [Act.put, List.setIfInBounds_toArray, List.set_cons_zero, List.set_cons_succ]
      refine wpAnyH_take (i := 9) (v := ?_) (by rw [List.getElem?_toArray]; exact rfl) (by kernel_rfl) (by kernel_rfl) (by kernel_rfl) (by exact fun _ _ _ h => h) (Or.inl ⟨by rfl, (by intro W hSw; obtain ⟨o0, o1, o2, o3, o4, o5⟩ := hSw; go_simp <;> with_reducible rfl)⟩) (by assumption) ?_
      try simp only [Act.put, List.setIfInBounds_toArray, List.set_cons_zero, List.set_cons_succ]
      refine wpAnyH_take (i := 10) (v := ?_) (by rw [List.getElem?_toArray]; exact rfl) (by kernel_rfl) (by kernel_rfl) (by kernel_rfl) (by exact fun _ _ _ h => h) (Or.inl ⟨by rfl, (by intro W hSw; obtain ⟨o0, o1, o2, o3, o4, o5⟩ := hSw; go_simp <;> with_reducible rfl)⟩) (by assumption) ?_
      try simp only [Act.put, List.setIfInBounds_toArray, List.set_cons_zero, List.set_cons_succ]
      refine wpAnyH_take (i := 11) (v := ?_) (by rw [List.getElem?_toArray]; exact rfl) (by kernel_rfl) (by kernel_rfl) (by kernel_rfl) (by exact fun _ _ _ h => h) (Or.inl ⟨by rfl, (by intro W hSw; obtain ⟨o0, o1, o2, o3, o4, o5⟩ := hSw; go_simp <;> with_reducible rfl)⟩) (by assumption) ?_
      try simp only [Act.put, List.setIfInBounds_toArray, List.set_cons_zero, List.set_cons_succ]
      refine wpAnyH_ready (rs := [12]) (by kernel_rfl) (by simp) (AllReadyH.cons (by rw [List.getElem?_toArray]; exact rfl) (fun K9 hK9 => ?_) AllReadyH.nil)
      go_simp
      refine (sameStR (HV.out.kept J.out) (HV.out.kept J.out) (sameSt_self s)).mono ?_
      rintro e w8 ⟨rfl, kk⟩
      have J := Lib.hid (J.out.trans kk)
      clear kk
      refine hK9.out _ _ (HS.out _ J.out) (fun hHeld5 => ?_)
      clear hK9 K9
      try simp only [Act.put, List.setIfInBounds_toArray, List.set_cons_zero, List.set_cons_succ]
      refine wpAnyH_take (i := 13) (v := ?_) (by rw [List.getElem?_toArray]; exact rfl) (by kernel_rfl) (by kernel_rfl) (by kernel_rfl) (by exact fun _ _ _ h => h) (Or.inl ⟨by rfl, (by intro W hSw; obtain ⟨o0, o1, o2, o3, o4, o5⟩ := hSw; go_simp <;> with_reducible rfl)⟩) (by assumption) ?_
      try simp only [Act.put, List.setIfInBounds_toArray, List.set_cons_zero, List.set_cons_succ]
      refine wpAnyH_take (i := 14) (v := ?_) (by rw [List.getElem?_toArray]; exact rfl) (by kernel_rfl) (by kernel_rfl) (by kernel_rfl) (by exact fun _ _ _ h => h) (Or.inl ⟨by rfl, (by intro W hSw; obtain ⟨o0, o1, o2, o3, o4, o5⟩ := hSw; go_simp <;> with_reducible rfl)⟩) (by assumption) ?_
      try simp only [Act.put, List.setIfInBounds_toArray, List.set_cons_zero, List.set_cons_succ]
      refine wpAnyH_done (by kernel_rfl) ?_ _
      go_wp2
      go_ret
      exact ⟨rfl, HKZ.out.trans J.out⟩

end Go.Proofs.YtfpgekjhcfoohaaGreat
