/- The reference's CheckPod. -/
import Derived.Test.YtapnffejnhkoaaaGreatPodBase
import Derived.Test.YtapnffejnhkoaaaGreatPodQ
namespace Go.Proofs.YtapnffejnhkoaaaGreat
open Go.RowKit
set_option linter.unusedVariables false

theorem or_skip {x : Int} {t : List Int} (h : x = 0) : orL (x :: t) = orL t := by subst h; rfl
theorem or_hit {x v : Int} {t : List Int} (h : x = v) (hv : v ≠ 0) : orL (x :: t) = v := by
  subst h
  show (if x ≠ 0 then x else orL t) = x
  rw [if_pos hv]
theorem or_last {x : Int} : orL [x] = x := by
  show (if x ≠ 0 then x else 0) = x
  by_cases h : x = 0
  · rw [if_neg (fun g => g h), h]
  · rw [if_pos h]
theorem eor {x : ByteArray} {q r : Bool} (h : (x.toList == ([] : List UInt8)) = q) (g : isName x = r) : nameOr x = (q || r) := by unfold nameOr; rw [no_iff, h, g]

set_option maxRecDepth 100000 in
set_option maxHeartbeats 16000000 in
theorem rcheckP_any (n : Pd) (v1 v2 v3 v4 : Value) (w : World) (h : PodAt w v1 v2 v3 v4 n) :
    Calls Tryz.prog 98 #[PodV n v1 v2 v3 v4] w (Say (.int .i64 (chkPod n)) w) := by
  obtain ⟨x0, x1, x2, l1, l2, l3, l4, x3, x4, x5, x6⟩ := n
  have s0 : x0.size ≤ maxLen := h.name
  have s1 : x1.size ≤ maxLen := h.owner
  have s3 : x3.size ≤ maxLen := h.key
  have s5 : x5.size ≤ maxLen := h.node
  obtain ⟨W0, hW0⟩ : ∃ Z, w.alloc (.cells #[.string x0, .string x1, .int .i64 x2, v1, v2, v3, v4, .string x3, .int .i64 x4, .string x5, .bool x6] 103) = Z := ⟨_, rfl⟩
  have hk0 : Kept w W0 := by rw [← hW0]; exact kept_alloc _ _
  have HC := Lib.hid (show ∀ W, Kept W0 W → W.cell? ⟨w.heap.size, 0, none⟩ = some (.string x0) ∧ W.cell? ⟨w.heap.size, 1, none⟩ = some (.string x1) ∧ W.cell? ⟨w.heap.size, 2, none⟩ = some (.int .i64 x2) ∧ W.cell? ⟨w.heap.size, 3, none⟩ = some (v1) ∧ W.cell? ⟨w.heap.size, 4, none⟩ = some (v2) ∧ W.cell? ⟨w.heap.size, 5, none⟩ = some (v3) ∧ W.cell? ⟨w.heap.size, 6, none⟩ = some (v4) ∧ W.cell? ⟨w.heap.size, 7, none⟩ = some (.string x3) ∧ W.cell? ⟨w.heap.size, 8, none⟩ = some (.int .i64 x4) ∧ W.cell? ⟨w.heap.size, 9, none⟩ = some (.string x5) ∧ W.cell? ⟨w.heap.size, 10, none⟩ = some (.bool x6) from fun W k => by
    have := freshN w (.string x0) [.string x1, .int .i64 x2, v1, v2, v3, v4, .string x3, .int .i64 x4, .string x5, .bool x6] 103 W (by rw [hW0]; exact k)
    exact ⟨this.at_ 0 _ rfl, this.at_ 1 _ rfl, this.at_ 2 _ rfl, this.at_ 3 _ rfl, this.at_ 4 _ rfl, this.at_ 5 _ rfl, this.at_ 6 _ rfl, this.at_ 7 _ rfl, this.at_ 8 _ rfl, this.at_ 9 _ rfl, this.at_ 10 _ rfl⟩)
  obtain ⟨y1, hy1⟩ : ∃ y, Vec.checkV l1 = y := ⟨_, rfl⟩
  obtain ⟨y2, hy2⟩ : ∃ y, chkS l2 = y := ⟨_, rfl⟩
  obtain ⟨y3, hy3⟩ : ∃ y, chkL l3 = y := ⟨_, rfl⟩
  obtain ⟨y4, hy4⟩ : ∃ y, chkO l4 = y := ⟨_, rfl⟩
  have E1 := Lib.hid (fun W (k : Kept W0 W) => Vec.refCheckR (h.need.kept (hk0.trans k)) hy1)
  have E2 := Lib.hid (fun W (k : Kept W0 W) => refCheckR (h.labels.kept (hk0.trans k)) hy2)
  have E3 := Lib.hid (fun W (k : Kept W0 W) => refCheckSelR (h.sel.kept (hk0.trans k)) hy3)
  have E4 := Lib.hid (fun W (k : Kept W0 W) => refCheckOR (h.tols.kept (hk0.trans k)) hy4)
  have HV := Lib.hid (show chkPod ⟨x0, x1, x2, l1, l2, l3, l4, x3, x4, x5, x6⟩ = orL [chkNames x0 x1, chkPrio x2 x6, y1, y2, y3, y4, chkSpread x3 x4, chkNode x5] by rw [← hy1, ← hy2, ← hy3, ← hy4]; rfl)
  obtain ⟨r0, hr0⟩ : ∃ r, isName x0 = r := ⟨_, rfl⟩
  obtain ⟨r1, hr1⟩ : ∃ r, isName x1 = r := ⟨_, rfl⟩
  obtain ⟨r3, hr3⟩ : ∃ r, isName x3 = r := ⟨_, rfl⟩
  obtain ⟨r5, hr5⟩ : ∃ r, isName x5 = r := ⟨_, rfl⟩
  obtain ⟨q1, hq1⟩ : ∃ q, (x1.toList == ([] : List UInt8)) = q := ⟨_, rfl⟩
  obtain ⟨q3, hq3⟩ : ∃ q, (x3.toList == ([] : List UInt8)) = q := ⟨_, rfl⟩
  obtain ⟨q5, hq5⟩ : ∃ q, (x5.toList == ([] : List UInt8)) = q := ⟨_, rfl⟩
  have N0 := Lib.hid (fun W => Vec.rnameR (w := W) s0 hr0)
  have N1 := Lib.hid (fun W => Vec.rnameR (w := W) s1 hr1)
  have N3 := Lib.hid (fun W => Vec.rnameR (w := W) s3 hr3)
  have N5 := Lib.hid (fun W => Vec.rnameR (w := W) s5 hr5)
  have HN := Lib.hid (show chkNames x0 x1 = if r0 = true ∧ (q1 || r1) = true then 0 else 3 by unfold chkNames; rw [eor hq1 hr1, hr0])
  have HS := Lib.hid (show chkSpread x3 x4 = if (q3 || r3) = false then 3 else if (if q3 = true then decide (x4 ≠ 0) else decide (x4 < 1) || decide (128 < x4)) = true then 1 else 0 by unfold chkSpread spreadBad; rw [eor hq3 hr3, no_iff, hq3])
  have HD := Lib.hid (show chkNode x5 = if (q5 || r5) = true then 0 else 3 by unfold chkNode; rw [eor hq5 hr5])
  obtain ⟨zz, hzz⟩ : ∃ z, (x2 == -1) = z := ⟨_, rfl⟩
  have HP := Lib.hid (show chkPrio x2 x6 = if (decide (x2 < -1) || (decide (1000000 < x2) || (zz != x6))) = true then 1 else 0 by unfold chkPrio prioBad; rw [show decide (x2 = -1) = zz from hzz])
  have HK0 := Lib.hid hk0
  obtain ⟨c0, c1, c2, c3, c4, c5, c6, c7, c8, c9, c10⟩ := HC.out _ (Kept.refl _)
  clear h hk0 hy1 hy2 hy3 hy4 hr0 hr1 hr3 hr5 s0 s1 s3 s5
  unfold PodV
  dsimp only
  go_enter Tryz.func98, Tryz.ntmps98
  go_wp2_with fail
  try rw [hW0]
  clear hW0
  refine (N0.out _).mono ?_
  rintro e w9 ⟨rfl, rfl⟩
  cases r0 with
  | false =>
    have HV := Lib.hid (HV.out.trans (or_hit (v := 3) (HN.out.trans (by simp)) (by decide)))
    go_wp2
    go_ret
    exact ⟨ret_i64 HV.out.symm, HK0.out.trans (Kept.refl _)⟩
  | true =>
    cases q1 with
    | true =>
      have HV := Lib.hid (HV.out.trans (or_skip (HN.out.trans (by simp))))
      by_cases p1 : x2 < -1
      · have HV := Lib.hid (HV.out.trans (or_hit (v := 1) (HP.out.trans (by simp [p1])) (by decide)))
        clear hzz
        go_wp2
        go_ret
        exact ⟨ret_i64 HV.out.symm, HK0.out.trans (Kept.refl _)⟩
      · have p1 : -1 ≤ x2 := by omega
        by_cases p2 : 1000000 < x2
        · have HV := Lib.hid (HV.out.trans (or_hit (v := 1) (HP.out.trans (by simp [p2])) (by decide)))
          clear hzz
          go_wp2
          go_ret
          exact ⟨ret_i64 HV.out.symm, HK0.out.trans (Kept.refl _)⟩
        · have p2 : x2 ≤ 1000000 := by omega
          have HP := Lib.hid (HP.out.trans (show (if (decide (x2 < -1) || (decide (1000000 < x2) || (zz != x6))) = true then 1 else 0) = (if (zz != x6) = true then 1 else 0) by rw [show decide (x2 < -1) = false by simp; omega, show decide (1000000 < x2) = false by simp; omega]; rfl))
          cases zz <;> cases x6
          ·
            have HV := Lib.hid (HV.out.trans (or_skip HP.out))
            go_wp2_with fail
            refine (E1.out _ (Kept.refl _)).mono ?_
            rintro e w1 ⟨rfl, k⟩
            have K1 := Lib.hid (Kept.trans (Kept.refl _) k)
            clear k c0 c1 c2 c3 c4 c5 c6 c7 c8 c9 c10
            obtain ⟨c0, c1, c2, c3, c4, c5, c6, c7, c8, c9, c10⟩ := HC.out _ K1.out
            by_cases z1 : y1 = 0
            rotate_left
            · have z9 : (y1 != 0) = true := by simpa using z1
              have HV := Lib.hid (HV.out.trans (or_hit rfl z1))
              clear z1
              go_wp2
              go_ret
              exact ⟨ret_i64 HV.out.symm, HK0.out.trans K1.out⟩
            subst z1
            have HV := Lib.hid (HV.out.trans (or_skip rfl))
            go_wp2_with fail
            refine (E2.out _ K1.out).mono ?_
            rintro e w2 ⟨rfl, k⟩
            have K2 := Lib.hid (Kept.trans K1.out k)
            clear k c0 c1 c2 c3 c4 c5 c6 c7 c8 c9 c10
            obtain ⟨c0, c1, c2, c3, c4, c5, c6, c7, c8, c9, c10⟩ := HC.out _ K2.out
            by_cases z2 : y2 = 0
            rotate_left
            · have z9 : (y2 != 0) = true := by simpa using z2
              have HV := Lib.hid (HV.out.trans (or_hit rfl z2))
              clear z2
              go_wp2
              go_ret
              exact ⟨ret_i64 HV.out.symm, HK0.out.trans K2.out⟩
            subst z2
            have HV := Lib.hid (HV.out.trans (or_skip rfl))
            go_wp2_with fail
            refine (E3.out _ K2.out).mono ?_
            rintro e w3 ⟨rfl, k⟩
            have K3 := Lib.hid (Kept.trans K2.out k)
            clear k c0 c1 c2 c3 c4 c5 c6 c7 c8 c9 c10
            obtain ⟨c0, c1, c2, c3, c4, c5, c6, c7, c8, c9, c10⟩ := HC.out _ K3.out
            by_cases z3 : y3 = 0
            rotate_left
            · have z9 : (y3 != 0) = true := by simpa using z3
              have HV := Lib.hid (HV.out.trans (or_hit rfl z3))
              clear z3
              go_wp2
              go_ret
              exact ⟨ret_i64 HV.out.symm, HK0.out.trans K3.out⟩
            subst z3
            have HV := Lib.hid (HV.out.trans (or_skip rfl))
            go_wp2_with fail
            refine (E4.out _ K3.out).mono ?_
            rintro e w4 ⟨rfl, k⟩
            have K4 := Lib.hid (Kept.trans K3.out k)
            clear k c0 c1 c2 c3 c4 c5 c6 c7 c8 c9 c10
            obtain ⟨c0, c1, c2, c3, c4, c5, c6, c7, c8, c9, c10⟩ := HC.out _ K4.out
            by_cases z4 : y4 = 0
            rotate_left
            · have z9 : (y4 != 0) = true := by simpa using z4
              have HV := Lib.hid (HV.out.trans (or_hit rfl z4))
              clear z4
              go_wp2
              go_ret
              exact ⟨ret_i64 HV.out.symm, HK0.out.trans K4.out⟩
            subst z4
            have HV := Lib.hid (HV.out.trans (or_skip rfl))
            cases q3 with
            | true =>
              by_cases m1 : x4 = 0
              · subst m1
                have HV := Lib.hid (HV.out.trans (or_skip HS.out))
                have HV := Lib.hid (HV.out.trans (or_last.trans HD.out))
                cases q5 with
                | true =>
                  go_wp2
                  go_ret
                  exact ⟨ret_i64 HV.out.symm, HK0.out.trans K4.out⟩
                | false =>
                  go_wp2_with fail
                  refine (N5.out _).mono ?_
                  rintro e w9 ⟨rfl, rfl⟩
                  cases r5 with
                  | false =>
                    go_wp2
                    go_ret
                    exact ⟨ret_i64 HV.out.symm, HK0.out.trans K4.out⟩
                  | true =>
                    go_wp2
                    go_ret
                    exact ⟨ret_i64 HV.out.symm, HK0.out.trans K4.out⟩
              · have HV := Lib.hid (HV.out.trans (or_hit (v := 1) (HS.out.trans (by simp [m1])) (by decide)))
                have m1 : (x4 != 0) = true := by simpa using m1
                go_wp2
                go_ret
                exact ⟨ret_i64 HV.out.symm, HK0.out.trans K4.out⟩
            | false =>
              go_wp2_with fail
              refine (N3.out _).mono ?_
              rintro e w9 ⟨rfl, rfl⟩
              cases r3 with
              | false =>
                have HV := Lib.hid (HV.out.trans (or_hit (v := 3) HS.out (by decide)))
                go_wp2
                go_ret
                exact ⟨ret_i64 HV.out.symm, HK0.out.trans K4.out⟩
              | true =>
                by_cases m1 : x4 < 1
                · have HV := Lib.hid (HV.out.trans (or_hit (v := 1) (HS.out.trans (by simp [m1])) (by decide)))
                  go_wp2
                  go_ret
                  exact ⟨ret_i64 HV.out.symm, HK0.out.trans K4.out⟩
                · have m1 : 1 ≤ x4 := by omega
                  by_cases m2 : 128 < x4
                  · have HV := Lib.hid (HV.out.trans (or_hit (v := 1) (HS.out.trans (by simp [m2])) (by decide)))
                    go_wp2
                    go_ret
                    exact ⟨ret_i64 HV.out.symm, HK0.out.trans K4.out⟩
                  · have m2 : x4 ≤ 128 := by omega
                    have HV := Lib.hid (HV.out.trans (or_skip (HS.out.trans (by rw [show decide (x4 < 1) = false by simp; omega, show decide (128 < x4) = false by simp; omega]; rfl))))
                    have HV := Lib.hid (HV.out.trans (or_last.trans HD.out))
                    cases q5 with
                    | true =>
                      go_wp2
                      go_ret
                      exact ⟨ret_i64 HV.out.symm, HK0.out.trans K4.out⟩
                    | false =>
                      go_wp2_with fail
                      refine (N5.out _).mono ?_
                      rintro e w9 ⟨rfl, rfl⟩
                      cases r5 with
                      | false =>
                        go_wp2
                        go_ret
                        exact ⟨ret_i64 HV.out.symm, HK0.out.trans K4.out⟩
                      | true =>
                        go_wp2
                        go_ret
                        exact ⟨ret_i64 HV.out.symm, HK0.out.trans K4.out⟩
          ·
            have HV := Lib.hid (HV.out.trans (or_hit (v := 1) HP.out (by decide)))
            go_wp2
            go_ret
            exact ⟨ret_i64 HV.out.symm, HK0.out.trans (Kept.refl _)⟩
          ·
            have HV := Lib.hid (HV.out.trans (or_hit (v := 1) HP.out (by decide)))
            go_wp2
            go_ret
            exact ⟨ret_i64 HV.out.symm, HK0.out.trans (Kept.refl _)⟩
          ·
            have HV := Lib.hid (HV.out.trans (or_skip HP.out))
            go_wp2_with fail
            refine (E1.out _ (Kept.refl _)).mono ?_
            rintro e w1 ⟨rfl, k⟩
            have K1 := Lib.hid (Kept.trans (Kept.refl _) k)
            clear k c0 c1 c2 c3 c4 c5 c6 c7 c8 c9 c10
            obtain ⟨c0, c1, c2, c3, c4, c5, c6, c7, c8, c9, c10⟩ := HC.out _ K1.out
            by_cases z1 : y1 = 0
            rotate_left
            · have z9 : (y1 != 0) = true := by simpa using z1
              have HV := Lib.hid (HV.out.trans (or_hit rfl z1))
              clear z1
              go_wp2
              go_ret
              exact ⟨ret_i64 HV.out.symm, HK0.out.trans K1.out⟩
            subst z1
            have HV := Lib.hid (HV.out.trans (or_skip rfl))
            go_wp2_with fail
            refine (E2.out _ K1.out).mono ?_
            rintro e w2 ⟨rfl, k⟩
            have K2 := Lib.hid (Kept.trans K1.out k)
            clear k c0 c1 c2 c3 c4 c5 c6 c7 c8 c9 c10
            obtain ⟨c0, c1, c2, c3, c4, c5, c6, c7, c8, c9, c10⟩ := HC.out _ K2.out
            by_cases z2 : y2 = 0
            rotate_left
            · have z9 : (y2 != 0) = true := by simpa using z2
              have HV := Lib.hid (HV.out.trans (or_hit rfl z2))
              clear z2
              go_wp2
              go_ret
              exact ⟨ret_i64 HV.out.symm, HK0.out.trans K2.out⟩
            subst z2
            have HV := Lib.hid (HV.out.trans (or_skip rfl))
            go_wp2_with fail
            refine (E3.out _ K2.out).mono ?_
            rintro e w3 ⟨rfl, k⟩
            have K3 := Lib.hid (Kept.trans K2.out k)
            clear k c0 c1 c2 c3 c4 c5 c6 c7 c8 c9 c10
            obtain ⟨c0, c1, c2, c3, c4, c5, c6, c7, c8, c9, c10⟩ := HC.out _ K3.out
            by_cases z3 : y3 = 0
            rotate_left
            · have z9 : (y3 != 0) = true := by simpa using z3
              have HV := Lib.hid (HV.out.trans (or_hit rfl z3))
              clear z3
              go_wp2
              go_ret
              exact ⟨ret_i64 HV.out.symm, HK0.out.trans K3.out⟩
            subst z3
            have HV := Lib.hid (HV.out.trans (or_skip rfl))
            go_wp2_with fail
            refine (E4.out _ K3.out).mono ?_
            rintro e w4 ⟨rfl, k⟩
            have K4 := Lib.hid (Kept.trans K3.out k)
            clear k c0 c1 c2 c3 c4 c5 c6 c7 c8 c9 c10
            obtain ⟨c0, c1, c2, c3, c4, c5, c6, c7, c8, c9, c10⟩ := HC.out _ K4.out
            by_cases z4 : y4 = 0
            rotate_left
            · have z9 : (y4 != 0) = true := by simpa using z4
              have HV := Lib.hid (HV.out.trans (or_hit rfl z4))
              clear z4
              go_wp2
              go_ret
              exact ⟨ret_i64 HV.out.symm, HK0.out.trans K4.out⟩
            subst z4
            have HV := Lib.hid (HV.out.trans (or_skip rfl))
            cases q3 with
            | true =>
              by_cases m1 : x4 = 0
              · subst m1
                have HV := Lib.hid (HV.out.trans (or_skip HS.out))
                have HV := Lib.hid (HV.out.trans (or_last.trans HD.out))
                cases q5 with
                | true =>
                  go_wp2
                  go_ret
                  exact ⟨ret_i64 HV.out.symm, HK0.out.trans K4.out⟩
                | false =>
                  go_wp2_with fail
                  refine (N5.out _).mono ?_
                  rintro e w9 ⟨rfl, rfl⟩
                  cases r5 with
                  | false =>
                    go_wp2
                    go_ret
                    exact ⟨ret_i64 HV.out.symm, HK0.out.trans K4.out⟩
                  | true =>
                    go_wp2
                    go_ret
                    exact ⟨ret_i64 HV.out.symm, HK0.out.trans K4.out⟩
              · have HV := Lib.hid (HV.out.trans (or_hit (v := 1) (HS.out.trans (by simp [m1])) (by decide)))
                have m1 : (x4 != 0) = true := by simpa using m1
                go_wp2
                go_ret
                exact ⟨ret_i64 HV.out.symm, HK0.out.trans K4.out⟩
            | false =>
              go_wp2_with fail
              refine (N3.out _).mono ?_
              rintro e w9 ⟨rfl, rfl⟩
              cases r3 with
              | false =>
                have HV := Lib.hid (HV.out.trans (or_hit (v := 3) HS.out (by decide)))
                go_wp2
                go_ret
                exact ⟨ret_i64 HV.out.symm, HK0.out.trans K4.out⟩
              | true =>
                by_cases m1 : x4 < 1
                · have HV := Lib.hid (HV.out.trans (or_hit (v := 1) (HS.out.trans (by simp [m1])) (by decide)))
                  go_wp2
                  go_ret
                  exact ⟨ret_i64 HV.out.symm, HK0.out.trans K4.out⟩
                · have m1 : 1 ≤ x4 := by omega
                  by_cases m2 : 128 < x4
                  · have HV := Lib.hid (HV.out.trans (or_hit (v := 1) (HS.out.trans (by simp [m2])) (by decide)))
                    go_wp2
                    go_ret
                    exact ⟨ret_i64 HV.out.symm, HK0.out.trans K4.out⟩
                  · have m2 : x4 ≤ 128 := by omega
                    have HV := Lib.hid (HV.out.trans (or_skip (HS.out.trans (by rw [show decide (x4 < 1) = false by simp; omega, show decide (128 < x4) = false by simp; omega]; rfl))))
                    have HV := Lib.hid (HV.out.trans (or_last.trans HD.out))
                    cases q5 with
                    | true =>
                      go_wp2
                      go_ret
                      exact ⟨ret_i64 HV.out.symm, HK0.out.trans K4.out⟩
                    | false =>
                      go_wp2_with fail
                      refine (N5.out _).mono ?_
                      rintro e w9 ⟨rfl, rfl⟩
                      cases r5 with
                      | false =>
                        go_wp2
                        go_ret
                        exact ⟨ret_i64 HV.out.symm, HK0.out.trans K4.out⟩
                      | true =>
                        go_wp2
                        go_ret
                        exact ⟨ret_i64 HV.out.symm, HK0.out.trans K4.out⟩
    | false =>
      go_wp2_with fail
      refine (N1.out _).mono ?_
      rintro e w9 ⟨rfl, rfl⟩
      cases r1 with
      | false =>
        have HV := Lib.hid (HV.out.trans (or_hit (v := 3) (HN.out.trans (by simp)) (by decide)))
        go_wp2
        go_ret
        exact ⟨ret_i64 HV.out.symm, HK0.out.trans (Kept.refl _)⟩
      | true =>
        have HV := Lib.hid (HV.out.trans (or_skip (HN.out.trans (by simp))))
        by_cases p1 : x2 < -1
        · have HV := Lib.hid (HV.out.trans (or_hit (v := 1) (HP.out.trans (by simp [p1])) (by decide)))
          clear hzz
          go_wp2
          go_ret
          exact ⟨ret_i64 HV.out.symm, HK0.out.trans (Kept.refl _)⟩
        · have p1 : -1 ≤ x2 := by omega
          by_cases p2 : 1000000 < x2
          · have HV := Lib.hid (HV.out.trans (or_hit (v := 1) (HP.out.trans (by simp [p2])) (by decide)))
            clear hzz
            go_wp2
            go_ret
            exact ⟨ret_i64 HV.out.symm, HK0.out.trans (Kept.refl _)⟩
          · have p2 : x2 ≤ 1000000 := by omega
            have HP := Lib.hid (HP.out.trans (show (if (decide (x2 < -1) || (decide (1000000 < x2) || (zz != x6))) = true then 1 else 0) = (if (zz != x6) = true then 1 else 0) by rw [show decide (x2 < -1) = false by simp; omega, show decide (1000000 < x2) = false by simp; omega]; rfl))
            cases zz <;> cases x6
            ·
              have HV := Lib.hid (HV.out.trans (or_skip HP.out))
              go_wp2_with fail
              refine (E1.out _ (Kept.refl _)).mono ?_
              rintro e w1 ⟨rfl, k⟩
              have K1 := Lib.hid (Kept.trans (Kept.refl _) k)
              clear k c0 c1 c2 c3 c4 c5 c6 c7 c8 c9 c10
              obtain ⟨c0, c1, c2, c3, c4, c5, c6, c7, c8, c9, c10⟩ := HC.out _ K1.out
              by_cases z1 : y1 = 0
              rotate_left
              · have z9 : (y1 != 0) = true := by simpa using z1
                have HV := Lib.hid (HV.out.trans (or_hit rfl z1))
                clear z1
                go_wp2
                go_ret
                exact ⟨ret_i64 HV.out.symm, HK0.out.trans K1.out⟩
              subst z1
              have HV := Lib.hid (HV.out.trans (or_skip rfl))
              go_wp2_with fail
              refine (E2.out _ K1.out).mono ?_
              rintro e w2 ⟨rfl, k⟩
              have K2 := Lib.hid (Kept.trans K1.out k)
              clear k c0 c1 c2 c3 c4 c5 c6 c7 c8 c9 c10
              obtain ⟨c0, c1, c2, c3, c4, c5, c6, c7, c8, c9, c10⟩ := HC.out _ K2.out
              by_cases z2 : y2 = 0
              rotate_left
              · have z9 : (y2 != 0) = true := by simpa using z2
                have HV := Lib.hid (HV.out.trans (or_hit rfl z2))
                clear z2
                go_wp2
                go_ret
                exact ⟨ret_i64 HV.out.symm, HK0.out.trans K2.out⟩
              subst z2
              have HV := Lib.hid (HV.out.trans (or_skip rfl))
              go_wp2_with fail
              refine (E3.out _ K2.out).mono ?_
              rintro e w3 ⟨rfl, k⟩
              have K3 := Lib.hid (Kept.trans K2.out k)
              clear k c0 c1 c2 c3 c4 c5 c6 c7 c8 c9 c10
              obtain ⟨c0, c1, c2, c3, c4, c5, c6, c7, c8, c9, c10⟩ := HC.out _ K3.out
              by_cases z3 : y3 = 0
              rotate_left
              · have z9 : (y3 != 0) = true := by simpa using z3
                have HV := Lib.hid (HV.out.trans (or_hit rfl z3))
                clear z3
                go_wp2
                go_ret
                exact ⟨ret_i64 HV.out.symm, HK0.out.trans K3.out⟩
              subst z3
              have HV := Lib.hid (HV.out.trans (or_skip rfl))
              go_wp2_with fail
              refine (E4.out _ K3.out).mono ?_
              rintro e w4 ⟨rfl, k⟩
              have K4 := Lib.hid (Kept.trans K3.out k)
              clear k c0 c1 c2 c3 c4 c5 c6 c7 c8 c9 c10
              obtain ⟨c0, c1, c2, c3, c4, c5, c6, c7, c8, c9, c10⟩ := HC.out _ K4.out
              by_cases z4 : y4 = 0
              rotate_left
              · have z9 : (y4 != 0) = true := by simpa using z4
                have HV := Lib.hid (HV.out.trans (or_hit rfl z4))
                clear z4
                go_wp2
                go_ret
                exact ⟨ret_i64 HV.out.symm, HK0.out.trans K4.out⟩
              subst z4
              have HV := Lib.hid (HV.out.trans (or_skip rfl))
              cases q3 with
              | true =>
                by_cases m1 : x4 = 0
                · subst m1
                  have HV := Lib.hid (HV.out.trans (or_skip HS.out))
                  have HV := Lib.hid (HV.out.trans (or_last.trans HD.out))
                  cases q5 with
                  | true =>
                    go_wp2
                    go_ret
                    exact ⟨ret_i64 HV.out.symm, HK0.out.trans K4.out⟩
                  | false =>
                    go_wp2_with fail
                    refine (N5.out _).mono ?_
                    rintro e w9 ⟨rfl, rfl⟩
                    cases r5 with
                    | false =>
                      go_wp2
                      go_ret
                      exact ⟨ret_i64 HV.out.symm, HK0.out.trans K4.out⟩
                    | true =>
                      go_wp2
                      go_ret
                      exact ⟨ret_i64 HV.out.symm, HK0.out.trans K4.out⟩
                · have HV := Lib.hid (HV.out.trans (or_hit (v := 1) (HS.out.trans (by simp [m1])) (by decide)))
                  have m1 : (x4 != 0) = true := by simpa using m1
                  go_wp2
                  go_ret
                  exact ⟨ret_i64 HV.out.symm, HK0.out.trans K4.out⟩
              | false =>
                go_wp2_with fail
                refine (N3.out _).mono ?_
                rintro e w9 ⟨rfl, rfl⟩
                cases r3 with
                | false =>
                  have HV := Lib.hid (HV.out.trans (or_hit (v := 3) HS.out (by decide)))
                  go_wp2
                  go_ret
                  exact ⟨ret_i64 HV.out.symm, HK0.out.trans K4.out⟩
                | true =>
                  by_cases m1 : x4 < 1
                  · have HV := Lib.hid (HV.out.trans (or_hit (v := 1) (HS.out.trans (by simp [m1])) (by decide)))
                    go_wp2
                    go_ret
                    exact ⟨ret_i64 HV.out.symm, HK0.out.trans K4.out⟩
                  · have m1 : 1 ≤ x4 := by omega
                    by_cases m2 : 128 < x4
                    · have HV := Lib.hid (HV.out.trans (or_hit (v := 1) (HS.out.trans (by simp [m2])) (by decide)))
                      go_wp2
                      go_ret
                      exact ⟨ret_i64 HV.out.symm, HK0.out.trans K4.out⟩
                    · have m2 : x4 ≤ 128 := by omega
                      have HV := Lib.hid (HV.out.trans (or_skip (HS.out.trans (by rw [show decide (x4 < 1) = false by simp; omega, show decide (128 < x4) = false by simp; omega]; rfl))))
                      have HV := Lib.hid (HV.out.trans (or_last.trans HD.out))
                      cases q5 with
                      | true =>
                        go_wp2
                        go_ret
                        exact ⟨ret_i64 HV.out.symm, HK0.out.trans K4.out⟩
                      | false =>
                        go_wp2_with fail
                        refine (N5.out _).mono ?_
                        rintro e w9 ⟨rfl, rfl⟩
                        cases r5 with
                        | false =>
                          go_wp2
                          go_ret
                          exact ⟨ret_i64 HV.out.symm, HK0.out.trans K4.out⟩
                        | true =>
                          go_wp2
                          go_ret
                          exact ⟨ret_i64 HV.out.symm, HK0.out.trans K4.out⟩
            ·
              have HV := Lib.hid (HV.out.trans (or_hit (v := 1) HP.out (by decide)))
              go_wp2
              go_ret
              exact ⟨ret_i64 HV.out.symm, HK0.out.trans (Kept.refl _)⟩
            ·
              have HV := Lib.hid (HV.out.trans (or_hit (v := 1) HP.out (by decide)))
              go_wp2
              go_ret
              exact ⟨ret_i64 HV.out.symm, HK0.out.trans (Kept.refl _)⟩
            ·
              have HV := Lib.hid (HV.out.trans (or_skip HP.out))
              go_wp2_with fail
              refine (E1.out _ (Kept.refl _)).mono ?_
              rintro e w1 ⟨rfl, k⟩
              have K1 := Lib.hid (Kept.trans (Kept.refl _) k)
              clear k c0 c1 c2 c3 c4 c5 c6 c7 c8 c9 c10
              obtain ⟨c0, c1, c2, c3, c4, c5, c6, c7, c8, c9, c10⟩ := HC.out _ K1.out
              by_cases z1 : y1 = 0
              rotate_left
              · have z9 : (y1 != 0) = true := by simpa using z1
                have HV := Lib.hid (HV.out.trans (or_hit rfl z1))
                clear z1
                go_wp2
                go_ret
                exact ⟨ret_i64 HV.out.symm, HK0.out.trans K1.out⟩
              subst z1
              have HV := Lib.hid (HV.out.trans (or_skip rfl))
              go_wp2_with fail
              refine (E2.out _ K1.out).mono ?_
              rintro e w2 ⟨rfl, k⟩
              have K2 := Lib.hid (Kept.trans K1.out k)
              clear k c0 c1 c2 c3 c4 c5 c6 c7 c8 c9 c10
              obtain ⟨c0, c1, c2, c3, c4, c5, c6, c7, c8, c9, c10⟩ := HC.out _ K2.out
              by_cases z2 : y2 = 0
              rotate_left
              · have z9 : (y2 != 0) = true := by simpa using z2
                have HV := Lib.hid (HV.out.trans (or_hit rfl z2))
                clear z2
                go_wp2
                go_ret
                exact ⟨ret_i64 HV.out.symm, HK0.out.trans K2.out⟩
              subst z2
              have HV := Lib.hid (HV.out.trans (or_skip rfl))
              go_wp2_with fail
              refine (E3.out _ K2.out).mono ?_
              rintro e w3 ⟨rfl, k⟩
              have K3 := Lib.hid (Kept.trans K2.out k)
              clear k c0 c1 c2 c3 c4 c5 c6 c7 c8 c9 c10
              obtain ⟨c0, c1, c2, c3, c4, c5, c6, c7, c8, c9, c10⟩ := HC.out _ K3.out
              by_cases z3 : y3 = 0
              rotate_left
              · have z9 : (y3 != 0) = true := by simpa using z3
                have HV := Lib.hid (HV.out.trans (or_hit rfl z3))
                clear z3
                go_wp2
                go_ret
                exact ⟨ret_i64 HV.out.symm, HK0.out.trans K3.out⟩
              subst z3
              have HV := Lib.hid (HV.out.trans (or_skip rfl))
              go_wp2_with fail
              refine (E4.out _ K3.out).mono ?_
              rintro e w4 ⟨rfl, k⟩
              have K4 := Lib.hid (Kept.trans K3.out k)
              clear k c0 c1 c2 c3 c4 c5 c6 c7 c8 c9 c10
              obtain ⟨c0, c1, c2, c3, c4, c5, c6, c7, c8, c9, c10⟩ := HC.out _ K4.out
              by_cases z4 : y4 = 0
              rotate_left
              · have z9 : (y4 != 0) = true := by simpa using z4
                have HV := Lib.hid (HV.out.trans (or_hit rfl z4))
                clear z4
                go_wp2
                go_ret
                exact ⟨ret_i64 HV.out.symm, HK0.out.trans K4.out⟩
              subst z4
              have HV := Lib.hid (HV.out.trans (or_skip rfl))
              cases q3 with
              | true =>
                by_cases m1 : x4 = 0
                · subst m1
                  have HV := Lib.hid (HV.out.trans (or_skip HS.out))
                  have HV := Lib.hid (HV.out.trans (or_last.trans HD.out))
                  cases q5 with
                  | true =>
                    go_wp2
                    go_ret
                    exact ⟨ret_i64 HV.out.symm, HK0.out.trans K4.out⟩
                  | false =>
                    go_wp2_with fail
                    refine (N5.out _).mono ?_
                    rintro e w9 ⟨rfl, rfl⟩
                    cases r5 with
                    | false =>
                      go_wp2
                      go_ret
                      exact ⟨ret_i64 HV.out.symm, HK0.out.trans K4.out⟩
                    | true =>
                      go_wp2
                      go_ret
                      exact ⟨ret_i64 HV.out.symm, HK0.out.trans K4.out⟩
                · have HV := Lib.hid (HV.out.trans (or_hit (v := 1) (HS.out.trans (by simp [m1])) (by decide)))
                  have m1 : (x4 != 0) = true := by simpa using m1
                  go_wp2
                  go_ret
                  exact ⟨ret_i64 HV.out.symm, HK0.out.trans K4.out⟩
              | false =>
                go_wp2_with fail
                refine (N3.out _).mono ?_
                rintro e w9 ⟨rfl, rfl⟩
                cases r3 with
                | false =>
                  have HV := Lib.hid (HV.out.trans (or_hit (v := 3) HS.out (by decide)))
                  go_wp2
                  go_ret
                  exact ⟨ret_i64 HV.out.symm, HK0.out.trans K4.out⟩
                | true =>
                  by_cases m1 : x4 < 1
                  · have HV := Lib.hid (HV.out.trans (or_hit (v := 1) (HS.out.trans (by simp [m1])) (by decide)))
                    go_wp2
                    go_ret
                    exact ⟨ret_i64 HV.out.symm, HK0.out.trans K4.out⟩
                  · have m1 : 1 ≤ x4 := by omega
                    by_cases m2 : 128 < x4
                    · have HV := Lib.hid (HV.out.trans (or_hit (v := 1) (HS.out.trans (by simp [m2])) (by decide)))
                      go_wp2
                      go_ret
                      exact ⟨ret_i64 HV.out.symm, HK0.out.trans K4.out⟩
                    · have m2 : x4 ≤ 128 := by omega
                      have HV := Lib.hid (HV.out.trans (or_skip (HS.out.trans (by rw [show decide (x4 < 1) = false by simp; omega, show decide (128 < x4) = false by simp; omega]; rfl))))
                      have HV := Lib.hid (HV.out.trans (or_last.trans HD.out))
                      cases q5 with
                      | true =>
                        go_wp2
                        go_ret
                        exact ⟨ret_i64 HV.out.symm, HK0.out.trans K4.out⟩
                      | false =>
                        go_wp2_with fail
                        refine (N5.out _).mono ?_
                        rintro e w9 ⟨rfl, rfl⟩
                        cases r5 with
                        | false =>
                          go_wp2
                          go_ret
                          exact ⟨ret_i64 HV.out.symm, HK0.out.trans K4.out⟩
                        | true =>
                          go_wp2
                          go_ret
                          exact ⟨ret_i64 HV.out.symm, HK0.out.trans K4.out⟩
end Go.Proofs.YtapnffejnhkoaaaGreat
