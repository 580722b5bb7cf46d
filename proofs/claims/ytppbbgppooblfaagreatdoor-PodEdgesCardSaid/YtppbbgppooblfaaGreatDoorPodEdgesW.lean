/- PodEdges: the walk. -/
import Derived.Test.YtppbbgppooblfaaGreatDoorPodKnown
import Derived.OpenShut
namespace Go.Proofs.YtppbbgppooblfaaGreatDoor
open Go.RowKit
set_option linter.unusedVariables false

def bp : ByteArray := ⟨#[112]⟩
theorem m_bp : isName bp = true := by decide
theorem edge_chk (pr m : Int) (key : ByteArray) (b : Bool) : chkPod ⟨bp, Pk.bE, pr, [], [], [], [], key, m, Pk.bE, b⟩ = orL [0, chkPrio pr b, 0, 0, 0, 0, chkSpread key m, 0] := by
  unfold chkPod chkList
  dsimp only
  rw [Pk.n_ok m_bp Pk.or_E, Pk.chk_0, Pk.chk_0p, Pk.chk_0s, Pk.chk_0t, Pk.d_ok Pk.or_E]
theorem edge_zone (m : Int) : chkSpread Pk.bZone m = if (decide (m < 1) || decide (128 < m)) = true then 1 else 0 := by
  unfold chkSpread spreadBad
  rw [Pk.or_zone, Pk.o_bZone]
  simp
theorem edge_at (pr m : Int) (key : ByteArray) (b : Bool) (w : World) (h1 : -9223372036854775808 ≤ pr ∧ pr ≤ 9223372036854775807) (h2 : -9223372036854775808 ≤ m ∧ m ≤ 9223372036854775807) (h3 : key.size ≤ maxLen) : PodAt w (.slice none 0 0) (.slice none 0 0) (.slice none 0 0) (.slice none 0 0) ⟨bp, Pk.bE, pr, [], [], [], [], key, m, Pk.bE, b⟩ :=
  ⟨(by decide : bp.size ≤ maxLen), (by decide : (0 : Nat) ≤ maxLen), h3, (by decide : (0 : Nat) ≤ maxLen), h1, h2, Vec.Reads.nil w, Reads.nil w, Reads.nil w, Reads.nil w⟩
theorem edge_kept {w W : World} {o : Obj} (h : Kept (w.alloc o) W) : Kept w W := (kept_alloc _ _).trans h
set_option maxRecDepth 100000 in
set_option maxHeartbeats 16000000 in
theorem edges_any (n : Int) (b : Bool) (m : Int) (w : World) (hE : EnvP w) (hn : 0 ≤ n ∧ n < 256) (hm : 0 ≤ m ∧ m < 256) :
    Calls Tryz.prog 12 #[.int .u8 n, .bool b, .int .u8 m] w fun e w' => e = .returned (.bool true) ∧ Kept w w' := by
  have HE := Lib.hid hE
  obtain ⟨hn0, hn1⟩ := hn
  obtain ⟨hm0, hm1⟩ := hm
  clear hE
  have h3 : n % 3 = 0 ∨ n % 3 = 1 ∨ n % 3 = 2 := by omega
  have h4 : m % 4 = 0 ∨ m % 4 = 1 ∨ m % 4 = 2 ∨ m % 4 = 3 := by omega
  rcases h4 with h4 | h4 | h4 | h4
  · rcases h3 with h3 | h3 | h3
    · cases b with
      | false =>
        have HV := Lib.hid (show chkPod ⟨bp, Pk.bE, 999999, [], [], [], [], Pk.bE, 0, Pk.bE, false⟩ = 0 by rw [edge_chk, Pk.sp0]; decide)
        have HCK := Lib.hid (fun W => show Calls Tryz.prog 60 #[.agg #[.string ⟨#[112]⟩, .string ⟨#[]⟩, .int .i64 (999999), .slice none 0 0, .slice none 0 0, .slice none 0 0, .slice none 0 0, .string ⟨#[]⟩, .int .i64 (0), .string ⟨#[]⟩, .bool false]] W (Say (.int .i64 0) W) by have h := checkP_any ⟨bp, Pk.bE, 999999, [], [], [], [], Pk.bE, 0, Pk.bE, false⟩ _ _ _ _ W (edge_at (999999) (0) Pk.bE false W (by decide) (by decide) (by decide)); rw [HV.out] at h; exact h)
        clear HV
        go_enter Tryz.func12, Tryz.ntmps12
        go_wp2_with fail
        refine (Pk.known_any _ HE.out).mono ?_
        rintro e w1 ⟨rfl, kk⟩
        have K := Lib.hid kk
        clear kk
        go_wp2_with fail
        refine (HCK.out _).mono ?_
        rintro e w2 ⟨rfl, k⟩
        have K := Lib.hid (K.out.trans (edge_kept k))
        clear k
        go_wp2
        go_ret
        exact ⟨rfl, K.out⟩
      | true =>
        have HV := Lib.hid (show chkPod ⟨bp, Pk.bE, 999999, [], [], [], [], Pk.bE, 0, Pk.bE, true⟩ = 1 by rw [edge_chk, Pk.sp0]; decide)
        have HCK := Lib.hid (fun W => show Calls Tryz.prog 60 #[.agg #[.string ⟨#[112]⟩, .string ⟨#[]⟩, .int .i64 (999999), .slice none 0 0, .slice none 0 0, .slice none 0 0, .slice none 0 0, .string ⟨#[]⟩, .int .i64 (0), .string ⟨#[]⟩, .bool true]] W (Say (.int .i64 1) W) by have h := checkP_any ⟨bp, Pk.bE, 999999, [], [], [], [], Pk.bE, 0, Pk.bE, true⟩ _ _ _ _ W (edge_at (999999) (0) Pk.bE true W (by decide) (by decide) (by decide)); rw [HV.out] at h; exact h)
        clear HV
        go_enter Tryz.func12, Tryz.ntmps12
        go_wp2_with fail
        refine (Pk.known_any _ HE.out).mono ?_
        rintro e w1 ⟨rfl, kk⟩
        have K := Lib.hid kk
        clear kk
        go_wp2_with fail
        refine (HCK.out _).mono ?_
        rintro e w2 ⟨rfl, k⟩
        have K := Lib.hid (K.out.trans (edge_kept k))
        clear k
        go_wp2
        go_ret
        exact ⟨rfl, K.out⟩
    · cases b with
      | false =>
        have HV := Lib.hid (show chkPod ⟨bp, Pk.bE, 1000000, [], [], [], [], Pk.bE, 0, Pk.bE, false⟩ = 0 by rw [edge_chk, Pk.sp0]; decide)
        have HCK := Lib.hid (fun W => show Calls Tryz.prog 60 #[.agg #[.string ⟨#[112]⟩, .string ⟨#[]⟩, .int .i64 (1000000), .slice none 0 0, .slice none 0 0, .slice none 0 0, .slice none 0 0, .string ⟨#[]⟩, .int .i64 (0), .string ⟨#[]⟩, .bool false]] W (Say (.int .i64 0) W) by have h := checkP_any ⟨bp, Pk.bE, 1000000, [], [], [], [], Pk.bE, 0, Pk.bE, false⟩ _ _ _ _ W (edge_at (1000000) (0) Pk.bE false W (by decide) (by decide) (by decide)); rw [HV.out] at h; exact h)
        clear HV
        go_enter Tryz.func12, Tryz.ntmps12
        go_wp2_with fail
        refine (Pk.known_any _ HE.out).mono ?_
        rintro e w1 ⟨rfl, kk⟩
        have K := Lib.hid kk
        clear kk
        go_wp2_with fail
        refine (HCK.out _).mono ?_
        rintro e w2 ⟨rfl, k⟩
        have K := Lib.hid (K.out.trans (edge_kept k))
        clear k
        go_wp2
        go_ret
        exact ⟨rfl, K.out⟩
      | true =>
        have HV := Lib.hid (show chkPod ⟨bp, Pk.bE, 1000000, [], [], [], [], Pk.bE, 0, Pk.bE, true⟩ = 1 by rw [edge_chk, Pk.sp0]; decide)
        have HCK := Lib.hid (fun W => show Calls Tryz.prog 60 #[.agg #[.string ⟨#[112]⟩, .string ⟨#[]⟩, .int .i64 (1000000), .slice none 0 0, .slice none 0 0, .slice none 0 0, .slice none 0 0, .string ⟨#[]⟩, .int .i64 (0), .string ⟨#[]⟩, .bool true]] W (Say (.int .i64 1) W) by have h := checkP_any ⟨bp, Pk.bE, 1000000, [], [], [], [], Pk.bE, 0, Pk.bE, true⟩ _ _ _ _ W (edge_at (1000000) (0) Pk.bE true W (by decide) (by decide) (by decide)); rw [HV.out] at h; exact h)
        clear HV
        go_enter Tryz.func12, Tryz.ntmps12
        go_wp2_with fail
        refine (Pk.known_any _ HE.out).mono ?_
        rintro e w1 ⟨rfl, kk⟩
        have K := Lib.hid kk
        clear kk
        go_wp2_with fail
        refine (HCK.out _).mono ?_
        rintro e w2 ⟨rfl, k⟩
        have K := Lib.hid (K.out.trans (edge_kept k))
        clear k
        go_wp2
        go_ret
        exact ⟨rfl, K.out⟩
    · cases b with
      | false =>
        have HV := Lib.hid (show chkPod ⟨bp, Pk.bE, 1000001, [], [], [], [], Pk.bE, 0, Pk.bE, false⟩ = 1 by rw [edge_chk, Pk.sp0]; decide)
        have HCK := Lib.hid (fun W => show Calls Tryz.prog 60 #[.agg #[.string ⟨#[112]⟩, .string ⟨#[]⟩, .int .i64 (1000001), .slice none 0 0, .slice none 0 0, .slice none 0 0, .slice none 0 0, .string ⟨#[]⟩, .int .i64 (0), .string ⟨#[]⟩, .bool false]] W (Say (.int .i64 1) W) by have h := checkP_any ⟨bp, Pk.bE, 1000001, [], [], [], [], Pk.bE, 0, Pk.bE, false⟩ _ _ _ _ W (edge_at (1000001) (0) Pk.bE false W (by decide) (by decide) (by decide)); rw [HV.out] at h; exact h)
        clear HV
        go_enter Tryz.func12, Tryz.ntmps12
        go_wp2_with fail
        refine (Pk.known_any _ HE.out).mono ?_
        rintro e w1 ⟨rfl, kk⟩
        have K := Lib.hid kk
        clear kk
        go_wp2_with fail
        refine (HCK.out _).mono ?_
        rintro e w2 ⟨rfl, k⟩
        have K := Lib.hid (K.out.trans (edge_kept k))
        clear k
        go_wp2
        go_ret
        exact ⟨rfl, K.out⟩
      | true =>
        have HV := Lib.hid (show chkPod ⟨bp, Pk.bE, 1000001, [], [], [], [], Pk.bE, 0, Pk.bE, true⟩ = 1 by rw [edge_chk, Pk.sp0]; decide)
        have HCK := Lib.hid (fun W => show Calls Tryz.prog 60 #[.agg #[.string ⟨#[112]⟩, .string ⟨#[]⟩, .int .i64 (1000001), .slice none 0 0, .slice none 0 0, .slice none 0 0, .slice none 0 0, .string ⟨#[]⟩, .int .i64 (0), .string ⟨#[]⟩, .bool true]] W (Say (.int .i64 1) W) by have h := checkP_any ⟨bp, Pk.bE, 1000001, [], [], [], [], Pk.bE, 0, Pk.bE, true⟩ _ _ _ _ W (edge_at (1000001) (0) Pk.bE true W (by decide) (by decide) (by decide)); rw [HV.out] at h; exact h)
        clear HV
        go_enter Tryz.func12, Tryz.ntmps12
        go_wp2_with fail
        refine (Pk.known_any _ HE.out).mono ?_
        rintro e w1 ⟨rfl, kk⟩
        have K := Lib.hid kk
        clear kk
        go_wp2_with fail
        refine (HCK.out _).mono ?_
        rintro e w2 ⟨rfl, k⟩
        have K := Lib.hid (K.out.trans (edge_kept k))
        clear k
        go_wp2
        go_ret
        exact ⟨rfl, K.out⟩
  · rcases h3 with h3 | h3 | h3
    · cases b with
      | false =>
        have HV := Lib.hid (show chkPod ⟨bp, Pk.bE, -2, [], [], [], [], Pk.bE, 0, Pk.bE, false⟩ = 1 by rw [edge_chk, Pk.sp0]; decide)
        have HCK := Lib.hid (fun W => show Calls Tryz.prog 60 #[.agg #[.string ⟨#[112]⟩, .string ⟨#[]⟩, .int .i64 (-2), .slice none 0 0, .slice none 0 0, .slice none 0 0, .slice none 0 0, .string ⟨#[]⟩, .int .i64 (0), .string ⟨#[]⟩, .bool false]] W (Say (.int .i64 1) W) by have h := checkP_any ⟨bp, Pk.bE, -2, [], [], [], [], Pk.bE, 0, Pk.bE, false⟩ _ _ _ _ W (edge_at (-2) (0) Pk.bE false W (by decide) (by decide) (by decide)); rw [HV.out] at h; exact h)
        clear HV
        go_enter Tryz.func12, Tryz.ntmps12
        go_wp2_with fail
        refine (Pk.known_any _ HE.out).mono ?_
        rintro e w1 ⟨rfl, kk⟩
        have K := Lib.hid kk
        clear kk
        go_wp2_with fail
        refine (HCK.out _).mono ?_
        rintro e w2 ⟨rfl, k⟩
        have K := Lib.hid (K.out.trans (edge_kept k))
        clear k
        go_wp2
        go_ret
        exact ⟨rfl, K.out⟩
      | true =>
        have HV := Lib.hid (show chkPod ⟨bp, Pk.bE, -2, [], [], [], [], Pk.bE, 0, Pk.bE, true⟩ = 1 by rw [edge_chk, Pk.sp0]; decide)
        have HCK := Lib.hid (fun W => show Calls Tryz.prog 60 #[.agg #[.string ⟨#[112]⟩, .string ⟨#[]⟩, .int .i64 (-2), .slice none 0 0, .slice none 0 0, .slice none 0 0, .slice none 0 0, .string ⟨#[]⟩, .int .i64 (0), .string ⟨#[]⟩, .bool true]] W (Say (.int .i64 1) W) by have h := checkP_any ⟨bp, Pk.bE, -2, [], [], [], [], Pk.bE, 0, Pk.bE, true⟩ _ _ _ _ W (edge_at (-2) (0) Pk.bE true W (by decide) (by decide) (by decide)); rw [HV.out] at h; exact h)
        clear HV
        go_enter Tryz.func12, Tryz.ntmps12
        go_wp2_with fail
        refine (Pk.known_any _ HE.out).mono ?_
        rintro e w1 ⟨rfl, kk⟩
        have K := Lib.hid kk
        clear kk
        go_wp2_with fail
        refine (HCK.out _).mono ?_
        rintro e w2 ⟨rfl, k⟩
        have K := Lib.hid (K.out.trans (edge_kept k))
        clear k
        go_wp2
        go_ret
        exact ⟨rfl, K.out⟩
    · cases b with
      | false =>
        have HV := Lib.hid (show chkPod ⟨bp, Pk.bE, -1, [], [], [], [], Pk.bE, 0, Pk.bE, false⟩ = 1 by rw [edge_chk, Pk.sp0]; decide)
        have HCK := Lib.hid (fun W => show Calls Tryz.prog 60 #[.agg #[.string ⟨#[112]⟩, .string ⟨#[]⟩, .int .i64 (-1), .slice none 0 0, .slice none 0 0, .slice none 0 0, .slice none 0 0, .string ⟨#[]⟩, .int .i64 (0), .string ⟨#[]⟩, .bool false]] W (Say (.int .i64 1) W) by have h := checkP_any ⟨bp, Pk.bE, -1, [], [], [], [], Pk.bE, 0, Pk.bE, false⟩ _ _ _ _ W (edge_at (-1) (0) Pk.bE false W (by decide) (by decide) (by decide)); rw [HV.out] at h; exact h)
        clear HV
        go_enter Tryz.func12, Tryz.ntmps12
        go_wp2_with fail
        refine (Pk.known_any _ HE.out).mono ?_
        rintro e w1 ⟨rfl, kk⟩
        have K := Lib.hid kk
        clear kk
        go_wp2_with fail
        refine (HCK.out _).mono ?_
        rintro e w2 ⟨rfl, k⟩
        have K := Lib.hid (K.out.trans (edge_kept k))
        clear k
        go_wp2
        go_ret
        exact ⟨rfl, K.out⟩
      | true =>
        have HV := Lib.hid (show chkPod ⟨bp, Pk.bE, -1, [], [], [], [], Pk.bE, 0, Pk.bE, true⟩ = 0 by rw [edge_chk, Pk.sp0]; decide)
        have HCK := Lib.hid (fun W => show Calls Tryz.prog 60 #[.agg #[.string ⟨#[112]⟩, .string ⟨#[]⟩, .int .i64 (-1), .slice none 0 0, .slice none 0 0, .slice none 0 0, .slice none 0 0, .string ⟨#[]⟩, .int .i64 (0), .string ⟨#[]⟩, .bool true]] W (Say (.int .i64 0) W) by have h := checkP_any ⟨bp, Pk.bE, -1, [], [], [], [], Pk.bE, 0, Pk.bE, true⟩ _ _ _ _ W (edge_at (-1) (0) Pk.bE true W (by decide) (by decide) (by decide)); rw [HV.out] at h; exact h)
        clear HV
        go_enter Tryz.func12, Tryz.ntmps12
        go_wp2_with fail
        refine (Pk.known_any _ HE.out).mono ?_
        rintro e w1 ⟨rfl, kk⟩
        have K := Lib.hid kk
        clear kk
        go_wp2_with fail
        refine (HCK.out _).mono ?_
        rintro e w2 ⟨rfl, k⟩
        have K := Lib.hid (K.out.trans (edge_kept k))
        clear k
        go_wp2
        go_ret
        exact ⟨rfl, K.out⟩
    · cases b with
      | false =>
        have HV := Lib.hid (show chkPod ⟨bp, Pk.bE, 0, [], [], [], [], Pk.bE, 0, Pk.bE, false⟩ = 0 by rw [edge_chk, Pk.sp0]; decide)
        have HCK := Lib.hid (fun W => show Calls Tryz.prog 60 #[.agg #[.string ⟨#[112]⟩, .string ⟨#[]⟩, .int .i64 (0), .slice none 0 0, .slice none 0 0, .slice none 0 0, .slice none 0 0, .string ⟨#[]⟩, .int .i64 (0), .string ⟨#[]⟩, .bool false]] W (Say (.int .i64 0) W) by have h := checkP_any ⟨bp, Pk.bE, 0, [], [], [], [], Pk.bE, 0, Pk.bE, false⟩ _ _ _ _ W (edge_at (0) (0) Pk.bE false W (by decide) (by decide) (by decide)); rw [HV.out] at h; exact h)
        clear HV
        go_enter Tryz.func12, Tryz.ntmps12
        go_wp2_with fail
        refine (Pk.known_any _ HE.out).mono ?_
        rintro e w1 ⟨rfl, kk⟩
        have K := Lib.hid kk
        clear kk
        go_wp2_with fail
        refine (HCK.out _).mono ?_
        rintro e w2 ⟨rfl, k⟩
        have K := Lib.hid (K.out.trans (edge_kept k))
        clear k
        go_wp2
        go_ret
        exact ⟨rfl, K.out⟩
      | true =>
        have HV := Lib.hid (show chkPod ⟨bp, Pk.bE, 0, [], [], [], [], Pk.bE, 0, Pk.bE, true⟩ = 1 by rw [edge_chk, Pk.sp0]; decide)
        have HCK := Lib.hid (fun W => show Calls Tryz.prog 60 #[.agg #[.string ⟨#[112]⟩, .string ⟨#[]⟩, .int .i64 (0), .slice none 0 0, .slice none 0 0, .slice none 0 0, .slice none 0 0, .string ⟨#[]⟩, .int .i64 (0), .string ⟨#[]⟩, .bool true]] W (Say (.int .i64 1) W) by have h := checkP_any ⟨bp, Pk.bE, 0, [], [], [], [], Pk.bE, 0, Pk.bE, true⟩ _ _ _ _ W (edge_at (0) (0) Pk.bE true W (by decide) (by decide) (by decide)); rw [HV.out] at h; exact h)
        clear HV
        go_enter Tryz.func12, Tryz.ntmps12
        go_wp2_with fail
        refine (Pk.known_any _ HE.out).mono ?_
        rintro e w1 ⟨rfl, kk⟩
        have K := Lib.hid kk
        clear kk
        go_wp2_with fail
        refine (HCK.out _).mono ?_
        rintro e w2 ⟨rfl, k⟩
        have K := Lib.hid (K.out.trans (edge_kept k))
        clear k
        go_wp2
        go_ret
        exact ⟨rfl, K.out⟩
  · rcases h3 with h3 | h3 | h3
    · cases b with
      | false =>
        have HV := Lib.hid (show chkPod ⟨bp, Pk.bE, 0, [], [], [], [], Pk.bZone, 127, Pk.bE, false⟩ = 0 by rw [edge_chk, edge_zone]; decide)
        have HCK := Lib.hid (fun W => show Calls Tryz.prog 60 #[.agg #[.string ⟨#[112]⟩, .string ⟨#[]⟩, .int .i64 (0), .slice none 0 0, .slice none 0 0, .slice none 0 0, .slice none 0 0, .string ⟨#[122, 111, 110, 101]⟩, .int .i64 (127), .string ⟨#[]⟩, .bool false]] W (Say (.int .i64 0) W) by have h := checkP_any ⟨bp, Pk.bE, 0, [], [], [], [], Pk.bZone, 127, Pk.bE, false⟩ _ _ _ _ W (edge_at (0) (127) Pk.bZone false W (by decide) (by decide) (by decide)); rw [HV.out] at h; exact h)
        clear HV
        go_enter Tryz.func12, Tryz.ntmps12
        go_wp2_with fail
        refine (Pk.known_any _ HE.out).mono ?_
        rintro e w1 ⟨rfl, kk⟩
        have K := Lib.hid kk
        clear kk
        go_wp2_with fail
        refine (HCK.out _).mono ?_
        rintro e w2 ⟨rfl, k⟩
        have K := Lib.hid (K.out.trans (edge_kept k))
        clear k
        go_wp2
        go_ret
        exact ⟨rfl, K.out⟩
      | true =>
        have HV := Lib.hid (show chkPod ⟨bp, Pk.bE, 0, [], [], [], [], Pk.bZone, 127, Pk.bE, true⟩ = 1 by rw [edge_chk, edge_zone]; decide)
        have HCK := Lib.hid (fun W => show Calls Tryz.prog 60 #[.agg #[.string ⟨#[112]⟩, .string ⟨#[]⟩, .int .i64 (0), .slice none 0 0, .slice none 0 0, .slice none 0 0, .slice none 0 0, .string ⟨#[122, 111, 110, 101]⟩, .int .i64 (127), .string ⟨#[]⟩, .bool true]] W (Say (.int .i64 1) W) by have h := checkP_any ⟨bp, Pk.bE, 0, [], [], [], [], Pk.bZone, 127, Pk.bE, true⟩ _ _ _ _ W (edge_at (0) (127) Pk.bZone true W (by decide) (by decide) (by decide)); rw [HV.out] at h; exact h)
        clear HV
        go_enter Tryz.func12, Tryz.ntmps12
        go_wp2_with fail
        refine (Pk.known_any _ HE.out).mono ?_
        rintro e w1 ⟨rfl, kk⟩
        have K := Lib.hid kk
        clear kk
        go_wp2_with fail
        refine (HCK.out _).mono ?_
        rintro e w2 ⟨rfl, k⟩
        have K := Lib.hid (K.out.trans (edge_kept k))
        clear k
        go_wp2
        go_ret
        exact ⟨rfl, K.out⟩
    · cases b with
      | false =>
        have HV := Lib.hid (show chkPod ⟨bp, Pk.bE, 0, [], [], [], [], Pk.bZone, 128, Pk.bE, false⟩ = 0 by rw [edge_chk, edge_zone]; decide)
        have HCK := Lib.hid (fun W => show Calls Tryz.prog 60 #[.agg #[.string ⟨#[112]⟩, .string ⟨#[]⟩, .int .i64 (0), .slice none 0 0, .slice none 0 0, .slice none 0 0, .slice none 0 0, .string ⟨#[122, 111, 110, 101]⟩, .int .i64 (128), .string ⟨#[]⟩, .bool false]] W (Say (.int .i64 0) W) by have h := checkP_any ⟨bp, Pk.bE, 0, [], [], [], [], Pk.bZone, 128, Pk.bE, false⟩ _ _ _ _ W (edge_at (0) (128) Pk.bZone false W (by decide) (by decide) (by decide)); rw [HV.out] at h; exact h)
        clear HV
        go_enter Tryz.func12, Tryz.ntmps12
        go_wp2_with fail
        refine (Pk.known_any _ HE.out).mono ?_
        rintro e w1 ⟨rfl, kk⟩
        have K := Lib.hid kk
        clear kk
        go_wp2_with fail
        refine (HCK.out _).mono ?_
        rintro e w2 ⟨rfl, k⟩
        have K := Lib.hid (K.out.trans (edge_kept k))
        clear k
        go_wp2
        go_ret
        exact ⟨rfl, K.out⟩
      | true =>
        have HV := Lib.hid (show chkPod ⟨bp, Pk.bE, 0, [], [], [], [], Pk.bZone, 128, Pk.bE, true⟩ = 1 by rw [edge_chk, edge_zone]; decide)
        have HCK := Lib.hid (fun W => show Calls Tryz.prog 60 #[.agg #[.string ⟨#[112]⟩, .string ⟨#[]⟩, .int .i64 (0), .slice none 0 0, .slice none 0 0, .slice none 0 0, .slice none 0 0, .string ⟨#[122, 111, 110, 101]⟩, .int .i64 (128), .string ⟨#[]⟩, .bool true]] W (Say (.int .i64 1) W) by have h := checkP_any ⟨bp, Pk.bE, 0, [], [], [], [], Pk.bZone, 128, Pk.bE, true⟩ _ _ _ _ W (edge_at (0) (128) Pk.bZone true W (by decide) (by decide) (by decide)); rw [HV.out] at h; exact h)
        clear HV
        go_enter Tryz.func12, Tryz.ntmps12
        go_wp2_with fail
        refine (Pk.known_any _ HE.out).mono ?_
        rintro e w1 ⟨rfl, kk⟩
        have K := Lib.hid kk
        clear kk
        go_wp2_with fail
        refine (HCK.out _).mono ?_
        rintro e w2 ⟨rfl, k⟩
        have K := Lib.hid (K.out.trans (edge_kept k))
        clear k
        go_wp2
        go_ret
        exact ⟨rfl, K.out⟩
    · cases b with
      | false =>
        have HV := Lib.hid (show chkPod ⟨bp, Pk.bE, 0, [], [], [], [], Pk.bZone, 129, Pk.bE, false⟩ = 1 by rw [edge_chk, edge_zone]; decide)
        have HCK := Lib.hid (fun W => show Calls Tryz.prog 60 #[.agg #[.string ⟨#[112]⟩, .string ⟨#[]⟩, .int .i64 (0), .slice none 0 0, .slice none 0 0, .slice none 0 0, .slice none 0 0, .string ⟨#[122, 111, 110, 101]⟩, .int .i64 (129), .string ⟨#[]⟩, .bool false]] W (Say (.int .i64 1) W) by have h := checkP_any ⟨bp, Pk.bE, 0, [], [], [], [], Pk.bZone, 129, Pk.bE, false⟩ _ _ _ _ W (edge_at (0) (129) Pk.bZone false W (by decide) (by decide) (by decide)); rw [HV.out] at h; exact h)
        clear HV
        go_enter Tryz.func12, Tryz.ntmps12
        go_wp2_with fail
        refine (Pk.known_any _ HE.out).mono ?_
        rintro e w1 ⟨rfl, kk⟩
        have K := Lib.hid kk
        clear kk
        go_wp2_with fail
        refine (HCK.out _).mono ?_
        rintro e w2 ⟨rfl, k⟩
        have K := Lib.hid (K.out.trans (edge_kept k))
        clear k
        go_wp2
        go_ret
        exact ⟨rfl, K.out⟩
      | true =>
        have HV := Lib.hid (show chkPod ⟨bp, Pk.bE, 0, [], [], [], [], Pk.bZone, 129, Pk.bE, true⟩ = 1 by rw [edge_chk, edge_zone]; decide)
        have HCK := Lib.hid (fun W => show Calls Tryz.prog 60 #[.agg #[.string ⟨#[112]⟩, .string ⟨#[]⟩, .int .i64 (0), .slice none 0 0, .slice none 0 0, .slice none 0 0, .slice none 0 0, .string ⟨#[122, 111, 110, 101]⟩, .int .i64 (129), .string ⟨#[]⟩, .bool true]] W (Say (.int .i64 1) W) by have h := checkP_any ⟨bp, Pk.bE, 0, [], [], [], [], Pk.bZone, 129, Pk.bE, true⟩ _ _ _ _ W (edge_at (0) (129) Pk.bZone true W (by decide) (by decide) (by decide)); rw [HV.out] at h; exact h)
        clear HV
        go_enter Tryz.func12, Tryz.ntmps12
        go_wp2_with fail
        refine (Pk.known_any _ HE.out).mono ?_
        rintro e w1 ⟨rfl, kk⟩
        have K := Lib.hid kk
        clear kk
        go_wp2_with fail
        refine (HCK.out _).mono ?_
        rintro e w2 ⟨rfl, k⟩
        have K := Lib.hid (K.out.trans (edge_kept k))
        clear k
        go_wp2
        go_ret
        exact ⟨rfl, K.out⟩
  · rcases h3 with h3 | h3 | h3
    · cases b with
      | false =>
        have HV := Lib.hid (show chkPod ⟨bp, Pk.bE, 0, [], [], [], [], Pk.bZone, 0, Pk.bE, false⟩ = 1 by rw [edge_chk, edge_zone]; decide)
        have HCK := Lib.hid (fun W => show Calls Tryz.prog 60 #[.agg #[.string ⟨#[112]⟩, .string ⟨#[]⟩, .int .i64 (0), .slice none 0 0, .slice none 0 0, .slice none 0 0, .slice none 0 0, .string ⟨#[122, 111, 110, 101]⟩, .int .i64 (0), .string ⟨#[]⟩, .bool false]] W (Say (.int .i64 1) W) by have h := checkP_any ⟨bp, Pk.bE, 0, [], [], [], [], Pk.bZone, 0, Pk.bE, false⟩ _ _ _ _ W (edge_at (0) (0) Pk.bZone false W (by decide) (by decide) (by decide)); rw [HV.out] at h; exact h)
        clear HV
        go_enter Tryz.func12, Tryz.ntmps12
        go_wp2_with fail
        refine (Pk.known_any _ HE.out).mono ?_
        rintro e w1 ⟨rfl, kk⟩
        have K := Lib.hid kk
        clear kk
        go_wp2_with fail
        refine (HCK.out _).mono ?_
        rintro e w2 ⟨rfl, k⟩
        have K := Lib.hid (K.out.trans (edge_kept k))
        clear k
        go_wp2
        go_ret
        exact ⟨rfl, K.out⟩
      | true =>
        have HV := Lib.hid (show chkPod ⟨bp, Pk.bE, 0, [], [], [], [], Pk.bZone, 0, Pk.bE, true⟩ = 1 by rw [edge_chk, edge_zone]; decide)
        have HCK := Lib.hid (fun W => show Calls Tryz.prog 60 #[.agg #[.string ⟨#[112]⟩, .string ⟨#[]⟩, .int .i64 (0), .slice none 0 0, .slice none 0 0, .slice none 0 0, .slice none 0 0, .string ⟨#[122, 111, 110, 101]⟩, .int .i64 (0), .string ⟨#[]⟩, .bool true]] W (Say (.int .i64 1) W) by have h := checkP_any ⟨bp, Pk.bE, 0, [], [], [], [], Pk.bZone, 0, Pk.bE, true⟩ _ _ _ _ W (edge_at (0) (0) Pk.bZone true W (by decide) (by decide) (by decide)); rw [HV.out] at h; exact h)
        clear HV
        go_enter Tryz.func12, Tryz.ntmps12
        go_wp2_with fail
        refine (Pk.known_any _ HE.out).mono ?_
        rintro e w1 ⟨rfl, kk⟩
        have K := Lib.hid kk
        clear kk
        go_wp2_with fail
        refine (HCK.out _).mono ?_
        rintro e w2 ⟨rfl, k⟩
        have K := Lib.hid (K.out.trans (edge_kept k))
        clear k
        go_wp2
        go_ret
        exact ⟨rfl, K.out⟩
    · cases b with
      | false =>
        have HV := Lib.hid (show chkPod ⟨bp, Pk.bE, 0, [], [], [], [], Pk.bZone, 1, Pk.bE, false⟩ = 0 by rw [edge_chk, edge_zone]; decide)
        have HCK := Lib.hid (fun W => show Calls Tryz.prog 60 #[.agg #[.string ⟨#[112]⟩, .string ⟨#[]⟩, .int .i64 (0), .slice none 0 0, .slice none 0 0, .slice none 0 0, .slice none 0 0, .string ⟨#[122, 111, 110, 101]⟩, .int .i64 (1), .string ⟨#[]⟩, .bool false]] W (Say (.int .i64 0) W) by have h := checkP_any ⟨bp, Pk.bE, 0, [], [], [], [], Pk.bZone, 1, Pk.bE, false⟩ _ _ _ _ W (edge_at (0) (1) Pk.bZone false W (by decide) (by decide) (by decide)); rw [HV.out] at h; exact h)
        clear HV
        go_enter Tryz.func12, Tryz.ntmps12
        go_wp2_with fail
        refine (Pk.known_any _ HE.out).mono ?_
        rintro e w1 ⟨rfl, kk⟩
        have K := Lib.hid kk
        clear kk
        go_wp2_with fail
        refine (HCK.out _).mono ?_
        rintro e w2 ⟨rfl, k⟩
        have K := Lib.hid (K.out.trans (edge_kept k))
        clear k
        go_wp2
        go_ret
        exact ⟨rfl, K.out⟩
      | true =>
        have HV := Lib.hid (show chkPod ⟨bp, Pk.bE, 0, [], [], [], [], Pk.bZone, 1, Pk.bE, true⟩ = 1 by rw [edge_chk, edge_zone]; decide)
        have HCK := Lib.hid (fun W => show Calls Tryz.prog 60 #[.agg #[.string ⟨#[112]⟩, .string ⟨#[]⟩, .int .i64 (0), .slice none 0 0, .slice none 0 0, .slice none 0 0, .slice none 0 0, .string ⟨#[122, 111, 110, 101]⟩, .int .i64 (1), .string ⟨#[]⟩, .bool true]] W (Say (.int .i64 1) W) by have h := checkP_any ⟨bp, Pk.bE, 0, [], [], [], [], Pk.bZone, 1, Pk.bE, true⟩ _ _ _ _ W (edge_at (0) (1) Pk.bZone true W (by decide) (by decide) (by decide)); rw [HV.out] at h; exact h)
        clear HV
        go_enter Tryz.func12, Tryz.ntmps12
        go_wp2_with fail
        refine (Pk.known_any _ HE.out).mono ?_
        rintro e w1 ⟨rfl, kk⟩
        have K := Lib.hid kk
        clear kk
        go_wp2_with fail
        refine (HCK.out _).mono ?_
        rintro e w2 ⟨rfl, k⟩
        have K := Lib.hid (K.out.trans (edge_kept k))
        clear k
        go_wp2
        go_ret
        exact ⟨rfl, K.out⟩
    · cases b with
      | false =>
        have HV := Lib.hid (show chkPod ⟨bp, Pk.bE, 0, [], [], [], [], Pk.bZone, 2, Pk.bE, false⟩ = 0 by rw [edge_chk, edge_zone]; decide)
        have HCK := Lib.hid (fun W => show Calls Tryz.prog 60 #[.agg #[.string ⟨#[112]⟩, .string ⟨#[]⟩, .int .i64 (0), .slice none 0 0, .slice none 0 0, .slice none 0 0, .slice none 0 0, .string ⟨#[122, 111, 110, 101]⟩, .int .i64 (2), .string ⟨#[]⟩, .bool false]] W (Say (.int .i64 0) W) by have h := checkP_any ⟨bp, Pk.bE, 0, [], [], [], [], Pk.bZone, 2, Pk.bE, false⟩ _ _ _ _ W (edge_at (0) (2) Pk.bZone false W (by decide) (by decide) (by decide)); rw [HV.out] at h; exact h)
        clear HV
        go_enter Tryz.func12, Tryz.ntmps12
        go_wp2_with fail
        refine (Pk.known_any _ HE.out).mono ?_
        rintro e w1 ⟨rfl, kk⟩
        have K := Lib.hid kk
        clear kk
        go_wp2_with fail
        refine (HCK.out _).mono ?_
        rintro e w2 ⟨rfl, k⟩
        have K := Lib.hid (K.out.trans (edge_kept k))
        clear k
        go_wp2
        go_ret
        exact ⟨rfl, K.out⟩
      | true =>
        have HV := Lib.hid (show chkPod ⟨bp, Pk.bE, 0, [], [], [], [], Pk.bZone, 2, Pk.bE, true⟩ = 1 by rw [edge_chk, edge_zone]; decide)
        have HCK := Lib.hid (fun W => show Calls Tryz.prog 60 #[.agg #[.string ⟨#[112]⟩, .string ⟨#[]⟩, .int .i64 (0), .slice none 0 0, .slice none 0 0, .slice none 0 0, .slice none 0 0, .string ⟨#[122, 111, 110, 101]⟩, .int .i64 (2), .string ⟨#[]⟩, .bool true]] W (Say (.int .i64 1) W) by have h := checkP_any ⟨bp, Pk.bE, 0, [], [], [], [], Pk.bZone, 2, Pk.bE, true⟩ _ _ _ _ W (edge_at (0) (2) Pk.bZone true W (by decide) (by decide) (by decide)); rw [HV.out] at h; exact h)
        clear HV
        go_enter Tryz.func12, Tryz.ntmps12
        go_wp2_with fail
        refine (Pk.known_any _ HE.out).mono ?_
        rintro e w1 ⟨rfl, kk⟩
        have K := Lib.hid kk
        clear kk
        go_wp2_with fail
        refine (HCK.out _).mono ?_
        rintro e w2 ⟨rfl, k⟩
        have K := Lib.hid (K.out.trans (edge_kept k))
        clear k
        go_wp2
        go_ret
        exact ⟨rfl, K.out⟩
theorem PodEdges_walk (n : Int) (b : Bool) (m : Int) (w : World) (hE : EnvP w) (hn : (Lit.int .u8 n).wf = true) (hm : (Lit.int .u8 m).wf = true) :
    Calls Tryz.prog 12 #[.int .u8 n, .bool b, .int .u8 m] w fun e w' => e = .returned (.bool true) ∧ Kept w w' := by
  have a := bounds_u8 hn
  have c := bounds_u8 hm
  exact edges_any n b m w hE ⟨a.1, by omega⟩ ⟨c.1, by omega⟩

end Go.Proofs.YtppbbgppooblfaaGreatDoor
