/- A part's form: a taint, a toleration. -/
import Derived.Test.YthlhaefaafjmlaaDoorGStr
import Derived.Test.YthlhaefaafjmlaaDoorTaBase
namespace Go.Proofs.YthlhaefaafjmlaaDoor
open Go.RowKit
set_option linter.unusedVariables false

theorem hasPrefix_any (p q : List UInt8) (w : World) :
    Calls Tryd.prog 66 #[.string (bytes p), .string (bytes q)] w fun e w' => e = .returned (.bool (Lib.hasPrefix p q)) ∧ w' = w :=
  Tryd.strings_HasPrefix (bytes p) (bytes q) w
theorem cutSuffix_any (p : List UInt8) (w : World) (hp : p.length ≤ 1000000) :
    Calls Tryd.prog 63 #[.string (bytes p), .string ⟨#[33]⟩] w fun e w' => e = .returned (.tuple #[.string (bytes (Lib.trimSuffix p [33])), .bool (Lib.hasSuffix p [33])]) ∧ w' = w :=
  Tryd.strings_CutSuffix (bytes p) ⟨#[33]⟩ w (by rw [bytes_size]; omega)

/-- A taint's part. -/
def readA (p : List UInt8) : NT := (bytes (Lib.cut (Lib.trimSuffix p [33]) [58]).1, bytes (Lib.cut (Lib.trimSuffix p [33]) [58]).2.1, Lib.hasSuffix p [33])
def readABad (p : List UInt8) : Bool := decide (Lib.countByte p 58 ≠ 1)
/-- A toleration's part. -/
def keyO (k : List UInt8) : ByteArray := if k = [42] then ByteArray.empty else bytes k
def readO (p : List UInt8) : NT := (keyO (Lib.cut p [58]).1, bytes (Lib.cut p [58]).2.1, !(Lib.cut p [58]).2.2)
def readOBad (p : List UInt8) : Bool := decide (p = []) || Lib.hasPrefix p [58] || decide (1 < Lib.countByte p 58)

theorem readA_ok (p : List UInt8) (w : World) (hE : Env w) (hp : p.length ≤ 1000000) (h : readABad p = false) :
    Calls Tryd.prog 48 #[.string (bytes p)] w fun e w' => e = .returned (NV (readA p).1 (readA p).2.1 (readA p).2.2) ∧ Kept w w' := by
  have HE := Lib.hid hE
  have h1 : Lib.countByte p 58 = 1 := by unfold readABad at h; simpa using h
  have HN := Lib.hid (fun W => count_any 58 p W)
  rw [h1] at HN
  obtain ⟨s, hs⟩ : ∃ s, Lib.trimSuffix p [33] = s := ⟨_, rfl⟩
  have hsl : s.length ≤ 1000000 := by rw [← hs]; have := Lib.trimSuffix_le p [33]; omega
  obtain ⟨q, hq⟩ : ∃ q, Lib.hasSuffix p [33] = q := ⟨_, rfl⟩
  have HS := Lib.hid (fun W => cutSuffix_any p W hp)
  rw [hs, hq] at HS
  have HV := Lib.hid (show readA p = (bytes (Lib.cut s [58]).1, bytes (Lib.cut s [58]).2.1, q) by unfold readA; rw [hs, hq])
  have HC := Lib.hid (fun W (hW : Env W) => cut_any 58 s W hW hsl)
  clear hE h h1 hs hq
  rw [HV.out]
  go_enter Tryd.func48, Tryd.ntmps48
  go_wp2_with (first | (go_at_call 62; refine (HN.out _).mono ?_; rintro e w' ⟨rfl, rfl⟩) | (go_at_call 63; refine (HS.out _).mono ?_; rintro e w' ⟨rfl, rfl⟩) | (go_at_call 64; refine (HC.out _ (HE.out.kept (kept_alloc _ _))).mono ?_; rintro e w' ⟨rfl, n, rfl⟩))
  (try simp only [Exit.inBlock, Exit.then])
  refine bodyPost_ret (v := NV (bytes (Lib.cut s [58]).1) (bytes (Lib.cut s [58]).2.1) q) (by simp [results, Tryd.results48, go_sem]) rfl ?_
  exact ⟨rfl, kept_cell (kept_cell (kept_cell ((kept_alloc _ _).trans (Kept.drewN _ _)) (Nat.le_refl _) _) (Nat.le_refl _) _) (Nat.le_refl _) _⟩

theorem readA_bad (p : List UInt8) (w : World) (hE : Env w) (hp : p.length ≤ 1000000) (h : readABad p = true) :
    Calls Tryd.prog 48 #[.string (bytes p)] w fun e w' => e = .panicked [perr 2] ∧ Kept w w' := by
  have h1 : Lib.countByte p 58 ≠ 1 := by unfold readABad at h; simpa using h
  obtain ⟨A, eA⟩ : ∃ A, Lib.countByte p 58 = A := ⟨_, rfl⟩
  have HN := Lib.hid (fun W => count_any 58 p W)
  rw [eA] at HN h1
  have h2 : ((A : Int) != 1) = true := by
    have : (A : Int) ≠ 1 := by omega
    simpa using this
  clear hE h h1
  go_enter Tryd.func48, Tryd.ntmps48
  go_wp2_with (go_at_call 62; refine (HN.out _).mono ?_; rintro e w' ⟨rfl, rfl⟩)
  first | exact ⟨rfl, rfl, Kept.refl _⟩ | exact ⟨rfl, rfl, kept_alloc _ _⟩

set_option maxHeartbeats 1600000 in
theorem readO_ok (p : List UInt8) (w : World) (hE : Env w) (hp : p.length ≤ 1000000) (h : readOBad p = false) :
    Calls Tryd.prog 52 #[.string (bytes p)] w fun e w' => e = .returned (NV (readO p).1 (readO p).2.1 (readO p).2.2) ∧ Kept w w' := by
  have HE := Lib.hid hE
  unfold readOBad at h
  rw [Bool.or_eq_false_iff, Bool.or_eq_false_iff] at h
  obtain ⟨⟨h0, h1⟩, h2⟩ := h
  have e0 : ((bytes p).toList == ([] : List UInt8)) = false := by rw [bytes_toList]; simpa using h0
  have h2 : ¬ 1 < Lib.countByte p 58 := by simpa using h2
  have hA := count_le p 58
  have HP := Lib.hid (fun W => hasPrefix_any p [58] W)
  rw [h1] at HP
  have HN := Lib.hid (fun W => count_any 58 p W)
  obtain ⟨A, eA⟩ : ∃ A, Lib.countByte p 58 = A := ⟨_, rfl⟩
  rw [eA] at HN h2 hA
  obtain ⟨k, hk⟩ : ∃ k, (Lib.cut p [58]).1 = k := ⟨_, rfl⟩
  obtain ⟨v, hv⟩ : ∃ v, (Lib.cut p [58]).2.1 = v := ⟨_, rfl⟩
  obtain ⟨q, hq⟩ : ∃ q, (Lib.cut p [58]).2.2 = q := ⟨_, rfl⟩
  have HC := Lib.hid (fun W (hW : Env W) => cut_any 58 p W hW hp)
  rw [hk, hv, hq] at HC
  obtain ⟨z, hz⟩ : ∃ z, ((bytes k).toList == [42]) = z := ⟨_, rfl⟩
  have HV := Lib.hid (show readO p = ((if z = true then ByteArray.empty else bytes k), bytes v, !q) by
    unfold readO keyO; rw [hk, hv, hq]
    have : (k = [42]) ↔ z = true := by rw [← hz, bytes_toList]; simp
    by_cases hkk : k = [42]
    · rw [if_pos hkk, if_pos (this.1 hkk)]
    · rw [if_neg hkk, if_neg (fun h => hkk (this.2 h))])
  clear hE h0 h1 hk hv hq eA
  rw [HV.out]
  cases z with
  | true =>
    go_enter Tryd.func52, Tryd.ntmps52
    go_wp2_with (first | (go_at_call 62; refine (HN.out _).mono ?_; rintro e w' ⟨rfl, rfl⟩) | (go_at_call 66; refine (HP.out _).mono ?_; rintro e w' ⟨rfl, rfl⟩) | (go_at_call 64; refine (HC.out _ (HE.out.kept (kept_alloc _ _))).mono ?_; rintro e w' ⟨rfl, n, rfl⟩))
    (try simp only [Exit.inBlock, Exit.then])
    refine bodyPost_ret (v := NV ⟨#[]⟩ (bytes v) (!q)) (by simp [results, Tryd.results52, go_sem]) rfl ?_
    exact ⟨rfl, kept_cell (kept_cell (kept_cell ((kept_alloc _ _).trans (Kept.drewN _ _)) (Nat.le_refl _) _) (Nat.le_refl _) _) (Nat.le_refl _) _⟩
  | false =>
    go_enter Tryd.func52, Tryd.ntmps52
    go_wp2_with (first | (go_at_call 62; refine (HN.out _).mono ?_; rintro e w' ⟨rfl, rfl⟩) | (go_at_call 66; refine (HP.out _).mono ?_; rintro e w' ⟨rfl, rfl⟩) | (go_at_call 64; refine (HC.out _ (HE.out.kept (kept_alloc _ _))).mono ?_; rintro e w' ⟨rfl, n, rfl⟩))
    (try simp only [Exit.inBlock, Exit.then])
    refine bodyPost_ret (v := NV (bytes k) (bytes v) (!q)) (by simp [results, Tryd.results52, go_sem]) rfl ?_
    exact ⟨rfl, kept_cell (kept_cell (kept_cell ((kept_alloc _ _).trans (Kept.drewN _ _)) (Nat.le_refl _) _) (Nat.le_refl _) _) (Nat.le_refl _) _⟩

set_option maxHeartbeats 1600000 in
theorem readO_bad (p : List UInt8) (w : World) (hE : Env w) (hp : p.length ≤ 1000000) (h : readOBad p = true) :
    Calls Tryd.prog 52 #[.string (bytes p)] w fun e w' => e = .panicked [perr 2] ∧ Kept w w' := by
  unfold readOBad at h
  have hA := count_le p 58
  have HP := Lib.hid (fun W => hasPrefix_any p [58] W)
  have HN := Lib.hid (fun W => count_any 58 p W)
  obtain ⟨A, eA⟩ : ∃ A, Lib.countByte p 58 = A := ⟨_, rfl⟩
  obtain ⟨q, hq⟩ : ∃ q, Lib.hasPrefix p [58] = q := ⟨_, rfl⟩
  rw [eA] at HN h hA
  rw [hq] at HP h
  by_cases h0 : p = []
  · have e0 : ((bytes p).toList == ([] : List UInt8)) = true := by rw [bytes_toList, h0]; rfl
    clear h h0 hE eA hq
    go_enter Tryd.func52, Tryd.ntmps52
    go_wp2
    first | exact ⟨rfl, rfl, Kept.refl _⟩ | exact ⟨rfl, rfl, kept_alloc _ _⟩
  · have e0 : ((bytes p).toList == ([] : List UInt8)) = false := by rw [bytes_toList]; simpa using h0
    cases q with
    | true =>
      clear h h0 hE eA hq
      go_enter Tryd.func52, Tryd.ntmps52
      go_wp2_with (go_at_call 66; refine (HP.out _).mono ?_; rintro e w' ⟨rfl, rfl⟩)
      first | exact ⟨rfl, rfl, Kept.refl _⟩ | exact ⟨rfl, rfl, kept_alloc _ _⟩
    | false =>
      have h2 : 1 < A := by
        have e1 : decide (p = []) = false := by simpa using h0
        rw [e1] at h
        simpa using h
      have h2' : (1 : Int) < (A : Int) := by omega
      clear h h0 hE eA hq h2
      go_enter Tryd.func52, Tryd.ntmps52
      go_wp2_with (first | (go_at_call 62; refine (HN.out _).mono ?_; rintro e w' ⟨rfl, rfl⟩) | (go_at_call 66; refine (HP.out _).mono ?_; rintro e w' ⟨rfl, rfl⟩))
      first | exact ⟨rfl, rfl, Kept.refl _⟩ | exact ⟨rfl, rfl, kept_alloc _ _⟩

end Go.Proofs.YthlhaefaafjmlaaDoor
