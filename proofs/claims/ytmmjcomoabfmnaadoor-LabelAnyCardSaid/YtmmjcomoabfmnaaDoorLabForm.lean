/- A part's form: a pair, a term. -/
import Derived.Test.YtmmjcomoabfmnaaDoorGCount
import Derived.Test.YtmmjcomoabfmnaaDoorLabSel
namespace Go.Proofs.YtmmjcomoabfmnaaDoor
open Go.RowKit
set_option linter.unusedVariables false

theorem contains_any (c : UInt8) (p : List UInt8) (w : World) :
    Calls Tryd.prog 57 #[.string (bytes p), .string ⟨#[c]⟩] w fun e w' => e = .returned (.bool (decide (0 ≤ Lib.indexByte p c))) ∧ w' = w := Tryd.strings_Contains_one (bytes p) c w
theorem cutPrefix_any (p q : List UInt8) (w : World) :
    Calls Tryd.prog 60 #[.string (bytes p), .string (bytes q)] w fun e w' => e = .returned (.tuple #[.string (bytes (Lib.trimPrefix p q)), .bool (Lib.hasPrefix p q)]) ∧ w' = w := Tryd.strings_CutPrefix (bytes p) (bytes q) w
/-- A set's part. -/
def pairL (p : List UInt8) : ByteArray × ByteArray := (bytes (Lib.cut p [58]).1, bytes (Lib.cut p [58]).2.1)
def pairBad (p : List UInt8) : Bool := !(Lib.cut p [58]).2.2 || decide (0 ≤ Lib.indexByte (Lib.cut p [58]).2.1 58)

theorem pair_ok (p : List UInt8) (w : World) (hE : Env w) (hp : p.length ≤ 1000000) (h : pairBad p = false) :
    Calls Tryd.prog 43 #[.string (bytes p)] w fun e w' => e = .returned (.agg #[.string (pairL p).1, .string (pairL p).2]) ∧ Kept w w' := by
  have HE := Lib.hid hE
  unfold pairBad at h
  rw [Bool.or_eq_false_iff] at h
  have h1 : (Lib.cut p [58]).2.2 = true := by simpa using h.1
  have h2 := h.2
  clear hE h
  obtain ⟨a, ha⟩ : ∃ a, (Lib.cut p [58]).1 = a := ⟨_, rfl⟩
  obtain ⟨b, hb⟩ : ∃ b, (Lib.cut p [58]).2.1 = b := ⟨_, rfl⟩
  have HV := Lib.hid (show (pairL p).1 = bytes a ∧ (pairL p).2 = bytes b by unfold pairL; rw [ha, hb]; exact ⟨rfl, rfl⟩)
  rw [hb] at h2
  have HC := Lib.hid (fun W (hW : Env W) => cut_any 58 p W hW hp)
  rw [h1, ha, hb] at HC
  clear ha hb h1
  rw [HV.out.1, HV.out.2]
  go_enter Tryd.func43, Tryd.ntmps43
  go_wp2_with (first | (go_at_call 56; refine (HC.out _ (HE.out.kept (kept_alloc _ _))).mono ?_; rintro e w' ⟨rfl, n, rfl⟩) | (go_at_call 57; refine (contains_any 58 b _).mono ?_; rintro e w' ⟨rfl, rfl⟩))
  (try simp only [Exit.inBlock, Exit.then])
  refine bodyPost_ret (v := .agg #[.string (bytes a), .string (bytes b)]) (by simp [results, Tryd.results43, go_sem]) rfl ?_
  exact ⟨rfl, kept_cell (kept_cell ((kept_alloc _ _).trans (Kept.drewN _ _)) (Nat.le_refl _) _) (Nat.le_refl _) _⟩

theorem pair_bad (p : List UInt8) (w : World) (hE : Env w) (hp : p.length ≤ 1000000) (h : pairBad p = true) :
    Calls Tryd.prog 43 #[.string (bytes p)] w fun e w' => e = .panicked [perr 2] ∧ Kept w w' := by
  have HE := Lib.hid hE
  unfold pairBad at h
  clear hE
  obtain ⟨a, ha⟩ : ∃ a, (Lib.cut p [58]).1 = a := ⟨_, rfl⟩
  obtain ⟨b, hb⟩ : ∃ b, (Lib.cut p [58]).2.1 = b := ⟨_, rfl⟩
  obtain ⟨q, hq⟩ : ∃ q, (Lib.cut p [58]).2.2 = q := ⟨_, rfl⟩
  rw [hb, hq] at h
  have HC := Lib.hid (fun W (hW : Env W) => cut_any 58 p W hW hp)
  rw [hq, ha, hb] at HC
  clear ha hb hq
  cases q with
  | false =>
    clear h
    go_enter Tryd.func43, Tryd.ntmps43
    go_wp2_with (go_at_call 56; refine (HC.out _ (HE.out.kept (kept_alloc _ _))).mono ?_; rintro e w' ⟨rfl, n, rfl⟩)
    exact ⟨rfl, rfl, (kept_alloc _ _).trans (Kept.drewN _ _)⟩
  | true =>
    have h2 : decide (0 ≤ Lib.indexByte b 58) = true := by simpa using h
    clear h
    go_enter Tryd.func43, Tryd.ntmps43
    go_wp2_with (first | (go_at_call 56; refine (HC.out _ (HE.out.kept (kept_alloc _ _))).mono ?_; rintro e w' ⟨rfl, n, rfl⟩) | (go_at_call 57; refine (contains_any 58 b _).mono ?_; rintro e w' ⟨rfl, rfl⟩))
    exact ⟨rfl, rfl, (kept_alloc _ _).trans (Kept.drewN _ _)⟩

/-- How many signs. -/
def signsL (p : List UInt8) : Nat := Lib.countByte p 58 + Lib.countByte p 33
/-- A selector's part. -/
def termL (p : List UInt8) : Int × ByteArray × ByteArray :=
  if Lib.hasPrefix p [45] = true then (4, bytes (Lib.trimPrefix p [45]), ByteArray.empty)
  else if signsL p = 0 then (3, bytes p, ByteArray.empty)
  else if (Lib.cut p [58]).2.2 = true then (1, bytes (Lib.cut p [58]).1, bytes (Lib.cut p [58]).2.1)
  else (2, bytes (Lib.cut p [33]).1, bytes (Lib.cut p [33]).2.1)
def termBad (p : List UInt8) : Bool := decide (p = []) || decide (1 < signsL p) || (decide (signsL p = 1) && Lib.hasPrefix p [45])

set_option maxHeartbeats 1600000 in
theorem term_ok (p : List UInt8) (w : World) (hE : Env w) (hp : p.length ≤ 1000000) (h : termBad p = false) :
    Calls Tryd.prog 47 #[.string (bytes p)] w fun e w' => e = .returned (TV (termL p).1 (termL p).2.1 (termL p).2.2) ∧ Kept w w' := by
  have HE := Lib.hid hE
  unfold termBad at h
  rw [Bool.or_eq_false_iff, Bool.or_eq_false_iff] at h
  obtain ⟨⟨h0, h1⟩, h2⟩ := h
  have e0 : ((bytes p).toList == ([] : List UInt8)) = false := by rw [bytes_toList]; simpa using h0
  have h1 : ¬ 1 < signsL p := by simpa using h1
  have hA := count_le p 58
  have hB := count_le p 33
  have HP := Lib.hid (fun W => cutPrefix_any p [45] W)
  clear hE h0
  obtain ⟨A, eA⟩ : ∃ A, Lib.countByte p 58 = A := ⟨_, rfl⟩
  obtain ⟨B, eB⟩ : ∃ B, Lib.countByte p 33 = B := ⟨_, rfl⟩
  have eS : signsL p = A + B := by unfold signsL; rw [eA, eB]
  rw [eA] at hA
  rw [eB] at hB
  rw [eS] at h1 h2
  by_cases hf : Lib.hasPrefix p [45] = true
  · have hs : A + B = 0 := by
      rw [hf, Bool.and_true] at h2
      have : ¬ A + B = 1 := by simpa using h2
      omega
    have HV := Lib.hid (show termL p = (4, bytes (Lib.trimPrefix p [45]), ByteArray.empty) by unfold termL; rw [if_pos hf])
    obtain ⟨rfl, rfl⟩ : A = 0 ∧ B = 0 := by omega
    rw [hf] at HP
    clear h1 h2 eS hA hB hf hs
    rw [HV.out]
    go_enter Tryd.func47, Tryd.ntmps47
    go_wp2_with (first | (go_at_call 59; refine (count_any _ p _).mono ?_; rintro e w' ⟨rfl, rfl⟩) | (go_at_call 60; refine (HP.out _).mono ?_; rintro e w' ⟨rfl, rfl⟩))
    (try simp only [Exit.inBlock, Exit.then])
    refine bodyPost_ret (v := TV 4 (bytes (Lib.trimPrefix p [45])) ⟨#[]⟩) (by simp [results, Tryd.results47, go_sem]) rfl ?_
    exact ⟨rfl, kept_alloc _ _⟩
  · have hf : Lib.hasPrefix p [45] = false := by simpa using hf
    have HG := Lib.hid hf
    rw [hf] at HP
    clear h2 hf
    by_cases hs : A + B = 0
    · have HV := Lib.hid (show termL p = (3, bytes p, ByteArray.empty) by unfold termL; rw [if_neg (by rw [HG.out]; decide), if_pos (eS.trans hs)])
      obtain ⟨rfl, rfl⟩ : A = 0 ∧ B = 0 := by omega
      clear h1 eS hA hB hs
      rw [HV.out]
      go_enter Tryd.func47, Tryd.ntmps47
      go_wp2_with (first | (go_at_call 59; refine (count_any _ p _).mono ?_; rintro e w' ⟨rfl, rfl⟩) | (go_at_call 60; refine (HP.out _).mono ?_; rintro e w' ⟨rfl, rfl⟩))
      (try simp only [Exit.inBlock, Exit.then])
      refine bodyPost_ret (v := TV 3 (bytes p) ⟨#[]⟩) (by simp [results, Tryd.results47, go_sem]) rfl ?_
      exact ⟨rfl, kept_alloc _ _⟩
    · have hs1 : A + B = 1 := by omega
      have hN : ¬ signsL p = 0 := by omega
      have hw : IntKind.i64.wrap ((A : Int) + (B : Int)) = 1 := by rw [show (A : Int) + (B : Int) = 1 by omega]; rfl
      have hab : (A : Int) + (B : Int) = 1 := by omega
      by_cases hc : (Lib.cut p [58]).2.2 = true
      · have HV := Lib.hid (show termL p = (1, bytes (Lib.cut p [58]).1, bytes (Lib.cut p [58]).2.1) by unfold termL; rw [if_neg (by rw [HG.out]; decide), if_neg hN, if_pos hc])
        clear h1 eS hA hB hs hs1 hN
        rw [HV.out]
        go_enter Tryd.func47, Tryd.ntmps47
        go_wp2_with (first | (go_at_call 59; refine (count_any _ p _).mono ?_; rintro e w' ⟨rfl, rfl⟩) | (go_at_call 60; refine (HP.out _).mono ?_; rintro e w' ⟨rfl, rfl⟩) | (go_at_call 56; refine (cut_any _ p _ (HE.out.kept (kept_alloc _ _)) hp).mono ?_; rintro e w' ⟨rfl, n, rfl⟩))
        (try simp only [Exit.inBlock, Exit.then])
        refine bodyPost_ret (v := TV 1 (bytes (Lib.cut p [58]).1) (bytes (Lib.cut p [58]).2.1)) (by simp [results, Tryd.results47, go_sem]) rfl ?_
        exact ⟨rfl, kept_cell (kept_cell (kept_cell ((kept_alloc _ _).trans (Kept.drewN _ _)) (Nat.le_refl _) _) (Nat.le_refl _) _) (Nat.le_refl _) _⟩
      · have hc : (Lib.cut p [58]).2.2 = false := by simpa using hc
        have HV := Lib.hid (show termL p = (2, bytes (Lib.cut p [33]).1, bytes (Lib.cut p [33]).2.1) by unfold termL; rw [if_neg (by rw [HG.out]; decide), if_neg hN, if_neg (by rw [hc]; decide)])
        clear h1 eS hA hB hs hs1 hN
        rw [HV.out]
        go_enter Tryd.func47, Tryd.ntmps47
        go_wp2_with (first | (go_at_call 59; refine (count_any _ p _).mono ?_; rintro e w' ⟨rfl, rfl⟩) | (go_at_call 60; refine (HP.out _).mono ?_; rintro e w' ⟨rfl, rfl⟩) | (go_at_call 56; refine (cut_any _ p _ (by first | exact HE.out.kept (kept_alloc _ _) | exact HE.out.kept ((kept_alloc _ _).trans (Kept.drewN _ _))) hp).mono ?_; rintro e w' ⟨rfl, n, rfl⟩))
        (try simp only [Exit.inBlock, Exit.then])
        refine bodyPost_ret (v := TV 2 (bytes (Lib.cut p [33]).1) (bytes (Lib.cut p [33]).2.1)) (by simp [results, Tryd.results47, go_sem]) rfl ?_
        exact ⟨rfl, kept_cell (kept_cell (kept_cell (by first | exact (kept_alloc _ _).trans (Kept.drewN _ _) | exact ((kept_alloc _ _).trans (Kept.drewN _ _)).trans (Kept.drewN _ _)) (Nat.le_refl _) _) (Nat.le_refl _) _) (Nat.le_refl _) _⟩

set_option maxHeartbeats 1600000 in
theorem term_bad (p : List UInt8) (w : World) (hE : Env w) (hp : p.length ≤ 1000000) (h : termBad p = true) :
    Calls Tryd.prog 47 #[.string (bytes p)] w fun e w' => e = .panicked [perr 2] ∧ Kept w w' := by
  unfold termBad at h
  have hA := count_le p 58
  have hB := count_le p 33
  have HP := Lib.hid (fun W => cutPrefix_any p [45] W)
  obtain ⟨A, eA⟩ : ∃ A, Lib.countByte p 58 = A := ⟨_, rfl⟩
  obtain ⟨B, eB⟩ : ∃ B, Lib.countByte p 33 = B := ⟨_, rfl⟩
  have eS : signsL p = A + B := by unfold signsL; rw [eA, eB]
  rw [eA] at hA
  rw [eB] at hB
  rw [eS] at h
  clear hE eS
  by_cases h0 : p = []
  · have e0 : ((bytes p).toList == ([] : List UInt8)) = true := by rw [bytes_toList, h0]; rfl
    clear h h0
    go_enter Tryd.func47, Tryd.ntmps47
    go_wp2_with (first | (go_at_call 59; refine (count_any _ p _).mono ?_; rintro e w' ⟨rfl, rfl⟩) | (go_at_call 60; refine (HP.out _).mono ?_; rintro e w' ⟨rfl, rfl⟩))
    exact ⟨rfl, rfl, kept_alloc _ _⟩
  · have e0 : ((bytes p).toList == ([] : List UInt8)) = false := by rw [bytes_toList]; simpa using h0
    by_cases h1 : 1 < A + B
    · have h1' : (1 : Int) < (A : Int) + (B : Int) := by omega
      clear h h0 h1
      go_enter Tryd.func47, Tryd.ntmps47
      go_wp2_with (first | (go_at_call 59; refine (count_any _ p _).mono ?_; rintro e w' ⟨rfl, rfl⟩) | (go_at_call 60; refine (HP.out _).mono ?_; rintro e w' ⟨rfl, rfl⟩))
      exact ⟨rfl, rfl, kept_alloc _ _⟩
    · have h2 : A + B = 1 ∧ Lib.hasPrefix p [45] = true := by
        have e1 : decide (p = []) = false := by simpa using h0
        have e2 : decide (1 < A + B) = false := by simpa using h1
        rw [e1, e2, Bool.false_or, Bool.false_or, Bool.and_eq_true] at h
        exact ⟨by simpa using h.1, h.2⟩
      obtain ⟨hs, hf⟩ := h2
      have hw : IntKind.i64.wrap ((A : Int) + (B : Int)) = 1 := by rw [show (A : Int) + (B : Int) = 1 by omega]; rfl
      have hab : (A : Int) + (B : Int) = 1 := by omega
      rw [hf] at HP
      clear h h0 h1 hs hf hA hB
      go_enter Tryd.func47, Tryd.ntmps47
      go_wp2_with (first | (go_at_call 59; refine (count_any _ p _).mono ?_; rintro e w' ⟨rfl, rfl⟩) | (go_at_call 60; refine (HP.out _).mono ?_; rintro e w' ⟨rfl, rfl⟩))
      exact ⟨rfl, rfl, kept_alloc _ _⟩

end Go.Proofs.YtmmjcomoabfmnaaDoor
