/- The reference's signs. -/
import Derived.Test.YtmmjcomoabfmnaaDoorLabRefMath
namespace Go.Proofs.YtmmjcomoabfmnaaDoor
open Go.RowKit
set_option linter.unusedVariables false

def atK (p : List UInt8) (k : Nat) : Nat := if signsL (p.drop k) = 0 then 0 else k + firstS (p.drop k)
theorem atK_sign {p t : List UInt8} {k : Nat} {b : UInt8} (hd : p.drop k = b :: t) (hb : isSign b = true) : atK p k = k ∧ signsL (p.drop k) = signsL t + 1 := by
  unfold atK
  rw [hd, signs_cons, if_pos hb, if_neg (by omega), firstS, if_pos hb]
  omega
theorem atK_other {p : List UInt8} {k : Nat} {b : UInt8} (hd : p.drop k = b :: p.drop (k + 1)) (hb : isSign b = false) : atK p k = atK p (k + 1) ∧ signsL (p.drop k) = signsL (p.drop (k + 1)) := by
  have hb' : ¬ isSign b = true := by rw [hb]; decide
  unfold atK
  rw [hd, signs_cons, if_neg hb', Nat.zero_add]
  refine ⟨?_, rfl⟩
  split
  · rfl
  · rw [firstS, if_neg hb']; omega
theorem ret_pair {a b c d : Int} (h : a = c) (g : b = d) : Ending.returned (.tuple #[.int .i64 a, .int .i64 b]) = .returned (.tuple #[.int .i64 c, .int .i64 d]) := by rw [h, g]

set_option maxHeartbeats 800000 in
theorem signs_any (p : List UInt8) (w : World) (hp : p.length ≤ 1000000) :
    Calls Tryd.prog 49 #[.string (bytes p)] w fun e w' => e = .returned (.tuple #[.int .i64 (signsL p : Int), .int .i64 (atK p 0 : Int)]) ∧ w = w' := by
  have hsz : (bytes p).size = p.length := bytes_size p
  have HSZ := Lib.hid hsz
  have hlen : (bytes p).size ≤ 1000000 := by omega
  go_enter Tryd.func49, Tryd.ntmps49
  go_wp2
  go_loop [4, 5, 6] (fun n at_ i => ∃ k : Nat, k ≤ p.length ∧ i = .int .i64 ((k : Int) - 1) ∧ n = .int .i64 (signsL (p.drop k) : Int) ∧ at_ = .int .i64 (atK p k : Int)) (fun _ _ i => (intOf i + 1).toNat)
  case atStart => exact ⟨p.length, Nat.le_refl _, rfl, by rw [List.drop_length]; rfl, by unfold atK; rw [List.drop_length]; rfl⟩
  case round =>
    obtain ⟨k, hk, rfl, rfl, rfl⟩ := hrel
    rcases k with _ | j
    · have ei : (((0 : Nat) : Int) - 1) = -1 := rfl
      rw [ei]
      have HD := Lib.hid (show p.drop 0 = p from rfl)
      go_wp2
      go_ret2
      exact ⟨rfl, rfl⟩
    · have ei : (((j + 1 : Nat) : Int) - 1) = (j : Int) := by omega
      rw [ei]
      have hj : j < p.length := by omega
      have hj' : j < (bytes p).size := by omega
      have hb : (bytes p)[j] = p[j] := by
        simp [bytes, ByteArray.getElem_eq_getElem_data]
        rfl
      have hd : p.drop j = p[j] :: p.drop (j + 1) := List.drop_eq_getElem_cons hj
      obtain ⟨b, hbe⟩ : ∃ b, p[j] = b := ⟨_, rfl⟩
      rw [hbe] at hb hd
      obtain ⟨n, hn⟩ : ∃ n, signsL (p.drop (j + 1)) = n := ⟨_, rfl⟩
      obtain ⟨a, ha⟩ : ∃ a, atK p (j + 1) = a := ⟨_, rfl⟩
      have hnl : n ≤ 2000000 := by
        rw [← hn]; unfold signsL
        have h1 := count_le (p.drop (j + 1)) 58
        have h2 := count_le (p.drop (j + 1)) 33
        rw [List.length_drop] at h1 h2
        omega
      rw [hn, ha]
      by_cases h58 : b = 58
      · have HA := Lib.hid (atK_sign hd (by subst h58; rfl))
        have e1 : (((bytes p)[j].toNat : Int) == 58) = true := by rw [hb, h58]; rfl
        have HN := Lib.hid hn
        clear hb hd hn ha hbe h58
        go_wp2
        go_round
        case rel => exact ⟨j, by omega, by go_num, by rw [HA.out.2, HN.out]; go_num, by rw [HA.out.1]⟩
        case measure => simp [intOf]
      · by_cases h33 : b = 33
        · have HA := Lib.hid (atK_sign hd (by subst h33; rfl))
          have e1 : (((bytes p)[j].toNat : Int) == 58) = false := by rw [hb, h33]; rfl
          have e2 : (((bytes p)[j].toNat : Int) == 33) = true := by rw [hb, h33]; rfl
          have HN := Lib.hid hn
          clear hb hd hn ha hbe h58 h33
          go_wp2
          go_round
          case rel => exact ⟨j, by omega, by go_num, by rw [HA.out.2, HN.out]; go_num, by rw [HA.out.1]⟩
          case measure => simp [intOf]
        · have HA := Lib.hid (atK_other hd (show isSign b = false by unfold isSign; simp [h58, h33]))
          have e1 : (((bytes p)[j].toNat : Int) == 58) = false := by
            rw [hb]
            have : (b.toNat : Int) ≠ 58 := fun e => h58 (UInt8.toNat.inj (by show b.toNat = 58; omega))
            simpa using this
          have e2 : (((bytes p)[j].toNat : Int) == 33) = false := by
            rw [hb]
            have : (b.toNat : Int) ≠ 33 := fun e => h33 (UInt8.toNat.inj (by show b.toNat = 33; omega))
            simpa using this
          have HN := Lib.hid hn
          have HAA := Lib.hid ha
          clear hb hd hn ha hbe h58 h33
          go_wp2
          go_round
          case rel => exact ⟨j, by omega, by go_num, by rw [HA.out.2, HN.out], by rw [HA.out.1, HAA.out]⟩
          case measure => simp [intOf]

end Go.Proofs.YtmmjcomoabfmnaaDoor
