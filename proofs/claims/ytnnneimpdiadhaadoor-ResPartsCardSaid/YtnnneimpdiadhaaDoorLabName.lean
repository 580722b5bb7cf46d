/- Names: package res's and the reference's. -/
import Derived.Test.YtnnneimpdiadhaaDoorLabBase
import Derived.WideShapes
namespace Go.Proofs.YtnnneimpdiadhaaDoor
open Go.RowKit
set_option linter.unusedVariables false

/-- A byte that a name may have. -/
def okByte (c : UInt8) : Bool := (decide (97 ≤ (c.toNat : Int)) && decide ((c.toNat : Int) ≤ 122)) || (decide (48 ≤ (c.toNat : Int)) && decide ((c.toNat : Int) ≤ 57))
def isName (s : ByteArray) : Bool := decide (1 ≤ s.size) && decide (s.size ≤ 12) && s.data.toList.all okByte

theorem empty_of_size {s : ByteArray} (h : s.size = 0) : s = ByteArray.empty := by
  have e : s.data.toList = [] := List.eq_nil_of_length_eq_zero (by rw [Array.length_toList, ByteArray.size_data]; exact h)
  exact Go.WideShapes.bytes_inj (by rw [e]; rfl)

theorem ret_bool {a b : Bool} (h : a = b) : Ending.returned (.bool a) = .returned (.bool b) := by rw [h]

theorem okByte_iff (c : UInt8) : okByte c = true ↔ ((97 ≤ (c.toNat : Int) ∧ (c.toNat : Int) ≤ 122) ∨ (48 ≤ (c.toNat : Int) ∧ (c.toNat : Int) ≤ 57)) := by
  unfold okByte; simp only [Bool.or_eq_true, Bool.and_eq_true, decide_eq_true_eq]

theorem all_ok {s : ByteArray} (h : s.data.toList.all okByte = true) (i : Nat) (hi : i < s.size) : okByte s[i] = true := by
  rw [List.all_eq_true] at h
  exact h _ (by simp [ByteArray.getElem_eq_getElem_data])
theorem not_all_ok {s : ByteArray} (h : ¬ s.data.toList.all okByte = true) : ∃ (j : Nat) (hj : j < s.size), okByte s[j] = false := by
  rw [List.all_eq_true] at h
  obtain ⟨x, h⟩ := Classical.not_forall.1 h
  obtain ⟨hx, hn⟩ := Classical.not_imp.1 h
  obtain ⟨j, hj, e⟩ := List.getElem_of_mem hx
  refine ⟨j, by simpa using hj, ?_⟩
  have : s[j]'(by simpa using hj) = x := by rw [← e]; simp [ByteArray.getElem_eq_getElem_data]
  rw [this]; simpa using hn

theorem digit_yes (c : UInt8) (w : World) (h1 : 48 ≤ (c.toNat : Int)) (h2 : (c.toNat : Int) ≤ 57) :
    Calls Tryd.prog 41 #[.int .u8 (c.toNat : Int)] w fun e w' => e = .returned (.bool true) ∧ w = w' := by
  go_enter Tryd.func41, Tryd.ntmps41
  go_wp2
  go_ret
  exact ⟨by simp [h1, h2], rfl⟩
theorem digit_no (c : UInt8) (w : World) (h : (c.toNat : Int) < 48 ∨ 57 < (c.toNat : Int)) :
    Calls Tryd.prog 41 #[.int .u8 (c.toNat : Int)] w fun e w' => e = .returned (.bool false) ∧ w = w' := by
  by_cases h1 : (c.toNat : Int) < 48
  · go_enter Tryd.func41, Tryd.ntmps41
    go_wp2
    go_ret
    exact ⟨rfl, rfl⟩
  · have h2 : 57 < (c.toNat : Int) := by omega
    have h3 : 48 ≤ (c.toNat : Int) := by omega
    have h4 : decide ((c.toNat : Int) ≤ 57) = false := by simpa using h2
    clear h h1
    go_enter Tryd.func41, Tryd.ntmps41
    go_wp2
    go_ret
    exact ⟨rfl, rfl⟩

set_option maxHeartbeats 800000 in
theorem refName_any (s : ByteArray) (w : World) (hs : s.size ≤ maxLen) :
    Calls Tryd.prog 21 #[.string s] w fun e w' => e = .returned (.bool (isName s)) ∧ w = w' := by
  unfold maxLen at hs
  by_cases h1 : 1 ≤ s.size
  · by_cases h2 : s.size ≤ 12
    · by_cases hall : s.data.toList.all okByte = true
      · have HV := Lib.hid (show isName s = true by simp [isName, h1, h2, hall])
        have HA := Lib.hid (all_ok hall)
        clear hall
        go_enter Tryd.func21, Tryd.ntmps21
        go_wp2
        go_loop [3] (fun i => ∃ k : Nat, k ≤ s.size ∧ i = .int .i64 k) (fun i => s.size - (intOf i).toNat)
        case atStart => exact ⟨0, Nat.zero_le _, rfl⟩
        case round =>
          obtain ⟨k, hk, rfl⟩ := hrel
          by_cases hlt : k < s.size
          · have hok := (okByte_iff _).1 (HA.out k hlt)
            by_cases c1 : (s[k].toNat : Int) < 97
            · have c2 : 48 ≤ (s[k].toNat : Int) := by omega
              have c3 : (s[k].toNat : Int) ≤ 57 := by omega
              clear hok
              go_wp2
              go_round
              case rel => exact ⟨k + 1, by omega, by go_num⟩
              case measure => simp [intOf]; omega
            · have c2 : (s[k].toNat : Int) ≤ 122 := by omega
              clear hok
              go_wp2
              go_round
              case rel => exact ⟨k + 1, by omega, by go_num⟩
              case measure => simp [intOf]; omega
          · go_wp2
            go_ret
            exact ⟨ret_bool HV.out.symm, rfl⟩
      · have HV := Lib.hid (show isName s = false by simp only [isName, Bool.and_eq_false_iff]; exact .inr (by simpa using hall))
        obtain ⟨j, hj, hbad⟩ := not_all_ok hall
        have HB := Lib.hid hbad
        clear hall hbad
        go_enter Tryd.func21, Tryd.ntmps21
        go_wp2
        go_loop [3] (fun i => ∃ k : Nat, k ≤ j ∧ i = .int .i64 k) (fun i => s.size - (intOf i).toNat)
        case atStart => exact ⟨0, Nat.zero_le _, rfl⟩
        case round =>
          obtain ⟨k, hk, rfl⟩ := hrel
          have hlt : k < s.size := by omega
          by_cases hok : okByte s[k] = true
          · have hkj : k + 1 ≤ j := by
              rcases Nat.lt_or_eq_of_le hk with g | g
              · exact g
              · subst g; rw [HB.out] at hok; cases hok
            have hok := (okByte_iff _).1 hok
            by_cases c1 : (s[k].toNat : Int) < 97
            · have c2 : 48 ≤ (s[k].toNat : Int) := by omega
              have c3 : (s[k].toNat : Int) ≤ 57 := by omega
              clear hok
              go_wp2
              go_round
              case rel => exact ⟨k + 1, by omega, by go_num⟩
              case measure => simp [intOf]; omega
            · have c2 : (s[k].toNat : Int) ≤ 122 := by omega
              clear hok
              go_wp2
              go_round
              case rel => exact ⟨k + 1, by omega, by go_num⟩
              case measure => simp [intOf]; omega
          · have hbad : ¬ ((97 ≤ (s[k].toNat : Int) ∧ (s[k].toNat : Int) ≤ 122) ∨ (48 ≤ (s[k].toNat : Int) ∧ (s[k].toNat : Int) ≤ 57)) := fun g => hok ((okByte_iff _).2 g)
            clear hok
            by_cases c1 : (s[k].toNat : Int) < 97
            · by_cases c2 : (s[k].toNat : Int) < 48
              · clear hbad
                go_wp2
                go_ret
                exact ⟨ret_bool HV.out.symm, rfl⟩
              · have c3 : 57 < (s[k].toNat : Int) := by omega
                clear hbad
                go_wp2
                go_ret
                exact ⟨ret_bool HV.out.symm, rfl⟩
            · have c2 : 122 < (s[k].toNat : Int) := by omega
              have c3 : 57 < (s[k].toNat : Int) := by omega
              have c4 : ¬ (s[k].toNat : Int) < 48 := by omega
              clear hbad
              go_wp2
              go_ret
              exact ⟨ret_bool HV.out.symm, rfl⟩
    · have HV := Lib.hid (show isName s = false by simp [isName, h2])
      have h3 : 12 < s.size := by omega
      clear h2
      go_enter Tryd.func21, Tryd.ntmps21
      go_wp2
      go_ret
      exact ⟨ret_bool HV.out.symm, rfl⟩
  · have HV := Lib.hid (show isName s = false by simp [isName, h1])
    have h3 : s.size < 1 := by omega
    clear h1
    go_enter Tryd.func21, Tryd.ntmps21
    go_wp2
    go_ret
    exact ⟨ret_bool HV.out.symm, rfl⟩

set_option maxHeartbeats 800000 in
theorem name_any (s : ByteArray) (w : World) (hs : s.size ≤ maxLen) :
    Calls Tryd.prog 20 #[.string s] w fun e w' => e = .returned (.bool (isName s)) ∧ w = w' := by
  unfold maxLen at hs
  by_cases h1 : 1 ≤ s.size
  · have hne : (s.toList == ([] : List UInt8)) = false := by
      rw [Lib.toList_data]
      cases hl : s.data.toList with
      | nil => have : s.size = 0 := by rw [← ByteArray.size_data, ← Array.length_toList, hl]; rfl
               omega
      | cons x t => rfl
    by_cases h2 : s.size ≤ 12
    · by_cases hall : s.data.toList.all okByte = true
      · have HV := Lib.hid (show isName s = true by simp [isName, h1, h2, hall])
        have HA := Lib.hid (all_ok hall)
        clear hall
        go_enter Tryd.func20, Tryd.ntmps20
        go_wp2
        go_loop [14] (fun i => ∃ k : Nat, k ≤ s.size ∧ i = .int .i64 k) (fun i => s.size - (intOf i).toNat)
        case atStart => exact ⟨0, Nat.zero_le _, rfl⟩
        case round =>
          obtain ⟨k, hk, rfl⟩ := hrel
          by_cases hlt : k < s.size
          · have hok := (okByte_iff _).1 (HA.out k hlt)
            by_cases c1 : 97 ≤ (s[k].toNat : Int)
            · have c2 : (s[k].toNat : Int) ≤ 122 := by omega
              clear hok
              go_wp2
              go_round
              case rel => exact ⟨k + 1, by omega, by go_num⟩
              case measure => simp [intOf]; omega
            · have c2 : 48 ≤ (s[k].toNat : Int) := by omega
              have c3 : (s[k].toNat : Int) ≤ 57 := by omega
              clear hok
              go_wp2_with (go_at_call 41; refine (digit_yes _ _ c2 c3).mono ?_; rintro e w' ⟨rfl, rfl⟩)
              go_round
              case rel => exact ⟨k + 1, by omega, by go_num⟩
              case measure => simp [intOf]; omega
          · go_wp2
            go_ret
            exact ⟨ret_bool HV.out.symm, rfl⟩
      · have HV := Lib.hid (show isName s = false by simp only [isName, Bool.and_eq_false_iff]; exact .inr (by simpa using hall))
        obtain ⟨j, hj, hbad⟩ := not_all_ok hall
        have HB := Lib.hid hbad
        clear hall hbad
        go_enter Tryd.func20, Tryd.ntmps20
        go_wp2
        go_loop [14] (fun i => ∃ k : Nat, k ≤ j ∧ i = .int .i64 k) (fun i => s.size - (intOf i).toNat)
        case atStart => exact ⟨0, Nat.zero_le _, rfl⟩
        case round =>
          obtain ⟨k, hk, rfl⟩ := hrel
          have hlt : k < s.size := by omega
          by_cases hok : okByte s[k] = true
          · have hkj : k + 1 ≤ j := by
              rcases Nat.lt_or_eq_of_le hk with g | g
              · exact g
              · subst g; rw [HB.out] at hok; cases hok
            have hok := (okByte_iff _).1 hok
            by_cases c1 : 97 ≤ (s[k].toNat : Int)
            · have c2 : (s[k].toNat : Int) ≤ 122 := by omega
              clear hok
              go_wp2
              go_round
              case rel => exact ⟨k + 1, by omega, by go_num⟩
              case measure => simp [intOf]; omega
            · have c2 : 48 ≤ (s[k].toNat : Int) := by omega
              have c3 : (s[k].toNat : Int) ≤ 57 := by omega
              clear hok
              go_wp2_with (go_at_call 41; refine (digit_yes _ _ c2 c3).mono ?_; rintro e w' ⟨rfl, rfl⟩)
              go_round
              case rel => exact ⟨k + 1, by omega, by go_num⟩
              case measure => simp [intOf]; omega
          · have hbad : ¬ ((97 ≤ (s[k].toNat : Int) ∧ (s[k].toNat : Int) ≤ 122) ∨ (48 ≤ (s[k].toNat : Int) ∧ (s[k].toNat : Int) ≤ 57)) := fun g => hok ((okByte_iff _).2 g)
            have c4 : (s[k].toNat : Int) < 48 ∨ 57 < (s[k].toNat : Int) := by omega
            have C4 := Lib.hid c4
            clear hok
            by_cases c1 : 97 ≤ (s[k].toNat : Int)
            · have c2 : decide ((s[k].toNat : Int) ≤ 122) = false := by
                have : 122 < (s[k].toNat : Int) := by omega
                simpa using this
              clear hbad c4
              go_wp2_with (go_at_call 41; refine (digit_no _ _ C4.out).mono ?_; rintro e w' ⟨rfl, rfl⟩)
              go_ret
              exact ⟨ret_bool HV.out.symm, rfl⟩
            · clear hbad c4
              go_wp2_with (go_at_call 41; refine (digit_no _ _ C4.out).mono ?_; rintro e w' ⟨rfl, rfl⟩)
              go_ret
              exact ⟨ret_bool HV.out.symm, rfl⟩
    · have HV := Lib.hid (show isName s = false by simp [isName, h2])
      have h3 : 12 < s.size := by omega
      clear h2
      go_enter Tryd.func20, Tryd.ntmps20
      go_wp2
      go_ret
      exact ⟨ret_bool HV.out.symm, rfl⟩
  · have HV := Lib.hid (show isName s = false by simp [isName, h1])
    have h0 : s = ByteArray.empty := by
      have : s.size = 0 := by omega
      exact empty_of_size this
    subst h0
    clear h1
    go_enter Tryd.func20, Tryd.ntmps20
    go_wp2
    go_ret
    exact ⟨ret_bool HV.out.symm, rfl⟩

end Go.Proofs.YtnnneimpdiadhaaDoor
