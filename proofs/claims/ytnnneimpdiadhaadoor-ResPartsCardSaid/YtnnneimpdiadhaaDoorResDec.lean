/- Decimals without leading noughts; a part's form; a part as an amount. -/
import Derived.Test.YtnnneimpdiadhaaDoorGStr
import Derived.Test.YtnnneimpdiadhaaDoorLabSplit
import Derived.Test.YtnnneimpdiadhaaDoorResMergeMath
namespace Go.Proofs.YtnnneimpdiadhaaDoor.Vec
open Go.RowKit
set_option linter.unusedVariables false

def okDigit (c : UInt8) : Bool := decide (48 ≤ (c.toNat : Int)) && decide ((c.toNat : Int) ≤ 57)
theorem okDigit_iff (c : UInt8) : okDigit c = true ↔ (48 ≤ (c.toNat : Int) ∧ (c.toNat : Int) ≤ 57) := by
  unfold okDigit; simp only [Bool.and_eq_true, decide_eq_true_eq]
/-- A decimal without leading noughts. -/
def isDecL : List UInt8 → Bool
  | [] => false
  | c :: t => !(c == 48 && !t.isEmpty) && (c :: t).all okDigit
theorem isDecL_cons (c : UInt8) (t : List UInt8) : isDecL (c :: t) = (!(c == 48 && !t.isEmpty) && (c :: t).all okDigit) := rfl
def isDec (s : ByteArray) : Bool := isDecL s.data.toList

theorem all_dig {s : ByteArray} (h : s.data.toList.all okDigit = true) (i : Nat) (hi : i < s.size) : okDigit s[i] = true := by
  rw [List.all_eq_true] at h
  exact h _ (by simp [ByteArray.getElem_eq_getElem_data])
theorem not_all_dig {s : ByteArray} (h : ¬ s.data.toList.all okDigit = true) : ∃ (j : Nat) (hj : j < s.size), okDigit s[j] = false := by
  rw [List.all_eq_true] at h
  obtain ⟨x, h⟩ := Classical.not_forall.1 h
  obtain ⟨hx, hn⟩ := Classical.not_imp.1 h
  obtain ⟨j, hj, e⟩ := List.getElem_of_mem hx
  refine ⟨j, by simpa using hj, ?_⟩
  have : s[j]'(by simpa using hj) = x := by rw [← e]; simp [ByteArray.getElem_eq_getElem_data]
  rw [this]; simpa using hn

set_option maxHeartbeats 800000 in
theorem dec_any (s : ByteArray) (w : World) (hs : s.size ≤ maxLen) :
    Calls Tryd.prog 59 #[.string s] w fun e w' => e = .returned (.bool (isDec s)) ∧ w = w' := by
  unfold maxLen at hs
  obtain ⟨l, hl⟩ : ∃ l, s.data.toList = l := ⟨_, rfl⟩
  have hsz : s.size = l.length := by rw [← hl, Array.length_toList, ByteArray.size_data]
  cases l with
  | nil =>
    have HV := Lib.hid (show isDec s = false by unfold isDec; rw [hl]; rfl)
    have h0 : s = ByteArray.empty := empty_of_size hsz
    subst h0
    clear hl hsz
    go_enter Tryd.func59, Tryd.ntmps59
    go_wp2
    go_ret
    exact ⟨ret_bool HV.out.symm, rfl⟩
  | cons c t =>
    have h0 : 0 < s.size := by rw [hsz]; simp
    have hne : (s.toList == ([] : List UInt8)) = false := by rw [Lib.toList_data, hl]; rfl
    have hc : s[0] = c := by
      have : s.data.toList[0]'(by rw [hl]; simp) = c := by simp [hl]
      rw [← this]; simp [ByteArray.getElem_eq_getElem_data]
    by_cases hz : c = 48 ∧ t ≠ []
    · obtain ⟨rfl, ht⟩ := hz
      have HV := Lib.hid (show isDec s = false by
        unfold isDec; rw [hl, isDecL_cons]
        cases t with
        | nil => exact absurd rfl ht
        | cons d u => rfl)
      have h1 : 1 < s.size := by
        rw [hsz]
        cases t with
        | nil => exact absurd rfl ht
        | cons d u => simp
      have h48 : ((s[0].toNat : Int) == 48) = true := by rw [hc]; rfl
      clear hl hsz hc ht
      go_enter Tryd.func59, Tryd.ntmps59
      go_wp2
      go_ret
      exact ⟨ret_bool HV.out.symm, rfl⟩
    · have hcase : (s.size = 1) ∨ (1 < s.size ∧ ((s[0].toNat : Int) == 48) = false) := by
        by_cases h1 : s.size = 1
        · exact .inl h1
        · refine .inr ⟨by omega, ?_⟩
          rw [hc]
          have ht : t ≠ [] := by intro e; rw [e] at hsz; simp at hsz; omega
          have hc48 : c ≠ 48 := fun e => hz ⟨e, ht⟩
          have : (c.toNat : Int) ≠ 48 := by
            intro e
            apply hc48
            apply UInt8.toNat.inj
            have : c.toNat = 48 := by omega
            rw [this]; rfl
          simpa using this
      have hdec : isDec s = s.data.toList.all okDigit := by
        unfold isDec; rw [hl, isDecL_cons]
        have : (c == 48 && !t.isEmpty) = false := by
          cases t with
          | nil => simp
          | cons d u =>
            have : c ≠ 48 := fun e => hz ⟨e, by simp⟩
            simp [this]
        rw [this]; rfl
      clear hz hc
      by_cases hall : s.data.toList.all okDigit = true
      · have HV := Lib.hid (show isDec s = true from hdec.trans hall)
        have HA := Lib.hid (all_dig hall)
        clear hall hdec hl hsz
        rcases hcase with h1 | ⟨h1, h48⟩
        case' inl => (have h1' : s.size ≤ 1 := by omega)
        case' inl => (clear h1)
        all_goals
          go_enter Tryd.func59, Tryd.ntmps59
          go_wp2
          go_loop [18] (fun i => ∃ k : Nat, k ≤ s.size ∧ i = .int .i64 k) (fun i => s.size - (intOf i).toNat)
          case atStart => exact ⟨0, Nat.zero_le _, rfl⟩
          case round =>
            obtain ⟨k, hk, rfl⟩ := hrel
            by_cases hlt : k < s.size
            · obtain ⟨c2, c3⟩ := (okDigit_iff _).1 (HA.out k hlt)
              go_wp2_with (go_at_call 41; refine (digit_yes _ _ c2 c3).mono ?_; rintro e w' ⟨rfl, rfl⟩)
              go_round
              case rel => exact ⟨k + 1, by omega, by go_num⟩
              case measure => simp [intOf]; omega
            · go_wp2
              go_ret
              exact ⟨ret_bool HV.out.symm, rfl⟩
      · have HV := Lib.hid (show isDec s = false from hdec.trans (by simpa using hall))
        obtain ⟨j, hj, hbad⟩ := not_all_dig hall
        have HB := Lib.hid hbad
        clear hall hdec hl hsz hbad
        rcases hcase with h1 | ⟨h1, h48⟩
        case' inl => (have h1' : s.size ≤ 1 := by omega)
        case' inl => (clear h1)
        all_goals
          go_enter Tryd.func59, Tryd.ntmps59
          go_wp2
          go_loop [18] (fun i => ∃ k : Nat, k ≤ j ∧ i = .int .i64 k) (fun i => s.size - (intOf i).toNat)
          case atStart => exact ⟨0, Nat.zero_le _, rfl⟩
          case round =>
            obtain ⟨k, hk, rfl⟩ := hrel
            have hlt : k < s.size := by omega
            by_cases hok : okDigit s[k] = true
            · have hkj : k + 1 ≤ j := by
                rcases Nat.lt_or_eq_of_le hk with g | g
                · exact g
                · subst g; rw [HB.out] at hok; cases hok
              obtain ⟨c2, c3⟩ := (okDigit_iff _).1 hok
              clear hok
              go_wp2_with (go_at_call 41; refine (digit_yes _ _ c2 c3).mono ?_; rintro e w' ⟨rfl, rfl⟩)
              go_round
              case rel => exact ⟨k + 1, by omega, by go_num⟩
              case measure => simp [intOf]; omega
            · have c4 : (s[k].toNat : Int) < 48 ∨ 57 < (s[k].toNat : Int) := by
                have : ¬ (48 ≤ (s[k].toNat : Int) ∧ (s[k].toNat : Int) ≤ 57) := fun g => hok ((okDigit_iff _).2 g)
                omega
              have C4 := Lib.hid c4
              clear hok c4
              go_wp2_with (go_at_call 41; refine (digit_no _ _ C4.out).mono ?_; rintro e w' ⟨rfl, rfl⟩)
              go_ret
              exact ⟨ret_bool HV.out.symm, rfl⟩

/-- What the library leaves in memory that the calls read: a machine's measure, an error, a table. -/
structure Env (w : World) : Prop where
  most : ∃ m, w.cell? ⟨5, 0, none⟩ = some (.int .i64 m)
  range : ∃ ev, w.cell? ⟨7, 0, none⟩ = some ev ∧ (ev = .nilIface ∨ ∃ te pe, ev = .iface te pe)

theorem Env.kept {w w' : World} (h : Env w) (k : Kept w w') : Env w' := by
  obtain ⟨⟨m, hm⟩, ⟨ev, hv, h2⟩⟩ := h
  exact ⟨⟨m, cell_later k hm⟩, ⟨ev, cell_later k hv, h2⟩⟩
theorem Env.base {w : World} (h : Env w) : Go.Proofs.YtnnneimpdiadhaaDoor.Env w := ⟨h.most⟩
theorem Env.lt {w : World} (h : Env w) : 5 < w.heap.size ∧ 7 < w.heap.size := by
  obtain ⟨⟨m, hm⟩, ⟨ev, hv, h2⟩⟩ := h
  exact ⟨World.block_lt_of_cell? _ _ hm, World.block_lt_of_cell? _ _ hv⟩
theorem Env.setCell {w : World} (h : Env w) {b : Nat} (hb : 5 < b ∧ 7 < b) (u : Value) : Env (w.setCell ⟨b, 0, none⟩ u) := by
  obtain ⟨⟨m, hm⟩, ⟨ev, hv, h2⟩⟩ := h
  refine ⟨⟨m, ?_⟩, ⟨ev, ?_, h2⟩⟩
  · rw [World.cell?_setCell_other _ _ _ _ (by intro e; injection e with e; omega)]; exact hm
  · rw [World.cell?_setCell_other _ _ _ _ (by intro e; injection e with e; omega)]; exact hv

/-- A part before and behind the first '='. -/
def nameOf (p : List UInt8) : List UInt8 := (Lib.cut p [61]).1
def numOf' (p : List UInt8) : List UInt8 := (Lib.cut p [61]).2.1

theorem cut_any (p : List UInt8) (w : World) (hE : Env w) (hp : p.length ≤ 1000000) :
    Calls Tryd.prog 58 #[.string (bytes p), .string ⟨#[61]⟩] w fun e w' => e = .returned (.tuple #[.string (bytes (nameOf p)), .string (bytes (numOf' p)), .bool (Lib.cut p [61]).2.2]) ∧ ∃ n, w' = w.drewN n := by
  obtain ⟨m, hm⟩ := hE.most
  exact Tryd.strings_Cut (bytes p) ⟨#[61]⟩ m w (by simp [bytes, ByteArray.size]; omega) hm

theorem num_le (p : List UInt8) : (numOf' p).length ≤ p.length := by
  unfold numOf' Lib.cut
  split
  · simp
  · simp
theorem name_le (p : List UInt8) : (nameOf p).length ≤ p.length := by
  unfold nameOf Lib.cut
  split
  · simp; omega
  · simp

theorem refuse_ok (p : List UInt8) (w : World) (hE : Env w) (hp : p.length ≤ 1000000) (h : isDecL (numOf' p) = true) :
    Calls Tryd.prog 51 #[.string (bytes p)] w fun e w' => e = .returned (.tuple #[]) ∧ ∃ n, w' = w.drewN n := by
  have HE := Lib.hid hE
  have H := Lib.hid (show isDec (bytes (numOf' p)) = true from h)
  have HZ := Lib.hid (show (bytes (numOf' p)).size ≤ maxLen by have := num_le p; unfold maxLen; simp [bytes, ByteArray.size]; omega)
  clear hE h
  go_enter Tryd.func51, Tryd.ntmps51
  go_wp2_with fail
  refine (cut_any p _ HE.out hp).mono ?_
  rintro e w' ⟨rfl, n, rfl⟩
  go_wp2_with fail
  refine (dec_any _ _ HZ.out).mono ?_
  rintro e w' ⟨rfl, rfl⟩
  have h := H.out
  go_wp2
  go_end0
  exact ⟨rfl, _, rfl⟩
theorem refuse_bad (p : List UInt8) (w : World) (hE : Env w) (hp : p.length ≤ 1000000) (h : isDecL (numOf' p) = false) :
    Calls Tryd.prog 51 #[.string (bytes p)] w fun e w' => e = .panicked [perr 2] ∧ ∃ n, w' = w.drewN n := by
  have HE := Lib.hid hE
  have H := Lib.hid (show isDec (bytes (numOf' p)) = false from h)
  have HZ := Lib.hid (show (bytes (numOf' p)).size ≤ maxLen by have := num_le p; unfold maxLen; simp [bytes, ByteArray.size]; omega)
  clear hE h
  go_enter Tryd.func51, Tryd.ntmps51
  go_wp2_with fail
  refine (cut_any p _ HE.out hp).mono ?_
  rintro e w' ⟨rfl, n, rfl⟩
  go_wp2_with fail
  refine (dec_any _ _ HZ.out).mono ?_
  rintro e w' ⟨rfl, rfl⟩
  have h := H.out
  go_wp2
  exact ⟨rfl, rfl, _, rfl⟩

end Go.Proofs.YtnnneimpdiadhaaDoor.Vec
