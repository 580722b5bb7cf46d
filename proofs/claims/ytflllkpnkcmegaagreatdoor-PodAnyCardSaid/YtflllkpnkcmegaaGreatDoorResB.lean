/- Package by package: contracts of the functions that the laws call. -/
import Derived.Test.YtflllkpnkcmegaaGreatDoorResA
import Derived.StillTailTactics
import Derived.RegionCalls
import Derived.Test.YtflllkpnkcmegaaGreatDoorBase
import Derived.Lib.AtoiErrMem
import Derived.Shelf.Strings.BuilderX
import Derived.Lib.Walk
import Derived.Lib.Builder
import Derived.Lib.AppendStr
import Derived.Lib.UnsafeStr
import Derived.Laws.Externs
import Derived.Lib.ItoaLen
import Derived.Lib.AppendIntMem
import Derived.Lib.SmallJoins

/- A vector amount by amount: plain words. -/
namespace Go.Proofs.YtflllkpnkcmegaaGreatDoor.Vec
open Go.RowKit
set_option linter.unusedVariables false

theorem mem_at {l : V} {k : Nat} (h : k < l.length) : (nm l k, qn l k) ∈ l := by
  have : l.getD k (ByteArray.empty, 0) = l[k] := by simp [List.getD, h]
  have e : (nm l k, qn l k) = l[k] := by simp only [nm, qn, this]
  rw [e]; exact List.getElem_mem h
end Go.Proofs.YtflllkpnkcmegaaGreatDoor.Vec

/- A vector amount by amount by qty's Mul. -/
namespace Go.Proofs.YtflllkpnkcmegaaGreatDoor.Vec
open Go.RowKit
set_option linter.unusedVariables false

end Go.Proofs.YtflllkpnkcmegaaGreatDoor.Vec

/- A vector amount by amount by qty's Part. -/
namespace Go.Proofs.YtflllkpnkcmegaaGreatDoor.Vec
open Go.RowKit
set_option linter.unusedVariables false

end Go.Proofs.YtflllkpnkcmegaaGreatDoor.Vec

/- Package res's Mul: the closure, the recovery, the face. -/
namespace Go.Proofs.YtflllkpnkcmegaaGreatDoor.Vec
open Go.RowKit
set_option linter.unusedVariables false

end Go.Proofs.YtflllkpnkcmegaaGreatDoor.Vec

/- Package res's Part: the closure, the recovery, the face. -/
namespace Go.Proofs.YtflllkpnkcmegaaGreatDoor.Vec
open Go.RowKit
set_option linter.unusedVariables false

end Go.Proofs.YtflllkpnkcmegaaGreatDoor.Vec

/- Decimals without leading noughts; a part's form; a part as an amount. -/
namespace Go.Proofs.YtflllkpnkcmegaaGreatDoor.Vec
open Go.RowKit
set_option linter.unusedVariables false

def okDigit (c : UInt8) : Bool := decide (48 ≤ (c.toNat : Int)) && decide ((c.toNat : Int) ≤ 57)
theorem okDigit_iff (c : UInt8) : okDigit c = true ↔ (48 ≤ (c.toNat : Int) ∧ (c.toNat : Int) ≤ 57) := by
  unfold okDigit; simp only [Bool.and_eq_true, decide_eq_true_eq]
/-- A decimal without leading noughts. -/
def isDecL : List UInt8 → Bool
  | [] => false
  | c :: t => !(c == 48 && !t.isEmpty) && (c :: t).all okDigit
theorem isDecL_cons (c : UInt8) (t : List UInt8) : isDecL (c :: t) = (!(c == 48 && !t.isEmpty) && (c :: t).all okDigit) := rfl
def isDec (s : ByteArray) : Bool := isDecL s.data.toList

theorem all_dig {s : ByteArray} (h : s.data.toList.all okDigit = true) (i : Nat) (hi : i < s.size) : okDigit s[i] = true := by
  rw [List.all_eq_true] at h
  exact h _ (by simp [ByteArray.getElem_eq_getElem_data])
theorem not_all_dig {s : ByteArray} (h : ¬ s.data.toList.all okDigit = true) : ∃ (j : Nat) (hj : j < s.size), okDigit s[j] = false := by
  rw [List.all_eq_true] at h
  obtain ⟨x, h⟩ := Classical.not_forall.1 h
  obtain ⟨hx, hn⟩ := Classical.not_imp.1 h
  obtain ⟨j, hj, e⟩ := List.getElem_of_mem hx
  refine ⟨j, by simpa using hj, ?_⟩
  have : s[j]'(by simpa using hj) = x := by rw [← e]; simp [ByteArray.getElem_eq_getElem_data]
  rw [this]; simpa using hn

set_option maxHeartbeats 800000 in
theorem dec_any (s : ByteArray) (w : World) (hs : s.size ≤ maxLen) :
    Calls Tryz.prog 186 #[.string s] w fun e w' => e = .returned (.bool (isDec s)) ∧ w = w' := by
  unfold maxLen at hs
  obtain ⟨l, hl⟩ : ∃ l, s.data.toList = l := ⟨_, rfl⟩
  have hsz : s.size = l.length := by rw [← hl, Array.length_toList, ByteArray.size_data]
  cases l with
  | nil =>
    have HV := Lib.hid (show isDec s = false by unfold isDec; rw [hl]; rfl)
    have h0 : s = ByteArray.empty := empty_of_size hsz
    subst h0
    clear hl hsz
    go_enter Tryz.func186, Tryz.ntmps186
    go_wp2
    go_ret
    exact ⟨ret_bool HV.out.symm, rfl⟩
  | cons c t =>
    have h0 : 0 < s.size := by rw [hsz]; simp
    have hne : (s.toList == ([] : List UInt8)) = false := by rw [Lib.toList_data, hl]; rfl
    have hc : s[0] = c := by
      have : s.data.toList[0]'(by rw [hl]; simp) = c := by simp [hl]
      rw [← this]; simp [ByteArray.getElem_eq_getElem_data]
    by_cases hz : c = 48 ∧ t ≠ []
    · obtain ⟨rfl, ht⟩ := hz
      have HV := Lib.hid (show isDec s = false by
        unfold isDec; rw [hl, isDecL_cons]
        cases t with
        | nil => exact absurd rfl ht
        | cons d u => rfl)
      have h1 : 1 < s.size := by
        rw [hsz]
        cases t with
        | nil => exact absurd rfl ht
        | cons d u => simp
      have h48 : ((s[0].toNat : Int) == 48) = true := by rw [hc]; rfl
      clear hl hsz hc ht
      go_enter Tryz.func186, Tryz.ntmps186
      go_wp2
      go_ret
      exact ⟨ret_bool HV.out.symm, rfl⟩
    · have hcase : (s.size = 1) ∨ (1 < s.size ∧ ((s[0].toNat : Int) == 48) = false) := by
        by_cases h1 : s.size = 1
        · exact .inl h1
        · refine .inr ⟨by omega, ?_⟩
          rw [hc]
          have ht : t ≠ [] := by intro e; rw [e] at hsz; simp at hsz; omega
          have hc48 : c ≠ 48 := fun e => hz ⟨e, ht⟩
          have : (c.toNat : Int) ≠ 48 := by
            intro e
            apply hc48
            apply UInt8.toNat.inj
            have : c.toNat = 48 := by omega
            rw [this]; rfl
          simpa using this
      have hdec : isDec s = s.data.toList.all okDigit := by
        unfold isDec; rw [hl, isDecL_cons]
        have : (c == 48 && !t.isEmpty) = false := by
          cases t with
          | nil => simp
          | cons d u =>
            have : c ≠ 48 := fun e => hz ⟨e, by simp⟩
            simp [this]
        rw [this]; rfl
      clear hz hc
      by_cases hall : s.data.toList.all okDigit = true
      · have HV := Lib.hid (show isDec s = true from hdec.trans hall)
        have HA := Lib.hid (all_dig hall)
        clear hall hdec hl hsz
        rcases hcase with h1 | ⟨h1, h48⟩
        case' inl => (have h1' : s.size ≤ 1 := by omega)
        case' inl => (clear h1)
        all_goals
          go_enter Tryz.func186, Tryz.ntmps186
          go_wp2
          go_loop [18] (fun i => ∃ k : Nat, k ≤ s.size ∧ i = .int .i64 k) (fun i => s.size - (intOf i).toNat)
          case atStart => exact ⟨0, Nat.zero_le _, rfl⟩
          case round =>
            obtain ⟨k, hk, rfl⟩ := hrel
            by_cases hlt : k < s.size
            · obtain ⟨c2, c3⟩ := (okDigit_iff _).1 (HA.out k hlt)
              go_wp2_with (go_at_call 155; refine (digit_yes _ _ c2 c3).mono ?_; rintro e w' ⟨rfl, rfl⟩)
              go_round
              case rel => exact ⟨k + 1, by omega, by go_num⟩
              case measure => simp [intOf]; omega
            · go_wp2
              go_ret
              exact ⟨ret_bool HV.out.symm, rfl⟩
      · have HV := Lib.hid (show isDec s = false from hdec.trans (by simpa using hall))
        obtain ⟨j, hj, hbad⟩ := not_all_dig hall
        have HB := Lib.hid hbad
        clear hall hdec hl hsz hbad
        rcases hcase with h1 | ⟨h1, h48⟩
        case' inl => (have h1' : s.size ≤ 1 := by omega)
        case' inl => (clear h1)
        all_goals
          go_enter Tryz.func186, Tryz.ntmps186
          go_wp2
          go_loop [18] (fun i => ∃ k : Nat, k ≤ j ∧ i = .int .i64 k) (fun i => s.size - (intOf i).toNat)
          case atStart => exact ⟨0, Nat.zero_le _, rfl⟩
          case round =>
            obtain ⟨k, hk, rfl⟩ := hrel
            have hlt : k < s.size := by omega
            by_cases hok : okDigit s[k] = true
            · have hkj : k + 1 ≤ j := by
                rcases Nat.lt_or_eq_of_le hk with g | g
                · exact g
                · subst g; rw [HB.out] at hok; cases hok
              obtain ⟨c2, c3⟩ := (okDigit_iff _).1 hok
              clear hok
              go_wp2_with (go_at_call 155; refine (digit_yes _ _ c2 c3).mono ?_; rintro e w' ⟨rfl, rfl⟩)
              go_round
              case rel => exact ⟨k + 1, by omega, by go_num⟩
              case measure => simp [intOf]; omega
            · have c4 : (s[k].toNat : Int) < 48 ∨ 57 < (s[k].toNat : Int) := by
                have : ¬ (48 ≤ (s[k].toNat : Int) ∧ (s[k].toNat : Int) ≤ 57) := fun g => hok ((okDigit_iff _).2 g)
                omega
              have C4 := Lib.hid c4
              clear hok c4
              go_wp2_with (go_at_call 155; refine (digit_no _ _ C4.out).mono ?_; rintro e w' ⟨rfl, rfl⟩)
              go_ret
              exact ⟨ret_bool HV.out.symm, rfl⟩

/-- What the library leaves in memory that the calls read: a machine's measure, an error, a table. -/
structure Env (w : World) : Prop where
  most : ∃ m, w.cell? ⟨1, 0, none⟩ = some (.int .i64 m)
  range : ∃ ev, w.cell? ⟨3, 0, none⟩ = some ev ∧ (ev = .nilIface ∨ ∃ te pe, ev = .iface te pe)

theorem Env.kept {w w' : World} (h : Env w) (k : Kept w w') : Env w' := by
  obtain ⟨⟨m, hm⟩, ⟨ev, hv, h2⟩⟩ := h
  exact ⟨⟨m, cell_later k hm⟩, ⟨ev, cell_later k hv, h2⟩⟩
theorem Env.base {w : World} (h : Env w) : Go.Proofs.YtflllkpnkcmegaaGreatDoor.Env w := ⟨h.most⟩
theorem Env.lt {w : World} (h : Env w) : 1 < w.heap.size ∧ 3 < w.heap.size := by
  obtain ⟨⟨m, hm⟩, ⟨ev, hv, h2⟩⟩ := h
  exact ⟨World.block_lt_of_cell? _ _ hm, World.block_lt_of_cell? _ _ hv⟩
theorem Env.setCell {w : World} (h : Env w) {b : Nat} (hb : 1 < b ∧ 3 < b) (u : Value) : Env (w.setCell ⟨b, 0, none⟩ u) := by
  obtain ⟨⟨m, hm⟩, ⟨ev, hv, h2⟩⟩ := h
  refine ⟨⟨m, ?_⟩, ⟨ev, ?_, h2⟩⟩
  · rw [World.cell?_setCell_other _ _ _ _ (by intro e; injection e with e; omega)]; exact hm
  · rw [World.cell?_setCell_other _ _ _ _ (by intro e; injection e with e; omega)]; exact hv

/-- A part before and behind the first '='. -/
def nameOf (p : List UInt8) : List UInt8 := (Lib.cut p [61]).1
def numOf' (p : List UInt8) : List UInt8 := (Lib.cut p [61]).2.1

theorem cut_any (p : List UInt8) (w : World) (hE : Env w) (hp : p.length ≤ 1000000) :
    Calls Tryz.prog 161 #[.string (bytes p), .string ⟨#[61]⟩] w fun e w' => e = .returned (.tuple #[.string (bytes (nameOf p)), .string (bytes (numOf' p)), .bool (Lib.cut p [61]).2.2]) ∧ ∃ n, w' = w.drewN n := by
  obtain ⟨m, hm⟩ := hE.most
  exact Tryz.strings_Cut (bytes p) ⟨#[61]⟩ m w (by simp [bytes, ByteArray.size]; omega) hm

theorem num_le (p : List UInt8) : (numOf' p).length ≤ p.length := by
  unfold numOf' Lib.cut
  split
  · simp
  · simp
theorem name_le (p : List UInt8) : (nameOf p).length ≤ p.length := by
  unfold nameOf Lib.cut
  split
  · simp; omega
  · simp

theorem refuse_ok (p : List UInt8) (w : World) (hE : Env w) (hp : p.length ≤ 1000000) (h : isDecL (numOf' p) = true) :
    Calls Tryz.prog 189 #[.string (bytes p)] w fun e w' => e = .returned (.tuple #[]) ∧ ∃ n, w' = w.drewN n := by
  have HE := Lib.hid hE
  have H := Lib.hid (show isDec (bytes (numOf' p)) = true from h)
  have HZ := Lib.hid (show (bytes (numOf' p)).size ≤ maxLen by have := num_le p; unfold maxLen; simp [bytes, ByteArray.size]; omega)
  clear hE h
  go_enter Tryz.func189, Tryz.ntmps189
  go_wp2_with fail
  refine (cut_any p _ HE.out hp).mono ?_
  rintro e w' ⟨rfl, n, rfl⟩
  go_wp2_with fail
  refine (dec_any _ _ HZ.out).mono ?_
  rintro e w' ⟨rfl, rfl⟩
  have h := H.out
  go_wp2
  go_end0
  exact ⟨rfl, _, rfl⟩
theorem refuse_bad (p : List UInt8) (w : World) (hE : Env w) (hp : p.length ≤ 1000000) (h : isDecL (numOf' p) = false) :
    Calls Tryz.prog 189 #[.string (bytes p)] w fun e w' => e = .panicked [perr 2] ∧ ∃ n, w' = w.drewN n := by
  have HE := Lib.hid hE
  have H := Lib.hid (show isDec (bytes (numOf' p)) = false from h)
  have HZ := Lib.hid (show (bytes (numOf' p)).size ≤ maxLen by have := num_le p; unfold maxLen; simp [bytes, ByteArray.size]; omega)
  clear hE h
  go_enter Tryz.func189, Tryz.ntmps189
  go_wp2_with fail
  refine (cut_any p _ HE.out hp).mono ?_
  rintro e w' ⟨rfl, n, rfl⟩
  go_wp2_with fail
  refine (dec_any _ _ HZ.out).mono ?_
  rintro e w' ⟨rfl, rfl⟩
  have h := H.out
  go_wp2
  exact ⟨rfl, rfl, _, rfl⟩

end Go.Proofs.YtflllkpnkcmegaaGreatDoor.Vec

/- A part as an amount; names taken anew. -/
namespace Go.Proofs.YtflllkpnkcmegaaGreatDoor.Vec
open Go.RowKit
set_option linter.unusedVariables false

/-- What decimal digits spell. -/
def valFrom (acc : Nat) (l : List UInt8) : Nat := l.foldl (fun a c => a * 10 + (c.toNat - 48)) acc
theorem valFrom_cons (acc : Nat) (c : UInt8) (t : List UInt8) : valFrom acc (c :: t) = valFrom (acc * 10 + (c.toNat - 48)) t := List.foldl_cons ..
def valL (l : List UInt8) : Nat := valFrom 0 l

theorem valFrom_ge : ∀ (l : List UInt8) (acc : Nat), acc ≤ valFrom acc l
  | [], _ => Nat.le_refl _
  | c :: t, acc => by have := valFrom_ge t (acc * 10 + (c.toNat - 48)); rw [valFrom_cons]; omega

theorem digit_nat {c : UInt8} (h : okDigit c = true) : 48 ≤ c.toNat ∧ c.toNat ≤ 57 := by
  have := (okDigit_iff c).1 h; omega

theorem parseM_cons (M acc : Nat) (c : UInt8) (r : List UInt8) (h : 48 ≤ c.toNat ∧ c.toNat ≤ 57) : Lib.parseUintM M acc (c :: r) = (if 1844674407370955162 ≤ acc then .range else if M < acc * 10 + (c.toNat - 48) then .range else Lib.parseUintM M (acc * 10 + (c.toNat - 48)) r) := by rw [Lib.parseUintM, if_pos h]
theorem parse_digits (M : Nat) (hM : M < 18446744073709551620) : ∀ (l : List UInt8) (acc : Nat), l.all okDigit = true → acc ≤ M → Lib.parseUintM M acc l = if valFrom acc l ≤ M then .ok (valFrom acc l) else .range
  | [], acc, _, h => by rw [Lib.parseUintM, if_pos (show valFrom acc [] ≤ M from h)]; rfl
  | c :: t, acc, h, ha => by
    simp only [List.all_cons, Bool.and_eq_true] at h
    have hd := digit_nat h.1
    have hge := valFrom_ge t (acc * 10 + (c.toNat - 48))
    rw [parseM_cons _ _ _ _ hd, valFrom_cons]
    by_cases h1 : 1844674407370955162 ≤ acc
    · rw [if_pos h1, if_neg (by omega)]
    · rw [if_neg h1]
      by_cases h2 : M < acc * 10 + (c.toNat - 48)
      · rw [if_pos h2, if_neg (by omega)]
      · rw [if_neg h2]
        exact parse_digits M hM t _ h.2 (by omega)

theorem parse_dec {l : List UInt8} (h : isDecL l = true) : Lib.parseIntB 64 l = if valL l ≤ 9223372036854775807 then .ok (valL l : Int) else .range := by
  cases l with
  | nil => cases h
  | cons c t =>
    rw [isDecL_cons, Bool.and_eq_true] at h
    have hc : okDigit c = true := by have := h.2; simp only [List.all_cons, Bool.and_eq_true] at this; exact this.1
    have hd := digit_nat hc
    have hu : Lib.parseUintB 64 (c :: t) = if valL (c :: t) ≤ 18446744073709551615 then .ok (valL (c :: t)) else .range := by
      unfold Lib.parseUintB
      rw [if_neg (by simp)]
      exact parse_digits (2 ^ 64 - 1) (by decide) (c :: t) 0 h.2 (by omega)
    unfold Lib.parseIntB
    dsimp only
    rw [if_neg (by omega), hu]
    by_cases h1 : valL (c :: t) ≤ 18446744073709551615
    · rw [if_pos h1]
      dsimp only
      by_cases h2 : valL (c :: t) ≤ 9223372036854775807
      · rw [if_pos h2, if_neg (by simp; omega), if_neg (by omega), if_neg (by omega)]
      · rw [if_neg h2, if_pos ⟨by omega, by simp; omega⟩]
    · rw [if_neg h1, if_neg (by omega)]

/-- A part's amount. -/
def amtOf (p : List UInt8) : ByteArray × Int := (bytes (nameOf p), (valL (numOf' p) : Int))

set_option maxHeartbeats 800000 in
theorem amount_ok (p : List UInt8) (w : World) (hE : Env w) (hp : p.length ≤ 1000000) (h : isDecL (numOf' p) = true) (hv : valL (numOf' p) ≤ 9223372036854775807) :
    Calls Tryz.prog 190 #[.string (bytes p)] w fun e w' => e = .returned (.agg #[.string (amtOf p).1, .int .i64 (amtOf p).2]) ∧ Kept w w' := by
  have HE := Lib.hid (hE.kept (kept_alloc w (.cells #[.string ByteArray.empty, .int .i64 0] 155)))
  have HZ := Lib.hid (show (bytes (numOf' p)).size ≤ 9223372036854775806 by have := num_le p; simp [bytes, ByteArray.size]; omega)
  have HP := Lib.hid ((parse_dec h).trans (if_pos hv))
  clear hE h
  go_enter Tryz.func190, Tryz.ntmps190
  go_wp2_with fail
  refine (cut_any p _ HE.out hp).mono ?_
  rintro e w1 ⟨rfl, n, rfl⟩
  go_wp2_with fail
  refine (Tryz.strconv_ParseInt_10_at64_ok (bytes (numOf' p)) HZ.out _ HP.out _).mono ?_
  rintro e w2 ⟨rfl, hw⟩
  have k : Kept ((w.alloc (.cells #[.string ByteArray.empty, .int .i64 0] 155)).drewN n) w2 := by
    rcases hw with rfl | ⟨t, rfl⟩
    · exact Kept.refl _
    · exact Lib.bytesWorld_below _ _ _
  have c1 := k.cell (p := ⟨w.heap.size, 0, none⟩) (by simp)
  have c2 := k.cell (p := ⟨w.heap.size, 1, none⟩) (by simp)
  have z1 := k.frozen (p := ⟨w.heap.size, 0, none⟩) (by simp)
  have z2 := k.frozen (p := ⟨w.heap.size, 1, none⟩) (by simp)
  have HK := Lib.hid (((kept_alloc w _).trans (Kept.drewN _ n)).trans k)
  have e1 : w2.cell? ⟨w.heap.size, 0, none⟩ = some (.string ByteArray.empty) := by rw [c1]; go_simp
  have e2 : w2.cell? ⟨w.heap.size, 1, none⟩ = some (.int .i64 0) := by rw [c2]; go_simp
  have y1 : w2.frozen? ⟨w.heap.size, 0, none⟩ = false := by rw [z1]; go_simp
  have y2 : w2.frozen? ⟨w.heap.size, 1, none⟩ = false := by rw [z2]; go_simp
  clear c1 c2 z1 z2 k hw
  go_wp2
  refine bodyPost_ret (v := .agg #[.string (bytes (nameOf p)), .int .i64 (valL (numOf' p) : Int)]) (by simp [results, Tryz.results190, go_sem, e1, e2]) rfl ⟨rfl, ?_⟩
  exact (HK.out.setCell (p := ⟨w.heap.size, 0, none⟩) (Nat.le_refl _) _).setCell (p := ⟨w.heap.size, 1, none⟩) (Nat.le_refl _) _

set_option maxHeartbeats 800000 in
theorem amount_bad (p : List UInt8) (w : World) (hE : Env w) (hp : p.length ≤ 1000000) (h : isDecL (numOf' p) = true) (hv : ¬ valL (numOf' p) ≤ 9223372036854775807) :
    Calls Tryz.prog 190 #[.string (bytes p)] w fun e w' => e = .panicked [perr 5] ∧ Kept w w' := by
  have HE := Lib.hid (hE.kept (kept_alloc w (.cells #[.string ByteArray.empty, .int .i64 0] 155)))
  have HZ := Lib.hid (show (bytes (numOf' p)).size ≤ 281474976710656 by have := num_le p; simp [bytes, ByteArray.size]; omega)
  have HP := Lib.hid ((parse_dec h).trans (if_neg hv))
  clear hE h
  go_enter Tryz.func190, Tryz.ntmps190
  go_wp2_with fail
  refine (cut_any p _ HE.out hp).mono ?_
  rintro e w1 ⟨rfl, n, rfl⟩
  obtain ⟨ev, hev, hev2⟩ := (HE.out.kept (Kept.drewN _ n)).range
  have HEV := Lib.hid hev
  have HEV2 := Lib.hid hev2
  clear hev hev2
  go_wp2_with fail
  refine (Tryz.strconv_ParseInt_10_at64_range (bytes (numOf' p)) HZ.out HP.out ev _ HEV.out HEV2.out).mono ?_
  rintro e w2 ⟨N, rfl, _, _, k⟩
  have HK := Lib.hid (((kept_alloc w _).trans (Kept.drewN _ n)).trans k)
  clear k
  go_wp2
  exact ⟨rfl, rfl, HK.out⟩

end Go.Proofs.YtflllkpnkcmegaaGreatDoor.Vec

/- Names taken anew in a row of the call's own. -/
namespace Go.Proofs.YtflllkpnkcmegaaGreatDoor.Vec
open Go.RowKit
set_option linter.unusedVariables false

/-- What owned does. -/
def Owned (v : Value) (l : V) (base : Nat) (w : World) (e : Ending) (w' : World) : Prop := e = .returned v ∧ OwnV 155 w' base v l ∧ Below base w w'

theorem OwnV.same_name {e : TypeId} {w : World} {base g cap : Nat} {l : V} (h : OwnV e w base (.slice (some ⟨g, 0, none⟩) l.length cap) l) {k : Nat} (hk : k < l.length) :
    OwnV e (w.setCell ⟨g, k * 2, none⟩ (.string (nm l k))) base (.slice (some ⟨g, 0, none⟩) l.length cap) l := by
  refine ⟨?_, h.2⟩
  have := h.1.stored (k * 2) (.string (nm l k))
  have c := (cellsOf_at l k hk).1
  obtain ⟨hlt, he⟩ := List.getElem?_eq_some_iff.1 c
  rw [← he, List.set_getElem_self] at this
  rw [← he]
  exact this.1

set_option maxHeartbeats 800000 in
theorem owned_any (a : Option Addr) (cap base : Nat) (l : V) (w : World) (h : OwnV 155 w base (.slice a l.length cap) l) (hb : base ≤ w.heap.size) (hl : l.length ≤ 1000000) (hs : ∀ k, k < l.length → (nm l k).size ≤ 281474976710656) :
    Calls Tryz.prog 191 #[.slice a l.length cap] w (Owned (.slice a l.length cap) l base w) := by
  by_cases h0 : l.length = 0
  · have HH := Lib.hid h
    have HB := Lib.hid hb
    clear h hs hb
    rw [h0] at HH ⊢
    go_enter Tryz.func191, Tryz.ntmps191
    go_wp2
    refine wp_loop_rounds 1 ?_
    rw [rounds_succ]
    go_wp2
    go_ret
    exact ⟨rfl, HH.out, Below.refl _ _⟩
  · have hform : ∃ g, a = some ⟨g, 0, none⟩ := by
      obtain ⟨_, h1⟩ := h.1
      rcases h1 with ⟨_, e⟩ | ⟨g, cap', cur, e, _⟩
      · exact absurd e h0
      · injection e with e; exact ⟨g, e⟩
    obtain ⟨g, rfl⟩ := hform
    have hbg := (h.1.lt g rfl).1
    obtain ⟨n, hn⟩ : ∃ n, l.length = n := ⟨_, rfl⟩
    have HN := Lib.hid hn
    have HH := Lib.hid h
    have HB := Lib.hid hb
    have HS := Lib.hid hs
    clear h hb hs
    rw [hn] at hl h0 ⊢
    clear hn
    go_enter Tryz.func191, Tryz.ntmps191
    go_wp2
    go_loopw [6] (fun i wr => ∃ k : Nat, k ≤ n ∧ i = .int .i64 k ∧ OwnV 155 wr base (.slice (some ⟨g, 0, none⟩) l.length cap) l ∧ Below base w wr) (fun i _ => n - (intOf i).toNat)
    case atStart => exact ⟨0, Nat.zero_le _, rfl, HH.out, Below.refl _ _⟩
    case round =>
      obtain ⟨k, hk, rfl, ho, hB⟩ := hrel
      have HO := Lib.hid ho
      have HB2 := Lib.hid hB
      by_cases hlt : k < n
      · have HI := Lib.hid (show k < l.length by rw [HN.out]; exact hlt)
        obtain ⟨a', cap', e, _, _, hv⟩ := ho.at_
        injection e with e1 e2 e3
        subst e1
        obtain ⟨_, c1, _⟩ := hv.cells HI.out
        simp only [Nat.zero_add] at c1
        clear ho hB hv e3
        go_wp2_with fail
        refine (clone_any _ _ (HS.out k HI.out)).mono ?_
        rintro e w1 ⟨rfl, hk1⟩
        have O1 := Lib.hid (HO.out.kept hk1)
        have d1 := cell_later hk1 c1
        have z1 := O1.out.1.frozenAt (k * 2)
        have B1 := Lib.hid (HB2.out.trans (Below.mono hk1 (Nat.le_trans HB.out HB2.out.size)))
        clear hk1 c1
        go_wp2
        go_roundw
        case rel => exact ⟨k + 1, by omega, by go_num, O1.out.same_name HI.out, B1.out.setCell (p := ⟨g, k * 2, none⟩) hbg _⟩
        case measure => simp [intOf]; omega
      · clear ho hB
        go_wp2
        go_ret
        exact ⟨rfl, by rw [← HN.out]; exact HO.out, HB2.out⟩

end Go.Proofs.YtflllkpnkcmegaaGreatDoor.Vec

/- parsed: the form of all parts, then their numbers, then what Check asks. -/
namespace Go.Proofs.YtflllkpnkcmegaaGreatDoor.Vec
open Go.RowKit Go.Shelf
set_option linter.unusedVariables false
attribute [local go_sem] Oper.semAt_some

theorem OwnV.st {e : TypeId} {b2 D : Nat} {W W' : World} {v : Value} {l : V} (h : OwnV e W (D + 2) v l) (k : St b2 D W W') (h2 : b2 < D) : OwnV e W' (D + 2) v l := by
  obtain ⟨⟨h0, h1⟩, hf⟩ := h
  refine ⟨⟨h0, h1.imp id ?_⟩, hf⟩
  rintro ⟨g, cap, cur, rfl, hbg, hg, hn, hm, hs, ht⟩
  exact ⟨g, cap, cur, rfl, hbg, (k.block g (by omega) (by omega) (by omega)).trans hg, hn, hm, hs, ht⟩

/-- The box of the vector under way. -/
def VBox (B vb : Nat) (l : V) (W : World) : Prop := ∃ v, W.cell? ⟨vb, 0, none⟩ = some v ∧ W.frozen? ⟨vb, 0, none⟩ = false ∧ OwnV 155 W B v l
theorem VBox.st {b2 D vb : Nat} {W W' : World} {l : V} {B : Nat} (h : VBox B vb l W) (k : St b2 D W W') (hB : B = D + 2) (hvb : vb < b2) (h2 : b2 < D) : VBox B vb l W' := by
  subst hB
  obtain ⟨v, h1, h3, h4⟩ := h
  have hb := k.block vb (by omega) (by omega) (by omega)
  exact ⟨v, (World.cell?_of_block (a := ⟨vb, 0, none⟩) hb).trans h1, (World.frozen?_of_block (a := ⟨vb, 0, none⟩) hb).trans h3, h4.st k h2⟩

theorem OwnV.put {e : TypeId} {w : World} {B D : Nat} {v : Value} {l : V} (h : OwnV e w B v l) (hD : D < B) (o : Obj) : OwnV e (w.putObj D o) B v l := by
  obtain ⟨⟨h0, h1⟩, hf⟩ := h
  refine ⟨⟨h0, h1.imp id ?_⟩, hf⟩
  rintro ⟨g, cap, cur, rfl, hbg, hg, rest⟩
  exact ⟨g, cap, cur, rfl, hbg, (World.putObj_heap_other (by omega)).trans hg, rest⟩
theorem nextVal {ps : List (List UInt8)} {k : Nat} {p : List UInt8} (h : ∀ q ∈ ps.take k, valL (numOf' q) ≤ 9223372036854775807) (hp : ps[k]? = some p) (hv : valL (numOf' p) ≤ 9223372036854775807) :
    ∀ q ∈ ps.take (k + 1), valL (numOf' q) ≤ 9223372036854775807 := by
  intro q hq
  rw [List.take_add_one, hp] at hq
  rcases List.mem_append.1 hq with g | g
  · exact h q g
  · have : q = p := by simpa using g
    rw [this]; exact hv
theorem amt_size {p : List UInt8} (h : p.length ≤ 1000000) : (amtOf p).1.size ≤ maxLen := by
  have := name_le p
  show (bytes (nameOf p)).size ≤ _
  simp only [bytes, ByteArray.size, List.size_toArray]
  unfold maxLen
  omega

theorem news_two' (w : World) (o : Obj) (s : ByteArray) (n : Int) (T : TypeId) : ∀ j u, [Value.string s, .int .i64 n][j]? = some u →
    ((w.alloc o).alloc (.cells #[.string s, .int .i64 n] T)).cell? ((⟨w.heap.size + 1, 0, none⟩ : Addr).add j) = some u := by
  have := news_two (w.alloc o) s n T
  rw [World.size_alloc] at this
  exact this

theorem OwnV.row {e : TypeId} {w : World} {B n : Nat} {v : Value} {l : V} (h : OwnV e w B v l) (hn : l.length = n) : w.ownsRow B e 2 v n (cellsOf l) := hn ▸ h.1

/-- The first amounts, nine at most. -/
def accP (ps : List (List UInt8)) (k : Nat) : V := ((ps.take k).map amtOf).take 9
theorem accP_len {ps : List (List UInt8)} {k : Nat} (h : k ≤ ps.length) : (accP ps k).length = min 9 k := by
  unfold accP; rw [List.length_take, List.length_map, List.length_take]; omega
theorem accP_next {ps : List (List UInt8)} {k : Nat} {p : List UInt8} (hp : ps[k]? = some p) (h : (accP ps k).length ≤ 8) : accP ps (k + 1) = accP ps k ++ [amtOf p] := by
  have hk : k < ps.length := (List.getElem?_eq_some_iff.1 hp).1
  rw [accP_len (by omega)] at h
  unfold accP
  have e : ps.take (k + 1) = ps.take k ++ [p] := by rw [List.take_add_one, hp]; rfl
  rw [e, List.map_append, List.take_of_length_le (l := (ps.take k).map amtOf) (by simp; omega), List.take_of_length_le (by simp; omega)]
  rfl
theorem accP_full {ps : List (List UInt8)} {k : Nat} {p : List UInt8} (hp : ps[k]? = some p) (h : ¬ (accP ps k).length ≤ 8) : accP ps (k + 1) = accP ps k := by
  have hk : k < ps.length := (List.getElem?_eq_some_iff.1 hp).1
  rw [accP_len (by omega)] at h
  unfold accP
  have e : ps.take (k + 1) = ps.take k ++ [p] := by rw [List.take_add_one, hp]; rfl
  rw [e, List.map_append, List.take_append_of_le_length (by simp; omega)]

def formBad (ps : List (List UInt8)) : Bool := ps.any fun p => !isDecL (numOf' p)
def overBad (ps : List (List UInt8)) : Bool := ps.any fun p => decide (9223372036854775807 < valL (numOf' p))
def parsedV (s : List UInt8) : Int × V :=
  if formBad (partsOf s) = true then (2, [])
  else if overBad (partsOf s) = true then (5, [])
  else if checkV (((partsOf s).map amtOf).take 9) ≠ 0 then (checkV (((partsOf s).map amtOf).take 9), [])
  else (0, ((partsOf s).map amtOf).take 9)

set_option maxRecDepth 100000 in
set_option maxHeartbeats 1600000 in
theorem parsed_any (s : List UInt8) (w : World) (hE : Env w) (hs : s.length ≤ 1000000) :
    Calls Tryz.prog 164 #[.string (bytes s)] w (VecRes (parsedV s) w.heap.size w) := by
  refine calls_of_wpAt (n := 6) Tryz.func164 rfl ?_
  simp only [Tryz.ntmps164, List.size_toArray, List.length_cons, List.length_nil, Nat.reduceAdd, Nat.reduceSub, Array.replicate_succ, Array.replicate_zero, List.push_toArray, List.append_toArray, List.nil_append, List.cons_append]
  refine wpAt_seq (wpAt_of (n := 6) ?_)
  gi_wp2
  refine wpAt_seq (wpAt_seq (wpAt_of (n := 6) ?_))
  gi_wp2_with (refine ⟨trivial, ?_⟩; gi_at_call 188; refine (callsIn_wide.2 (splitseq_any s _)).mono ?_; rintro e w1 ⟨rfl, rfl⟩)
  refine wpAt_block ?_
  have HE := Lib.hid hE
  have HPL := Lib.hid (fun p (h : p ∈ partsOf s) => Nat.le_trans (part_len s p h) hs)
  have bc := boxes_cells w s
  have bsz := boxes_size w s
  refine wpAt_split (n := 6) Tryz.func164 (by decide) (w.heap.size + 1) w.heap.size (w.heap.size + 2) rfl s hs (by omega) (by omega) (by omega) (by omega) (by omega) bc.1 bc.2.1 bc.2.2.1 bc.2.2.2
    (fun k W => Below w.heap.size w W ∧ ∀ p ∈ (partsOf s).take k, isDecL (numOf' p) = true)
    (fun c W => c = [perr 2] ∧ Below w.heap.size w W ∧ formBad (partsOf s) = true)
    (fun k W W' h st => ⟨Below.st h.1 st (Nat.le_refl _) (by omega), h.2⟩) (fun k W h => (HE.out.kept h.1).base) ⟨boxes_kept w s, by simp⟩
    (fun x => { tmps := #[.string (bytes s), undef, .slice none 0 0, .string x, undef, undef, undef, .string (bytes s),
        .func (.func 232) #[] #[.pointer (some ⟨w.heap.size + 1, 0, none⟩), .pointer (some ⟨w.heap.size, 0, none⟩), .pointer (some ⟨w.heap.size + 2, 0, none⟩)], .string x,
        undef, undef, undef, undef, undef, undef, undef, undef, undef, undef, undef, undef, undef, undef, undef, undef, undef], defers := [] }) ?assign ?body ?done ?panic
  case assign =>
    intro l x W K hK
    gi_wp2
    exact hK
  case body =>
    rintro l k p W hp ⟨hB, hd⟩ _
    have HB := Lib.hid hB
    have HD := Lib.hid hd
    have HP := Lib.hid hp
    have hmem : p ∈ partsOf s := List.mem_of_getElem? hp
    have HM := Lib.hid hmem
    have hpl := HPL.out p hmem
    clear bc bsz hB hd hp hmem hE
    by_cases hdec : isDecL (numOf' p) = true
    · have HDEC := Lib.hid hdec
      clear hdec
      gi_wp2_with (refine ⟨trivial, ?_⟩; gi_at_call 189; refine (CallsIn.inRound l (callsIn_wide.2 (refuse_ok p _ (HE.out.kept HB.out) hpl HDEC.out))).mono ?_; rintro e W1 ⟨rfl, n, rfl⟩)
      refine ⟨KeptAt.drewN W n, below_drewN HB.out n, fun q hq => ?_⟩
      rw [List.take_add_one, HP.out] at hq
      rcases List.mem_append.1 hq with h | h
      · exact HD.out q h
      · have : q = p := by simpa using h
        rw [this]; exact HDEC.out
    · have HDEC := Lib.hid (show isDecL (numOf' p) = false by simpa using hdec)
      clear hdec
      gi_wp2_with (refine ⟨trivial, ?_⟩; gi_at_call 189; refine (CallsIn.inRound l (callsIn_wide.2 (refuse_bad p _ (HE.out.kept HB.out) hpl HDEC.out))).mono ?_; rintro e W1 ⟨rfl, n, rfl⟩)
      refine ⟨rfl, KeptAt.drewN W n, rfl, below_drewN HB.out n, ?_⟩
      unfold formBad
      rw [List.any_eq_true]
      exact ⟨p, HM.out, by rw [HDEC.out]; rfl⟩
  case panic =>
    rintro c W ⟨rfl, hB, hbad⟩ hk
    have HV := Lib.hid (show parsedV s = (2, []) by unfold parsedV; rw [if_pos hbad])
    refine ⟨by simp, .inl ⟨_, _, rfl, run_takeDeferred hk, ?_⟩⟩
    exact VecRes.bad (by rw [HV.out]) (by decide) (below_put hB (by omega))
  case done =>
    rintro W ⟨hB, hd⟩ hk
    have hform : formBad (partsOf s) = false := by
      unfold formBad
      rw [List.any_eq_false]
      intro p hp
      rw [hd p (by simpa using hp)]
      decide
    have HFORM := Lib.hid hform
    have HB1 := Lib.hid hB
    have HK1 := Lib.hid hk
    have HALL := Lib.hid (fun p (h : p ∈ partsOf s) => hd p (by simpa using h))
    have hsize := hB.size
    have hD1 : w.heap.size + 3 < W.heap.size := by have := (Array.getElem?_eq_some_iff.1 hk).1; rw [bsz] at this; exact this
    rw [bsz] at HK1 ⊢
    clear bc hB hd hk hE hform hsize bsz
    obtain ⟨m, hm⟩ : ∃ m, W.heap.size = m := ⟨_, rfl⟩
    have HM := Lib.hid hm
    refine wpAt_seq (wpAt_of (n := 6) ?_)
    gi_wp2
    obtain ⟨V0, hV0⟩ : ∃ V0, W.alloc (.cells #[.slice none 0 0] 23) = V0 := ⟨_, rfl⟩
    have HV0 := Lib.hid hV0
    have hv0s : V0.heap.size = m + 1 := by rw [← hV0, World.size_alloc, hm]
    have HV0S := Lib.hid hv0s
    have HV0K := Lib.hid (show Kept W V0 by rw [← hV0]; exact kept_alloc _ _)
    have HV0C := Lib.hid (show V0.cell? ⟨m, 0, none⟩ = some (.slice none 0 0) ∧ V0.frozen? ⟨m, 0, none⟩ = false by
      rw [← hV0, ← hm]; exact box_new W _ _)
    rw [hV0]
    clear hV0 hv0s hm
    refine wpAt_seq (wpAt_seq (wpAt_of (n := 6) ?_))
    gi_wp2_with (refine ⟨trivial, ?_⟩; gi_at_call 188; refine (callsIn_wide.2 (splitseq_any s _)).mono ?_; rintro e w1 ⟨rfl, rfl⟩)
    refine wpAt_block ?_
    have bc := boxes_cells V0 s
    have bsz := boxes_size V0 s
    rw [HV0S.out] at bc bsz ⊢
    have hB0 : Below W.heap.size W (boxes V0 s) := Kept.trans HV0K.out (boxes_kept V0 s)
    have hvc : (boxes V0 s).cell? ⟨m, 0, none⟩ = some (.slice none 0 0) := ((boxes_kept V0 s).cell (p := ⟨m, 0, none⟩) (by rw [HV0S.out]; exact Nat.lt_succ_self m)).trans HV0C.out.1
    have hvf : (boxes V0 s).frozen? ⟨m, 0, none⟩ = false := ((boxes_kept V0 s).frozen (p := ⟨m, 0, none⟩) (by rw [HV0S.out]; exact Nat.lt_succ_self m)).trans HV0C.out.2
    have hm0 : W.heap.size = m := HM.out
    refine wpAt_split (n := 6) Tryz.func164 (by decide) (m + 1 + 1) (m + 1) (m + 1 + 2) rfl s hs (by omega) (by omega) (by omega) (by omega) (by omega) bc.1 bc.2.1 bc.2.2.1 bc.2.2.2
      (fun k W' => Below W.heap.size W W' ∧ (∀ p ∈ (partsOf s).take k, valL (numOf' p) ≤ 9223372036854775807) ∧ VBox (m + 6) m (accP (partsOf s) k) W')
      (fun c W' => c = [perr 5] ∧ Below W.heap.size W W' ∧ overBad (partsOf s) = true)
      (fun k W1 W2 h st => ⟨Below.st h.1 st (by omega) (by omega), h.2.1, h.2.2.st st (by omega) (by omega) (by omega)⟩) (fun k W' h => ((HE.out.kept HB1.out).kept h.1).base) ⟨hB0, by simp, ⟨_, hvc, hvf, OwnV.nil _ _ _⟩⟩
      (fun x => { tmps := #[.string (bytes s), undef, .slice none 0 0, undef, .pointer (some ⟨m, 0, none⟩), .string x, undef, .string (bytes s),
          .func (.func 232) #[] #[.pointer (some ⟨w.heap.size + 1, 0, none⟩), .pointer (some ⟨w.heap.size, 0, none⟩), .pointer (some ⟨w.heap.size + 2, 0, none⟩)], undef, undef, undef, .string (bytes s),
          .func (.func 232) #[] #[.pointer (some ⟨m + 1 + 1, 0, none⟩), .pointer (some ⟨m + 1, 0, none⟩), .pointer (some ⟨m + 1 + 2, 0, none⟩)], .string x,
          undef, undef, undef, undef, undef, undef, undef, undef, undef, undef, undef, undef], defers := [] }) ?assign2 ?body2 ?done2 ?panic2
    case assign2 =>
      intro l x W' K hK
      gi_wp2
      exact hK
    case panic2 =>
      rintro c W' ⟨rfl, hB', hbad⟩ hk'
      have HV := Lib.hid (show parsedV s = (5, []) by unfold parsedV; rw [if_neg (by rw [HFORM.out]; decide), if_pos hbad])
      have hk1 : (W'.putObj (boxes V0 s).heap.size (.deferred none)).heap[w.heap.size + 3]? = some (.deferred (some [])) :=
        (World.putObj_heap_other (by rw [bsz]; omega)).trans ((hB'.block _ hD1).trans HK1.out)
      refine ⟨by simp, .inl ⟨_, _, rfl, run_takeDeferred hk', ?_⟩⟩
      refine ⟨by simp, .inl ⟨_, _, rfl, run_takeDeferred hk1, ?_⟩⟩
      exact VecRes.bad (by rw [HV.out]) (by decide) (below_put (below_put (HB1.out.trans (Below.mono hB' HB1.out.size)) (by rw [bsz]; have := HB1.out.size; omega)) (by omega))
    case body2 =>
      rintro l k p W' hp ⟨hB', hd', v, hvc', hvf', hvo⟩ hlt'
      have hmem : p ∈ partsOf s := List.mem_of_getElem? hp
      have HMEM := Lib.hid hmem
      have HDEC := Lib.hid (HALL.out p hmem)
      have hpl := HPL.out p hmem
      have HE' := Lib.hid ((HE.out.kept HB1.out).kept hB')
      have HB' := Lib.hid hB'
      have HD' := Lib.hid hd'
      have HP := Lib.hid hp
      have hmW : m < W'.heap.size := by rw [bsz] at hlt'; omega
      have HLT := Lib.hid (show m + 6 ≤ W'.heap.size by rw [bsz] at hlt'; omega)
      have HHD : Hid ((boxes V0 s).heap.size = m + 1 + 3) := Lib.hid bsz
      by_cases hval : valL (numOf' p) ≤ 9223372036854775807
      · have HVAL := Lib.hid hval
        obtain ⟨av, cv, rfl, q1, q2, q3⟩ := hvo.at_
        obtain ⟨n, hn⟩ : ∃ n, (accP (partsOf s) k).length = n := ⟨_, rfl⟩
        rw [hn] at hvo
        have HVO := Lib.hid hvo
        have HN := Lib.hid hn
        have hn9 : n ≤ 9 := by
          have := accP_len (show k ≤ (partsOf s).length from Nat.le_of_lt (List.getElem?_eq_some_iff.1 hp).1)
          omega
        rw [hn] at hvc'
        clear bc bsz hB' hd' hp hmem hlt' hval q3 hvo hn q1 q2 hvc hvf hB0
        gi_wp2_with (refine ⟨trivial, ?_⟩; gi_at_call 190; refine (CallsIn.inRound l (callsIn_wide.2 (amount_ok p _ HE'.out hpl HDEC.out HVAL.out))).mono ?_; rintro e W1 ⟨rfl, k1⟩; have K1 := Lib.hid k1; have hvc1 := cell_later k1 hvc'; have hvf1 := (k1.frozen (p := ⟨m, 0, none⟩) hmW).trans hvf'; have hm1 : m < W1.heap.size := Nat.lt_of_lt_of_le hmW k1.size; clear k1 hvc' hvf'; refine Hid.out ?_)
        refine Lib.hid ?_
        by_cases h8 : n ≤ 8
        · obtain ⟨i0, hi, hz0, hz1, hz2⟩ := info_parts resInfo
          gi_wp2_with (gi_at_builtin; go_must (refine wpListIn_append_own _ rfl (.tmp 20) (.tmp 22) _ rfl (m + 6) 155 i0 _ 2 24 Tryz.underlying23 hi hz0 hz1 hz2 rfl (by decide) _ n (cellsOf (accP (partsOf s) k)) rfl (((HVO.out.kept K1.out).kept (kept_two W1 (.cells #[.string (amtOf p).1, .int .i64 (amtOf p).2] 155) (.cells #[.string (amtOf p).1, .int .i64 (amtOf p).2] 155))).row HN.out) ⟨W1.heap.size + 1, 0, none⟩ 1 1 [.string (amtOf p).1, .int .i64 (amtOf p).2] rfl rfl (news_two' _ _ _ _ _) (cellsOf_one [amtOf p]) (by unfold maxLen; omega) (by omega) (by rw [World.size_alloc, World.size_alloc]; have := HLT.out; have := K1.out.size; omega) ?_); intro v' w2 hown' hgrow _; refine Hid.out ?_)
          refine Lib.hid ?_
          obtain ⟨g', cap', rfl⟩ := ownsRow_succ hown'
          have KA := Lib.hid (show Kept W' ((W1.alloc (.cells #[.string (amtOf p).1, .int .i64 (amtOf p).2] 155)).alloc (.cells #[.string (amtOf p).1, .int .i64 (amtOf p).2] 155)) from K1.out.trans (kept_two W1 _ _))
          have hrow : ∀ r, (Value.slice av n cv).ownBlock = some r → m + 6 ≤ r := fun r hr => (HVO.out.1.lt r hr).1
          have hbl : ∀ b, b < m + 6 → w2.heap[b]? = W'.heap[b]? := fun b hb => (hgrow.block b (Nat.lt_of_lt_of_le hb (Nat.le_trans HLT.out KA.out.size)) (fun e => by have := hrow b e.symm; omega)).trans (KA.out.block b (Nat.lt_of_lt_of_le hb HLT.out))
          have HBL := Lib.hid hbl
          have hvc2 : w2.cell? ⟨m, 0, none⟩ = some (.slice av n cv) := (World.cell?_of_block (a := ⟨m, 0, none⟩) (hgrow.block m (by simp; omega) (fun e => by have := hrow m e.symm; omega))).trans (by go_simp)
          have hvf2 : w2.frozen? ⟨m, 0, none⟩ = false := (World.frozen?_of_block (a := ⟨m, 0, none⟩) (hgrow.block m (by simp; omega) (fun e => by have := hrow m e.symm; omega))).trans (by go_simp)
          have HOWN := Lib.hid hown'
          have HGS := Lib.hid (show Below W.heap.size W w2 from ⟨hgrow.os.trans (KA.out.os.trans HB'.out.os), hgrow.tape.trans (KA.out.tape.trans HB'.out.tape), hgrow.output.trans (KA.out.output.trans HB'.out.output), Nat.le_trans HB'.out.size (Nat.le_trans KA.out.size hgrow.size), fun b hb => (HBL.out b (by have := HM.out; omega)).trans (HB'.out.block b hb)⟩)
          clear hvc1 hvf1 hown' hgrow hrow hbl hi hz0 hz1 hz2
          gi_wp2
          refine ⟨fun b hb => ?_, HGS.out.setCell (p := ⟨m, 0, none⟩) (by have := HM.out; show W.heap.size ≤ m; omega) _, nextVal HD'.out HP.out HVAL.out, ⟨_, World.cell?_setCell_same' _ _ _ (by rw [hvc2]; rfl), by rw [World.frozen?_setCell]; exact hvf2, ?_⟩⟩
          · have hbm : b < m + 6 ∧ b ≠ m := by have := HHD.out; rcases hb with h | h | h | h | h <;> omega
            exact (Below.heap_setCell w2 ⟨m, 0, none⟩ _ b hbm.2).trans (HBL.out b hbm.1)
          · have hl : (accP (partsOf s) (k + 1)).length = n + 1 := by rw [accP_next HP.out (by rw [HN.out]; exact h8), List.length_append, HN.out]; rfl
            have ho : OwnV 155 w2 (m + 6) (.slice (some ⟨g', 0, none⟩) (n + 1) cap') (accP (partsOf s) (k + 1)) := by
              refine ⟨?_, ?_⟩
              · rw [hl, accP_next HP.out (by rw [HN.out]; exact h8), cellsOf_append]; exact HOWN.out
              · rw [accP_next HP.out (by rw [HN.out]; exact h8)]
                exact HVO.out.2.snoc (amt_size hpl) (by show -9223372036854775808 ≤ (valL (numOf' p) : Int); omega) (by show (valL (numOf' p) : Int) ≤ _; have := HVAL.out; omega)
            exact ho.setCell_below (a := ⟨m, 0, none⟩) (by show m < m + 6; omega) _
        · have hfull := accP_full HP.out (by rw [HN.out]; exact h8)
          have HFULL := Lib.hid hfull
          have h9 : 8 < n := by omega
          clear hfull h8
          gi_wp2
          refine ⟨fun b hb => ?_, HB'.out.trans (Below.mono (Kept.trans K1.out (kept_alloc W1 _)) HB'.out.size), nextVal HD'.out HP.out HVAL.out, ⟨.slice av n cv, by go_simp, by go_simp, ?_⟩⟩
          · have hbm : b < m + 6 := by have := HHD.out; rcases hb with h | h | h | h | h <;> omega
            exact (Kept.trans K1.out (kept_alloc W1 _)).block b (Nat.lt_of_lt_of_le hbm HLT.out)
          · rw [HFULL.out]; exact HVO.out.kept (Kept.trans K1.out (kept_alloc W1 _))
      · have HVAL := Lib.hid hval
        clear bc bsz hB' hd' hp hmem hlt' hval hvo hvc' hvf' hvc hvf hB0
        gi_wp2_with (refine ⟨trivial, ?_⟩; gi_at_call 190; refine (CallsIn.inRound l (callsIn_wide.2 (amount_bad p _ HE'.out hpl HDEC.out HVAL.out))).mono ?_; rintro e W1 ⟨rfl, k1⟩; have K1 := Lib.hid k1; clear k1)
        refine ⟨rfl, fun b hb => ?_, rfl, HB'.out.trans (Below.mono K1.out HB'.out.size), ?_⟩
        · have hbm : b < m + 6 := by have := HHD.out; rcases hb with h | h | h | h | h <;> omega
          exact K1.out.block b (Nat.lt_of_lt_of_le hbm HLT.out)
        · unfold overBad
          rw [List.any_eq_true]
          exact ⟨p, HMEM.out, by have := HVAL.out; simp; omega⟩
    case done2 =>
      rintro W' ⟨hB', hd', v, hvc', hvf', hvo⟩ hk'
      have hover : overBad (partsOf s) = false := by
        unfold overBad
        rw [List.any_eq_false]
        intro p hp
        have := hd' p (by simpa using hp)
        simp only [decide_eq_true_eq]
        omega
      have hacc : accP (partsOf s) (partsOf s).length = ((partsOf s).map amtOf).take 9 := by unfold accP; rw [List.take_length]
      rw [hacc] at hvo
      obtain ⟨L, hL⟩ : ∃ L, ((partsOf s).map amtOf).take 9 = L := ⟨_, rfl⟩
      have HV := Lib.hid (show parsedV s = if checkV L ≠ 0 then (checkV L, []) else (0, L) by unfold parsedV; rw [if_neg (by rw [HFORM.out]; decide), if_neg (by rw [hover]; decide), hL])
      rw [hL] at hvo
      have hL9 : L.length ≤ 1000000 := by rw [← hL, List.length_take]; omega
      have HNS := Lib.hid (show ∀ k, k < L.length → (nm L k).size ≤ 281474976710656 by
        intro k hk
        have hmem := mem_at hk
        rw [← hL] at hmem
        obtain ⟨p, hp, he⟩ := List.mem_map.1 (List.mem_of_mem_take hmem)
        have h1 : (amtOf p).1 = nm L k := by rw [he, hL]
        rw [← h1]
        have h2 := amt_size (HPL.out p hp)
        have h3 := name_le p
        have h4 := HPL.out p hp
        show (bytes (nameOf p)).size ≤ _
        simp only [bytes, ByteArray.size, List.size_toArray]
        omega)
      have hk1 : W'.heap[w.heap.size + 3]? = some (.deferred (some [])) := (hB'.block _ hD1).trans HK1.out
      have HBS := Lib.hid bsz
      obtain ⟨av, cv, rfl, q1, q2, q3⟩ := hvo.at_
      have HVO := Lib.hid hvo
      have HQ3 := Lib.hid q3
      have HD1 := Lib.hid hk1
      have HD2 := Lib.hid hk'
      have HB' := Lib.hid hB'
      have HLT := Lib.hid (show m + 4 < W'.heap.size by have := (Array.getElem?_eq_some_iff.1 hk').1; rw [bsz] at this; exact this)
      clear bc bsz hB' hd' hk' hk1 hvo q3 q1 q2 hL hover hacc hvc hvf hB0
      refine wpAt_of (n := 6) ?_
      by_cases hc : checkV L = 0
      · have HC := Lib.hid hc
        clear hc
        gi_wp2_with (refine ⟨trivial, ?_⟩; gi_at_call 108; refine (callsIn_wide.2 (checked_any _ _ _ L _ HQ3.out)).mono ?_; rintro e1 w1 ⟨g1, _, k1⟩; obtain rfl := g1 HC.out; have K1 := Lib.hid k1; clear g1 k1; refine Hid.out ?_)
        refine Lib.hid ?_
        gi_wp2_with (refine ⟨trivial, ?_⟩; gi_at_call 191; refine (callsIn_wide.2 (owned_any _ _ (m + 5) L _ ((HVO.out.kept K1.out).base_le (by omega)) (by have := K1.out.size; have := HLT.out; omega) hL9 HNS.out)).mono ?_; rintro e2 w2 ⟨rfl, o2, b2⟩; have O2 := Lib.hid o2; have B2 := Lib.hid b2; clear o2 b2)
        have hsz := HM.out
        have hbs := HBS.out
        have e1 : w2.heap[(boxes V0 s).heap.size]? = some (.deferred (some [])) := (B2.out.block _ (by omega)).trans ((K1.out.block _ (by have := HLT.out; omega)).trans HD2.out)
        have e2 : w2.heap[w.heap.size + 3]? = some (.deferred (some [])) := (B2.out.block _ (by omega)).trans ((K1.out.block _ (by have := HLT.out; omega)).trans HD1.out)
        have e3 : (w2.putObj (boxes V0 s).heap.size (.deferred none)).heap[w.heap.size + 3]? = some (.deferred (some [])) := (World.putObj_heap_other (by omega)).trans e2
        refine ⟨by simp, .inl ⟨_, _, rfl, run_takeDeferred e1, ?_⟩⟩
        refine ⟨by simp, .inl ⟨_, _, rfl, run_takeDeferred e3, ?_⟩⟩
        refine ⟨_, results_tmp rfl _ _ _, ?_⟩
        refine VecRes.good (by rw [HV.out, if_neg (by rw [HC.out]; decide)]) (by rw [HV.out, if_neg (by rw [HC.out]; decide)]; exact ((O2.out.put (by omega) _).put (by omega) _).base_le (by omega)) ?_
        exact below_put (below_put ((HB1.out.trans (Below.mono (HB'.out.trans (Below.mono K1.out HB'.out.size)) HB1.out.size)).trans (Below.mono B2.out (by have := HB1.out.size; omega))) (by omega)) (by omega)
      · have HC := Lib.hid hc
        clear hc
        gi_wp2_with (refine ⟨trivial, ?_⟩; gi_at_call 108; refine (callsIn_wide.2 (checked_any _ _ _ L _ HQ3.out)).mono ?_; rintro e1 w1 ⟨_, g1, k1⟩; obtain rfl := g1 HC.out; have K1 := Lib.hid k1; clear g1 k1)
        have hsz := HM.out
        have hbs := HBS.out
        have e1 : w1.heap[(boxes V0 s).heap.size]? = some (.deferred (some [])) := (K1.out.block _ (by have := HLT.out; omega)).trans HD2.out
        have e2 : w1.heap[w.heap.size + 3]? = some (.deferred (some [])) := (K1.out.block _ (by have := HLT.out; omega)).trans HD1.out
        have e3 : (w1.putObj (boxes V0 s).heap.size (.deferred none)).heap[w.heap.size + 3]? = some (.deferred (some [])) := (World.putObj_heap_other (by omega)).trans e2
        refine ⟨by simp, .inl ⟨_, _, rfl, run_takeDeferred e1, ?_⟩⟩
        refine ⟨by simp, .inl ⟨_, _, rfl, run_takeDeferred e3, ?_⟩⟩
        exact VecRes.bad (by rw [HV.out, if_pos HC.out]) HC.out (below_put (below_put (HB1.out.trans (Below.mono (HB'.out.trans (Below.mono K1.out HB'.out.size)) HB1.out.size)) (by have := HB1.out.size; omega)) (by omega))

end Go.Proofs.YtflllkpnkcmegaaGreatDoor.Vec

/- Package res's Parse: the closure, the recovery, the face. -/
namespace Go.Proofs.YtflllkpnkcmegaaGreatDoor.Vec
open Go.RowKit
set_option linter.unusedVariables false

set_option maxHeartbeats 800000 in
theorem caught_parse (C : Addr) (r : Int × V) (w : World) (hr : r.1 ≠ 0 → r.2 = [])
    (hk : ∀ W, Kept w W → Calls Tryz.prog 163 #[.pointer (some C)] W (VecRes r W.heap.size W)) :
    Calls Tryz.prog 106 #[.func (.func 163) #[] #[.pointer (some C)]] w (Done r w) := by
  have hmf : ∀ (fn : Fn) (first cap : Array Value) (w : World), (Instr.makeFunc fn first cap).run Tryz.prog w = .ok (.func fn first cap) w := fun _ _ _ _ => rfl
  have HK := Lib.hid hk
  have HR := Lib.hid hr
  clear hk hr
  obtain ⟨r1, r2⟩ := r
  go_enter_defers Tryz.func106, Tryz.ntmps106
  go_wp2_with fail
  refine (HK.out _ (kept_alloc _ _)).mono ?_
  rintro e1 w1 ⟨h0, h1, hb⟩
  have k1 := hb.size
  simp only [World.size_alloc] at k1
  have c2 := (hb.cell (p := ⟨w.heap.size, 0, none⟩) (by simp))
  have z2 := (hb.frozen (p := ⟨w.heap.size, 0, none⟩) (by simp))
  have e2' : w1.cell? ⟨w.heap.size, 0, none⟩ = some (.int .i64 0) := by rw [c2]; go_simp
  have y2 : w1.frozen? ⟨w.heap.size, 0, none⟩ = false := by rw [z2]; go_simp
  clear c2 z2
  have KB := Lib.hid (show Below w.heap.size w w1 from (kept_alloc w _).trans hb)
  by_cases hx : r1 = 0
  · subst hx
    obtain ⟨v, rfl, ho⟩ := h0 rfl
    have HO := Lib.hid ho
    obtain ⟨av, cv, rfl, _, _, _⟩ := ho.at_
    have hsz := World.size_alloc w (.cells #[.int .i64 0] 41)
    clear h0 h1 hb ho
    go_wp2_with fail
    refine leaves_cons (f := 156) (args := #[.pointer (some ⟨w.heap.size, 0, none⟩)]) (by simp) (by simp [go_sem]) ?_
    refine (caught_idle ⟨w.heap.size, 0, none⟩ _).mono ?_
    rintro e u' w'' ⟨rfl, rfl, rfl⟩
    simp [Leaves, settle, results, Tryz.results106, go_sem, e2']
    exact ⟨_, rfl, (HO.out.setCell_below (a := ⟨w.heap.size, 0, none⟩) (by simp) _).base_le (by simp), KB.out.setCell (p := ⟨w.heap.size, 0, none⟩) (Nat.le_refl _) _⟩
  · obtain rfl := h1 hx
    obtain rfl := HR.out hx
    clear h0 h1 hb
    go_wp2_with fail
    refine leaves_cons (f := 156) (args := #[.pointer (some ⟨w.heap.size, 0, none⟩)]) (by simp) (by simp [go_sem]) ?_
    refine (caught_panicking w.heap.size w.heap.size r1 0 _ e2' y2 (by omega)).mono ?_
    rintro e u' w'' ⟨rfl, rfl, q2, q3⟩
    simp [Leaves, settle, results, Tryz.results106, go_sem, q2]
    exact ⟨_, rfl, OwnV.nil _ _ _, KB.out.trans q3⟩

theorem parsed_none (s : List UInt8) : (parsedV s).1 ≠ 0 → (parsedV s).2 = [] := by
  unfold parsedV
  split
  · exact fun _ => rfl
  · split
    · exact fun _ => rfl
    · split
      · exact fun _ => rfl
      · exact fun h => absurd rfl h

theorem closure_parse (C : Addr) (s : List UInt8) (w : World) (h1 : w.cell? C = some (.string (bytes s))) (hE : Env w) (hs : s.length ≤ 1000000) :
    Calls Tryz.prog 163 #[.pointer (some C)] w (VecRes (parsedV s) w.heap.size w) := by
  have HE := Lib.hid hE
  clear hE
  go_enter Tryz.func163, Tryz.ntmps163
  go_wp2_with fail
  refine (parsed_any s _ HE.out hs).mono ?_
  rintro e w' ⟨g0, g1, k⟩
  by_cases hx : (parsedV s).1 = 0
  · obtain ⟨v, rfl, ho⟩ := g0 hx
    have HX := Lib.hid hx
    have HO := Lib.hid ho
    have HK := Lib.hid k
    clear g0 g1 hx ho k
    go_wp2
    go_ret
    exact VecRes.good HX.out HO.out HK.out
  · obtain rfl := g1 hx
    have HX := Lib.hid hx
    have HK := Lib.hid k
    clear g0 g1 hx k
    go_wp2
    exact ⟨rfl, VecRes.bad rfl HX.out HK.out⟩

/-- Parse. -/
def parseV (s : List UInt8) : Int × V := if s = [45] then (0, []) else parsedV s

set_option maxHeartbeats 800000 in
theorem parse_any (s : List UInt8) (w : World) (hE : Env w) (hs : s.length ≤ 1000000) :
    Calls Tryz.prog 122 #[.string (bytes s)] w (Done (parseV s) w) := by
  by_cases hd : s = [45]
  · have HV := Lib.hid (show parseV s = (0, []) by unfold parseV; rw [if_pos hd])
    have e : ((bytes s).toList == [45]) = true := by rw [hd, Lib.toList_data]; rfl
    clear hE hs hd
    go_enter Tryz.func122, Tryz.ntmps122
    go_wp2
    go_ret2
    exact ⟨_, by rw [HV.out]; rfl, by rw [HV.out]; exact OwnV.nil _ _ _, kept_alloc _ _⟩
  · have HV := Lib.hid (show parseV s = parsedV s by unfold parseV; rw [if_neg hd])
    have e : ((bytes s).toList == [45]) = false := by
      rw [Lib.toList_data]
      show (s.toArray.toList == [45]) = false
      simpa using hd
    have hmf : ∀ (fn : Fn) (first cap : Array Value) (w : World), (Instr.makeFunc fn first cap).run Tryz.prog w = .ok (.func fn first cap) w := fun _ _ _ _ => rfl
    have hC : ∀ W, Kept (w.alloc (.cells #[.string (bytes s)] 9)) W → Calls Tryz.prog 163 #[.pointer (some ⟨w.heap.size, 0, none⟩)] W (VecRes (parsedV s) W.heap.size W) := by
      intro W k
      have c1 := k.cell (p := ⟨w.heap.size, 0, none⟩) (by simp)
      exact closure_parse ⟨w.heap.size, 0, none⟩ s W (by rw [c1]; go_simp) (hE.kept ((kept_alloc w _).trans k)) hs
    have HC := Lib.hid hC
    clear hC hE hs hd
    go_enter Tryz.func122, Tryz.ntmps122
    go_wp2_with fail
    refine (caught_parse ⟨w.heap.size, 0, none⟩ (parsedV s) _ (parsed_none s) HC.out).mono ?_
    rintro e w' ⟨v, rfl, ho, k⟩
    have HO := Lib.hid ho
    have HK := Lib.hid k
    clear ho k
    go_wp2
    go_ret2
    exact ⟨v, by rw [HV.out]; rfl, by rw [HV.out]; exact HO.out.base_le (by simp), (kept_alloc w _).trans HK.out⟩

end Go.Proofs.YtflllkpnkcmegaaGreatDoor.Vec

/- Package res's Check: the closure, the recovery, the face. -/
namespace Go.Proofs.YtflllkpnkcmegaaGreatDoor.Vec
open Go.RowKit
set_option linter.unusedVariables false

set_option maxHeartbeats 800000 in
theorem caught_check (C : Addr) (a : Option Addr) (len cap : Nat) (l : V) (w : World)
    (hk : ∀ W, Kept w W → Calls Tryz.prog 107 #[.pointer (some C)] W (Chk l (.slice a len cap) W)) :
    Calls Tryz.prog 106 #[.func (.func 107) #[] #[.pointer (some C)]] w (fun e w' => ∃ v, e = .returned (.tuple #[v, .int .i64 (checkV l)]) ∧ Kept w w') := by
  have hmf : ∀ (fn : Fn) (first cap : Array Value) (w : World), (Instr.makeFunc fn first cap).run Tryz.prog w = .ok (.func fn first cap) w := fun _ _ _ _ => rfl
  have HK := Lib.hid hk
  clear hk
  obtain ⟨r1, hr1⟩ : ∃ r1, checkV l = r1 := ⟨_, rfl⟩
  rw [hr1]
  have HR1 := Lib.hid hr1
  clear hr1
  go_enter_defers Tryz.func106, Tryz.ntmps106
  go_wp2_with fail
  refine (HK.out _ (kept_alloc _ _)).mono ?_
  rintro e1 w1 ⟨h0, h1, hb⟩
  have k1 := hb.size
  simp only [World.size_alloc] at k1
  have c2 := (hb.cell (p := ⟨w.heap.size, 0, none⟩) (by simp))
  have z2 := (hb.frozen (p := ⟨w.heap.size, 0, none⟩) (by simp))
  have e2' : w1.cell? ⟨w.heap.size, 0, none⟩ = some (.int .i64 0) := by rw [c2]; go_simp
  have y2 : w1.frozen? ⟨w.heap.size, 0, none⟩ = false := by rw [z2]; go_simp
  clear c2 z2
  have KB := Lib.hid (show Below w.heap.size w w1 from (kept_alloc w _).trans hb)
  rw [HR1.out] at h0 h1
  by_cases hx : r1 = 0
  · subst hx
    obtain rfl := h0 rfl
    have hsz := World.size_alloc w (.cells #[.int .i64 0] 41)
    clear h0 h1 hb
    go_wp2_with fail
    refine leaves_cons (f := 156) (args := #[.pointer (some ⟨w.heap.size, 0, none⟩)]) (by simp) (by simp [go_sem]) ?_
    refine (caught_idle ⟨w.heap.size, 0, none⟩ _).mono ?_
    rintro e u' w'' ⟨rfl, rfl, rfl⟩
    simp [Leaves, settle, results, Tryz.results106, go_sem, e2']
    exact KB.out.setCell (p := ⟨w.heap.size, 0, none⟩) (Nat.le_refl _) _
  · obtain rfl := h1 hx
    clear h0 h1 hb
    go_wp2_with fail
    refine leaves_cons (f := 156) (args := #[.pointer (some ⟨w.heap.size, 0, none⟩)]) (by simp) (by simp [go_sem]) ?_
    refine (caught_panicking w.heap.size w.heap.size r1 0 _ e2' y2 (by omega)).mono ?_
    rintro e u' w'' ⟨rfl, rfl, q2, q3⟩
    simp [Leaves, settle, results, Tryz.results106, go_sem, q2]
    exact KB.out.trans q3

theorem closure_check (C : Addr) (a : Option Addr) (len cap : Nat) (l : V) (w : World) (h1 : w.cell? C = some (.slice a len cap)) (hr : VecAt w a len l) :
    Calls Tryz.prog 107 #[.pointer (some C)] w (Chk l (.slice a len cap) w) := by
  have HR := Lib.hid hr
  clear hr
  go_enter Tryz.func107, Tryz.ntmps107
  go_wp2_with fail
  refine (checked_any a len cap l _ HR.out).mono ?_
  rintro e w' ⟨g0, g1, k⟩
  by_cases hx : checkV l = 0
  · obtain rfl := g0 hx
    have HX := Lib.hid hx
    have HK := Lib.hid k
    clear g0 g1 hx k
    go_wp2
    go_ret
    exact Chk.good HX.out HK.out
  · obtain rfl := g1 hx
    have HX := Lib.hid hx
    have HK := Lib.hid k
    clear g0 g1 hx k
    go_wp2
    exact ⟨rfl, Chk.bad rfl HX.out HK.out⟩

set_option maxHeartbeats 800000 in
theorem check_any (a : Option Addr) (len cap : Nat) (l : V) (w : World) (hr : VecAt w a len l) :
    Calls Tryz.prog 57 #[.slice a len cap] w fun e w' => e = .returned (.int .i64 (checkV l)) ∧ Kept w w' := by
  have hmf : ∀ (fn : Fn) (first cap : Array Value) (w : World), (Instr.makeFunc fn first cap).run Tryz.prog w = .ok (.func fn first cap) w := fun _ _ _ _ => rfl
  have hC : ∀ W, Kept (w.alloc (.cells #[.slice a len cap] 23)) W → Calls Tryz.prog 107 #[.pointer (some ⟨w.heap.size, 0, none⟩)] W (Chk l (.slice a len cap) W) := by
    intro W k
    have c1 := k.cell (p := ⟨w.heap.size, 0, none⟩) (by simp)
    exact closure_check ⟨w.heap.size, 0, none⟩ a len cap l W (by rw [c1]; go_simp) (hr.kept ((kept_alloc w _).trans k))
  have HC := Lib.hid hC
  clear hC hr
  go_enter Tryz.func57, Tryz.ntmps57
  go_wp2_with fail
  refine (caught_check ⟨w.heap.size, 0, none⟩ a len cap l _ HC.out).mono ?_
  rintro e w' ⟨v, rfl, k⟩
  have HK := Lib.hid k
  clear k
  go_wp2
  go_ret
  exact ⟨rfl, (kept_alloc w _).trans HK.out⟩

end Go.Proofs.YtflllkpnkcmegaaGreatDoor.Vec

/- A builder that the call itself has made: a text written to it. (The library's own contracts lack this program's copyCheck, whose last branch the model refuses; it is never come to.) -/
namespace Go.Proofs.YtflllkpnkcmegaaGreatDoor.Vec
open Go.RowKit Go.Shelf
set_option linter.unusedVariables false

theorem bSize : (Tryz.prog.info? 188).map (·.size) = some 2 := by kernel_rfl
theorem bLies : liesAt Tryz.prog Tryz.prog.depth 188 (2 / Tryz.prog.cellsOf 188) 0 188 1 = true := by kernel_rfl
theorem byteInfo : (Tryz.prog.info? 5).map (fun i => (i.zero, i.size, i.bytes)) = some (some (.int .u8 0), 1, 1) := by kernel_rfl

abbrev IsB (B b : Nat) (l : List UInt8) (w : World) : Prop := Lib.IsBuilder 188 5 B b (Lib.byteCells l) w

set_option maxRecDepth 100000 in
theorem copy_used (b : Nat) (w : World) (h0 : w.cell? ⟨b, 0, none⟩ = some (.pointer (some ⟨b, 0, none⟩))) :
    Calls Tryz.prog 179 #[.pointer (some ⟨b, 0, none⟩)] w fun e w' => e = .returned (.tuple #[]) ∧ w' = w := by
  obtain ⟨j, hj, _⟩ := Option.map_eq_some_iff.1 bSize
  go_enter Tryz.func179, Tryz.ntmps179
  go_wp2
  rw [Lib.run_neq_ptr_same w _ Tryz.underlying186 hj]
  go_wp2
  go_end0
  exact ⟨rfl, rfl⟩

set_option maxRecDepth 100000 in
set_option maxHeartbeats 1000000 in
theorem copy_fresh (b : Nat) (w : World) (h0 : w.cell? ⟨b, 0, none⟩ = some (.pointer none)) (hsh : w.shape? b = some (188, 2)) (hfz : w.frozen? ⟨b, 0, none⟩ = false) :
    Calls Tryz.prog 179 #[.pointer (some ⟨b, 0, none⟩)] w fun e w' => e = .returned (.tuple #[]) ∧ w' = w.setCell ⟨b, 0, none⟩ (.pointer (some ⟨b, 0, none⟩)) := by
  obtain ⟨j, hj, hjs⟩ := Option.map_eq_some_iff.1 bSize
  go_enter Tryz.func179, Tryz.ntmps179
  go_wp2
  rw [Lib.run_to_unsafe w ⟨b, 0, none⟩ Tryz.underlying186 Tryz.underlying252 hj (by rw [hjs]; decide) hsh (Nat.zero_lt_succ 1)]
  simp only [Result.andThen]
  rw [Oper.upon_value]
  go_wp2
  rw [run_callFunc_extern Tryz.func204 (by kernel_rfl) (by kernel_rfl) (by kernel_rfl) (e := Extern.AbiNoEscape.same) (by kernel_rfl)]
  rw [Lib.run_noEscape]
  simp only [Result.andThen]
  rw [Oper.upon_value]
  go_wp2
  rw [Lib.run_from_unsafe w ⟨b, 0, none⟩ Tryz.underlying252 Tryz.underlying186 hj hsh bLies]
  simp only [Result.andThen]
  rw [Oper.upon_value]
  go_wp2
  go_end0
  exact ⟨rfl, rfl⟩

theorem copy_any (B b : Nat) (l : List UInt8) (w : World) (h : IsB B b l w) :
    Calls Tryz.prog 179 #[.pointer (some ⟨b, 0, none⟩)] w fun e w' => e = .returned (.tuple #[]) ∧ (Lib.BuilderAt 188 5 B b (.pointer (some ⟨b, 0, none⟩)) (Lib.byteCells l) w' ∧ Below B w w' ∧ ∀ g, g ≠ b → w'.heap[g]? = w.heap[g]?) := by
  rcases h with h | h
  · refine (copy_fresh b w h.cell0 h.shape h.frozen0).mono ?_
    rintro e w' ⟨rfl, rfl⟩
    exact ⟨rfl, h.used _, (Below.refl B w).setCell (p := ⟨b, 0, none⟩) h.1 _, fun g hg => Below.heap_setCell w ⟨b, 0, none⟩ _ g hg⟩
  · refine (copy_used b w h.cell0).mono ?_
    rintro e w' ⟨rfl, rfl⟩
    exact ⟨rfl, h, Below.refl _ _, fun _ _ => rfl⟩

theorem IsB.lt {B b : Nat} {l : List UInt8} {w : World} (h : IsB B b l w) : b < w.heap.size := by
  rcases h with h | h <;> exact h.lt
theorem IsB.kept {B b : Nat} {l : List UInt8} {w w' : World} (h : IsB B b l w) (k : Kept w w') : IsB B b l w' := by
  have key : ∀ p, Lib.BuilderAt 188 5 B b p (Lib.byteCells l) w → Lib.BuilderAt 188 5 B b p (Lib.byteCells l) w' := by
    rintro p ⟨hB, v, hb, ⟨h0, h1⟩, hne⟩
    refine ⟨hB, v, (k.block b (Array.getElem?_eq_some_iff.1 hb).1).trans hb, ⟨h0, h1.imp id ?_⟩, hne⟩
    rintro ⟨g, cap, cur, rfl, hbg, hg, rest⟩
    exact ⟨g, cap, cur, rfl, hbg, (k.block g (Array.getElem?_eq_some_iff.1 hg).1).trans hg, rest⟩
  exact h.imp (key _) (key _)

/-- Blocks of amounts that are not the builder's. -/
def Others (b : Nat) (w w' : World) : Prop := ∀ g cs fr, g ≠ b → w.heap[g]? = some (.cells cs 155 fr) → w'.heap[g]? = w.heap[g]?
theorem Others.trans {b : Nat} {x y z : World} (h : Others b x y) (k : Others b y z) : Others b x z := fun g cs fr hg hc => (k g cs fr hg ((h g cs fr hg hc).trans hc)).trans (h g cs fr hg hc)

/-- What a write leaves. -/
def Wrote (B b : Nat) (l : List UInt8) (n : Nat) (w : World) (e : Ending) (w' : World) : Prop := e = .returned (.tuple #[.int .i64 (n : Int), .nilIface]) ∧ IsB B b l w' ∧ Below B w w' ∧ Others b w w'

set_option maxRecDepth 100000 in
set_option maxHeartbeats 1000000 in
theorem write_any (B b : Nat) (l : List UInt8) (s : ByteArray) (w : World) (h : IsB B b l w) (hlen : l.length + s.size ≤ 140737488355328) (hBw : B ≤ w.heap.size) :
    Calls Tryz.prog 132 #[.pointer (some ⟨b, 0, none⟩), .string s] w (Wrote B b (l ++ s.data.toList) s.size w) := by
  obtain ⟨i0, hi, hz0, hz1, hz2⟩ := info_parts byteInfo
  go_enter Tryz.func132, Tryz.ntmps132
  go_wp2_with fail
  refine (copy_any B b l _ h).mono ?_
  rintro e w1 ⟨rfl, h1, hb1, ho1⟩
  obtain ⟨hB, v, hbk, hown, hne⟩ := h1
  have c0 : w1.cell? ⟨b, 0, none⟩ = some (.pointer (some ⟨b, 0, none⟩)) := by rw [Lib.cell_of_heap hbk]; rfl
  have c1 : w1.cell? ⟨b, 1, none⟩ = some v := by rw [Lib.cell_of_heap hbk]; rfl
  have hll : (Lib.byteCells l).length = l.length := Lib.byteCells_length l
  have HLL := Lib.hid hll
  clear hll
  go_wp2_with (at_builtin; refine Lib.wpList_append_own_string _ rfl _ _ 85 9 rfl B 5 i0 Tryz.underlying85 Tryz.underlying9 hi hz0 hz1 hz2 _ _ _ rfl hown s rfl (by rw [HLL.out]; unfold maxLen; omega) (by rw [HLL.out]; omega) (by have := hb1.size; omega) ?_; intro v' w2 hown' hgrow _; refine Hid.out ?_)
  refine Lib.hid ?_
  have hlt : b < w1.heap.size := (Array.getElem?_eq_some_iff.1 hbk).1
  have hb2 : w2.heap[b]? = some (.cells #[.pointer (some ⟨b, 0, none⟩), v] 188 (0, 0)) := by
    rw [hgrow.block b hlt (fun e => hne e.symm)]
    exact hbk
  have d0 : w2.cell? ⟨b, 0, none⟩ = some (.pointer (some ⟨b, 0, none⟩)) := by rw [Lib.cell_of_heap hb2]; rfl
  have d1 : w2.cell? ⟨b, 1, none⟩ = some v := by rw [Lib.cell_of_heap hb2]; rfl
  have f1 : w2.frozen? ⟨b, 1, none⟩ = false := Lib.frozen_of_heap hb2 1
  obtain ⟨ao, n', cap, rfl⟩ : ∃ ao n' cap, v' = .slice ao n' cap := by
    rcases hown'.2 with ⟨hv, _⟩ | ⟨g, cap, cur, hv, _⟩
    · exact ⟨_, _, _, hv⟩
    · exact ⟨_, _, _, hv⟩
  have HG := Lib.hid (hb1.grown hgrow (by have := hb1.size; omega) (fun k hk => (hown.lt k hk).1))
  have HO := Lib.hid hown'
  have HOT := Lib.hid (show Others b w w2 from fun g cs fr hg hc => by
    have hc1 := (ho1 g hg).trans hc
    refine (hgrow.block g (Array.getElem?_eq_some_iff.1 hc1).1 (fun e => ?_)).trans (ho1 g hg)
    rcases hown.2 with ⟨rfl, _⟩ | ⟨g', cap', cur, rfl, _, hg', _⟩
    · cases e
    · have e2 : (some g : Option Nat) = some g' := e
      injection e2 with e2
      subst e2
      rw [hg'] at hc1
      injection hc1 with hc1
      injection hc1 with _ ht
      exact absurd ht (by decide))
  have HB2 := Lib.hid hb2
  clear hbk hown hne hown' hgrow hb2 hi hz0 hz1 hz2 h hb1 c0 c1 ho1
  go_wp2
  go_ret2
  refine ⟨rfl, .inr ?_, HG.out.setCell (p := ⟨b, 1, none⟩) hB _, HOT.out.trans (fun g cs fr hg _ => Below.heap_setCell w2 ⟨b, 1, none⟩ _ g hg)⟩
  refine Lib.BuilderAt.put (T := 188) (e := 5) hB HB2.out (bs' := Lib.byteCells (l ++ s.data.toList)) ?_ (by decide)
  have := HO.out
  rw [HLL.out] at this
  have e1 : Lib.byteCells (l ++ s.data.toList) = Lib.byteCells l ++ Lib.strCells s := by simp [Lib.byteCells, Lib.strCells]
  rw [e1, List.length_append, HLL.out, Lib.strCells_length]
  exact this

end Go.Proofs.YtflllkpnkcmegaaGreatDoor.Vec

/- A vector in words. -/
namespace Go.Proofs.YtflllkpnkcmegaaGreatDoor.Vec
open Go.RowKit Go.Shelf
set_option linter.unusedVariables false

/-- .. and the table of powers that numbers are written by. -/
structure EnvT (w : World) : Prop extends Env w where
  tab : Lib.TabIs Tryz.prog w "internal/strconv.uint64pow10" .u64 Lib.pow10Tab

theorem tabName : Tryz.prog.globalNamed "internal/strconv.uint64pow10" = some 0 := by kernel_rfl
theorem EnvT.kept {w w' : World} (h : EnvT w) (k : Kept w w') : EnvT w' := by
  refine ⟨h.toEnv.kept k, Joins.tab_stays tabName h.tab k (Nat.le_refl _)⟩

def joinFrom (first : Bool) : V → List UInt8
  | [] => []
  | x :: t => (if first = true then [] else [44]) ++ (x.1.data.toList ++ ([61] ++ (Lib.itoa x.2 ++ joinFrom false t)))
def textV (l : V) : List UInt8 := if l = [] then [45] else joinFrom true l

theorem fewFrom_at : ∀ {l : V} {k : Nat}, fewFrom l = true → k < l.length → (nm l k).size ≤ 50
  | [], _, _, h => absurd h (by simp)
  | x :: t, 0, h, _ => by
    simp only [fewFrom, Bool.and_eq_true, decide_eq_true_eq] at h
    exact h.1
  | x :: t, k + 1, h, hk => by
    simp only [fewFrom, Bool.and_eq_true, decide_eq_true_eq] at h
    show (nm t k).size ≤ 50
    exact fewFrom_at h.2 (by simpa using hk)

theorem format_any (n : Int) (w : World) (hE : EnvT w) (h0 : -9223372036854775808 ≤ n) (h1 : n ≤ 9223372036854775807) :
    Calls Tryz.prog 133 #[.int .i64 n, .int .i64 10] w fun e w' => e = .returned (.string (bytes (Lib.itoa n))) ∧ Kept w w' := by
  refine (Tryz.strconv_FormatInt_10 n h0 h1 w hE.tab).mono ?_
  rintro e w' ⟨rfl, k, os, rfl⟩
  exact ⟨rfl, Lib.below_grow _ _ (Nat.le_refl _) _ _⟩

theorem bytes_size (l : List UInt8) : (bytes l).size = l.length := rfl

set_option maxHeartbeats 1600000 in
theorem text_any (a : Option Addr) (len cap : Nat) (l : V) (w : World) (hE : EnvT w) (hr : VecAt w a len l) (hfew : fewV l = true) :
    Calls Tryz.prog 80 #[.slice a len cap] w fun e w' => e = .returned (.string (bytes (textV l))) ∧ Kept w w' := by
  have hl := hr.1
  have hf := hr.2.2.1
  unfold fewV at hfew
  simp only [Bool.and_eq_true, decide_eq_true_eq] at hfew
  have h20 : len ≤ 20 := by omega
  rcases hr.form with h0 | ⟨b, off, rfl⟩
  · subst h0
    have HE := Lib.hid (show textV l = [45] by rw [List.eq_nil_of_length_eq_zero hl]; rfl)
    clear hr hl hf hfew hE
    go_enter Tryz.func80, Tryz.ntmps80
    go_wp2
    go_ret
    exact ⟨by rw [HE.out]; rfl, Kept.refl _⟩
  · by_cases h0 : len = 0
    · subst h0
      have HE := Lib.hid (show textV l = [45] by rw [List.eq_nil_of_length_eq_zero hl]; rfl)
      clear hr hl hf hfew hE
      go_enter Tryz.func80, Tryz.ntmps80
      go_wp2
      go_ret
      exact ⟨by rw [HE.out]; rfl, Kept.refl _⟩
    · have hne : ((len : Int) == 0) = false := by
        have : (len : Int) ≠ 0 := by omega
        simpa using this
      have HV := Lib.hid (show textV l = joinFrom true l by unfold textV; rw [if_neg (by intro e; rw [e] at hl; simp at hl; omega)])
      have HS := Lib.hid (fun k (hk : k < l.length) => fewFrom_at hfew.2 hk)
      have HF := Lib.hid hf
      have HR := Lib.hid hr
      have HL := Lib.hid hl
      have HE := Lib.hid hE
      clear hr hl hf hfew hE h0
      go_enter Tryz.func80, Tryz.ntmps80
      go_wp2
      go_loopw [11] (fun i wr => ∃ (k : Nat) (acc : List UInt8), k ≤ len ∧ i = .int .i64 k ∧ acc ++ joinFrom (decide (k = 0)) (l.drop k) = joinFrom true l ∧ acc.length ≤ k * 80 ∧ IsB w.heap.size w.heap.size acc wr ∧ Below w.heap.size w wr) (fun i _ => len - (intOf i).toNat)
      case atStart => exact ⟨0, [], Nat.zero_le _, rfl, rfl, Nat.le_refl _, Lib.fresh_isBuilder _ _ w, kept_alloc _ _⟩
      case round =>
        obtain ⟨k, acc, hk, rfl, hrest, hacc, hI, hB⟩ := hrel
        have HB := Lib.hid hB
        by_cases hlt : k < len
        · obtain ⟨hb, c1, c2⟩ := (HR.out.kept hB).cells hlt
          have HI := Lib.hid (show k < l.length by rw [HL.out]; exact hlt)
          have hs50 := HS.out k HI.out
          have hq := (HF.out k HI.out).2
          have HIT := Lib.hid (Lib.itoa_length_le (qn l k) hq.1 hq.2)
          have HREST := Lib.hid (show acc ++ (if decide (k = 0) = true then [] else [44]) ++ (nm l k).data.toList ++ [61] ++ Lib.itoa (qn l k) ++ joinFrom (decide (k + 1 = 0)) (l.drop (k + 1)) = joinFrom true l by
            rw [← hrest, drop_cons HI.out]; simp [joinFrom, List.append_assoc])
          have hszn : (nm l k).data.toList.length = (nm l k).size := by rw [Array.length_toList, ByteArray.size_data]
          have HSZ := Lib.hid hszn
          obtain ⟨W1, hW1⟩ : ∃ W1, wr.alloc (.cells #[.string (nm l k), .int .i64 (qn l k)] 155) = W1 := ⟨_, rfl⟩
          have I1 := Lib.hid (show IsB w.heap.size w.heap.size acc W1 by rw [← hW1]; exact hI.kept (kept_alloc wr _))
          have B1 := Lib.hid (show Below w.heap.size w W1 by rw [← hW1]; exact hB.trans (Below.mono (kept_alloc wr _) hB.size))
          have A1 := Lib.hid (show W1.heap[wr.heap.size]? = some (.cells #[.string (nm l k), .int .i64 (qn l k)] 155 (0, 0)) by rw [← hW1]; exact World.alloc_heap_new wr _)
          have hne2 : wr.heap.size ≠ w.heap.size := by have := hI.lt; omega
          have HW1 := Lib.hid hW1
          clear hrest hI hB hszn hW1
          by_cases hk0 : k = 0
          · have hd : decide (0 < k) = false := by subst hk0; decide
            have HREST := Lib.hid (show acc ++ (nm l k).data.toList ++ [61] ++ Lib.itoa (qn l k) ++ joinFrom (decide (k + 1 = 0)) (l.drop (k + 1)) = joinFrom true l by
              have := HREST.out; rw [decide_eq_true hk0] at this; simpa using this)
            clear hk0
            go_wp2_with fail
            rw [HW1.out]
            have a1 : W1.cell? ⟨wr.heap.size, 0, none⟩ = some (.string (nm l k)) := by rw [Lib.cell_of_heap A1.out]; rfl
            go_wp2_with fail
            refine (write_any w.heap.size w.heap.size acc (nm l k) _ I1.out (by omega) B1.out.size).mono ?_
            rintro e w2 ⟨rfl, i2, b2, o2⟩
            have B2 := Lib.hid (B1.out.trans b2)
            have I2 := Lib.hid i2
            have A2 := Lib.hid ((o2 _ _ _ hne2 A1.out).trans A1.out)
            clear i2 b2 o2 a1
            go_wp2_with fail
            refine (write_any w.heap.size w.heap.size (acc ++ (nm l k).data.toList) (bytes [61]) _ I2.out (by rw [List.length_append]; have e1 : (bytes [61]).size = 1 := rfl; have e3 := HSZ.out; omega) B2.out.size).mono ?_
            rintro e w3 ⟨rfl, i3, b3, o3⟩
            have B3 := Lib.hid (B2.out.trans b3)
            have I3 := Lib.hid (show IsB w.heap.size w.heap.size (acc ++ (nm l k).data.toList ++ [61]) w3 from i3)
            have A3 := Lib.hid ((o3 _ _ _ hne2 A2.out).trans A2.out)
            clear i3 b3 o3
            have a2 : w3.cell? ⟨wr.heap.size, 1, none⟩ = some (.int .i64 (qn l k)) := by rw [Lib.cell_of_heap A3.out]; rfl
            go_wp2_with fail
            refine (format_any (qn l k) _ (HE.out.kept B3.out) hq.1 hq.2).mono ?_
            rintro e w4 ⟨rfl, k4⟩
            have B4 := Lib.hid (B3.out.trans (Below.mono k4 B3.out.size))
            have I4 := Lib.hid (I3.out.kept k4)
            clear k4 a2
            have SZ4 := Lib.hid (show (acc ++ (nm l k).data.toList ++ [61]).length + (bytes (Lib.itoa (qn l k))).size ≤ 140737488355328 by
              have e1 : (bytes (Lib.itoa (qn l k))).size = (Lib.itoa (qn l k)).length := bytes_size _
              have e2 := HIT.out
              have e3 := HSZ.out
              simp only [List.length_append, List.length_cons, List.length_nil]
              omega)
            go_wp2_with fail
            refine (write_any w.heap.size w.heap.size (acc ++ (nm l k).data.toList ++ [61]) (bytes (Lib.itoa (qn l k))) _ I4.out SZ4.out B4.out.size).mono ?_
            rintro e w5 ⟨rfl, i5, b5, -⟩
            have B5 := Lib.hid (B4.out.trans b5)
            have I5 := Lib.hid (show IsB w.heap.size w.heap.size (acc ++ (nm l k).data.toList ++ [61] ++ Lib.itoa (qn l k)) w5 from i5)
            clear i5 b5
            go_wp2_with fail
            go_roundw
            case rel =>
              refine ⟨k + 1, acc ++ (nm l k).data.toList ++ [61] ++ Lib.itoa (qn l k), by omega, by go_num, HREST.out, ?_, I5.out, B5.out⟩
              have e2 := HIT.out
              have e3 := HSZ.out
              simp only [List.length_append, List.length_cons, List.length_nil]
              omega
            case measure => simp [intOf]; omega
          · have hd : decide (0 < k) = true := decide_eq_true (by omega)
            have HREST := Lib.hid (show acc ++ [44] ++ (nm l k).data.toList ++ [61] ++ Lib.itoa (qn l k) ++ joinFrom (decide (k + 1 = 0)) (l.drop (k + 1)) = joinFrom true l by
              have := HREST.out; rw [decide_eq_false hk0] at this; simpa using this)
            have hk0 : 0 < k := by omega
            go_wp2_with fail
            rw [HW1.out]
            refine (write_any w.heap.size w.heap.size acc (bytes [44]) _ I1.out (by have e1 : (bytes [44]).size = 1 := rfl; omega) B1.out.size).mono ?_
            rintro e w0 ⟨rfl, i0, b0, o0⟩
            have B1 := Lib.hid (B1.out.trans b0)
            have I1 := Lib.hid (show IsB w.heap.size w.heap.size (acc ++ [44]) w0 from i0)
            have A1 := Lib.hid ((o0 _ _ _ hne2 A1.out).trans A1.out)
            clear i0 b0 o0
            have SZ1 := Lib.hid (show (acc ++ [44]).length + (nm l k).size ≤ 140737488355328 by
              simp only [List.length_append, List.length_cons, List.length_nil]; omega)
            have SZ2 := Lib.hid (show (acc ++ [44] ++ (nm l k).data.toList).length + (bytes [61]).size ≤ 140737488355328 by
              have e1 : (bytes [61]).size = 1 := rfl
              have e3 := HSZ.out
              simp only [List.length_append, List.length_cons, List.length_nil]; omega)
            have a1 : w0.cell? ⟨wr.heap.size, 0, none⟩ = some (.string (nm l k)) := by rw [Lib.cell_of_heap A1.out]; rfl
            go_wp2_with fail
            refine (write_any w.heap.size w.heap.size (acc ++ [44]) (nm l k) _ I1.out SZ1.out B1.out.size).mono ?_
            rintro e w2 ⟨rfl, i2, b2, o2⟩
            have B2 := Lib.hid (B1.out.trans b2)
            have I2 := Lib.hid i2
            have A2 := Lib.hid ((o2 _ _ _ hne2 A1.out).trans A1.out)
            clear i2 b2 o2 a1
            go_wp2_with fail
            refine (write_any w.heap.size w.heap.size (acc ++ [44] ++ (nm l k).data.toList) (bytes [61]) _ I2.out SZ2.out B2.out.size).mono ?_
            rintro e w3 ⟨rfl, i3, b3, o3⟩
            have B3 := Lib.hid (B2.out.trans b3)
            have I3 := Lib.hid (show IsB w.heap.size w.heap.size (acc ++ [44] ++ (nm l k).data.toList ++ [61]) w3 from i3)
            have A3 := Lib.hid ((o3 _ _ _ hne2 A2.out).trans A2.out)
            clear i3 b3 o3
            have a2 : w3.cell? ⟨wr.heap.size, 1, none⟩ = some (.int .i64 (qn l k)) := by rw [Lib.cell_of_heap A3.out]; rfl
            go_wp2_with fail
            refine (format_any (qn l k) _ (HE.out.kept B3.out) hq.1 hq.2).mono ?_
            rintro e w4 ⟨rfl, k4⟩
            have B4 := Lib.hid (B3.out.trans (Below.mono k4 B3.out.size))
            have I4 := Lib.hid (I3.out.kept k4)
            clear k4 a2
            have SZ4 := Lib.hid (show (acc ++ [44] ++ (nm l k).data.toList ++ [61]).length + (bytes (Lib.itoa (qn l k))).size ≤ 140737488355328 by
              have e1 : (bytes (Lib.itoa (qn l k))).size = (Lib.itoa (qn l k)).length := bytes_size _
              have e2 := HIT.out
              have e3 := HSZ.out
              simp only [List.length_append, List.length_cons, List.length_nil]
              omega)
            go_wp2_with fail
            refine (write_any w.heap.size w.heap.size (acc ++ [44] ++ (nm l k).data.toList ++ [61]) (bytes (Lib.itoa (qn l k))) _ I4.out SZ4.out B4.out.size).mono ?_
            rintro e w5 ⟨rfl, i5, b5, -⟩
            have B5 := Lib.hid (B4.out.trans b5)
            have I5 := Lib.hid (show IsB w.heap.size w.heap.size (acc ++ [44] ++ (nm l k).data.toList ++ [61] ++ Lib.itoa (qn l k)) w5 from i5)
            clear i5 b5
            go_wp2_with fail
            go_roundw
            case rel =>
              refine ⟨k + 1, acc ++ [44] ++ (nm l k).data.toList ++ [61] ++ Lib.itoa (qn l k), by omega, by go_num, HREST.out, ?_, I5.out, B5.out⟩
              have e2 := HIT.out
              have e3 := HSZ.out
              simp only [List.length_append, List.length_cons, List.length_nil]
              omega
            case measure => simp [intOf]; omega
        · have HD := Lib.hid (show acc = joinFrom true l by rw [← hrest, List.drop_of_length_le (by rw [HL.out]; omega)]; simp [joinFrom])
          have HI := Lib.hid hI
          clear hrest hI hB
          go_wp2_with fail
          refine (Tryz.Builder_String_any w.heap.size w.heap.size acc _ HI.out HB.out.size).mono ?_
          rintro e w1 ⟨rfl, hb1⟩
          have HB1 := Lib.hid hb1
          clear hb1
          go_wp2
          go_ret
          exact ⟨by rw [HV.out, ← HD.out]; rfl, HB.out.trans HB1.out⟩

end Go.Proofs.YtflllkpnkcmegaaGreatDoor.Vec

/- The calls over whatever reads as a vector. -/
namespace Go.Proofs.YtflllkpnkcmegaaGreatDoor.Vec
open Go.RowKit
set_option linter.unusedVariables false

theorem Reads.nil (w : World) : Reads w (.slice none 0 0) [] := ⟨none, 0, rfl, Nat.le_refl _, by decide, VecAt.nil w⟩
theorem checkR {v : Value} {l : V} {c : Int} {w : World} (h : Reads w v l) (e : checkV l = c) :
    Calls Tryz.prog 57 #[v] w fun x w' => x = .returned (.int .i64 c) ∧ Kept w w' := by
  subst e
  obtain ⟨a, cap, rfl, h1, h2, h3⟩ := h
  exact check_any a _ cap l w h3
theorem refCheckR {v : Value} {l : V} {c : Int} {w : World} (h : Reads w v l) (e : checkV l = c) :
    Calls Tryz.prog 50 #[v] w fun x w' => x = .returned (.int .i64 c) ∧ Kept w w' := by
  subst e
  obtain ⟨a, cap, rfl, h1, h2, h3⟩ := h
  exact refCheck_any a _ cap l w h3
theorem textR {v : Value} {l : V} {s : List UInt8} {w : World} (hE : EnvT w) (h : Reads w v l) (hf : fewV l = true) (e : textV l = s) :
    Calls Tryz.prog 80 #[v] w fun x w' => x = .returned (.string (bytes s)) ∧ Kept w w' := by
  subst e
  obtain ⟨a, cap, rfl, h1, h2, h3⟩ := h
  exact text_any a _ cap l w hE h3 hf
theorem sameR {v v' : Value} {l l' : V} {c : Bool} {w : World} (h : Reads w v l) (h' : Reads w v' l') (e : sameFrom l l' = c) :
    Calls Tryz.prog 63 #[v, v'] w fun x w' => x = .returned (.bool c) ∧ Kept w w' := by
  subst e
  obtain ⟨a, cap, rfl, h1, h2, h3⟩ := h
  obtain ⟨a', cap', rfl, h1', h2', h3'⟩ := h'
  exact same_any a a' _ cap _ cap' l l' w h3 h3'
theorem nameR {n : ByteArray} {c : Bool} {w : World} (h : n.size ≤ maxLen) (e : isName n = c) :
    Calls Tryz.prog 104 #[.string n] w fun x w' => x = .returned (.bool c) ∧ w = w' := by
  subst e
  exact name_any n w h
theorem fewR {v : Value} {l : V} {c : Bool} {w : World} (h : Reads w v l) (e : fewV l = c) :
    Calls Tryz.prog 41 #[v] w fun x w' => x = .returned (.bool c) ∧ w = w' := by
  subst e
  obtain ⟨a, cap, rfl, h1, h2, h3⟩ := h
  exact few_any a _ cap l w h3

end Go.Proofs.YtflllkpnkcmegaaGreatDoor.Vec
