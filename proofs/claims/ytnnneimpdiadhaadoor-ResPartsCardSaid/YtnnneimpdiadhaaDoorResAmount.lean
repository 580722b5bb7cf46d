/- A part as an amount; names taken anew. -/
import Derived.Test.YtnnneimpdiadhaaDoorResDec
import Derived.Lib.AtoiErrMem
namespace Go.Proofs.YtnnneimpdiadhaaDoor.Vec
open Go.RowKit
set_option linter.unusedVariables false

/-- What decimal digits spell. -/
def valFrom (acc : Nat) (l : List UInt8) : Nat := l.foldl (fun a c => a * 10 + (c.toNat - 48)) acc
theorem valFrom_cons (acc : Nat) (c : UInt8) (t : List UInt8) : valFrom acc (c :: t) = valFrom (acc * 10 + (c.toNat - 48)) t := List.foldl_cons ..
def valL (l : List UInt8) : Nat := valFrom 0 l

theorem valFrom_ge : ∀ (l : List UInt8) (acc : Nat), acc ≤ valFrom acc l
  | [], _ => Nat.le_refl _
  | c :: t, acc => by have := valFrom_ge t (acc * 10 + (c.toNat - 48)); rw [valFrom_cons]; omega

theorem digit_nat {c : UInt8} (h : okDigit c = true) : 48 ≤ c.toNat ∧ c.toNat ≤ 57 := by
  have := (okDigit_iff c).1 h; omega

theorem parseM_cons (M acc : Nat) (c : UInt8) (r : List UInt8) (h : 48 ≤ c.toNat ∧ c.toNat ≤ 57) : Lib.parseUintM M acc (c :: r) = (if 1844674407370955162 ≤ acc then .range else if M < acc * 10 + (c.toNat - 48) then .range else Lib.parseUintM M (acc * 10 + (c.toNat - 48)) r) := by rw [Lib.parseUintM, if_pos h]
theorem parse_digits (M : Nat) (hM : M < 18446744073709551620) : ∀ (l : List UInt8) (acc : Nat), l.all okDigit = true → acc ≤ M → Lib.parseUintM M acc l = if valFrom acc l ≤ M then .ok (valFrom acc l) else .range
  | [], acc, _, h => by rw [Lib.parseUintM, if_pos (show valFrom acc [] ≤ M from h)]; rfl
  | c :: t, acc, h, ha => by
    simp only [List.all_cons, Bool.and_eq_true] at h
    have hd := digit_nat h.1
    have hge := valFrom_ge t (acc * 10 + (c.toNat - 48))
    rw [parseM_cons _ _ _ _ hd, valFrom_cons]
    by_cases h1 : 1844674407370955162 ≤ acc
    · rw [if_pos h1, if_neg (by omega)]
    · rw [if_neg h1]
      by_cases h2 : M < acc * 10 + (c.toNat - 48)
      · rw [if_pos h2, if_neg (by omega)]
      · rw [if_neg h2]
        exact parse_digits M hM t _ h.2 (by omega)

theorem parse_dec {l : List UInt8} (h : isDecL l = true) : Lib.parseIntB 64 l = if valL l ≤ 9223372036854775807 then .ok (valL l : Int) else .range := by
  cases l with
  | nil => cases h
  | cons c t =>
    rw [isDecL_cons, Bool.and_eq_true] at h
    have hc : okDigit c = true := by have := h.2; simp only [List.all_cons, Bool.and_eq_true] at this; exact this.1
    have hd := digit_nat hc
    have hu : Lib.parseUintB 64 (c :: t) = if valL (c :: t) ≤ 18446744073709551615 then .ok (valL (c :: t)) else .range := by
      unfold Lib.parseUintB
      rw [if_neg (by simp)]
      exact parse_digits (2 ^ 64 - 1) (by decide) (c :: t) 0 h.2 (by omega)
    unfold Lib.parseIntB
    dsimp only
    rw [if_neg (by omega), hu]
    by_cases h1 : valL (c :: t) ≤ 18446744073709551615
    · rw [if_pos h1]
      dsimp only
      by_cases h2 : valL (c :: t) ≤ 9223372036854775807
      · rw [if_pos h2, if_neg (by simp; omega), if_neg (by omega), if_neg (by omega)]
      · rw [if_neg h2, if_pos ⟨by omega, by simp; omega⟩]
    · rw [if_neg h1, if_neg (by omega)]

/-- A part's amount. -/
def amtOf (p : List UInt8) : ByteArray × Int := (bytes (nameOf p), (valL (numOf' p) : Int))

set_option maxHeartbeats 800000 in
theorem amount_ok (p : List UInt8) (w : World) (hE : Env w) (hp : p.length ≤ 1000000) (h : isDecL (numOf' p) = true) (hv : valL (numOf' p) ≤ 9223372036854775807) :
    Calls Tryd.prog 52 #[.string (bytes p)] w fun e w' => e = .returned (.agg #[.string (amtOf p).1, .int .i64 (amtOf p).2]) ∧ Kept w w' := by
  have HE := Lib.hid (hE.kept (kept_alloc w (.cells #[.string ByteArray.empty, .int .i64 0] 38)))
  have HZ := Lib.hid (show (bytes (numOf' p)).size ≤ 9223372036854775806 by have := num_le p; simp [bytes, ByteArray.size]; omega)
  have HP := Lib.hid ((parse_dec h).trans (if_pos hv))
  clear hE h
  go_enter Tryd.func52, Tryd.ntmps52
  go_wp2_with fail
  refine (cut_any p _ HE.out hp).mono ?_
  rintro e w1 ⟨rfl, n, rfl⟩
  go_wp2_with fail
  refine (Tryd.strconv_ParseInt_10_at64_ok (bytes (numOf' p)) HZ.out _ HP.out _).mono ?_
  rintro e w2 ⟨rfl, hw⟩
  have k : Kept ((w.alloc (.cells #[.string ByteArray.empty, .int .i64 0] 38)).drewN n) w2 := by
    rcases hw with rfl | ⟨t, rfl⟩
    · exact Kept.refl _
    · exact Lib.bytesWorld_below _ _ _
  have c1 := k.cell (p := ⟨w.heap.size, 0, none⟩) (by simp)
  have c2 := k.cell (p := ⟨w.heap.size, 1, none⟩) (by simp)
  have z1 := k.frozen (p := ⟨w.heap.size, 0, none⟩) (by simp)
  have z2 := k.frozen (p := ⟨w.heap.size, 1, none⟩) (by simp)
  have HK := Lib.hid (((kept_alloc w _).trans (Kept.drewN _ n)).trans k)
  have e1 : w2.cell? ⟨w.heap.size, 0, none⟩ = some (.string ByteArray.empty) := by rw [c1]; go_simp
  have e2 : w2.cell? ⟨w.heap.size, 1, none⟩ = some (.int .i64 0) := by rw [c2]; go_simp
  have y1 : w2.frozen? ⟨w.heap.size, 0, none⟩ = false := by rw [z1]; go_simp
  have y2 : w2.frozen? ⟨w.heap.size, 1, none⟩ = false := by rw [z2]; go_simp
  clear c1 c2 z1 z2 k hw
  go_wp2
  refine bodyPost_ret (v := .agg #[.string (bytes (nameOf p)), .int .i64 (valL (numOf' p) : Int)]) (by simp [results, Tryd.results52, go_sem, e1, e2]) rfl ⟨rfl, ?_⟩
  exact (HK.out.setCell (p := ⟨w.heap.size, 0, none⟩) (Nat.le_refl _) _).setCell (p := ⟨w.heap.size, 1, none⟩) (Nat.le_refl _) _

set_option maxHeartbeats 800000 in
theorem amount_bad (p : List UInt8) (w : World) (hE : Env w) (hp : p.length ≤ 1000000) (h : isDecL (numOf' p) = true) (hv : ¬ valL (numOf' p) ≤ 9223372036854775807) :
    Calls Tryd.prog 52 #[.string (bytes p)] w fun e w' => e = .panicked [perr 5] ∧ Kept w w' := by
  have HE := Lib.hid (hE.kept (kept_alloc w (.cells #[.string ByteArray.empty, .int .i64 0] 38)))
  have HZ := Lib.hid (show (bytes (numOf' p)).size ≤ 281474976710656 by have := num_le p; simp [bytes, ByteArray.size]; omega)
  have HP := Lib.hid ((parse_dec h).trans (if_neg hv))
  clear hE h
  go_enter Tryd.func52, Tryd.ntmps52
  go_wp2_with fail
  refine (cut_any p _ HE.out hp).mono ?_
  rintro e w1 ⟨rfl, n, rfl⟩
  obtain ⟨ev, hev, hev2⟩ := (HE.out.kept (Kept.drewN _ n)).range
  have HEV := Lib.hid hev
  have HEV2 := Lib.hid hev2
  clear hev hev2
  go_wp2_with fail
  refine (Tryd.strconv_ParseInt_10_at64_range (bytes (numOf' p)) HZ.out HP.out ev _ HEV.out HEV2.out).mono ?_
  rintro e w2 ⟨N, rfl, _, _, k⟩
  have HK := Lib.hid (((kept_alloc w _).trans (Kept.drewN _ n)).trans k)
  clear k
  go_wp2
  exact ⟨rfl, rfl, HK.out⟩

end Go.Proofs.YtnnneimpdiadhaaDoor.Vec
