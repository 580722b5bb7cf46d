/- The mean of floats, of both. -/
import Derived.Test.YthmpkelnmlkbiaaFltLeast
namespace Go.Proofs.Ythmpkelnmlkbiaa
open Go.RowKit
set_option linter.unusedVariables false

/-- One more added: no number stays none. -/
def addN (s : Option Nat) (x : Nat) : Option Nat := s.bind fun s => Ieee.double.add s x
/-- The first k added from the first on, 0 ahead of them. -/
def sumN (l : List Nat) : Nat → Option Nat
  | 0 => some 0
  | k + 1 => addN (sumN l k) (l.getD k 0)
/-- What Mean answers. -/
def meanN (l : List Nat) : Option Nat := if l.length = 0 then none else (sumN l l.length).bind fun s => Ieee.double.div s (floatOfInt .f64 l.length)

theorem read_isnan {x : Nat} (h : isNaN x = true) : ∃ s t, Ieee.double.read x = .nan s t := ⟨_, _, read_nan ((nan_iff x).1 h)⟩
theorem add_nan {s : Nat} (x : Nat) (h : isNaN s = true) : Ieee.double.add s x = none := by
  obtain ⟨a, b, e⟩ := read_isnan h
  unfold Ieee.Format.add
  rw [e]
  cases Ieee.double.read x <;> rfl
theorem div_nan {s : Nat} (x : Nat) (h : isNaN s = true) : Ieee.double.div s x = none := by
  obtain ⟨a, b, e⟩ := read_isnan h
  unfold Ieee.Format.div
  rw [e]
  cases Ieee.double.read x <;> rfl
theorem add_of {s x r : Nat} {acc : Option Nat} (hs : nrm s = acc) (hr : nrm r = Ieee.double.add s x) : nrm r = addN acc x := by
  subst hs
  unfold addN
  cases hn : nrm s with
  | none => rw [hr, add_nan x (nrm_none.1 hn)]; rfl
  | some s' => obtain ⟨_, rfl⟩ := nrm_some.1 hn; exact hr
theorem div_of {s x r : Nat} {acc : Option Nat} (hs : nrm s = acc) (hr : nrm r = Ieee.double.div s x) : nrm r = acc.bind fun s => Ieee.double.div s x := by
  subst hs
  cases hn : nrm s with
  | none => rw [hr, div_nan x (nrm_none.1 hn)]; rfl
  | some s' => obtain ⟨_, rfl⟩ := nrm_some.1 hn; exact hr
theorem nrm_alike {r s : Nat} (h : nrm r = nrm s) : cp r s = 0 := by
  cases hr : nrm r with
  | none => rw [hr] at h; rw [cp_zero]; simp [key, nrm_none.1 hr, nrm_none.1 h.symm]
  | some a =>
    rw [hr] at h
    obtain ⟨_, rfl⟩ := nrm_some.1 hr
    obtain ⟨_, rfl⟩ := nrm_some.1 h.symm
    exact cp_self _

def MEA (l : List Nat) (w : World) (e : Ending) (w' : World) : Prop := ∃ r, e = .returned (.float .f64 r) ∧ nrm r = meanN l ∧ r < TOP ∧ Kept w w'


set_option maxHeartbeats 800000 in
theorem mean_any (a : Option Addr) (len cap : Nat) (l : List Nat) (w : World) (hr : FRow w a len l) :
    Calls Try.prog 26 #[.slice a len cap] w (MEA l w) := by
  unfold MEA
  obtain ⟨hl, hm, hx, hc⟩ := hr
  unfold maxLen at hm
  by_cases h0 : len = 0
  · subst h0
    have hd : meanN l = none := by unfold meanN; rw [if_pos hl]
    have HD := Lib.hid hd
    have HN := Lib.hid (nan_any)
    clear hd hl hc hx
    go_enter Try.func26, Try.ntmps26
    go_wp2_with fail
    refine (HN.out _).mono ?_
    rintro e w1 ⟨r, n, rfl, rfl, hn, ht⟩
    have H2 := Lib.hid hn
    clear hn
    go_wp2_with fail
    go_ret
    exact ⟨r, rfl, by rw [HD.out]; exact nrm_none.2 H2.out, ht, Kept.drewN _ _⟩
  rcases hc with rfl | ⟨b, off, rfl, hb, hc⟩
  · omega
  · have hd : meanN l = (sumN l len).bind fun s => Ieee.double.div s (floatOfInt .f64 len) := by unfold meanN; rw [if_neg (by omega), hl]
    have HE := Lib.hid hd
    have HC := Lib.hid hc
    have HB := Lib.hid hb
    have hb0 : ((len : Int) == 0) = false := by simp; omega
    clear hc hb hx hl hd
    go_enter Try.func26, Try.ntmps26
    go_wp2
    go_loopw [3, 12] (fun m i wr => ∃ k s : Nat, k ≤ len ∧ i = .int .i64 k ∧ m = .float .f64 s ∧ nrm s = sumN l k ∧ Kept w wr) (fun _ i _ => len - (intOf i).toNat)
    case atStart => exact ⟨0, 0, by omega, rfl, rfl, (show nrm 0 = some 0 from by decide +kernel), Kept.refl _⟩
    case round =>
      obtain ⟨k, s, hk, rfl, rfl, hd, hkw⟩ := hrel
      have HD := Lib.hid hd
      have HK := Lib.hid hkw
      clear hd hkw
      by_cases hlt : k < len
      · have c := (Below.cell HK.out (p := ⟨b, off + k, none⟩) HB.out).trans (HC.out k hlt)
        obtain ⟨x, ex⟩ : ∃ x, l.getD k 0 = x := ⟨_, rfl⟩
        rw [ex] at c
        have EX := Lib.hid ex
        clear ex
        obtain ⟨r, n, hq, hn, _⟩ := add_run (P := Try.prog) s x wr
        have HN := Lib.hid hn
        clear hn
        go_wp2
        go_roundw
        case rel => exact ⟨k + 1, r, by omega, by go_num, rfl, by rw [sumN, EX.out]; exact add_of HD.out HN.out, HK.out.trans (Kept.drewN _ _)⟩
        case measure => simp [intOf]; omega
      · have ek : k = len := by omega
        subst ek
        obtain ⟨r, n, hq, hn, ht⟩ := div_run (P := Try.prog) s (floatOfInt .f64 k) wr
        have HN := Lib.hid hn
        clear hn
        go_wp2
        go_ret
        exact ⟨r, rfl, by rw [HE.out]; exact div_of HD.out HN.out, ht, HK.out.trans (Kept.drewN _ _)⟩


set_option maxHeartbeats 800000 in
theorem rmean_any (a : Option Addr) (len cap : Nat) (l : List Nat) (w : World) (hr : FRow w a len l) :
    Calls Try.prog 27 #[.slice a len cap] w (MEA l w) := by
  unfold MEA
  obtain ⟨hl, hm, hx, hc⟩ := hr
  unfold maxLen at hm
  by_cases h0 : len = 0
  · subst h0
    have hd : meanN l = none := by unfold meanN; rw [if_pos hl]
    have HD := Lib.hid hd
    have HN := Lib.hid (rnan_any)
    clear hd hl hc hx
    go_enter Try.func27, Try.ntmps27
    go_wp2_with fail
    refine (HN.out _).mono ?_
    rintro e w1 ⟨r, n, rfl, rfl, hn, ht⟩
    have H2 := Lib.hid hn
    clear hn
    go_wp2_with fail
    go_ret
    exact ⟨r, rfl, by rw [HD.out]; exact nrm_none.2 H2.out, ht, Kept.drewN _ _⟩
  rcases hc with rfl | ⟨b, off, rfl, hb, hc⟩
  · omega
  · have hd : meanN l = (sumN l len).bind fun s => Ieee.double.div s (floatOfInt .f64 len) := by unfold meanN; rw [if_neg (by omega), hl]
    have HE := Lib.hid hd
    have HC := Lib.hid hc
    have HB := Lib.hid hb
    have hb0 : ((len : Int) == 0) = false := by simp; omega
    clear hc hb hx hl hd
    go_enter Try.func27, Try.ntmps27
    go_wp2
    go_loopw [3, 4] (fun m i wr => ∃ k s : Nat, k ≤ len ∧ i = .int .i64 k ∧ m = .float .f64 s ∧ nrm s = sumN l k ∧ Kept w wr) (fun _ i _ => len - (intOf i).toNat)
    case atStart => exact ⟨0, 0, by omega, rfl, rfl, (show nrm 0 = some 0 from by decide +kernel), Kept.refl _⟩
    case round =>
      obtain ⟨k, s, hk, rfl, rfl, hd, hkw⟩ := hrel
      have HD := Lib.hid hd
      have HK := Lib.hid hkw
      clear hd hkw
      by_cases hlt : k < len
      · have c := (Below.cell HK.out (p := ⟨b, off + k, none⟩) HB.out).trans (HC.out k hlt)
        obtain ⟨x, ex⟩ : ∃ x, l.getD k 0 = x := ⟨_, rfl⟩
        rw [ex] at c
        have EX := Lib.hid ex
        clear ex
        obtain ⟨r, n, hq, hn, _⟩ := add_run (P := Try.prog) s x wr
        have HN := Lib.hid hn
        clear hn
        go_wp2
        go_roundw
        case rel => exact ⟨k + 1, r, by omega, by go_num, rfl, by rw [sumN, EX.out]; exact add_of HD.out HN.out, HK.out.trans (Kept.drewN _ _)⟩
        case measure => simp [intOf]; omega
      · have ek : k = len := by omega
        subst ek
        obtain ⟨r, n, hq, hn, ht⟩ := div_run (P := Try.prog) s (floatOfInt .f64 k) wr
        have HN := Lib.hid hn
        clear hn
        go_wp2
        go_ret
        exact ⟨r, rfl, by rw [HE.out]; exact div_of HD.out HN.out, ht, HK.out.trans (Kept.drewN _ _)⟩

end Go.Proofs.Ythmpkelnmlkbiaa
