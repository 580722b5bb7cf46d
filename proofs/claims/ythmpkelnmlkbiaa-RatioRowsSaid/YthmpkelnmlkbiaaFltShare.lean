/- Parts of one whole: which is ahead, whether no more than 1. -/
import Derived.Test.YthmpkelnmlkbiaaFltFacts
namespace Go.Proofs.Ythmpkelnmlkbiaa
open Ieee
set_option linter.unusedVariables false

theorem val_mono {r s : Nat} (h : r ≤ s) : val r ≤ val s := by
  rcases Nat.lt_or_eq_of_le h with g | g
  · exact Nat.le_of_lt (val_lt g)
  · rw [g]; exact Nat.le_refl _
theorem le_of_val {r s : Nat} (h : val r ≤ val s) : r ≤ s := by
  rcases Nat.lt_or_ge s r with g | g
  · have := val_lt g; omega
  · exact g

/-- The next rung is one unit of its binade up. -/
theorem val_succ (r : Nat) : val (r + 1) = val r + 2 ^ ex r := by
  have hB : (0 : Nat) < BIN := by decide
  by_cases h : r < BIN
  · have h2 : val r = r := by simp only [val, mg, ex, h, if_true]; simp
    have e : ex r = 0 := by simp only [ex, h, if_true]
    have h3 : val (r + 1) = r + 1 := by
      have := val_at 0 (r + 1) (by omega) (.inl rfl)
      simpa using this
    rw [h2, h3, e]
  · have hn : BIN ≤ r := Nat.not_lt.1 h
    have q1 : 1 ≤ r / BIN := (Nat.one_le_div_iff hB).2 hn
    have e0 := Nat.div_add_mod r BIN
    have m0 := Nat.mod_lt r hB
    have ee : ex r = r / BIN - 1 := by simp only [ex, h, if_false]
    have eg : mg r = BIN + r % BIN := by simp only [mg, h, if_false]
    have e1 : r + 1 = ex r * BIN + (mg r + 1) := by
      rw [ee, eg, Nat.sub_mul, Nat.mul_comm (r / BIN) BIN]
      have : 1 * BIN ≤ BIN * (r / BIN) := by rw [Nat.mul_comm]; exact Nat.mul_le_mul_left _ q1
      omega
    have e2 : val r = mg r * 2 ^ ex r := rfl
    rw [e1, val_at (ex r) (mg r + 1) (by omega) (.inr (by omega)), e2, Nat.add_mul, Nat.one_mul]

theorem ulp_le (r : Nat) (h : BIN ≤ r) : BIN * 2 ^ ex r ≤ val r := by
  have eg : BIN ≤ mg r := by simp only [mg, Nat.not_lt.2 h, if_false]; omega
  exact Nat.mul_le_mul_right _ eg

/-- There is a rung as far up as may be that is no more than this. -/
theorem floor_rung (P : Nat → Prop) (h0 : P 0) : ∀ N, ¬ P N → ∃ r, r < N ∧ P r ∧ ¬ P (r + 1)
  | 0, hN => absurd h0 hN
  | N + 1, hN => by
    by_cases h : P N
    · exact ⟨N, by omega, h, hN⟩
    · obtain ⟨r, hr, h1, h2⟩ := floor_rung P h0 N h
      exact ⟨r, by omega, h1, h2⟩

/-- What a part of a whole comes to, told of rungs. -/
structure PartR (a w R : Nat) : Prop where
  fin : R < INF
  ge : ∀ r, r ≤ INF → val r * w ≤ a * U → r ≤ R
  le : ∀ r, a * U ≤ val r * w → R ≤ r

theorem part_rung (a w : Nat) (hw : 0 < w) (ha : a < 4294967297) (hw' : w < 4294967297) : ∃ R, PartR a w R ∧ double.div (floatOfInt .f64 (a : Int)) (floatOfInt .f64 (w : Int)) = some (double.word false R) := by
  obtain ⟨ra, na, fa, va⟩ := near_exact (m := a) (by omega)
  obtain ⟨rw', nw, fw, vw⟩ := near_exact (m := w) (by omega)
  obtain ⟨a1, a2, _⟩ := flt_rung (a : Int)
  obtain ⟨w1, w2, _⟩ := flt_rung (w : Int)
  simp only [Int.natAbs_natCast] at a1 w1
  rw [na] at a1
  rw [nw] at w1
  have w0 : rw' ≠ 0 := by
    intro h; rw [h, val_zero] at vw
    have := Nat.mul_pos hw U_pos; omega
  obtain ⟨R, hR, hd, hge, hle⟩ := div_rung (x := floatOfInt .f64 (a : Int)) (y := floatOfInt .f64 (w : Int)) (by rw [a1]; exact fa) (by rw [w1]; exact fw) (by rw [w1]; exact w0)
  rw [a1, w1, va, vw] at hge hle
  rw [a2, w2, decide_eq_false (by omega), decide_eq_false (by omega)] at hd
  have up : ∀ r, a * U ≤ val r * w → R ≤ r := fun r h => hle r (by
    calc a * U * U ≤ val r * w * U := Nat.mul_le_mul_right _ h
      _ = val r * (w * U) := Nat.mul_assoc _ _ _)
  refine ⟨R, ⟨?_, fun r hr h => hge r hr ?_, up⟩, hd⟩
  · have : R ≤ T63 := up T63 (by
      rw [val_T63]
      calc a * U ≤ 2 ^ 63 * U := Nat.mul_le_mul_right _ (by omega)
        _ ≤ 2 ^ 63 * U * w := Nat.le_mul_of_pos_right _ hw)
    have t : T63 < INF := by decide
    omega
  · calc val r * (w * U) = val r * w * U := (Nat.mul_assoc _ _ _).symm
      _ ≤ a * U * U := Nat.mul_le_mul_right _ h

theorem ex_mono {r s : Nat} (h : r ≤ s) : ex r ≤ ex s := by
  have := Nat.div_le_div_right (c := BIN) h
  unfold ex
  split
  · exact Nat.zero_le _
  · split <;> omega

theorem U_big : 18446744073709551616 ≤ U := by
  obtain ⟨c, hc, hU⟩ := U_pow
  rw [hU]
  have : 2 ^ 64 ≤ 2 ^ c := Nat.pow_le_pow_right (by omega) (by omega)
  exact this

theorem part_lt {a b w R S : Nat} (h : PartR a w R) (g : PartR b w S) (hw : 0 < w) (hw' : w < 4294967297) (hb : b < 4294967297) (hlt : a < b) : R < S := by
  have hbU : b * U ≤ 4294967296 * U := Nat.mul_le_mul_right _ (by omega)
  have hab : a * U + U ≤ b * U := by
    have : (a + 1) * U ≤ b * U := Nat.mul_le_mul_right _ hlt
    rwa [Nat.add_mul, Nat.one_mul] at this
  have big := U_big
  -- the greatest rung that is no more than b of w
  obtain ⟨r, hr, h1, h2⟩ : ∃ r, r < T63 + 1 ∧ val r * w ≤ b * U ∧ ¬ val (r + 1) * w ≤ b * U := floor_rung (fun r => val r * w ≤ b * U) (by show val 0 * w ≤ _; rw [val_zero]; simp) (T63 + 1) (by
    intro h
    have t : val T63 < val (T63 + 1) := val_lt (Nat.lt_succ_self _)
    rw [val_T63] at t
    have k1 : 2 ^ 63 * U * w < val (T63 + 1) * w := Nat.mul_lt_mul_of_pos_right t hw
    have k3 : 2 ^ 63 * U ≤ 2 ^ 63 * U * w := Nat.le_mul_of_pos_right _ hw
    omega)
  have t63 : T63 < INF := by decide
  have hS : r ≤ S := g.ge r (by omega) h1
  have hr0 : r ≠ 0 := by
    intro e
    rw [e] at h2
    have e1 : val (0 + 1) * w = w := by rw [val_succ 0, val_zero]; simp [ex]
    rw [e1] at h2
    omega
  obtain ⟨q, rfl⟩ : ∃ q, r = q + 1 := ⟨r - 1, by omega⟩
  have v1 := val_succ q
  have v2 := val_succ (q + 1)
  have em : 2 ^ ex q ≤ 2 ^ ex (q + 1) := Nat.pow_le_pow_right (by omega) (ex_mono (by omega))
  have small : 2 * (2 ^ ex (q + 1) * w) ≤ U := by
    by_cases hq : BIN ≤ q + 1
    · have k1 : BIN * 2 ^ ex (q + 1) * w ≤ val (q + 1) * w := Nat.mul_le_mul_right _ (ulp_le _ hq)
      rw [Nat.mul_assoc] at k1
      have eB : BIN = 4503599627370496 := rfl
      rw [eB] at k1
      omega
    · have e0 : ex (q + 1) = 0 := by simp only [ex, Nat.lt_of_not_le hq, if_true]
      rw [e0]; omega
  have hq : a * U ≤ val q * w := by
    rw [v2, v1, Nat.add_mul, Nat.add_mul] at h2
    have k2 : 2 ^ ex q * w ≤ 2 ^ ex (q + 1) * w := Nat.mul_le_mul_right _ em
    omega
  have := h.le q hq
  omega

/-- It is no more than 1 just where the part is no more than the whole. -/
theorem part_one {a w R : Nat} (h : PartR a w R) (hw : 0 < w) (hw' : w < 4294967297) (ha : a < 4294967297) : R ≤ ONE ↔ a ≤ w := by
  constructor
  · intro hR
    rcases Nat.lt_or_ge w a with k | k
    · exfalso
      obtain ⟨S, hS, _⟩ := part_rung w w hw hw' hw'
      have h1 : ONE ≤ S := hS.ge ONE (by decide) (by rw [val_one, Nat.mul_comm]; exact Nat.le_refl _)
      have := part_lt hS h hw hw' ha k
      omega
    · exact k
  · intro k
    refine h.le ONE ?_
    rw [val_one, Nat.mul_comm U w]
    exact Nat.mul_le_mul_right _ k

/-- 0 and a number above: the number. -/
theorem zero_add_word {R : Nat} (h : R < INF) : double.add 0 (double.word false R) = some (double.word false R) := by
  obtain ⟨h1, _, h3, h4⟩ := word_nan false (Nat.le_of_lt h)
  unfold Format.add
  rw [show double.read 0 = .number false 0 (-1074) from by decide +kernel, read_num (by rw [h3]; exact h), h3, h4]
  simp only [Datum.sum, signed_eq, Option.map_some, Option.some.injEq, Format.write]
  have e1 : min (-1074 : Int) (-1074 + (ex R : Int)) = -1074 := by omega
  rw [e1]
  have e2 : ((-1074 + (ex R : Int)) - -1074).toNat = ex R := by omega
  rw [e2]
  have e3 : ((if false = true then -((0 * 2 ^ ((-1074 : Int) - -1074).toNat : Nat) : Int) else ((0 * 2 ^ ((-1074 : Int) - -1074).toNat : Nat) : Int)) + (if false = true then -((mg R * 2 ^ ex R : Nat) : Int) else ((mg R * 2 ^ ex R : Nat) : Int))) = ((val R : Nat) : Int) := by
    simp [val]
  rw [e3]
  have e4 : (if ((val R : Nat) : Int) = 0 then false && false else decide (((val R : Nat) : Int) < 0)) = false := by
    split
    · rfl
    · exact decide_eq_false (by omega)
  rw [e4, Int.natAbs_natCast, (nearest_word false (val R) (-1074)).1]
  congr 1
  by_cases hv : val R = 0
  · rw [hv, near_zero]
    have := @val_eq_iff R 0
    rw [val_zero] at this
    exact (this.1 hv).symm
  · exact near_eq (u := 0) (v := 0) hv (by omega) (Nat.le_of_lt h) (by simp)

/-- A number above by 1: the number. -/
theorem by_one {R : Nat} (h : R < INF) : double.div (double.word false R) (floatOfInt .f64 1) = some (double.word false R) := by
  obtain ⟨h1, _, h3, h4⟩ := word_nan false (Nat.le_of_lt h)
  have o1 : rung (floatOfInt .f64 1) = ONE := by decide +kernel
  have o2 : sgn (floatOfInt .f64 1) = false := by decide +kernel
  obtain ⟨S, hS, hd, hge, hle⟩ := div_rung (x := double.word false R) (y := floatOfInt .f64 1) (by rw [h3]; exact h) (by rw [o1]; decide) (by rw [o1]; decide)
  rw [o1, h3, val_one] at hge hle
  have k1 := hge R (Nat.le_of_lt h) (Nat.le_refl _)
  have k2 := hle R (Nat.le_refl _)
  have : S = R := by omega
  rw [hd, this, h4, o2]; rfl

end Go.Proofs.Ythmpkelnmlkbiaa
