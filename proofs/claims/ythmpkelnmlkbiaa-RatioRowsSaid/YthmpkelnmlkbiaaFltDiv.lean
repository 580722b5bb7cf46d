/- Quotients and whole numbers as floats. -/
import Derived.Test.YthmpkelnmlkbiaaFltNear
namespace Go.Proofs.Ythmpkelnmlkbiaa
open Ieee
set_option linter.unusedVariables false

theorem double_digits : double.fractionBits + 2 = 54 := rfl

/-- The rungs' unit, from 1 down. -/
def expU : Nat := 1074
def U : Nat := 2 ^ expU
theorem U_pow : ∃ c, c = 1074 ∧ U = 2 ^ c := ⟨expU, rfl, rfl⟩

/-- A quotient's rung, told against every rung. -/
theorem div_rung {x y : Nat} (hx : rung x < INF) (hy : rung y < INF) (hy0 : rung y ≠ 0) :
    ∃ R, R ≤ INF ∧ double.div x y = some (double.word (sgn x ^^ sgn y) R) ∧
      (∀ r, r ≤ INF → val r * val (rung y) ≤ val (rung x) * U → r ≤ R) ∧ (∀ r, val (rung x) * U ≤ val r * val (rung y) → R ≤ r) := by
  have hn0 : mg (rung y) ≠ 0 := by
    unfold mg; split
    · exact hy0
    · have : (0 : Nat) < BIN := by decide
      omega
  have ey : val (rung y) = mg (rung y) * 2 ^ ex (rung y) := rfl
  have ex' : val (rung x) = mg (rung x) * 2 ^ ex (rung x) := rfl
  obtain ⟨c, hc, hU⟩ := U_pow
  rw [hU]
  unfold Format.div
  rw [read_num hx, read_num hy, double_digits]
  simp only [Datum.quotient, hn0, if_false, Option.map_some, Nat.shiftLeft_eq]
  rw [ey, ex']
  generalize mg (rung y) = n at hn0 ⊢
  generalize ex (rung y) = j
  generalize ex (rung x) = i
  generalize mg (rung x) = m
  generalize (sgn x ^^ sgn y) = s
  clear hx hy hy0 ey ex'
  obtain ⟨more, hmore⟩ : ∃ more, more = 54 + n.log2 - m.log2 := ⟨_, rfl⟩
  rw [← hmore]
  obtain ⟨q, hq⟩ : ∃ q, q = 2 * (m * 2 ^ more / n) + (m * 2 ^ more % n != 0).toNat := ⟨_, rfl⟩
  rw [← hq]
  obtain ⟨p, hp⟩ : ∃ p : Int, p = -1074 + (i : Int) - (-1074 + (j : Int)) - more - 1 := ⟨_, rfl⟩
  rw [← hp]
  show ∃ R, R ≤ INF ∧ some (double.nearest s q p) = _ ∧ _
  rw [(nearest_word s q p).1]
  refine ⟨near q p, (nearest_word s q p).2, rfl, ?_, ?_⟩
  · intro r hr h
    by_cases hm : m = 0
    · subst hm
      have : q = 0 := by rw [hq]; simp
      rw [this, near_zero]
      have hv : val r = 0 := by
        rcases Nat.eq_zero_or_pos (val r) with g | g
        · exact g
        · have := Nat.mul_pos g (Nat.mul_pos (Nat.pos_of_ne_zero hn0) (pow_pos2 j)); simp at h; omega
      have := @val_eq_iff r 0
      rw [val_zero] at this
      exact Nat.le_of_eq (this.1 hv)
    · have hg : 2 ^ m.log2 ≤ m := Nat.log2_self_le hm
      have hl : n < 2 ^ (n.log2 + 1) := Nat.lt_log2_self
      have hD : 2 ^ 53 * n ≤ m * 2 ^ more := by
        have h1 : 2 ^ (m.log2 + more) ≤ m * 2 ^ more := by rw [Nat.pow_add]; exact Nat.mul_le_mul_right _ hg
        have h2 : 2 ^ (54 + n.log2) ≤ 2 ^ (m.log2 + more) := Nat.pow_le_pow_right (by omega) (by omega)
        have h3 : 2 ^ 53 * n ≤ 2 ^ 53 * 2 ^ (n.log2 + 1) := Nat.mul_le_mul_left _ (Nat.le_of_lt hl)
        rw [← Nat.pow_add, show 53 + (n.log2 + 1) = 54 + n.log2 from by omega] at h3
        exact Nat.le_trans h3 (Nat.le_trans h2 h1)
      have hf : 2 ^ 53 ≤ m * 2 ^ more / n := (Nat.le_div_iff_mul_le (Nat.pos_of_ne_zero hn0)).2 hD
      have hq0 : q ≠ 0 := by have := pow_pos2 53; omega
      refine near_ge (u := i + c) (v := j + more + 1) hq0 (by omega) hr ?_
      have hT : val r * 2 ^ (j + more) * n ≤ m * 2 ^ more * 2 ^ (i + c) := by
        have h1 := Nat.mul_le_mul_right (2 ^ more) h
        have l1 : val r * (n * 2 ^ j) * 2 ^ more = val r * 2 ^ (j + more) * n := by rw [Nat.pow_add]; ac_rfl
        have l2 : m * 2 ^ i * 2 ^ c * 2 ^ more = m * 2 ^ more * 2 ^ (i + c) := by rw [Nat.pow_add]; ac_rfl
        rw [l1, l2] at h1; exact h1
      have goal : val r * 2 ^ (j + more) ≤ m * 2 ^ more / n * 2 ^ (i + c) := by
        by_cases hx : i + c ≤ ex r + (j + more)
        · have et : val r * 2 ^ (j + more) = mg r * 2 ^ (ex r + (j + more) - (i + c)) * 2 ^ (i + c) := by
            show mg r * 2 ^ ex r * 2 ^ (j + more) = _
            rw [Nat.mul_assoc, ← Nat.pow_add, Nat.mul_assoc, ← Nat.pow_add, Nat.sub_add_cancel hx]
          rw [et] at hT ⊢
          refine Nat.mul_le_mul_right _ ?_
          generalize mg r * 2 ^ (ex r + (j + more) - (i + c)) = t at hT ⊢
          refine (Nat.le_div_iff_mul_le (Nat.pos_of_ne_zero hn0)).2 ?_
          have l1 : t * 2 ^ (i + c) * n = t * n * 2 ^ (i + c) := by ac_rfl
          rw [l1] at hT
          exact Nat.le_of_mul_le_mul_right hT (pow_pos2 _)
        · have h1 : val r * 2 ^ (j + more) ≤ 2 * BIN * 2 ^ (ex r + (j + more)) := by
            show mg r * 2 ^ ex r * 2 ^ (j + more) ≤ _
            rw [Nat.mul_assoc, ← Nat.pow_add]
            exact Nat.mul_le_mul_right _ (Nat.le_of_lt (ex_lt r))
          have h2 : 2 * BIN * 2 ^ (ex r + (j + more)) ≤ 2 ^ 53 * 2 ^ (i + c) := Nat.mul_le_mul (by decide) (Nat.pow_le_pow_right (by omega) (by omega))
          exact Nat.le_trans h1 (Nat.le_trans h2 (Nat.mul_le_mul_right _ hf))
      have hqq : 2 * (m * 2 ^ more / n) ≤ q := by omega
      rw [Nat.pow_succ, ← Nat.mul_assoc, Nat.mul_comm _ 2]
      refine Nat.le_trans (Nat.mul_le_mul_left 2 goal) ?_
      rw [← Nat.mul_assoc]
      exact Nat.mul_le_mul_right _ hqq
  · intro r h
    by_cases hm : m = 0
    · subst hm
      have : q = 0 := by rw [hq]; simp
      rw [this, near_zero]; exact Nat.zero_le _
    · have hg : 2 ^ m.log2 ≤ m := Nat.log2_self_le hm
      have hl : n < 2 ^ (n.log2 + 1) := Nat.lt_log2_self
      have hD : 2 ^ 53 * n ≤ m * 2 ^ more := by
        have h1 : 2 ^ (m.log2 + more) ≤ m * 2 ^ more := by rw [Nat.pow_add]; exact Nat.mul_le_mul_right _ hg
        have h2 : 2 ^ (54 + n.log2) ≤ 2 ^ (m.log2 + more) := Nat.pow_le_pow_right (by omega) (by omega)
        have h3 : 2 ^ 53 * n ≤ 2 ^ 53 * 2 ^ (n.log2 + 1) := Nat.mul_le_mul_left _ (Nat.le_of_lt hl)
        rw [← Nat.pow_add, show 53 + (n.log2 + 1) = 54 + n.log2 from by omega] at h3
        exact Nat.le_trans h3 (Nat.le_trans h2 h1)
      have hf : 2 ^ 53 ≤ m * 2 ^ more / n := (Nat.le_div_iff_mul_le (Nat.pos_of_ne_zero hn0)).2 hD
      have hq0 : q ≠ 0 := by have := pow_pos2 53; omega
      refine near_le (u := i + c) (v := j + more + 1) hq0 (by omega) ?_
      have hT : m * 2 ^ more * 2 ^ (i + c) ≤ val r * 2 ^ (j + more) * n := by
        have h1 := Nat.mul_le_mul_right (2 ^ more) h
        have l1 : val r * (n * 2 ^ j) * 2 ^ more = val r * 2 ^ (j + more) * n := by rw [Nat.pow_add]; ac_rfl
        have l2 : m * 2 ^ i * 2 ^ c * 2 ^ more = m * 2 ^ more * 2 ^ (i + c) := by rw [Nat.pow_add]; ac_rfl
        rw [l1, l2] at h1; exact h1
      by_cases hx : i + c ≤ ex r + (j + more)
      · have et : val r * 2 ^ (j + more) = mg r * 2 ^ (ex r + (j + more) - (i + c)) * 2 ^ (i + c) := by
          show mg r * 2 ^ ex r * 2 ^ (j + more) = _
          rw [Nat.mul_assoc, ← Nat.pow_add, Nat.mul_assoc, ← Nat.pow_add, Nat.sub_add_cancel hx]
        rw [Nat.pow_succ, ← Nat.mul_assoc, et]
        rw [et] at hT
        generalize mg r * 2 ^ (ex r + (j + more) - (i + c)) = t at hT ⊢
        have l1 : t * 2 ^ (i + c) * n = t * n * 2 ^ (i + c) := by ac_rfl
        rw [l1] at hT
        have hd : m * 2 ^ more ≤ t * n := Nat.le_of_mul_le_mul_right hT (pow_pos2 _)
        have l3 : t * 2 ^ (i + c) * 2 = t * 2 * 2 ^ (i + c) := by ac_rfl
        rw [l3]
        refine Nat.mul_le_mul_right _ ?_
        rw [hq]
        have e := Nat.div_add_mod (m * 2 ^ more) n
        generalize m * 2 ^ more = D at *
        by_cases h0 : D % n = 0
        · have : D / n ≤ t := by
            have h1 : n * (D / n) ≤ n * t := by rw [Nat.mul_comm n t]; omega
            exact Nat.le_of_mul_le_mul_left h1 (Nat.pos_of_ne_zero hn0)
          rw [h0]; simp; omega
        · have : D / n < t := by
            have h1 : n * (D / n) < n * t := by rw [Nat.mul_comm n t]; omega
            exact Nat.lt_of_mul_lt_mul_left h1
          have hb : (D % n != 0).toNat ≤ 1 := Bool.toNat_le _
          omega
      · exfalso
        have h1 : val r * 2 ^ (j + more) < 2 * BIN * 2 ^ (ex r + (j + more)) := by
          show mg r * 2 ^ ex r * 2 ^ (j + more) < _
          rw [Nat.mul_assoc, ← Nat.pow_add]
          exact Nat.mul_lt_mul_of_pos_right (ex_lt r) (pow_pos2 _)
        have h2 : 2 * BIN * 2 ^ (ex r + (j + more)) ≤ 2 ^ 53 * 2 ^ (i + c) := Nat.mul_le_mul (by decide) (Nat.pow_le_pow_right (by omega) (by omega))
        have h3 : val r * 2 ^ (j + more) * n < 2 ^ 53 * 2 ^ (i + c) * n := Nat.mul_lt_mul_of_pos_right (Nat.lt_of_lt_of_le h1 h2) (Nat.pos_of_ne_zero hn0)
        have h4 : 2 ^ 53 * 2 ^ (i + c) * n = 2 ^ 53 * n * 2 ^ (i + c) := by ac_rfl
        have h5 := Nat.mul_le_mul_right (2 ^ (i + c)) hD
        omega

/-- A whole number as a float. -/
theorem flt_word (n : Int) : floatOfInt .f64 n = double.word (decide (n < 0)) (near n.natAbs 0) ∧ near n.natAbs 0 ≤ INF := by
  have h := nearest_word (decide (n < 0)) n.natAbs 0
  exact ⟨h.1, h.2⟩

/-- .. exactly, where it has a rung of its own. -/
theorem near_exact {m : Nat} (hm : m < 9007199254740992) : ∃ r, near m 0 = r ∧ r < INF ∧ val r = m * U := by
  by_cases h0 : m = 0
  · subst h0; exact ⟨0, rfl, by decide, by rw [val_zero, Nat.zero_mul]⟩
  · have hg : 2 ^ m.log2 ≤ m := Nat.log2_self_le h0
    have hl : m < 2 ^ (m.log2 + 1) := Nat.lt_log2_self
    have hL : m.log2 ≤ 52 := by
      rcases Nat.lt_or_ge 52 m.log2 with g | g
      · have : 2 ^ 53 ≤ 2 ^ m.log2 := Nat.pow_le_pow_right (by omega) g
        have e : (2 : Nat) ^ 53 = 9007199254740992 := by decide
        omega
      · exact g
    obtain ⟨k, hk⟩ : ∃ k, k = 52 - m.log2 := ⟨_, rfl⟩
    have h1 : BIN ≤ m * 2 ^ k := by
      have : 2 ^ (m.log2 + k) ≤ m * 2 ^ k := by rw [Nat.pow_add]; exact Nat.mul_le_mul_right _ hg
      rw [show m.log2 + k = 52 from by omega] at this; exact this
    have h2 : m * 2 ^ k < 2 * BIN := by
      have : m * 2 ^ k < 2 ^ (m.log2 + 1) * 2 ^ k := Nat.mul_lt_mul_of_pos_right hl (pow_pos2 _)
      rw [← Nat.pow_add, show m.log2 + 1 + k = 53 from by omega] at this; exact this
    have hv := val_at (1074 - k) (m * 2 ^ k) (Nat.le_of_lt h2) (.inr h1)
    obtain ⟨c, hc, hU⟩ := U_pow
    have e : m * 2 ^ k * 2 ^ (1074 - k) = m * U := by rw [hU, Nat.mul_assoc, ← Nat.pow_add, show k + (1074 - k) = c from by omega]
    rw [e] at hv
    have hr : (1074 - k) * BIN + m * 2 ^ k < INF := by
      have : (1074 - k) * BIN ≤ 1074 * BIN := Nat.mul_le_mul_right _ (by omega)
      have e3 : 1074 * BIN + 2 * BIN < INF := by decide +kernel
      exact Nat.lt_trans (Nat.add_lt_add_of_le_of_lt this h2) e3
    refine ⟨_, near_eq (u := c) (v := 0) h0 (by omega) (Nat.le_of_lt hr) ?_, hr, hv⟩
    rw [hv, hU, Nat.pow_zero, Nat.mul_one]

end Go.Proofs.Ythmpkelnmlkbiaa
