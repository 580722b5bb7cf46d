/- Classes of quotients of whole numbers. -/
import Derived.Test.YthmpkelnmlkbiaaFltDiv
namespace Go.Proofs.Ythmpkelnmlkbiaa
open Ieee
set_option linter.unusedVariables false

theorem cls_word (s : Bool) {R : Nat} (h : R ≤ INF) : cls (double.word s R) = if R = 0 then (if s then 2 else 3) else if R = INF then (if s then 0 else 5) else if s then 1 else 4 := by
  obtain ⟨h1, _, h3, h4⟩ := word_nan s h
  have eI := eINF
  unfold cls srung
  rw [h1, h3, h4]
  cases s <;> simp only [Bool.false_eq_true, if_false, if_true] <;> by_cases g : R = 0 <;> by_cases k : R = INF <;> simp only [g, k, if_true, if_false] <;> first | rfl | omega

theorem key_word (s : Bool) {R : Nat} (h : R ≤ INF) : key (double.word s R) = if s then -(R : Int) - 1 else R := by
  obtain ⟨h1, _, h3, h4⟩ := word_nan s h
  unfold key
  rw [h1, h3, h4]
  cases s <;> rfl

/-- The rung of a power of two. -/
theorem val_two (e n : Nat) (h : n = 52 + e) : val (e * BIN + BIN) = 2 ^ n := by
  subst h
  rw [val_at e BIN (by decide) (.inr (Nat.le_refl _)), show BIN = 2 ^ 52 from rfl, ← Nat.pow_add]

abbrev ONE : Nat := 1022 * BIN + BIN
abbrev T63 : Nat := 1085 * BIN + BIN
abbrev M63 : Nat := 959 * BIN + BIN
theorem val_one : val ONE = U := by
  obtain ⟨c, hc, hU⟩ := U_pow
  rw [hU]
  exact val_two 1022 c (by omega)
theorem val_T63 : val T63 = 2 ^ 63 * U := by
  obtain ⟨c, hc, hU⟩ := U_pow
  rw [hU, ← Nat.pow_add]
  exact val_two 1085 (63 + c) (by omega)
theorem one_word : ONE = 4607182418800017408 := by decide
theorem U_pos : 0 < U := by obtain ⟨c, _, hU⟩ := U_pow; rw [hU]; exact pow_pos2 c

/-- A whole number that is not 0, of 64 bits: at least 1, at most 2 to the 63rd. -/
theorem flt_between {m : Nat} (h0 : m ≠ 0) (hm : m ≤ 9223372036854775808) : ONE ≤ near m 0 ∧ near m 0 ≤ T63 := by
  obtain ⟨c, hc, hU⟩ := U_pow
  constructor
  · refine near_ge (u := c) (v := 0) h0 (by omega) (by decide) ?_
    rw [val_one, hU, Nat.pow_zero, Nat.mul_one]
    exact Nat.le_mul_of_pos_left _ (Nat.pos_of_ne_zero h0)
  · refine near_le (u := c) (v := 0) h0 (by omega) ?_
    rw [val_T63, hU, Nat.pow_zero, Nat.mul_one]
    exact Nat.mul_le_mul_right _ hm

theorem flt_rung (n : Int) : rung (floatOfInt .f64 n) = near n.natAbs 0 ∧ sgn (floatOfInt .f64 n) = decide (n < 0) ∧ isNaN (floatOfInt .f64 n) = false ∧ floatOfInt .f64 n < 18446744073709551616 := by
  obtain ⟨h, hb⟩ := flt_word n
  rw [h]
  obtain ⟨h1, h2, h3, h4⟩ := word_nan (decide (n < 0)) hb
  exact ⟨h3, h4, h1, h2⟩

/-- Two whole numbers that are not 0: a quotient that is neither a nought nor an edge. -/
theorem of_real {a b : Int} (ha : a ≠ 0) (hb : b ≠ 0) (ha' : a.natAbs ≤ 9223372036854775808) (hb' : b.natAbs ≤ 9223372036854775808) :
    ∃ R, 0 < R ∧ R < INF ∧ double.div (floatOfInt .f64 a) (floatOfInt .f64 b) = some (double.word (decide (a < 0) ^^ decide (b < 0)) R) := by
  obtain ⟨a1, a2⟩ := flt_between (m := a.natAbs) (by omega) ha'
  obtain ⟨b1, b2⟩ := flt_between (m := b.natAbs) (by omega) hb'
  obtain ⟨ra, sa, _⟩ := flt_rung a
  obtain ⟨rb, sb, _⟩ := flt_rung b
  have t1 : T63 < INF := by decide
  have t2 : 0 < ONE := by decide
  obtain ⟨R, hR, hd, hge, hle⟩ := div_rung (x := floatOfInt .f64 a) (y := floatOfInt .f64 b) (by rw [ra]; omega) (by rw [rb]; omega) (by rw [rb]; omega)
  rw [ra, rb] at hge hle
  rw [sa, sb] at hd
  have mono : ∀ {r s : Nat}, r ≤ s → val r ≤ val s := fun {r s} h => by
    rcases Nat.lt_or_eq_of_le h with g | g
    · exact Nat.le_of_lt (val_lt g)
    · rw [g]; exact Nat.le_refl _
  have va := mono a1
  have va2 := mono a2
  have vb := mono b1
  have vb2 := mono b2
  rw [val_one] at va vb
  rw [val_T63] at va2 vb2
  obtain ⟨c, hc, hU⟩ := U_pow
  obtain ⟨n, hn⟩ : ∃ n, n + 63 = c := ⟨c - 63, by omega⟩
  have hM : val M63 * 2 ^ 63 = U := by
    have h1 : val M63 = 2 ^ n := val_two 959 n (by omega)
    rw [h1, hU, ← Nat.pow_add, hn]
  have lo : M63 ≤ R := by
    refine hge M63 (by decide) ?_
    calc val M63 * val (near b.natAbs 0) ≤ val M63 * (2 ^ 63 * U) := Nat.mul_le_mul_left _ vb2
      _ = U * U := by rw [← Nat.mul_assoc, hM]
      _ ≤ val (near a.natAbs 0) * U := Nat.mul_le_mul_right _ va
  have hi : R ≤ T63 := by
    refine hle T63 ?_
    rw [val_T63]
    calc val (near a.natAbs 0) * U ≤ 2 ^ 63 * U * U := Nat.mul_le_mul_right _ va2
      _ ≤ 2 ^ 63 * U * val (near b.natAbs 0) := Nat.mul_le_mul_left _ vb
  have t3 : 0 < M63 := by decide
  exact ⟨R, by omega, by omega, hd⟩

/-- By 0: an infinity of the number's sign. -/
theorem of_zero {a : Int} (ha : a ≠ 0) (ha' : a.natAbs ≤ 9223372036854775808) : double.div (floatOfInt .f64 a) (floatOfInt .f64 0) = some (double.word (decide (a < 0)) INF) := by
  obtain ⟨a1, a2⟩ := flt_between (m := a.natAbs) (by omega) ha'
  obtain ⟨ra, sa, _⟩ := flt_rung a
  have t1 : T63 < INF := by decide
  have t2 : 0 < ONE := by decide
  have e0 : double.read (floatOfInt .f64 0) = .number false 0 (-1074) := by decide +kernel
  unfold Format.div
  rw [read_num (x := floatOfInt .f64 a) (by rw [ra]; omega), e0, ra, sa]
  have hm : mg (near a.natAbs 0) ≠ 0 := by
    have : (0 : Nat) < BIN := by decide
    unfold mg; split <;> omega
  simp only [Datum.quotient, hm, if_false, if_true, Option.map_some, Format.write, d_inf, Bool.xor_false]

/-- Of 0: a nought of the other number's sign. -/
theorem zero_of {b : Int} (hb : b ≠ 0) (hb' : b.natAbs ≤ 9223372036854775808) : double.div (floatOfInt .f64 0) (floatOfInt .f64 b) = some (double.word (decide (b < 0)) 0) := by
  obtain ⟨b1, b2⟩ := flt_between (m := b.natAbs) (by omega) hb'
  obtain ⟨rb, sb, _⟩ := flt_rung b
  have t1 : T63 < INF := by decide
  have t2 : 0 < ONE := by decide
  have r0 : rung (floatOfInt .f64 0) = 0 := by decide +kernel
  have s0 : sgn (floatOfInt .f64 0) = false := by decide +kernel
  obtain ⟨R, hR, hd, hge, hle⟩ := div_rung (x := floatOfInt .f64 0) (y := floatOfInt .f64 b) (by rw [r0]; decide) (by rw [rb]; omega) (by rw [rb]; omega)
  rw [r0] at hle
  have := hle 0 (by rw [val_zero]; simp)
  have hR0 : R = 0 := by omega
  rw [hd, hR0, s0, sb, Bool.false_xor]

end Go.Proofs.Ythmpkelnmlkbiaa
