/- Sums and means of small whole numbers as floats. -/
import Derived.Test.YthmpkelnmlkbiaaFltShare
import Derived.Test.YthmpkelnmlkbiaaFltMean
namespace Go.Proofs.Ythmpkelnmlkbiaa
open Ieee
set_option linter.unusedVariables false

theorem flt_read {n : Int} (h : n.natAbs < 9007199254740992) : ∃ r, near n.natAbs 0 = r ∧ r < INF ∧ val r = n.natAbs * U ∧ double.read (floatOfInt .f64 n) = .number (decide (n < 0)) (mg r) (-1074 + (ex r : Int)) := by
  obtain ⟨r, hr, hf, hv⟩ := near_exact h
  obtain ⟨h1, h2, _⟩ := flt_rung n
  rw [hr] at h1
  exact ⟨r, hr, hf, hv, by rw [read_num (by rw [h1]; exact hf), h1, h2]⟩

/-- Small whole numbers are added as such. -/
theorem add_flt {a b : Int} (ha : a.natAbs < 9007199254740992) (hb : b.natAbs < 9007199254740992) (hab : (a + b).natAbs < 9007199254740992) :
    double.add (floatOfInt .f64 a) (floatOfInt .f64 b) = some (floatOfInt .f64 (a + b)) := by
  obtain ⟨ra, _, _, va, ea⟩ := flt_read ha
  obtain ⟨rb, _, _, vb, eb⟩ := flt_read hb
  obtain ⟨rc, nc, fc, vc⟩ := near_exact hab
  unfold Format.add
  rw [ea, eb]
  simp only [Datum.sum, signed_eq, Option.map_some, Option.some.injEq, Format.write]
  have va' : mg ra * 2 ^ ex ra = a.natAbs * U := va
  have vb' : mg rb * 2 ^ ex rb = b.natAbs * U := vb
  clear ea eb va vb
  generalize mg ra = m at va' ⊢
  generalize mg rb = n at vb' ⊢
  generalize ex ra = i at va' ⊢
  generalize ex rb = j at vb' ⊢
  have e0 : min (-1074 + (i : Int)) (-1074 + (j : Int)) = -1074 + ((min i j : Nat) : Int) := by omega
  rw [e0]
  have e1 : (-1074 + (i : Int) - (-1074 + ((min i j : Nat) : Int))).toNat = i - min i j := by omega
  have e2 : (-1074 + (j : Int) - (-1074 + ((min i j : Nat) : Int))).toNat = j - min i j := by omega
  rw [e1, e2]
  obtain ⟨t, ht⟩ : ∃ t : Int, t = (if decide (a < 0) = true then -((m * 2 ^ (i - min i j) : Nat) : Int) else ((m * 2 ^ (i - min i j) : Nat) : Int)) + (if decide (b < 0) = true then -((n * 2 ^ (j - min i j) : Nat) : Int) else ((n * 2 ^ (j - min i j) : Nat) : Int)) := ⟨_, rfl⟩
  rw [← ht]
  have p1 : m * 2 ^ (i - min i j) * 2 ^ min i j = a.natAbs * U := by rw [Nat.mul_assoc, ← Nat.pow_add, Nat.sub_add_cancel (Nat.min_le_left _ _)]; exact va'
  have p2 : n * 2 ^ (j - min i j) * 2 ^ min i j = b.natAbs * U := by rw [Nat.mul_assoc, ← Nat.pow_add, Nat.sub_add_cancel (Nat.min_le_right _ _)]; exact vb'
  have sg : ∀ (z : Int) (x : Nat), x * 2 ^ min i j = z.natAbs * U → (if decide (z < 0) = true then -((x : Nat) : Int) else ((x : Nat) : Int)) * ((2 ^ min i j : Nat) : Int) = z * (U : Int) := by
    intro z x hx
    have hx' : ((x : Nat) : Int) * ((2 ^ min i j : Nat) : Int) = (z.natAbs : Int) * (U : Int) := by rw [← Int.natCast_mul, ← Int.natCast_mul, hx]
    by_cases hz : z < 0
    · rw [if_pos (decide_eq_true hz), Int.neg_mul, hx', show (z.natAbs : Int) = -z from by omega, Int.neg_mul, Int.neg_neg]
    · rw [if_neg (by simp [hz]), hx', show (z.natAbs : Int) = z from by omega]
  have hT : t * ((2 ^ min i j : Nat) : Int) = (a + b) * (U : Int) := by
    rw [ht, Int.add_mul, sg a _ p1, sg b _ p2, Int.add_mul]
  have hpos : (0 : Int) < ((2 ^ min i j : Nat) : Int) := by have := pow_pos2 (min i j); omega
  have hUp : (0 : Int) < (U : Int) := by have := U_pos; omega
  have z0 : t = 0 ↔ a + b = 0 := by
    constructor
    · intro h; rw [h, Int.zero_mul] at hT
      rcases Int.mul_eq_zero.1 hT.symm with g | g <;> omega
    · intro h; rw [h, Int.zero_mul] at hT
      rcases Int.mul_eq_zero.1 hT with g | g <;> omega
  have z1 : t < 0 ↔ a + b < 0 := by
    constructor
    · intro h
      have := Int.mul_neg_of_neg_of_pos h hpos
      rw [hT] at this
      rcases Int.lt_or_le (a + b) 0 with g | g
      · exact g
      · have := Int.mul_nonneg g (Int.le_of_lt hUp); omega
    · intro h
      have := Int.mul_neg_of_neg_of_pos h hUp
      rw [← hT] at this
      rcases Int.lt_or_le t 0 with g | g
      · exact g
      · have := Int.mul_nonneg g (Int.le_of_lt hpos); omega
  have hN : t.natAbs * 2 ^ min i j = (a + b).natAbs * U := by
    have := congrArg Int.natAbs hT
    rw [Int.natAbs_mul, Int.natAbs_mul, Int.natAbs_natCast, Int.natAbs_natCast] at this
    exact this
  have hs : (if t = 0 then decide (a < 0) && decide (b < 0) else decide (t < 0)) = decide (a + b < 0) := by
    by_cases h : t = 0
    · rw [if_pos h]
      have := z0.1 h
      rw [decide_eq_false (show ¬ a + b < 0 by omega)]
      by_cases g : a < 0
      · rw [decide_eq_false (show ¬ b < 0 by omega), Bool.and_false]
      · rw [decide_eq_false g, Bool.false_and]
    · rw [if_neg h]
      exact decide_eq_decide.2 z1
  rw [hs, (nearest_word _ _ _).1, (flt_word (a + b)).1, nc]
  congr 1
  by_cases h : t.natAbs = 0
  · rw [h, near_zero]
    rw [h, Nat.zero_mul] at hN
    rw [← hN] at vc
    have := @val_eq_iff rc 0
    rw [val_zero] at this
    exact (this.1 vc).symm
  · refine near_eq (u := min i j) (v := 0) h (by omega) (Nat.le_of_lt fc) ?_
    rw [hN, vc, Nat.pow_zero, Nat.mul_one]

/-- The first k of whole numbers in all. -/
def isum (l : List Int) : Nat → Int
  | 0 => 0
  | k + 1 => isum l k + l.getD k 0

theorem isum_bound {l : List Int} (h : ∀ i, -32768 ≤ l.getD i 0 ∧ l.getD i 0 ≤ 32767) : ∀ k : Nat, -(32768 * (k : Int)) ≤ isum l k ∧ isum l k ≤ 32768 * (k : Int)
  | 0 => by simp [isum]
  | k + 1 => by
    have := isum_bound h k
    have := h k
    simp only [isum]
    omega

abbrev flt (n : Int) : Nat := floatOfInt .f64 n

theorem getD_flt (l : List Int) (i : Nat) : (l.map flt).getD i 0 = flt (l.getD i 0) := by
  simp only [List.getD, List.getElem?_map]
  cases l[i]? with
  | none => show (0 : Nat) = flt 0; decide +kernel
  | some x => rfl

theorem sum_flt {l : List Int} (h : ∀ i, -32768 ≤ l.getD i 0 ∧ l.getD i 0 ≤ 32767) : ∀ k, k ≤ 1000 → sumN (l.map flt) k = some (flt (isum l k))
  | 0, _ => by show some 0 = some (flt 0); rw [show flt 0 = 0 from by decide +kernel]
  | k + 1, hk => by
    rw [sumN, sum_flt h k (by omega)]
    show double.add (flt (isum l k)) ((l.map flt).getD k 0) = _
    rw [getD_flt]
    have b1 := isum_bound h k
    have b2 := h k
    exact add_flt (by omega) (by omega) (by omega)

/-- What a whole number by another one above 0 comes to. -/
theorem mean_rung (S : Int) (w : Nat) (hw : 0 < w) (hS : S.natAbs < 4294967297) (hw' : w < 4294967297) : ∃ R, PartR S.natAbs w R ∧ double.div (flt S) (flt (w : Int)) = some (double.word (decide (S < 0)) R) := by
  obtain ⟨ra, na, fa, va⟩ := near_exact (m := S.natAbs) (by omega)
  obtain ⟨rw', nw, fw, vw⟩ := near_exact (m := w) (by omega)
  obtain ⟨a1, a2, _⟩ := flt_rung S
  obtain ⟨w1, w2, _⟩ := flt_rung (w : Int)
  simp only [Int.natAbs_natCast] at w1
  rw [na] at a1
  rw [nw] at w1
  have w0 : rw' ≠ 0 := by
    intro h; rw [h, val_zero] at vw
    have := Nat.mul_pos hw U_pos; omega
  obtain ⟨R, hR, hd, hge, hle⟩ := div_rung (x := flt S) (y := flt (w : Int)) (by rw [a1]; exact fa) (by rw [w1]; exact fw) (by rw [w1]; exact w0)
  rw [a1, w1, va, vw] at hge hle
  rw [a2, w2, decide_eq_false (show ¬ (w : Int) < 0 by omega), Bool.xor_false] at hd
  have up : ∀ r, S.natAbs * U ≤ val r * w → R ≤ r := fun r h => hle r (by
    calc S.natAbs * U * U ≤ val r * w * U := Nat.mul_le_mul_right _ h
      _ = val r * (w * U) := Nat.mul_assoc _ _ _)
  refine ⟨R, ⟨?_, fun r hr h => hge r hr ?_, up⟩, hd⟩
  · have : R ≤ T63 := up T63 (by
      rw [val_T63]
      calc S.natAbs * U ≤ 2 ^ 63 * U := Nat.mul_le_mul_right _ (by omega)
        _ ≤ 2 ^ 63 * U * w := Nat.le_mul_of_pos_right _ hw)
    have t : T63 < INF := by decide
    omega
  · calc val r * (w * U) = val r * w * U := (Nat.mul_assoc _ _ _).symm
      _ ≤ S.natAbs * U * U := Nat.mul_le_mul_right _ h

/-- The mean lies between: or it is 0. -/
theorem mean_between {S : Int} {w R : Nat} (h : PartR S.natAbs w R) (hw : 0 < w) (L M : Int) (hL : L * w ≤ S) (hM : S ≤ M * w) (bL : L.natAbs < 9007199254740992) (bM : M.natAbs < 9007199254740992) (h0 : S ≠ 0) :
    key (flt L) ≤ key (double.word (decide (S < 0)) R) ∧ key (double.word (decide (S < 0)) R) ≤ key (flt M) := by
  obtain ⟨rl, nl, fl, vl⟩ := near_exact bL
  obtain ⟨rm, nm, fm, vm⟩ := near_exact bM
  have kl : key (flt L) = if decide (L < 0) = true then -(rl : Int) - 1 else rl := by
    rw [show flt L = double.word (decide (L < 0)) rl from (flt_word L).1.trans (by rw [nl])]; exact key_word _ (Nat.le_of_lt fl)
  have km : key (flt M) = if decide (M < 0) = true then -(rm : Int) - 1 else rm := by
    rw [show flt M = double.word (decide (M < 0)) rm from (flt_word M).1.trans (by rw [nm])]; exact key_word _ (Nat.le_of_lt fm)
  rw [kl, km, key_word _ (Nat.le_of_lt h.fin)]
  have abs : ∀ a b : Int, 0 ≤ a → a ≤ b → a.natAbs ≤ b.natAbs := by intro a b; omega
  have lew : ∀ (X : Int), (X * (w : Int)).natAbs = X.natAbs * w := by intro X; rw [Int.natAbs_mul, Int.natAbs_natCast]
  by_cases hs : S < 0
  · have hLn : L < 0 := by
      rcases Int.lt_or_le L 0 with g | g
      · exact g
      · have := Int.mul_nonneg g (show (0 : Int) ≤ w by omega); omega
    simp only [hs, hLn, decide_true, if_true]
    constructor
    · have : R ≤ rl := h.le rl (by
        rw [vl, Nat.mul_right_comm]
        refine Nat.mul_le_mul_right _ ?_
        rw [← lew]
        omega)
      omega
    · by_cases hm : M < 0
      · have : rm ≤ R := h.ge rm (Nat.le_of_lt fm) (by
          rw [vm, Nat.mul_right_comm]
          refine Nat.mul_le_mul_right _ ?_
          rw [← lew]
          have := Int.mul_neg_of_neg_of_pos hm (show (0 : Int) < w by omega)
          omega)
        simp only [hm, decide_true, if_true]; omega
      · simp only [hm, decide_false, Bool.false_eq_true, if_false]; omega
  · have hMp : 0 < M := by
      rcases Int.lt_or_le 0 M with g | g
      · exact g
      · have := Int.mul_nonneg (show 0 ≤ -M by omega) (show (0 : Int) ≤ w by omega)
        rw [Int.neg_mul] at this; omega
    have hMn : ¬ M < 0 := by omega
    simp only [hs, hMn, decide_false, Bool.false_eq_true, if_false]
    constructor
    · by_cases hl : L < 0
      · simp only [hl, decide_true, if_true]; omega
      · have : rl ≤ R := h.ge rl (Nat.le_of_lt fl) (by
          rw [vl, Nat.mul_right_comm]
          refine Nat.mul_le_mul_right _ ?_
          rw [← lew]
          have := Int.mul_nonneg (show 0 ≤ L by omega) (show (0 : Int) ≤ w by omega)
          omega)
        simp only [hl, decide_false, Bool.false_eq_true, if_false]; omega
    · have : R ≤ rm := h.le rm (by
        rw [vm, Nat.mul_right_comm]
        refine Nat.mul_le_mul_right _ ?_
        rw [← lew]
        omega)
      omega

end Go.Proofs.Ythmpkelnmlkbiaa
