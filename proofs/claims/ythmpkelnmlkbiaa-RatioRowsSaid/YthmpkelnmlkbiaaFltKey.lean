/- float64 as keys: the order of two numbers, a number's class, what Compare answers: told of their bits. -/
import Derived.Test.YthmpkelnmlkbiaaShelf
import Derived.Laws.FloatArith
import Derived.WalkKit
import Derived.WalkLawsBesides
import Derived.WalkSpells
import Derived.BigQuiet
import Derived.Deep.QuietTactic
import Derived.Lib.Hide
import Derived.Below
import Derived.LoopTactic
namespace Go.Proofs.Ythmpkelnmlkbiaa
open Ieee

abbrev BIN : Nat := 4503599627370496
abbrev INF : Nat := 9218868437227405312
abbrev SGN : Nat := 9223372036854775808

def rung (x : Nat) : Nat := x % SGN
def sgn (x : Nat) : Bool := x / SGN % 2 == 1
def isNaN (x : Nat) : Bool := decide (INF < rung x)
def mg (r : Nat) : Nat := if r < BIN then r else BIN + r % BIN
def ex (r : Nat) : Nat := if r < BIN then 0 else r / BIN - 1
def val (r : Nat) : Nat := mg r * 2 ^ ex r
def srung (x : Nat) : Int := if sgn x then -(rung x : Int) else rung x
def sval (x : Nat) : Int := if sgn x then -(val (rung x) : Int) else val (rung x)
def ocmp (a b : Int) : Ordering := if a < b then .lt else if a = b then .eq else .gt

theorem val_lt {r s : Nat} (h : r < s) : val r < val s := by
  have hB : (0 : Nat) < BIN := by decide
  by_cases h1 : s < BIN
  · have h2 : r < BIN := Nat.lt_trans h h1
    simp only [val, mg, ex, h1, h2, if_true]
    simpa using h
  · have pos : ∀ k : Nat, 0 < 2 ^ k := fun k => Nat.two_pow_pos k
    have hs : BIN ≤ s := Nat.not_lt.1 h1
    by_cases h2 : r < BIN
    · simp only [val, mg, ex, h1, h2, if_true, if_false]
      have := Nat.mul_le_mul_left (BIN + s % BIN) (pos (s / BIN - 1))
      simp only [Nat.pow_zero, Nat.mul_one]
      omega
    · have hr : BIN ≤ r := Nat.not_lt.1 h2
      simp only [val, mg, ex, h1, h2, if_false]
      have e1 : r / BIN ≤ s / BIN := Nat.div_le_div_right (Nat.le_of_lt h)
      have r1 : 1 ≤ r / BIN := (Nat.one_le_div_iff hB).2 hr
      rcases Nat.lt_or_eq_of_le e1 with e2 | e2
      · obtain ⟨k, hk⟩ : ∃ k, s / BIN - 1 = (r / BIN - 1) + 1 + k := ⟨s / BIN - r / BIN - 1, by omega⟩
        rw [hk, Nat.pow_add, Nat.pow_succ]
        have m1 : r % BIN < BIN := Nat.mod_lt _ hB
        have p1 := pos (r / BIN - 1)
        have p2 := pos k
        calc (BIN + r % BIN) * 2 ^ (r / BIN - 1) < (2 * BIN) * 2 ^ (r / BIN - 1) := Nat.mul_lt_mul_of_pos_right (by omega) p1
          _ = BIN * (2 ^ (r / BIN - 1) * 2) := by rw [Nat.mul_comm 2 BIN, Nat.mul_assoc, Nat.mul_comm 2]
          _ ≤ (BIN + s % BIN) * (2 ^ (r / BIN - 1) * 2) := Nat.mul_le_mul_right _ (by omega)
          _ ≤ (BIN + s % BIN) * (2 ^ (r / BIN - 1) * 2 * 2 ^ k) := Nat.mul_le_mul_left _ (Nat.le_mul_of_pos_right _ p2)
      · rw [e2]
        refine Nat.mul_lt_mul_of_pos_right ?_ (pos _)
        have d1 := Nat.div_add_mod r BIN
        have d2 := Nat.div_add_mod s BIN
        rw [e2] at d1
        omega

theorem val_lt_iff {r s : Nat} : val r < val s ↔ r < s := by
  refine ⟨fun h => ?_, val_lt⟩
  rcases Nat.lt_trichotomy r s with g | g | g
  · exact g
  · subst g; exact absurd h (Nat.lt_irrefl _)
  · exact absurd (val_lt g) (Nat.lt_asymm h)

theorem val_eq_iff {r s : Nat} : val r = val s ↔ r = s := by
  refine ⟨fun h => ?_, fun h => by rw [h]⟩
  rcases Nat.lt_trichotomy r s with g | g | g
  · have := val_lt g; omega
  · exact g
  · have := val_lt g; omega

theorem val_zero : val 0 = 0 := by simp [val, mg, ex]

theorem ocmp_val (x y : Nat) : ocmp (sval x) (sval y) = ocmp (srung x) (srung y) := by
  have key : (sval x < sval y ↔ srung x < srung y) ∧ (sval x = sval y ↔ srung x = srung y) := by
    unfold sval srung
    have a := @val_lt_iff (rung x) (rung y)
    have b := @val_lt_iff (rung y) (rung x)
    have c := @val_eq_iff (rung x) (rung y)
    have d := @val_lt_iff 0 (rung x)
    have e := @val_lt_iff 0 (rung y)
    have f := @val_eq_iff 0 (rung x)
    have g := @val_eq_iff 0 (rung y)
    rw [val_zero] at d e f g
    cases sgn x <;> cases sgn y <;> simp <;> omega
  unfold ocmp
  simp only [key.1, key.2]

theorem d_bin : double.binade = BIN := by decide +kernel
theorem d_inf : double.infRung = INF := by decide +kernel
theorem d_sgn : double.signWeight = SGN := by decide +kernel
theorem d_least : double.leastPlace = -1074 := by decide +kernel

theorem read_num {x : Nat} (h : rung x < INF) : double.read x = .number (sgn x) (mg (rung x)) (-1074 + (ex (rung x) : Int)) := by
  unfold Format.read
  simp only [d_bin, d_inf, d_sgn, d_least]
  have e : x % SGN = rung x := rfl
  by_cases h1 : rung x < BIN
  · simp [e, h1, mg, ex, sgn]
  · simp [e, h1, h, mg, ex, sgn]

theorem read_inf {x : Nat} (h : rung x = INF) : double.read x = .infinity (sgn x) := by
  unfold Format.read
  simp only [d_bin, d_inf, d_sgn, d_least]
  have e : x % SGN = rung x := rfl
  rw [e, h]
  rw [if_neg (by decide), if_neg (by decide), if_pos rfl]
  rfl

theorem read_nan {x : Nat} (h : INF < rung x) : double.read x = .nan (sgn x) (rung x - INF) := by
  unfold Format.read
  simp only [d_bin, d_inf, d_sgn, d_least]
  have e : x % SGN = rung x := rfl
  have h1 : ¬ rung x < BIN := by have : BIN < INF := by decide
                                 omega
  have h2 : ¬ rung x < INF := by omega
  have h3 : ¬ rung x = INF := by omega
  simp [e, h1, h2, h3, sgn]

theorem signed_eq (s : Bool) (m u : Nat) : signed s m u = if s then -((m * 2 ^ u : Nat) : Int) else ((m * 2 ^ u : Nat) : Int) := by
  unfold signed
  simp only [Nat.shiftLeft_eq]

theorem ocmp_mul (a b : Int) (k : Int) (hk : 0 < k) : ocmp (a * k) (b * k) = ocmp a b := by
  have h1 : a * k < b * k ↔ a < b := Int.mul_lt_mul_right hk
  have h2 : a * k = b * k ↔ a = b := by
    refine ⟨fun h => Int.eq_of_mul_eq_mul_right (by omega) h, fun h => by rw [h]⟩
  unfold ocmp
  simp only [h1, h2]

theorem compare_ocmp (a b : Int) : compare a b = ocmp a b := rfl

theorem order_num {x y : Nat} (hx : rung x < INF) (hy : rung y < INF) : double.order x y = some (ocmp (srung x) (srung y)) := by
  unfold Format.order
  rw [read_num hx, read_num hy]
  simp only [Datum.order, Option.some.injEq]
  rw [compare_ocmp, ← ocmp_val]
  have e1 : (-1074 + (ex (rung x) : Int) - min (-1074 + (ex (rung x) : Int)) (-1074 + (ex (rung y) : Int))).toNat = ex (rung x) - min (ex (rung x)) (ex (rung y)) := by omega
  have e2 : (-1074 + (ex (rung y) : Int) - min (-1074 + (ex (rung x) : Int)) (-1074 + (ex (rung y) : Int))).toNat = ex (rung y) - min (ex (rung x)) (ex (rung y)) := by omega
  rw [e1, e2, ← ocmp_mul _ _ ((2 ^ min (ex (rung x)) (ex (rung y)) : Nat) : Int) (by have := Nat.two_pow_pos (min (ex (rung x)) (ex (rung y))); omega)]
  have f : ∀ z : Nat, min (ex (rung x)) (ex (rung y)) ≤ ex (rung z) → signed (sgn z) (mg (rung z)) (ex (rung z) - min (ex (rung x)) (ex (rung y))) * ((2 ^ min (ex (rung x)) (ex (rung y)) : Nat) : Int) = sval z := by
    intro z hz
    rw [signed_eq]
    have : mg (rung z) * 2 ^ (ex (rung z) - min (ex (rung x)) (ex (rung y))) * 2 ^ min (ex (rung x)) (ex (rung y)) = val (rung z) := by
      rw [Nat.mul_assoc, ← Nat.pow_add, Nat.sub_add_cancel hz]; rfl
    unfold sval
    cases sgn z
    · simp only [Bool.false_eq_true, if_false]; rw [← Int.natCast_mul, this]
    · simp only [if_true]; rw [Int.neg_mul, ← Int.natCast_mul, this]
  rw [f x (Nat.min_le_left _ _), f y (Nat.min_le_right _ _)]

theorem ocmp_lt {a b : Int} (h : a < b) : ocmp a b = .lt := by unfold ocmp; rw [if_pos h]
theorem ocmp_gt {a b : Int} (h : b < a) : ocmp a b = .gt := by unfold ocmp; rw [if_neg (by omega), if_neg (by omega)]
theorem ocmp_eq {a b : Int} (h : a = b) : ocmp a b = .eq := by unfold ocmp; rw [if_neg (by omega), if_pos h]

theorem srung_lt {x : Nat} (h : rung x < INF) : srung x < (INF : Int) ∧ -(INF : Int) < srung x := by
  unfold srung; split <;> omega

/-- THE ORDER OF TWO NUMBERS, told of their bits. -/
theorem order_eq (x y : Nat) : double.order x y = if isNaN x || isNaN y then none else some (ocmp (srung x) (srung y)) := by
  unfold isNaN
  rcases Nat.lt_trichotomy (rung x) INF with hx | hx | hx
  · rcases Nat.lt_trichotomy (rung y) INF with hy | hy | hy
    · rw [order_num hx hy, if_neg]; simp only [Bool.or_eq_true, decide_eq_true_eq]; omega
    · have hs := srung_lt hx
      unfold Format.order
      rw [read_num hx, read_inf hy, if_neg (by simp only [Bool.or_eq_true, decide_eq_true_eq]; omega)]
      simp only [Datum.order, Option.some.injEq]
      have : srung y = if sgn y then -(INF : Int) else INF := by unfold srung; rw [hy]
      rw [this]
      clear this
      cases sgn y
      · simp only [Bool.false_eq_true, if_false]; rw [ocmp_lt (by omega)]
      · simp only [if_true]; rw [ocmp_gt (by omega)]
    · unfold Format.order
      rw [read_nan hy, if_pos (by simp only [Bool.or_eq_true, decide_eq_true_eq]; omega)]
      cases double.read x <;> rfl
  · rcases Nat.lt_trichotomy (rung y) INF with hy | hy | hy
    · have hs := srung_lt hy
      unfold Format.order
      rw [read_num hy, read_inf hx, if_neg (by simp only [Bool.or_eq_true, decide_eq_true_eq]; omega)]
      simp only [Datum.order, Option.some.injEq]
      have : srung x = if sgn x then -(INF : Int) else INF := by unfold srung; rw [hx]
      rw [this]
      clear this
      cases sgn x
      · simp only [Bool.false_eq_true, if_false]; rw [ocmp_gt (by omega)]
      · simp only [if_true]; rw [ocmp_lt (by omega)]
    · unfold Format.order
      rw [read_inf hx, read_inf hy, if_neg (by simp only [Bool.or_eq_true, decide_eq_true_eq]; omega)]
      simp only [Datum.order, Option.some.injEq]
      have e1 : srung x = if sgn x then -(INF : Int) else INF := by unfold srung; rw [hx]
      have e2 : srung y = if sgn y then -(INF : Int) else INF := by unfold srung; rw [hy]
      rw [e1, e2]
      cases sgn x <;> cases sgn y <;> decide +kernel
    · unfold Format.order
      rw [read_nan hy, if_pos (by simp only [Bool.or_eq_true, decide_eq_true_eq]; omega)]
      cases double.read x <;> rfl
  · unfold Format.order
    rw [read_nan hx, if_pos (by simp only [Bool.or_eq_true, decide_eq_true_eq]; omega)]
    rfl


/-- A number's class, of its bits. -/
def cls (x : Nat) : Int := if isNaN x then 6 else if srung x = -INF then 0 else if srung x = INF then 5 else if srung x < 0 then 1 else if 0 < srung x then 4 else if sgn x then 2 else 3
/-- Where a number stands in the order of all. -/
def key (x : Nat) : Int := if isNaN x then SGN else if sgn x then -(rung x : Int) - 1 else rung x
/-- What Compare answers. -/
def cp (x y : Nat) : Int := if key x < key y then -1 else if key x = key y then 0 else 1

theorem rung_neg (x : Nat) : rung (x ^^^ 2 ^ 63) = rung x := by
  have h := Nat.xor_mod_two_pow (a := x) (b := 2 ^ 63) (n := 63)
  rw [Nat.mod_self, Nat.xor_zero] at h
  exact h

theorem sgn_neg (x : Nat) : sgn (x ^^^ 2 ^ 63) = !sgn x := by
  have h := Nat.xor_div_two_pow (a := x) (b := 2 ^ 63) (n := 63)
  unfold sgn
  rw [show SGN = 2 ^ 63 from rfl, h, Nat.div_self (Nat.two_pow_pos 63)]
  have h2 := Nat.xor_mod_two_pow (a := x / 2 ^ 63) (b := 1) (n := 1)
  rw [Nat.pow_one] at h2
  rw [h2]
  rcases Nat.mod_two_eq_zero_or_one (x / 2 ^ 63) with g | g
  · rw [g]; rfl
  · rw [g]; rfl

theorem isNaN_neg (x : Nat) : isNaN (x ^^^ 2 ^ 63) = isNaN x := by unfold isNaN; rw [rung_neg]
theorem srung_neg (x : Nat) : srung (x ^^^ 2 ^ 63) = -srung x := by
  unfold srung; rw [rung_neg, sgn_neg]; cases sgn x <;> simp

theorem eSGN : ((SGN : Nat) : Int) = 9223372036854775808 := rfl
theorem eINF : ((INF : Nat) : Int) = 9218868437227405312 := rfl
theorem nan_iff (x : Nat) : isNaN x = true ↔ INF < rung x := by unfold isNaN; simp
theorem not_nan (x : Nat) : isNaN x = false ↔ rung x ≤ INF := by unfold isNaN; simp
theorem srung_cases (x : Nat) : (sgn x = true ∧ srung x = -(rung x : Int)) ∨ (sgn x = false ∧ srung x = rung x) := by
  unfold srung; cases sgn x <;> simp
theorem rung_lt (x : Nat) : rung x < SGN := Nat.mod_lt _ (by decide)

/-- By classes first, then by value: it is the order of keys. -/
theorem cp_lt {x y : Nat} (h : cls x < cls y) : cp x y = -1 := by
  have hx := srung_cases x
  have hy := srung_cases y
  have nx := not_nan x
  have ny := not_nan y
  have lx := rung_lt x
  have ly := rung_lt y
  have eS := eSGN
  have eI := eINF
  unfold cp
  rw [if_pos]
  unfold cls at h
  unfold key
  cases hn : isNaN x <;> cases hm : isNaN y <;> simp only [hn, hm, Bool.false_eq_true, if_false, if_true, true_iff, false_iff, reduceCtorEq] at * <;> rcases hx with ⟨hx1, hx2⟩ | ⟨hx1, hx2⟩ <;> rcases hy with ⟨hy1, hy2⟩ | ⟨hy1, hy2⟩ <;> simp only [hx1, hy1, Bool.false_eq_true, if_false, if_true] at * <;> omega

theorem cp_swap (x y : Nat) : cp y x = -cp x y := by
  unfold cp; omega

theorem cp_gt {x y : Nat} (h : cls y < cls x) : cp x y = 1 := by
  have := cp_lt h
  rw [cp_swap] at this; omega

theorem cp_eq {x y : Nat} (h : cls x = cls y) (hn : isNaN x = false) : isNaN y = false ∧ cp x y = if srung x < srung y then -1 else if srung x = srung y then 0 else 1 := by
  have hx := srung_cases x
  have hy := srung_cases y
  have nx := not_nan x
  have ny := not_nan y
  have lx := rung_lt x
  have ly := rung_lt y
  have eS := eSGN
  have eI := eINF
  unfold cp
  unfold cls at h
  unfold key
  cases hm : isNaN y <;> simp only [hn, hm, Bool.false_eq_true, if_false, if_true, true_iff, false_iff, reduceCtorEq] at * <;> rcases hx with ⟨hx1, hx2⟩ | ⟨hx1, hx2⟩ <;> rcases hy with ⟨hy1, hy2⟩ | ⟨hy1, hy2⟩ <;> simp only [hx1, hy1, Bool.false_eq_true, if_false, if_true] at * <;> first | omega | (refine ⟨trivial, ?_⟩; omega)

theorem cp_nan {x y : Nat} (h : cls x = cls y) (hn : isNaN x = true) : isNaN y = true ∧ cp x y = 0 := by
  have hy : isNaN y = true := by
    unfold cls at h
    cases hm : isNaN y
    · simp only [hn, hm, Bool.false_eq_true, if_false, if_true] at h; omega
    · rfl
  refine ⟨hy, ?_⟩
  unfold cp key
  simp [hn, hy]

theorem cls_bounds (x : Nat) : 0 ≤ cls x ∧ cls x ≤ 6 := by unfold cls; omega
theorem cp_self (x : Nat) : cp x x = 0 := by unfold cp; simp
theorem cp_zero {x y : Nat} : cp x y = 0 ↔ key x = key y := by unfold cp; omega

end Go.Proofs.Ythmpkelnmlkbiaa
