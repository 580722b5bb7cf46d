/- Plain arithmetic under quantities: products by halves, parts by a thousand, division of 128 bits by a thousand. Nothing of Go. -/
import Derived.RowKit
namespace Go.Proofs.YtnnneimpdiadhaaDoor.Vec
open Go.RowKit
set_option linter.unusedVariables false

/-- The two halves of a product. -/
def mulHi (x y : Int) : Int := x * y / 18446744073709551616
def mulLo (x y : Int) : Int := x * y % 18446744073709551616

/-- A number of two halves by a thousand. -/
def divQ (h l : Int) : Int := (h * 18446744073709551616 + l) / 1000
def divR (h l : Int) : Int := (h * 18446744073709551616 + l) % 1000

/-- A part: a times p by a thousand; what is left. -/
def parQ (a p : Int) : Int := a * p / 1000
def parR (a p : Int) : Int := a * p % 1000

theorem mul_nonneg' {a b : Int} (ha : 0 ≤ a) (hb : 0 ≤ b) : 0 ≤ a * b := Int.mul_nonneg ha hb

theorem mulHi_nonneg {x y : Int} (hx : 0 ≤ x) (hy : 0 ≤ y) : 0 ≤ mulHi x y := by
  have := mul_nonneg' hx hy
  unfold mulHi; omega
theorem mulLo_bd (x y : Int) : 0 ≤ mulLo x y ∧ mulLo x y ≤ 18446744073709551615 := by
  unfold mulLo; omega
theorem mulHi_le {x y : Int} (hx : 0 ≤ x) (hy : 0 ≤ y) (hx' : x ≤ 9223372036854775807) (hy' : y ≤ 9223372036854775807) : mulHi x y ≤ 4611686018427387903 := by
  have h := Int.mul_le_mul hx' hy' hy (by omega)
  unfold mulHi; omega
theorem mulHi_small {x y : Int} (h0 : 0 ≤ x * y) (h : x * y ≤ 9223372036854775807) : mulHi x y ≤ 0 ∧ mulLo x y = x * y := by
  unfold mulHi mulLo; omega
/-- Not small: the high half is more than none, or the low one is too great. -/
theorem mul_great {x y : Int} (h : 9223372036854775807 < x * y) : 0 < mulHi x y ∨ 9223372036854775807 < mulLo x y := by
  unfold mulHi mulLo; omega

theorem divQ_mul (x y : Int) : divQ (mulHi x y) (mulLo x y) = parQ x y := by
  unfold divQ mulHi mulLo parQ
  rw [Int.mul_comm (x * y / 18446744073709551616), Int.mul_ediv_add_emod]
theorem divR_mul (x y : Int) : divR (mulHi x y) (mulLo x y) = parR x y := by
  unfold divR mulHi mulLo parR
  rw [Int.mul_comm (x * y / 18446744073709551616), Int.mul_ediv_add_emod]

theorem parR_bd (a p : Int) : 0 ≤ parR a p ∧ parR a p ≤ 999 := by unfold parR; omega
theorem parQ_nonneg {a p : Int} (ha : 0 ≤ a) (hp : 0 ≤ p) : 0 ≤ parQ a p := by
  have := mul_nonneg' ha hp
  unfold parQ; omega
/-- The product's high half is below a thousand just where the quotient fits 64 bits. -/
theorem hi_ge {a p : Int} (h : 1000 ≤ mulHi a p) : 9223372036854775807 < parQ a p := by
  unfold mulHi at h; unfold parQ; omega

theorem part_sum (a p : Int) : parQ a p = a * (p / 1000) + a / 1000 * (p % 1000) + a % 1000 * (p % 1000) / 1000 := by
  have e : a * p = 1000 * (a * (p / 1000)) + 1000 * (a / 1000 * (p % 1000)) + a % 1000 * (p % 1000) := by
    have h1 : p = 1000 * (p / 1000) + p % 1000 := by omega
    have h2 : a * (p % 1000) = 1000 * (a / 1000 * (p % 1000)) + a % 1000 * (p % 1000) := by
      have h3 : a = 1000 * (a / 1000) + a % 1000 := by omega
      calc a * (p % 1000) = (1000 * (a / 1000) + a % 1000) * (p % 1000) := by rw [← h3]
        _ = 1000 * (a / 1000 * (p % 1000)) + a % 1000 * (p % 1000) := by rw [Int.add_mul, Int.mul_assoc]
    calc a * p = a * (1000 * (p / 1000) + p % 1000) := by rw [← h1]
      _ = 1000 * (a * (p / 1000)) + a * (p % 1000) := by rw [Int.mul_add, Int.mul_left_comm]
      _ = _ := by rw [h2]; omega
  unfold parQ
  rw [e]
  omega
theorem part_rest (a p : Int) : parR a p = a % 1000 * (p % 1000) % 1000 := by
  unfold parR
  rw [Int.mul_emod]

/-- An answer of two numbers, each known by an equation. -/
theorem ret_pair {j k : IntKind} {a b c d : Int} (h : a = b) (g : c = d) : Ending.returned (.tuple #[.int j a, .int k c]) = .returned (.tuple #[.int j b, .int k d]) := by rw [h, g]
theorem ret_three {i j k : IntKind} {a b c d x y : Int} (h : a = b) (g : c = d) (f : x = y) : Ending.returned (.tuple #[.int i a, .int j c, .int k x]) = .returned (.tuple #[.int i b, .int j d, .int k y]) := by rw [h, g, f]

end Go.Proofs.YtnnneimpdiadhaaDoor.Vec
