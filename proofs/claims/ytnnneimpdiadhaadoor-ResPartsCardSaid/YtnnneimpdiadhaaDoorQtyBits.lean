/- The library's products and quotients of 64 bits: a product's two halves; two halves by a thousand. -/
import Derived.Test.YtnnneimpdiadhaaDoorQtyMath
import Derived.Test.YtnnneimpdiadhaaDoorShelf
import Derived.WalkKit
import Derived.WalkLawsBesides
import Derived.WalkSpells
import Derived.BigQuiet
import Derived.Deep.QuietTactic
import Derived.Lib.Hide
import Derived.Laws.Bits64b
namespace Go.Proofs.YtnnneimpdiadhaaDoor.Vec
open Go.RowKit
set_option linter.unusedVariables false

theorem mul64_any (x y : Int) (hx : 0 ≤ x) (hy : 0 ≤ y) (hx' : x ≤ 9223372036854775807) (hy' : y ≤ 9223372036854775807) (w : World) :
    Calls Tryd.prog 48 #[.int .u64 x, .int .u64 y] w fun e w' => e = .returned (.tuple #[.int .u64 (mulHi x y), .int .u64 (mulLo x y)]) ∧ w = w' := by
  obtain ⟨a, rfl⟩ := Int.eq_ofNat_of_zero_le hx
  obtain ⟨b, rfl⟩ := Int.eq_ofNat_of_zero_le hy
  refine (Tryd.bits_Mul64 a b (by omega) (by omega) w).mono ?_
  rintro e w' ⟨rfl, rfl⟩
  refine ⟨?_, rfl⟩
  rw [show mulHi (a : Int) (b : Int) = ((a * b / 18446744073709551616 : Nat) : Int) from by unfold mulHi; rw [← Int.natCast_mul]; omega,
    show mulLo (a : Int) (b : Int) = ((a * b % 18446744073709551616 : Nat) : Int) from by unfold mulLo; rw [← Int.natCast_mul]; omega]

theorem lz_1000 (w : World) :
    Calls Tryd.prog 67 #[.int .u64 1000] w fun e w' => e = .returned (.int .i64 54) ∧ w = w' := by
  refine (Tryd.bits_LeadingZeros64 1000 w (by omega) (by omega)).mono ?_
  rintro e w' ⟨rfl, rfl⟩
  exact ⟨by rw [show (64 : Int) - (Lib.bitLen (1000 : Int).toNat : Int) = 54 from by decide +kernel], rfl⟩

/-- The high half is none: the library takes the quotient and the rest at once. -/
theorem div64_low (l : Int) (h0 : 0 ≤ l) (h1 : l ≤ 18446744073709551615) (w : World) :
    Calls Tryd.prog 56 #[.int .u64 0, .int .u64 l, .int .u64 1000] w fun e w' => e = .returned (.tuple #[.int .u64 (divQ 0 l), .int .u64 (divR 0 l)]) ∧ ∃ n, w' = w.drewN n := by
  go_enter Tryd.func56, Tryd.ntmps56
  go_wp2
  go_quiet (fail)
  go_wp2
  go_ret2
  exact ⟨by unfold divQ divR; simp, _, rfl⟩

end Go.Proofs.YtnnneimpdiadhaaDoor.Vec
