/- The library's quotient of two halves by a thousand, where the high half is some. -/
import Derived.Test.YtnnneimpdiadhaaDoorQtyBits
namespace Go.Proofs.YtnnneimpdiadhaaDoor.Vec
open Go.RowKit
set_option linter.unusedVariables false

theorem or_shifted (h l : Int) (hh : 0 ≤ h) (hh' : h ≤ 999) (h0 : 0 ≤ l) (h1 : l ≤ 18446744073709551615) :
    bits .or .u64 (h * 18014398509481984) (l / 1024) = h * 18014398509481984 + l / 1024 := by
  obtain ⟨a, rfl⟩ := Int.eq_ofNat_of_zero_le hh
  obtain ⟨b, rfl⟩ := Int.eq_ofNat_of_zero_le h0
  have e1 : (a : Int) * 18014398509481984 = ((a * 18014398509481984 : Nat) : Int) := by omega
  have e2 : (b : Int) / 1024 = ((b / 1024 : Nat) : Int) := by omega
  rw [e1, e2, bits_or_u64_nat _ _ (by omega) (by omega)]
  have e3 : 2 ^ 54 * a + b / 1024 = 2 ^ 54 * a ||| b / 1024 := Nat.two_pow_add_eq_or_of_lt (by omega) a
  rw [show a * 18014398509481984 = 2 ^ 54 * a from by omega, ← e3]
  omega

theorem and_low (t : Int) (h0 : 0 ≤ t) (h1 : t ≤ 1023) : bits .and .u64 (t * 18014398509481984) 4294967295 = 0 := by
  obtain ⟨a, rfl⟩ := Int.eq_ofNat_of_zero_le h0
  have e1 : (a : Int) * 18014398509481984 = ((a * 18014398509481984 : Nat) : Int) := by omega
  have e : a * 18014398509481984 &&& 4294967295 = a * 18014398509481984 % 4294967296 := Nat.and_two_pow_sub_one_eq_mod _ 32
  have h := bits_and_u64_nat (a * 18014398509481984) 4294967295 (by omega) (by omega)
  rw [e1]
  rw [e] at h
  refine h.trans ?_
  omega

theorem wrap_shifted (l : Int) (h0 : 0 ≤ l) (h1 : l ≤ 18446744073709551615) : IntKind.u64.wrap (l * 18014398509481984) = l % 1024 * 18014398509481984 := by
  rw [IntKind.wrap_u64]
  omega

theorem wrap_first (U T : Int) (u0 : 0 ≤ U) (u1 : U ≤ 18014398509481983999) (t0 : 0 ≤ T) (t1 : T ≤ 1023) :
    IntKind.u64.wrap (IntKind.u64.wrap (IntKind.u64.wrap (U * 4294967296) + T * 18014398509481984 / 4294967296) - IntKind.u64.wrap (U / 4194304000 * 18014398509481984000)) = U % 4194304000 * 4294967296 + T * 4194304 := by
  simp only [IntKind.wrap_u64]
  omega

theorem wrap_second (V : Int) (v0 : 0 ≤ V) (v1 : V ≤ 18014398509481983999) :
    IntKind.u64.wrap (IntKind.u64.wrap (IntKind.u64.wrap (V * 4294967296)) - IntKind.u64.wrap (V / 4194304000 * 18014398509481984000)) = V % 4194304000 * 4294967296 := by
  simp only [IntKind.wrap_u64]
  omega

theorem quo_is (h l : Int) (h0 : 0 ≤ l) (h1 : l ≤ 18446744073709551615) :
    (h * 18014398509481984 + l / 1024) / 4194304000 * 4294967296 + ((h * 18014398509481984 + l / 1024) % 4194304000 * 4294967296 + l % 1024 * 4194304) / 4194304000 = divQ h l := by
  unfold divQ
  omega

theorem rem_is (h l : Int) (h0 : 0 ≤ l) (h1 : l ≤ 18446744073709551615) :
    ((h * 18014398509481984 + l / 1024) % 4194304000 * 4294967296 + l % 1024 * 4194304) % 4194304000 * 4294967296 / 18014398509481984 = divR h l := by
  unfold divR
  omega

set_option maxRecDepth 100000 in
set_option maxHeartbeats 1000000 in
theorem div64_high (h l : Int) (hh : 1 ≤ h) (hh' : h ≤ 999) (h0 : 0 ≤ l) (h1 : l ≤ 18446744073709551615) (w : World) :
    Calls Tryd.prog 56 #[.int .u64 h, .int .u64 l, .int .u64 1000] w fun e w' => e = .returned (.tuple #[.int .u64 (divQ h l), .int .u64 (divR h l)]) ∧ ∃ n, w' = w.drewN n := by
  have e0 : bits .and .u64 18014398509481984000 4294967295 = 0 := and_low 1000 (by omega) (by omega)
  have e1 := or_shifted h l (by omega) hh' h0 h1
  have e2 := wrap_shifted l h0 h1
  have e3 := and_low (l % 1024) (by omega) (by omega)
  obtain ⟨U, hU⟩ : ∃ U, h * 18014398509481984 + l / 1024 = U := ⟨_, rfl⟩
  obtain ⟨T, hT⟩ : ∃ T, l % 1024 = T := ⟨_, rfl⟩
  rw [hU] at e1
  rw [hT] at e2 e3
  have u0 : 0 ≤ U := by omega
  have u1 : U ≤ 18014398509481983999 := by omega
  have t0 : 0 ≤ T := by omega
  have t1 : T ≤ 1023 := by omega
  have e4 := wrap_first U T (by omega) (by omega) (by omega) (by omega)
  obtain ⟨V, hV⟩ : ∃ V, U % 4194304000 * 4294967296 + T * 4194304 = V := ⟨_, rfl⟩
  rw [hV] at e4
  have v0 : 0 ≤ V := by omega
  have v1 : V ≤ 18014398509481983999 := by omega
  have e5 := wrap_second V v0 v1
  have q1 := quo_is h l h0 h1
  have r1 := rem_is h l h0 h1
  rw [hU, hT, hV] at q1 r1
  have Q1 := Lib.hid q1
  have R1 := Lib.hid r1
  have b1 : 0 ≤ U / 4194304000 * 4294967296 + V / 4194304000 := by omega
  have b2 : U / 4194304000 * 4294967296 + V / 4194304000 ≤ 18446744073709551615 := by omega
  clear q1 r1 hV
  have HU := Lib.hid hU
  have HT := Lib.hid hT
  clear hU hT
  go_enter Tryd.func56, Tryd.ntmps56
  go_wp2_with (go_at_call 67; refine (lz_1000 _).mono ?_; rintro e w' ⟨rfl, rfl⟩)
  refine wp_loop_rounds 1 ?_
  rw [rounds_succ]
  go_wp2
  refine wp_loop_rounds 1 ?_
  rw [rounds_succ]
  go_wp2
  go_ret2
  exact ⟨ret_pair Q1.out R1.out, 0, rfl⟩

/-- Two halves by a thousand, where the quotient fits. -/
theorem div64_any (h l : Int) (hh : 0 ≤ h) (hh' : h ≤ 999) (h0 : 0 ≤ l) (h1 : l ≤ 18446744073709551615) (w : World) :
    Calls Tryd.prog 56 #[.int .u64 h, .int .u64 l, .int .u64 1000] w fun e w' => e = .returned (.tuple #[.int .u64 (divQ h l), .int .u64 (divR h l)]) ∧ ∃ n, w' = w.drewN n := by
  by_cases hz : h = 0
  · subst hz
    exact div64_low l h0 h1 w
  · exact div64_high h l (by omega) hh' h0 h1 w

end Go.Proofs.YtnnneimpdiadhaaDoor.Vec
