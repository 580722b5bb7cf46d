/- The reference's Sum. -/
import Derived.Test.YtocidfnfoaapcaaQtySum
namespace Go.Proofs.Ytocidfnfoaapcaa
open Go.RowKit
set_option linter.unusedVariables false

set_option maxHeartbeats 400000 in
theorem rsum_arg (a : Option Addr) (len cap : Nat) (f : Nat → Int) (w : World) (hr : Row w a len f) (hn : ∃ i, i < len ∧ f i < 0) :
    Calls Try.prog 21 #[.slice a len cap] w (Pure2 0 1 w) := by
  obtain ⟨hm, hb, hc⟩ := hr
  unfold maxLen at hm
  obtain ⟨j, hj, hneg⟩ := hn
  rcases hc with rfl | ⟨b, off, rfl, hb', hc⟩
  · omega
  · have HC := Lib.hid hc
    clear hb hc
    go_enter Try.func21, Try.ntmps21
    go_wp2
    go_loop [4] (fun i => ∃ k : Nat, k ≤ j ∧ i = .int .i64 k) (fun i => len - (intOf i).toNat)
    case atStart => exact ⟨0, Nat.zero_le _, rfl⟩
    case round =>
      obtain ⟨k, hk, rfl⟩ := hrel
      have hlt : k < len := by omega
      have c := HC.out k hlt
      by_cases n0 : f k < 0
      · go_wp2
        go_ret2
        exact ⟨rfl, rfl⟩
      · have hkj : k + 1 ≤ j := by
          rcases Nat.lt_or_eq_of_le hk with g | g
          · exact g
          · rw [g] at n0; exact absurd hneg n0
        go_wp2
        go_round
        case rel => exact ⟨k + 1, by omega, by go_num⟩
        case measure => simp [intOf]; omega

set_option maxHeartbeats 400000 in
theorem rsum_ok (a : Option Addr) (len cap : Nat) (f : Nat → Int) (w : World) (hr : Row w a len f) (hn : ∀ i, i < len → 0 ≤ f i) (hs : tot f len ≤ 9223372036854775807) :
    Calls Try.prog 21 #[.slice a len cap] w (Pure2 (tot f len) 0 w) := by
  have T0 := Lib.hid (tot_nonneg hn)
  have T1 := Lib.hid (fun k (h : k ≤ len) => tot_mono hn len h (Nat.le_refl _))
  obtain ⟨hm, hb, hc⟩ := hr
  unfold maxLen at hm
  rcases hc with rfl | ⟨b, off, rfl, hb', hc⟩
  · clear hb hn hs
    go_enter Try.func21, Try.ntmps21
    go_wp2
    refine wp_loop_rounds 1 ?_
    rw [rounds_succ]
    go_wp2
    refine wp_loop_rounds 1 ?_
    rw [rounds_succ]
    go_wp2
    go_ret2
    exact ⟨rfl, rfl⟩
  · have HC := Lib.hid hc
    have HN := Lib.hid hn
    clear hb hc hn
    go_enter Try.func21, Try.ntmps21
    go_wp2
    go_loop [4] (fun i => ∃ k : Nat, k ≤ len ∧ i = .int .i64 k) (fun i => len - (intOf i).toNat)
    case atStart => exact ⟨0, Nat.zero_le _, rfl⟩
    case round =>
      obtain ⟨k, hk, rfl⟩ := hrel
      by_cases hlt : k < len
      · have c := HC.out k hlt
        have n0 := HN.out k hlt
        go_wp2
        go_round
        case rel => exact ⟨k + 1, by omega, by go_num⟩
        case measure => simp [intOf]; omega
      · go_wp2
        go_loop [5, 6] (fun s i => ∃ k : Nat, k ≤ len ∧ i = .int .i64 k ∧ s = .int .i64 (tot f k)) (fun _ i => len - (intOf i).toNat)
        case atStart => exact ⟨0, Nat.zero_le _, rfl, rfl⟩
        case round =>
          obtain ⟨m, hm2, rfl, rfl⟩ := hrel
          by_cases hlt2 : m < len
          · have c := HC.out m hlt2
            have n0 := HN.out m hlt2
            have t0 := T0.out m hm2
            have t1 : tot f m + f m ≤ 9223372036854775807 := Int.le_trans (T1.out (m + 1) hlt2) hs
            go_wp2_with (go_at_call 11; refine (radd_ok _ _ _ t0 n0 t1).mono ?_; rintro e w' ⟨rfl, rfl⟩)
            go_round
            case rel => exact ⟨m + 1, by omega, by go_num, rfl⟩
            case measure => simp [intOf]; omega
          · have e : m = len := by omega
            subst e
            go_wp2
            go_ret2
            exact ⟨rfl, rfl⟩

set_option maxHeartbeats 400000 in
theorem rsum_over (a : Option Addr) (len cap : Nat) (f : Nat → Int) (w : World) (hr : Row w a len f) (hn : ∀ i, i < len → 0 ≤ f i) (hs : 9223372036854775807 < tot f len) :
    Calls Try.prog 21 #[.slice a len cap] w (Pure2 0 5 w) := by
  have T0 := Lib.hid (tot_nonneg hn)
  obtain ⟨hm, hb, hc⟩ := hr
  unfold maxLen at hm
  rcases hc with rfl | ⟨b, off, rfl, hb', hc⟩
  · exfalso; simp [tot] at hs
  · have HC := Lib.hid hc
    have HN := Lib.hid hn
    have HB := Lib.hid hb
    clear hb hc hn
    go_enter Try.func21, Try.ntmps21
    go_wp2
    go_loop [4] (fun i => ∃ k : Nat, k ≤ len ∧ i = .int .i64 k) (fun i => len - (intOf i).toNat)
    case atStart => exact ⟨0, Nat.zero_le _, rfl⟩
    case round =>
      obtain ⟨k, hk, rfl⟩ := hrel
      by_cases hlt : k < len
      · have c := HC.out k hlt
        have n0 := HN.out k hlt
        go_wp2
        go_round
        case rel => exact ⟨k + 1, by omega, by go_num⟩
        case measure => simp [intOf]; omega
      · go_wp2
        go_loop [5, 6] (fun s i => ∃ k : Nat, k ≤ len ∧ tot f k ≤ 9223372036854775807 ∧ i = .int .i64 k ∧ s = .int .i64 (tot f k)) (fun _ i => len - (intOf i).toNat)
        case atStart => exact ⟨0, Nat.zero_le _, by simp [tot], rfl, rfl⟩
        case round =>
          obtain ⟨m, hm2, hle, rfl, rfl⟩ := hrel
          have hlt2 : m < len := by
            rcases Nat.lt_or_eq_of_le hm2 with g | g
            · exact g
            · rw [g] at hle; omega
          have c := HC.out m hlt2
          have n0 := HN.out m hlt2
          have n1 := (HB.out m hlt2).2
          have t0 := T0.out m hm2
          by_cases t1 : tot f m + f m ≤ 9223372036854775807
          · go_wp2_with (go_at_call 11; refine (radd_ok _ _ _ t0 n0 t1).mono ?_; rintro e w' ⟨rfl, rfl⟩)
            go_round
            case rel => exact ⟨m + 1, by omega, t1, by go_num, rfl⟩
            case measure => simp [intOf]; omega
          · have t2 : 9223372036854775807 < tot f m + f m := by omega
            go_wp2_with (go_at_call 11; refine (radd_over _ _ _ t0 n0 n1 t2).mono ?_; rintro e w' ⟨rfl, rfl⟩)
            go_ret2
            exact ⟨rfl, rfl⟩

end Go.Proofs.Ytocidfnfoaapcaa
