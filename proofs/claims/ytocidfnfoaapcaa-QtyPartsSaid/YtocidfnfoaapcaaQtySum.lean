/- What each call of Sum answers, package qty's (a panic out of its loop is recovered) and the reference's. -/
import Derived.Test.YtocidfnfoaapcaaQtyCalls
import Derived.Defers
import Derived.Recover
import Derived.LoopTactic
namespace Go.Proofs.Ytocidfnfoaapcaa
open Go.RowKit
set_option linter.unusedVariables false

/-- A slice of len numbers, the i-th f i. -/
def Row (w : World) (a : Option Addr) (len : Nat) (f : Nat → Int) : Prop :=
  len ≤ maxLen ∧ (∀ i, i < len → -9223372036854775808 ≤ f i ∧ f i ≤ 9223372036854775807) ∧
    (len = 0 ∨ ∃ b off, a = some ⟨b, off, none⟩ ∧ b < w.heap.size ∧ ∀ i, i < len → w.cell? ⟨b, off + i, none⟩ = some (.int .i64 (f i)))

theorem Row.kept {w w' : World} {a : Option Addr} {len : Nat} {f : Nat → Int} (h : Row w a len f) (k : Kept w w') : Row w' a len f := by
  obtain ⟨h1, h2, h3⟩ := h
  refine ⟨h1, h2, h3.imp id ?_⟩
  rintro ⟨b, off, ha, hb, hc⟩
  exact ⟨b, off, ha, Nat.lt_of_lt_of_le hb k.size, fun i hi => (Below.cell k (p := ⟨b, off + i, none⟩) hb).trans (hc i hi)⟩

/-- The sum of the first numbers. -/
def tot (f : Nat → Int) : Nat → Int
  | 0 => 0
  | k + 1 => tot f k + f k

theorem tot_nonneg {f : Nat → Int} {len : Nat} (h : ∀ i, i < len → 0 ≤ f i) : ∀ k, k ≤ len → 0 ≤ tot f k
  | 0, _ => by simp [tot]
  | k + 1, hk => by have := tot_nonneg h k (by omega); have := h k (by omega); simp only [tot]; omega

theorem tot_mono {f : Nat → Int} {len : Nat} (h : ∀ i, i < len → 0 ≤ f i) {k : Nat} : ∀ m, k ≤ m → m ≤ len → tot f k ≤ tot f m
  | 0, hk, _ => by have : k = 0 := by omega
                   subst this; exact Int.le_refl _
  | m + 1, hk, hm => by
    by_cases e : k = m + 1
    · subst e; exact Int.le_refl _
    · have := tot_mono (k := k) h m (by omega) (by omega); have := h m (by omega); simp only [tot]; omega

set_option maxHeartbeats 400000 in
theorem any_none (a : Option Addr) (len cap : Nat) (f : Nat → Int) (w : World) (hr : Row w a len f) (hn : ∀ i, i < len → 0 ≤ f i) :
    Calls Try.prog 25 #[.slice a len cap] w fun e w' => e = .returned (.bool false) ∧ w = w' := by
  obtain ⟨hm, hb, hc⟩ := hr
  unfold maxLen at hm
  rcases hc with rfl | ⟨b, off, rfl, hb', hc⟩
  · clear hb hn
    go_enter Try.func25, Try.ntmps25
    go_wp2
    refine wp_loop_rounds 1 ?_
    rw [rounds_succ]
    go_wp2
    go_ret
    exact ⟨rfl, rfl⟩
  · have HB := Lib.hid hb
    have HC := Lib.hid hc
    have HN := Lib.hid hn
    clear hb hc hn
    go_enter Try.func25, Try.ntmps25
    go_wp2
    go_loop [7] (fun i => ∃ k : Nat, k ≤ len ∧ i = .int .i64 k) (fun i => len - (intOf i).toNat)
    case atStart => exact ⟨0, Nat.zero_le _, rfl⟩
    case round =>
      obtain ⟨k, hk, rfl⟩ := hrel
      by_cases hlt : k < len
      · have c := HC.out k hlt
        have n0 := HN.out k hlt
        go_wp2
        go_round
        case rel => exact ⟨k + 1, by omega, by go_num⟩
        case measure => simp [intOf]; omega
      · go_wp2
        go_ret
        exact ⟨rfl, rfl⟩

set_option maxHeartbeats 400000 in
theorem any_some (a : Option Addr) (len cap : Nat) (f : Nat → Int) (w : World) (hr : Row w a len f) (hn : ∃ i, i < len ∧ f i < 0) :
    Calls Try.prog 25 #[.slice a len cap] w fun e w' => e = .returned (.bool true) ∧ w = w' := by
  obtain ⟨hm, hb, hc⟩ := hr
  unfold maxLen at hm
  obtain ⟨j, hj, hneg⟩ := hn
  rcases hc with rfl | ⟨b, off, rfl, hb', hc⟩
  · omega
  · have HB := Lib.hid hb
    have HC := Lib.hid hc
    clear hb hc
    go_enter Try.func25, Try.ntmps25
    go_wp2
    go_loop [7] (fun i => ∃ k : Nat, k ≤ j ∧ i = .int .i64 k) (fun i => len - (intOf i).toNat)
    case atStart => exact ⟨0, Nat.zero_le _, rfl⟩
    case round =>
      obtain ⟨k, hk, rfl⟩ := hrel
      have hlt : k < len := by omega
      have c := HC.out k hlt
      by_cases n0 : f k < 0
      · go_wp2
        go_ret
        exact ⟨rfl, rfl⟩
      · have hkj : k + 1 ≤ j := by
          rcases Nat.lt_or_eq_of_le hk with g | g
          · exact g
          · rw [g] at n0; exact absurd hneg n0
        go_wp2
        go_round
        case rel => exact ⟨k + 1, by omega, by go_num⟩
        case measure => simp [intOf]; omega

set_option maxHeartbeats 400000 in
theorem added_ok (a : Option Addr) (len cap : Nat) (f : Nat → Int) (w : World) (hr : Row w a len f) (hn : ∀ i, i < len → 0 ≤ f i) (hs : tot f len ≤ 9223372036854775807) :
    Calls Try.prog 27 #[.slice a len cap] w fun e w' => e = .returned (.int .i64 (tot f len)) ∧ w = w' := by
  have T0 := Lib.hid (tot_nonneg hn)
  have T1 := Lib.hid (fun k (h : k ≤ len) => tot_mono hn len h (Nat.le_refl _))
  obtain ⟨hm, hb, hc⟩ := hr
  unfold maxLen at hm
  rcases hc with rfl | ⟨b, off, rfl, hb', hc⟩
  · clear hb hn hs
    go_enter Try.func27, Try.ntmps27
    go_wp2
    refine wp_loop_rounds 1 ?_
    rw [rounds_succ]
    go_wp2
    go_ret
    exact ⟨rfl, rfl⟩
  · have HC := Lib.hid hc
    have HN := Lib.hid hn
    clear hb hc hn
    go_enter Try.func27, Try.ntmps27
    go_wp2
    go_loop [3, 10] (fun s i => ∃ k : Nat, k ≤ len ∧ i = .int .i64 k ∧ s = .int .i64 (tot f k)) (fun _ i => len - (intOf i).toNat)
    case atStart => exact ⟨0, Nat.zero_le _, rfl, rfl⟩
    case round =>
      obtain ⟨k, hk, rfl, rfl⟩ := hrel
      by_cases hlt : k < len
      · have c := HC.out k hlt
        have n0 := HN.out k hlt
        have t0 := T0.out k hk
        have t1 : tot f k + f k ≤ 9223372036854775807 := Int.le_trans (T1.out (k + 1) hlt) hs
        go_wp2_with (go_at_call 10; refine (add_ok _ _ _ t0 n0 t1).mono ?_; rintro e w' ⟨rfl, rfl⟩)
        go_round
        case rel => exact ⟨k + 1, by omega, by go_num, rfl⟩
        case measure => simp [intOf]; omega
      · have e : k = len := by omega
        subst e
        go_wp2
        go_ret
        exact ⟨rfl, rfl⟩

set_option maxHeartbeats 400000 in
theorem added_over (a : Option Addr) (len cap : Nat) (f : Nat → Int) (w : World) (hr : Row w a len f) (hn : ∀ i, i < len → 0 ≤ f i) (hs : 9223372036854775807 < tot f len) :
    Calls Try.prog 27 #[.slice a len cap] w fun e w' => e = .panicked [{ v := .iface 23 (.int .i64 5), recovered := false }] ∧ w = w' := by
  have T0 := Lib.hid (tot_nonneg hn)
  obtain ⟨hm, hb, hc⟩ := hr
  unfold maxLen at hm
  rcases hc with rfl | ⟨b, off, rfl, hb', hc⟩
  · exfalso; simp [tot] at hs
  · have HC := Lib.hid hc
    have HN := Lib.hid hn
    have HB := Lib.hid hb
    clear hb hc hn
    go_enter Try.func27, Try.ntmps27
    go_wp2
    go_loop [3, 10] (fun s i => ∃ k : Nat, k ≤ len ∧ tot f k ≤ 9223372036854775807 ∧ i = .int .i64 k ∧ s = .int .i64 (tot f k)) (fun _ i => len - (intOf i).toNat)
    case atStart => exact ⟨0, Nat.zero_le _, by simp [tot], rfl, rfl⟩
    case round =>
      obtain ⟨k, hk, hle, rfl, rfl⟩ := hrel
      have hlt : k < len := by
        rcases Nat.lt_or_eq_of_le hk with g | g
        · exact g
        · rw [g] at hle; omega
      have c := HC.out k hlt
      have n0 := HN.out k hlt
      have n1 := (HB.out k hlt).2
      have t0 := T0.out k hk
      by_cases t1 : tot f k + f k ≤ 9223372036854775807
      · go_wp2_with (go_at_call 10; refine (add_ok _ _ _ t0 n0 t1).mono ?_; rintro e w' ⟨rfl, rfl⟩)
        go_round
        case rel => exact ⟨k + 1, by omega, t1, by go_num, rfl⟩
        case measure => simp [intOf]; omega
      · have t2 : 9223372036854775807 < tot f k + f k := by omega
        go_wp2_with (go_at_call 10; refine (add_over _ _ _ t0 n0 n1 t2).mono ?_; rintro e w' ⟨rfl, rfl⟩)
        exact ⟨rfl, rfl, rfl⟩

end Go.Proofs.Ytocidfnfoaapcaa
