/- What Compare, the reference's Class and Compare, and Alike answer. -/
import Derived.Test.YthmpkelnmlkbiaaFltCls
import Derived.Test.YthmpkelnmlkbiaaFltOps
namespace Go.Proofs.Ythmpkelnmlkbiaa
open Go.RowKit
set_option linter.unusedVariables false

theorem word_inf (s : Bool) : isNaN (Ieee.double.word s INF) = false ∧ srung (Ieee.double.word s INF) = if s then -9218868437227405312 else 9218868437227405312 := by
  obtain ⟨h1, _, h3, h4⟩ := word_nan s (Nat.le_refl INF)
  refine ⟨h1, ?_⟩
  unfold srung
  rw [h3, h4]
  cases s <;> rfl

/-- The reference's Class. -/
def RC (x : Nat) (w : World) (e : Ending) (w' : World) : Prop := e = .returned (.int .i64 (cls x)) ∧ ∃ n, w' = w.drewN n

set_option maxHeartbeats 1600000 in
theorem rclass_any (x : Nat) (w : World) : Calls Try.prog 12 #[.float .f64 x] w (RC x w) := by
  have o0 := ord_self x
  have hs := srung_cases x
  have eI := eINF
  cases hx : isNaN x with
  | true =>
    have hc : cls x = 6 := by unfold cls; rw [hx]; rfl
    unfold RC
    rw [hc]
    clear hs eI hc
    rw [hx] at o0
    go_enter Try.func12, Try.ntmps12
    go_wp2
    go_ret
    exact ⟨rfl, 0, rfl⟩
  | false =>
    rw [hx] at o0
    have h1 : (FloatKind.f64.format.order x 0 == some .lt) = decide (srung x < 0) := by rw [ord_lt, hx, zero_srung.2.1, zero_srung.1]; simp
    have h2 : (FloatKind.f64.format.order x 0 == some .eq) = decide (srung x = 0) := by rw [ord_eq, hx, zero_srung.2.1, zero_srung.1]; simp
    have h3 := (not_nan x).1 hx
    by_cases hz : srung x = 0
    · have hr : rung x = 0 := by omega
      obtain ⟨r, n, hq, hn, _⟩ := div_run (P := Try.prog) 4607182418800017408 x w
      rw [one_by_zero hr] at hn
      obtain ⟨hn1, rfl⟩ := nrm_some.1 hn
      have h4 : (FloatKind.f64.format.order (Ieee.double.word (sgn x) INF) 0 == some .lt) = sgn x := by
        rw [ord_lt, hn1, zero_srung.2.1, zero_srung.1, (word_inf _).2]
        cases sgn x <;> rfl
      have hc : cls x = if sgn x then 2 else 3 := by unfold cls; rw [hx, hz]; simp
      unfold RC
      rw [hc]
      clear hs eI hc hn hn1 hr
      cases hsx : sgn x with
      | true =>
        rw [hsx] at h4 hq
        generalize Ieee.double.word true INF = y at h4 hq
        go_enter Try.func12, Try.ntmps12
        go_wp2
        go_ret
        exact ⟨rfl, _, rfl⟩
      | false =>
        rw [hsx] at h4 hq
        generalize Ieee.double.word false INF = y at h4 hq
        go_enter Try.func12, Try.ntmps12
        go_wp2
        go_ret
        exact ⟨rfl, _, rfl⟩
    · obtain ⟨r1, n1, hq1, hn1, _⟩ := sub_run (P := Try.prog) x x w
      obtain ⟨r2, n2, hq2, hn2, _⟩ := sub_run (P := Try.prog) x x (w.drewN n1)
      by_cases hi : rung x = INF
      · rw [sub_self_inf hi] at hn1 hn2
        have k1 : (FloatKind.f64.format.order r1 0 != some .eq) = true := by rw [bne, ord_eq, nrm_none.1 hn1]; rfl
        have k2 : (FloatKind.f64.format.order r2 0 != some .eq) = true := by rw [bne, ord_eq, nrm_none.1 hn2]; rfl
        have hc : cls x = if srung x < 0 then 0 else 5 := by unfold cls; rw [hx]; simp only [Bool.false_eq_true, if_false]; split <;> split <;> first | rfl | omega
        unfold RC
        rw [hc]
        clear hs eI hc hn1 hn2 h3
        by_cases hsx : srung x < 0
        · rw [if_pos hsx]
          go_enter Try.func12, Try.ntmps12
          go_wp2
          go_ret
          exact ⟨rfl, _, rfl⟩
        · rw [if_neg hsx]
          go_enter Try.func12, Try.ntmps12
          go_wp2
          go_ret
          exact ⟨rfl, n1 + n2, rfl⟩
      · rw [sub_self_fin (by omega)] at hn1 hn2
        obtain ⟨_, rfl⟩ := nrm_some.1 hn1
        obtain ⟨_, rfl⟩ := nrm_some.1 hn2
        have k1 : (FloatKind.f64.format.order 0 0 != some .eq) = false := by decide +kernel
        have hc : cls x = if srung x < 0 then 1 else 4 := by unfold cls; rw [hx]; simp only [Bool.false_eq_true, if_false]; split <;> split <;> first | rfl | omega
        unfold RC
        rw [hc]
        clear hs eI hc hn1 hn2 h3
        by_cases hsx : srung x < 0
        · rw [if_pos hsx]
          go_enter Try.func12, Try.ntmps12
          go_wp2
          go_ret
          exact ⟨rfl, n1 + n2, rfl⟩
        · rw [if_neg hsx]
          go_enter Try.func12, Try.ntmps12
          go_wp2
          go_ret
          exact ⟨rfl, n1 + n2, rfl⟩

end Go.Proofs.Ythmpkelnmlkbiaa
