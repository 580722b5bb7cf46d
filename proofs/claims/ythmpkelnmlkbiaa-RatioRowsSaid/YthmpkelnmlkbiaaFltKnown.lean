/- The statements' own first look at package ratio: it answers true. -/
import Derived.Test.YthmpkelnmlkbiaaFltMean
namespace Go.Proofs.Ythmpkelnmlkbiaa
open Go.RowKit
set_option linter.unusedVariables false

abbrev pInf : Nat := 9218868437227405312
abbrev mInf : Nat := 18442240474082181120
abbrev mZero : Nat := 9223372036854775808
abbrev fOne : Nat := 4607182418800017408
abbrev fTwo : Nat := 4611686018427387904
abbrev fThree : Nat := 4613937818241073152
abbrev fSix : Nat := 4618441417868443648
abbrev mOne : Nat := 13830554455654793216

theorem of_k (a b : Int) (r : Nat) (h : Ieee.double.div (floatOfInt .f64 a) (floatOfInt .f64 b) = some r) (w : World) :
    Calls Try.prog 18 #[.int .i64 a, .int .i64 b] w fun e w' => e = .returned (.float .f64 r) ∧ Kept w w' := by
  refine (of_any a b w).mono ?_
  rintro e w' ⟨r', n, rfl, rfl, hn, _⟩
  rw [h] at hn
  obtain ⟨_, rfl⟩ := nrm_some.1 hn
  exact ⟨rfl, Kept.drewN _ _⟩
theorem of_nan (w : World) :
    Calls Try.prog 18 #[.int .i64 0, .int .i64 0] w fun e w' => ∃ r, e = .returned (.float .f64 r) ∧ isNaN r = true ∧ r < TOP ∧ Kept w w' := by
  refine (of_any 0 0 w).mono ?_
  rintro e w' ⟨r, n, rfl, rfl, hn, ht⟩
  rw [zero_by_zero] at hn
  exact ⟨r, rfl, nrm_none.1 hn, ht, Kept.drewN _ _⟩

/-- A row that was just laid. -/
theorem frow_new (w : World) (t : TypeId) (l : List Nat) (hx : ∀ x ∈ l, x < TOP) (hl : l.length ≤ 1000) :
    FRow (w.alloc (.cells (l.map (Value.float .f64)).toArray t)) (some ⟨w.heap.size, 0, none⟩) l.length l := by
  refine ⟨rfl, by unfold maxLen; omega, hx, .inr ⟨w.heap.size, 0, rfl, by simp, fun i hi => ?_⟩⟩
  simp [go_sem, List.getD, hi]

theorem frow_w {w w' : World} {a : Option Addr} {len len' : Nat} {l : List Nat} (h : FRow w a len l) (e : len = len') (ew : w = w') : FRow w' a len' l := by subst e; subst ew; exact h

theorem key_nan {x : Nat} (h : isNaN x = true) : key x = 9223372036854775808 := by unfold key; rw [h]; rfl
theorem cls_nan {x : Nat} (h : isNaN x = true) : cls x = 6 := by unfold cls; rw [h]; rfl

/-- What the sorted seven are: -Inf, -1, -0, 0, 1, +Inf, NaN: told of keys. -/
theorem seven (n : Nat) (hn : isNaN n = true) (s : List Nat) (hp : s.Perm [n, fOne, pInf, 0, mZero, mInf, mOne]) (ha : Asc s) :
    cp (s.getD 0 0) mInf = 0 ∧ cp (s.getD 2 0) mZero = 0 ∧ cp (s.getD 6 0) n = 0 := by
  have hk : (s.map key).Perm [9223372036854775808, 4607182418800017408, 9218868437227405312, 0, -1, -9218868437227405313, -4607182418800017409] := by
    have := hp.map key
    simp only [List.map_cons, List.map_nil, key_nan hn] at this
    rwa [show key fOne = 4607182418800017408 from by decide +kernel, show key pInf = 9218868437227405312 from by decide +kernel, show key 0 = 0 from by decide +kernel, show key mZero = -1 from by decide +kernel, show key mInf = -9218868437227405313 from by decide +kernel, show key mOne = -4607182418800017409 from by decide +kernel] at this
  have hlen : s.length = 7 := by have := hp.length_eq; simpa using this
  have hs : (s.map key).Pairwise (· ≤ ·) := by
    rw [List.pairwise_iff_getElem]
    intro i j hi hj hij
    have := ha i j hij (by simpa using hj)
    simp only [List.length_map] at hi hj
    simpa [List.getD, hi, hj] using this
  have hu : s.map key = [-9218868437227405313, -4607182418800017409, -1, 0, 4607182418800017408, 9218868437227405312, 9223372036854775808] := by
    refine List.Perm.eq_of_pairwise (le := fun a b => a ≤ b) (fun a b _ _ h1 h2 => Int.le_antisymm h1 h2) hs (by decide) (hk.trans ?_)
    decide
  have hg : ∀ i, i < 7 → key (s.getD i 0) = [-9218868437227405313, -4607182418800017409, -1, 0, 4607182418800017408, 9218868437227405312, 9223372036854775808].getD i 0 := by
    intro i hi
    rw [← hu]
    simp [List.getD, hlen, hi]
  refine ⟨cp_zero.2 ?_, cp_zero.2 ?_, cp_zero.2 ?_⟩
  · rw [hg 0 (by omega)]; decide +kernel
  · rw [hg 2 (by omega)]; decide +kernel
  · rw [hg 6 (by omega), key_nan hn]; rfl

theorem nan_alike {x y : Nat} (h : isNaN x = true) (g : isNaN y = true) : cp x y = 0 := by rw [cp_zero, key_nan h, key_nan g]
theorem clamp_nan {n lo hi : Nat} (h : isNaN n = true) : clampV n lo hi = lo := by unfold clampV; rw [if_pos (.inr (.inl h))]
theorem mean_three {r : Nat} (h : nrm r = meanN [fOne, fTwo, fSix]) : r = 4613937818241073152 := by
  rw [show meanN [fOne, fTwo, fSix] = some 4613937818241073152 from by decide +kernel] at h
  exact (nrm_some.1 h).2
theorem most_nan {n r : Nat} (hn : isNaN n = true) (h : HighOf [fOne, n] r) : cp r n = 0 := by
  unfold HighOf at h
  rw [if_neg (by simp)] at h
  obtain ⟨⟨j, hj, e⟩, h2⟩ := h
  have := h2 1 (by simp)
  simp only [List.getD, List.getElem?_cons_succ, List.getElem?_cons_zero, Option.getD_some, key_nan hn] at this
  have hj' : j = 0 ∨ j = 1 := by simp at hj; omega
  rcases hj' with rfl | rfl
  · subst e
    rw [show [fOne, n].getD 0 0 = fOne from rfl, show key fOne = 4607182418800017408 from by decide +kernel] at this
    omega
  · subst e; exact cp_self _
theorem least_one {n r : Nat} (hn : isNaN n = true) (h : LowOf [fOne, n] r) : r = fOne := by
  unfold LowOf at h
  rw [if_neg (by simp)] at h
  obtain ⟨⟨j, hj, e⟩, h2⟩ := h
  have := h2 0 (by simp)
  have hj' : j = 0 ∨ j = 1 := by simp at hj; omega
  rcases hj' with rfl | rfl
  · exact e
  · subst e
    simp only [List.getD, List.getElem?_cons_succ, List.getElem?_cons_zero, Option.getD_some, key_nan hn] at this
    rw [show key fOne = 4607182418800017408 from by decide +kernel] at this
    omega

end Go.Proofs.Ythmpkelnmlkbiaa
