/- Rows of floats in memory; quotients of whole numbers; Clamp of both. -/
import Derived.Test.YthmpkelnmlkbiaaFltComp
namespace Go.Proofs.Ythmpkelnmlkbiaa
open Go.RowKit
set_option linter.unusedVariables false

abbrev TOP : Nat := 18446744073709551616

/-- A slice of so many floats lies at a. -/
def FRow (w : World) (a : Option Addr) (len : Nat) (l : List Nat) : Prop :=
  l.length = len ∧ len ≤ maxLen ∧ (∀ x ∈ l, x < TOP) ∧
    (len = 0 ∨ ∃ b off, a = some ⟨b, off, none⟩ ∧ b < w.heap.size ∧ ∀ i, i < len → w.cell? ⟨b, off + i, none⟩ = some (.float .f64 (l.getD i 0)))

theorem FRow.kept {w w' : World} {a : Option Addr} {len : Nat} {l : List Nat} (h : FRow w a len l) (k : Kept w w') : FRow w' a len l := by
  obtain ⟨h0, h1, h2, h3⟩ := h
  refine ⟨h0, h1, h2, h3.imp id ?_⟩
  rintro ⟨b, off, ha, hb, hc⟩
  exact ⟨b, off, ha, Nat.lt_of_lt_of_le hb k.size, fun i hi => (Below.cell k (p := ⟨b, off + i, none⟩) hb).trans (hc i hi)⟩

theorem getD_mem {l : List Nat} {i : Nat} (h : i < l.length) : l.getD i 0 ∈ l := by
  simp [List.getD, h]

theorem Kept.drew {a b : World} (h : Kept a b) (n : Nat) : Kept a (b.drewN n) := h.trans (Kept.drewN _ _)
theorem Kept.alloc {a b : World} (h : Kept a b) (o : Obj) : Kept a (b.alloc o) := h.trans ((Below.refl _ _).alloc (Nat.le_refl _) _)

/-- A quotient of two whole numbers as float64s. -/
def OF (a b : Int) (w : World) (e : Ending) (w' : World) : Prop := ∃ r n, e = .returned (.float .f64 r) ∧ w' = w.drewN n ∧ nrm r = Ieee.double.div (floatOfInt .f64 a) (floatOfInt .f64 b) ∧ r < TOP

theorem of_any (a b : Int) (w : World) : Calls Try.prog 18 #[.int .i64 a, .int .i64 b] w (OF a b w) := by
  unfold OF
  obtain ⟨r, n, hq, hn, hr⟩ := div_run (P := Try.prog) (floatOfInt .f64 a) (floatOfInt .f64 b) w
  have HN := Lib.hid hn
  clear hn
  go_enter Try.func18, Try.ntmps18
  go_wp2
  go_ret
  exact ⟨r, n, rfl, rfl, HN.out, hr⟩

theorem ratio_any (a b : Int) (w : World) : Calls Try.prog 19 #[.int .i64 a, .int .i64 b] w (OF a b w) := by
  unfold OF
  obtain ⟨r, n, hq, hn, hr⟩ := div_run (P := Try.prog) (floatOfInt .f64 a) (floatOfInt .f64 b) w
  have HN := Lib.hid hn
  clear hn
  go_enter Try.func19, Try.ntmps19
  go_wp2
  go_ret
  exact ⟨r, n, rfl, rfl, HN.out, hr⟩

/-- No number comes. -/
def NN (w : World) (e : Ending) (w' : World) : Prop := ∃ r n, e = .returned (.float .f64 r) ∧ w' = w.drewN n ∧ isNaN r = true ∧ r < TOP

theorem run_frombits (n : Int) (w : World) : (callFunc 47 #[.int .u64 n]).run Try.prog w = .ok (.value (.float .f64 n.toNat)) w := by
  rw [run_callFunc_extern Try.func47 (by kernel_rfl) (by kernel_rfl) (by kernel_rfl) (e := Extern.MathFloatBits.float64frombits) (by kernel_rfl)]
  rfl

theorem nan_any (w : World) : Calls Try.prog 36 #[] w (NN w) := by
  unfold NN
  have h := run_frombits 9221120237041090561
  go_enter Try.func36, Try.ntmps36
  go_wp2
  go_ret
  exact ⟨_, 0, rfl, rfl, by decide +kernel, by decide +kernel⟩

theorem zero_by_zero : Ieee.double.div (floatOfInt .f64 0) (floatOfInt .f64 0) = none := by decide +kernel

theorem rnan_any (w : World) : Calls Try.prog 38 #[] w (NN w) := by
  unfold NN
  go_enter Try.func38, Try.ntmps38
  go_wp2_with fail
  refine (ratio_any 0 0 _).mono ?_
  rintro e w' ⟨r, n, rfl, rfl, hn, hr⟩
  rw [zero_by_zero, nrm_none] at hn
  have HN := Lib.hid hn
  clear hn
  go_wp2_with fail
  go_ret
  exact ⟨r, n, rfl, rfl, HN.out, hr⟩

/-- What Clamp answers. -/
def clampV (x lo hi : Nat) : Nat := if 0 < cp lo hi ∨ isNaN x = true ∨ cp x lo < 0 then lo else if 0 < cp x hi then hi else x
def CL (x lo hi : Nat) (w : World) (e : Ending) (w' : World) : Prop := e = .returned (.float .f64 (clampV x lo hi)) ∧ Kept w w'

set_option maxHeartbeats 800000 in
theorem clamp_any (x lo hi : Nat) (w : World) : Calls Try.prog 16 #[.float .f64 x, .float .f64 lo, .float .f64 hi] w (CL x lo hi w) := by
  have h1 := fun w => Lib.hid (compare_any x lo w)
  have h2 := fun w => Lib.hid (compare_any lo hi w)
  have h3 := fun w => Lib.hid (compare_any x hi w)
  have h0 := Lib.hid (isnan_any x)
  have hv := Lib.hid (show ∀ c1 c2 c3 b, cp x lo = c1 → cp lo hi = c2 → cp x hi = c3 → isNaN x = b → clampV x lo hi = if 0 < c2 ∨ b = true ∨ c1 < 0 then lo else if 0 < c3 then hi else x by
    intro c1 c2 c3 b e1 e2 e3 e4; unfold clampV; rw [e1, e2, e3, e4])
  unfold CL
  obtain ⟨c1, e1⟩ : ∃ c, cp x lo = c := ⟨_, rfl⟩
  obtain ⟨c2, e2⟩ : ∃ c, cp lo hi = c := ⟨_, rfl⟩
  obtain ⟨c3, e3⟩ : ∃ c, cp x hi = c := ⟨_, rfl⟩
  obtain ⟨b, e4⟩ : ∃ c, isNaN x = c := ⟨_, rfl⟩
  rw [hv.out c1 c2 c3 b e1 e2 e3 e4]
  have E1 := Lib.hid e1
  have E2 := Lib.hid e2
  have E3 := Lib.hid e3
  have E4 := Lib.hid e4
  clear e1 e2 e3 e4 hv
  cases b with
  | true =>
    rw [if_pos (by simp)]
    go_enter Try.func16, Try.ntmps16
    go_wp2_with fail
    refine (h0.out _).mono ?_
    rintro e w' ⟨rfl, rfl⟩
    rw [E4.out]
    go_wp2_with fail
    go_ret
    exact ⟨rfl, Kept.refl _⟩
  | false =>
    by_cases g1 : c1 < 0
    · rw [if_pos (by simp [g1])]
      go_enter Try.func16, Try.ntmps16
      go_wp2_with fail
      refine (h0.out _).mono ?_
      rintro e w' ⟨rfl, rfl⟩
      rw [E4.out]
      go_wp2_with fail
      refine ((h1 _).out).mono ?_
      rintro e w1 h
      obtain ⟨rfl, k1⟩ := h.kept
      rw [E1.out]
      go_wp2_with fail
      go_ret
      exact ⟨rfl, k1⟩
    · by_cases g2 : 0 < c2
      · rw [if_pos (by simp [g2])]
        go_enter Try.func16, Try.ntmps16
        go_wp2_with fail
        refine (h0.out _).mono ?_
        rintro e w' ⟨rfl, rfl⟩
        rw [E4.out]
        go_wp2_with fail
        refine ((h1 _).out).mono ?_
        rintro e w1 h
        obtain ⟨rfl, k1⟩ := h.kept
        rw [E1.out]
        go_wp2_with fail
        refine ((h2 _).out).mono ?_
        rintro e w2 h
        obtain ⟨rfl, k2⟩ := h.kept
        rw [E2.out]
        go_wp2_with fail
        go_ret
        exact ⟨rfl, k1.trans k2⟩
      · rw [if_neg (by simp; omega)]
        by_cases g3 : 0 < c3
        · rw [if_pos g3]
          go_enter Try.func16, Try.ntmps16
          go_wp2_with fail
          refine (h0.out _).mono ?_
          rintro e w' ⟨rfl, rfl⟩
          rw [E4.out]
          go_wp2_with fail
          refine ((h1 _).out).mono ?_
          rintro e w1 h
          obtain ⟨rfl, k1⟩ := h.kept
          rw [E1.out]
          go_wp2_with fail
          refine ((h2 _).out).mono ?_
          rintro e w2 h
          obtain ⟨rfl, k2⟩ := h.kept
          rw [E2.out]
          go_wp2_with fail
          refine ((h3 _).out).mono ?_
          rintro e w3 h
          obtain ⟨rfl, k3⟩ := h.kept
          rw [E3.out]
          go_wp2_with fail
          go_ret
          exact ⟨rfl, k1.trans (k2.trans k3)⟩
        · rw [if_neg g3]
          go_enter Try.func16, Try.ntmps16
          go_wp2_with fail
          refine (h0.out _).mono ?_
          rintro e w' ⟨rfl, rfl⟩
          rw [E4.out]
          go_wp2_with fail
          refine ((h1 _).out).mono ?_
          rintro e w1 h
          obtain ⟨rfl, k1⟩ := h.kept
          rw [E1.out]
          go_wp2_with fail
          refine ((h2 _).out).mono ?_
          rintro e w2 h
          obtain ⟨rfl, k2⟩ := h.kept
          rw [E2.out]
          go_wp2_with fail
          refine ((h3 _).out).mono ?_
          rintro e w3 h
          obtain ⟨rfl, k3⟩ := h.kept
          rw [E3.out]
          go_wp2_with fail
          go_ret
          exact ⟨rfl, k1.trans (k2.trans k3)⟩

end Go.Proofs.Ythmpkelnmlkbiaa
