/- float64's four operations, run: what comes, and that it is no number just where they have no answer. -/
import Derived.Test.YthmpkelnmlkbiaaFltKey
namespace Go.Proofs.Ythmpkelnmlkbiaa
open Go.RowKit Ieee
set_option linter.unusedVariables false

theorem cut_nan (x y t : Nat) : isNaN ((Question.nanBits .f64 x y).cut t) = true ∧ (Question.nanBits .f64 x y).cut t < 18446744073709551616 := by
  have e : (Question.nanBits .f64 x y).cut t = (t % 2) * 9223372036854775808 + 9218868437227405312 + 1 + (t / 2) % 4503599627370495 := rfl
  rw [e, nan_iff]
  unfold rung
  rw [show SGN = 9223372036854775808 from rfl, show INF = 9218868437227405312 from rfl]
  have ha : t % 2 < 2 := Nat.mod_lt _ (by decide)
  have hb : (t / 2) % 4503599627370495 < 4503599627370495 := Nat.mod_lt _ (by decide)
  generalize t % 2 = a at ha ⊢
  generalize (t / 2) % 4503599627370495 = b at hb ⊢
  omega

theorem word_nan (n : Bool) {r : Nat} (h : r ≤ INF) : isNaN (double.word n r) = false ∧ double.word n r < 18446744073709551616 ∧ rung (double.word n r) = r ∧ sgn (double.word n r) = n := by
  have eS : SGN = 9223372036854775808 := rfl
  have eI : INF = 9218868437227405312 := rfl
  have hr : rung (double.word n r) = r := by
    unfold rung Format.word
    rw [d_sgn, eS]
    split <;> omega
  have hs : sgn (double.word n r) = n := by
    unfold sgn Format.word
    rw [d_sgn, eS]
    cases n
    · rw [if_neg (by simp), show r / 9223372036854775808 = 0 from by omega]; rfl
    · rw [if_pos rfl, show (9223372036854775808 + r) / 9223372036854775808 = 1 from by omega]; rfl
  refine ⟨by rw [not_nan, hr]; exact h, ?_, hr, hs⟩
  unfold Format.word
  rw [d_sgn]
  split <;> omega

/-- The rung nearest to mag * 2 ^ place. -/
def near (mag : Nat) (place : Int) : Nat := rung (double.nearest false mag place)

theorem nearest_word (n : Bool) (m : Nat) (p : Int) : double.nearest n m p = double.word n (near m p) ∧ near m p ≤ INF := by
  have h : ∃ r, r ≤ INF ∧ ∀ n', double.nearest n' m p = double.word n' r := by
    by_cases hm : m = 0
    · exact ⟨0, by decide, fun n' => by unfold Format.nearest; rw [if_pos hm]⟩
    · unfold Format.nearest
      simp only [hm, if_false, d_inf]
      exact ⟨min ((max (p + (m.log2 : Int) - double.fractionBits) double.leastPlace - double.leastPlace).toNat * double.binade + Toward.even.cut false (m <<< (p - max (p + (m.log2 : Int) - double.fractionBits) double.leastPlace).toNat) (max (p + (m.log2 : Int) - double.fractionBits) double.leastPlace - p).toNat) INF, Nat.min_le_right _ _, fun n' => rfl⟩
  obtain ⟨r, hr, he⟩ := h
  have : near m p = r := by unfold near; rw [he false]; exact (word_nan false hr).2.2.1
  rw [this]
  exact ⟨he n, hr⟩

theorem write_ok {d : Datum} (h : d.isNaN = false) : isNaN (double.write d) = false ∧ double.write d < 18446744073709551616 := by
  cases d with
  | number s m p =>
    unfold Format.write
    dsimp only
    rw [(nearest_word s m p).1]
    exact ⟨(word_nan s (nearest_word s m p).2).1, (word_nan s (nearest_word s m p).2).2.1⟩
  | infinity s =>
    unfold Format.write
    dsimp only
    rw [d_inf]
    exact ⟨(word_nan s (Nat.le_refl _)).1, (word_nan s (Nat.le_refl _)).2.1⟩
  | nan s t => cases h

theorem sum_real {a b d : Datum} (h : a.sum b = some d) : d.isNaN = false := by
  cases a <;> cases b <;> simp only [Datum.sum] at h <;> first | (cases h; done) | (split at h <;> cases h <;> rfl) | (cases h; rfl)
theorem quotient_real {k : Nat} {a b d : Datum} (h : a.quotient k b = some d) : d.isNaN = false := by
  cases a <;> cases b <;> simp only [Datum.quotient] at h <;> first | (cases h; done) | (cases h; rfl) | (split at h <;> first | (split at h <;> cases h <;> rfl) | (cases h; rfl))

theorem add_real {x y r : Nat} (h : double.add x y = some r) : isNaN r = false ∧ r < 18446744073709551616 := by
  unfold Format.add at h
  cases hs : (double.read x).sum (double.read y) with
  | none => rw [hs] at h; cases h
  | some d => rw [hs] at h; cases h; exact write_ok (sum_real hs)
theorem sub_real {x y r : Nat} (h : double.sub x y = some r) : isNaN r = false ∧ r < 18446744073709551616 := by
  unfold Format.sub at h
  cases hs : (double.read x).sum (double.read y).opposite with
  | none => rw [hs] at h; cases h
  | some d => rw [hs] at h; cases h; exact write_ok (sum_real hs)
theorem div_real {x y r : Nat} (h : double.div x y = some r) : isNaN r = false ∧ r < 18446744073709551616 := by
  unfold Format.div at h
  cases hs : (double.read x).quotient (double.fractionBits + 2) (double.read y) with
  | none => rw [hs] at h; cases h
  | some d => rw [hs] at h; cases h; exact write_ok (quotient_real hs)

/-- A number as what is told of it: its bits, or that it is none. -/
def nrm (x : Nat) : Option Nat := if isNaN x then none else some x
theorem nrm_some {x r : Nat} : nrm x = some r ↔ isNaN x = false ∧ x = r := by unfold nrm; cases isNaN x <;> simp
theorem nrm_none {x : Nat} : nrm x = none ↔ isNaN x = true := by unfold nrm; cases isNaN x <;> simp

/-- What a run of an operation gives: one answer, whatever the type's number. -/
theorem arith_run {P : Program} (op : BinOp) (f : Nat → Nat → Option Nat) (hop : (op = .add ∧ f = double.add) ∨ (op = .sub ∧ f = double.sub) ∨ (op = .quo ∧ f = double.div)) (x y : Nat) (w : World) :
    ∃ r n, (∀ t, (binOp op t (.float .f64 x) (.float .f64 y)).run P w = .ok (.float .f64 r) (w.drewN n)) ∧ nrm r = f x y ∧ r < 18446744073709551616 := by
  cases h : f x y with
  | some r =>
    refine ⟨r, 0, fun t => ?_, ?_⟩
    · rw [World.drewN_zero]
      refine run_float_arith w op t .f64 x y r ?_
      rcases hop with ⟨rfl, rfl⟩ | ⟨rfl, rfl⟩ | ⟨rfl, rfl⟩ <;> exact h
    · rw [nrm_some]
      rcases hop with ⟨rfl, rfl⟩ | ⟨rfl, rfl⟩ | ⟨rfl, rfl⟩
      · exact ⟨⟨(add_real h).1, rfl⟩, (add_real h).2⟩
      · exact ⟨⟨(sub_real h).1, rfl⟩, (sub_real h).2⟩
      · exact ⟨⟨(div_real h).1, rfl⟩, (div_real h).2⟩
  | none =>
    refine ⟨(Question.nanBits .f64 x y).cut (w.tape w.drawn (.nanBits .f64 x y)), 1, fun t => ?_, nrm_none.2 (cut_nan _ _ _).1, (cut_nan _ _ _).2⟩
    have hd : w.drew = w.drewN 1 := rfl
    rw [← hd]
    rcases hop with ⟨rfl, rfl⟩ | ⟨rfl, rfl⟩ | ⟨rfl, rfl⟩
    · have h' : FloatKind.f64.format.add x y = none := h
      simp [binOp, Op.floatArith, h', Question.forced]
    · have h' : FloatKind.f64.format.sub x y = none := h
      simp [binOp, Op.floatArith, h', Question.forced]
    · have h' : FloatKind.f64.format.div x y = none := h
      simp [binOp, Op.floatArith, h', Question.forced]

theorem add_run {P : Program} (x y : Nat) (w : World) : ∃ r n, (∀ t, (binOp .add t (.float .f64 x) (.float .f64 y)).run P w = .ok (.float .f64 r) (w.drewN n)) ∧ nrm r = double.add x y ∧ r < 18446744073709551616 := arith_run .add _ (.inl ⟨rfl, rfl⟩) x y w
theorem sub_run {P : Program} (x y : Nat) (w : World) : ∃ r n, (∀ t, (binOp .sub t (.float .f64 x) (.float .f64 y)).run P w = .ok (.float .f64 r) (w.drewN n)) ∧ nrm r = double.sub x y ∧ r < 18446744073709551616 := arith_run .sub _ (.inr (.inl ⟨rfl, rfl⟩)) x y w
theorem div_run {P : Program} (x y : Nat) (w : World) : ∃ r n, (∀ t, (binOp .quo t (.float .f64 x) (.float .f64 y)).run P w = .ok (.float .f64 r) (w.drewN n)) ∧ nrm r = double.div x y ∧ r < 18446744073709551616 := arith_run .quo _ (.inr (.inr ⟨rfl, rfl⟩)) x y w

/-- One by a nought: an infinity of the nought's sign. -/
theorem one_by_zero {x : Nat} (h : rung x = 0) : double.div 4607182418800017408 x = some (double.word (sgn x) INF) := by
  unfold Format.div
  rw [read_num (x := x) (by rw [h]; decide), h]
  have e : double.read 4607182418800017408 = .number false 4503599627370496 (-52) := by decide +kernel
  rw [e, show mg 0 = 0 from rfl]
  simp [Datum.quotient, Format.write, d_inf]

/-- A number that is finite less itself is +0; an infinity less itself is none. -/
theorem sub_self_fin {x : Nat} (h : rung x < INF) : double.sub x x = some 0 := by
  unfold Format.sub
  rw [read_num h]
  simp only [Datum.opposite, Datum.sum, Int.min_self, Int.sub_self, signed_eq, Option.map_some, Option.some.injEq]
  have : ∀ a : Int, ((if sgn x = true then -a else a) + if (!sgn x) = true then -a else a) = 0 := by
    intro a; cases sgn x <;> simp <;> omega
  rw [this]
  unfold Format.write Format.nearest
  cases sgn x <;> rfl
theorem sub_self_inf {x : Nat} (h : rung x = INF) : double.sub x x = none := by
  unfold Format.sub
  rw [read_inf h]
  cases sgn x <;> rfl

end Go.Proofs.Ythmpkelnmlkbiaa
