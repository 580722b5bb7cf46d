/- slices.rotateCmpFunc. -/
import Derived.Test.YthmpkelnmlkbiaaStabSwap
namespace Go.Proofs.Ythmpkelnmlkbiaa
open Go.RowKit Go.Shelf Go.Lib Go.Sort
set_option linter.unusedVariables false

/-- What swapRange does, at places told as the caller tells them. -/
def SwapAt {α : Type} [Inhabited α] (enc : α → Value) (w0 : World) (blk off : Nat) (a b n : Nat) (d : Array α) (e : Ending) (w' : World) : Prop :=
  e = .returned (.tuple #[]) ∧ ∃ d', Exch a b n d d' ∧ PermIn a (b + n) d d' ∧ SW enc w0 blk off d' w'

theorem swapRange_at {α : Type} [Inhabited α] (enc : α → Value) (w0 : World) (blk off cap a b n : Nat) (za zb zn : Int) (d0 d : Array α) (w : World) (R : Row1 enc w0 blk off d0) (hs : d0.size = d.size) (S : SW enc w0 blk off d w) (hab : a + n ≤ b) (hb : b + n ≤ d.size) (hsz : d.size < 4611686018427387904) (cmp : Value)
    (ea : za = a) (eb : zb = b) (en : zn = n) (N : Nat) (hN : N = d.size) :
    Calls Try.prog 53 #[.slice (some ⟨blk, off, none⟩) N cap, .int .i64 za, .int .i64 zb, .int .i64 zn, cmp] w (SwapAt enc w0 blk off a b n d) := by
  subst ea eb en hN
  exact swapRange_any enc w0 blk off cap a b n d0 d w R hs S hab hb hsz cmp

set_option maxRecDepth 1000000 in
set_option maxHeartbeats 4000000 in
theorem rotate_any {α : Type} [Inhabited α] (enc : α → Value) (w0 : World) (blk off cap a m b : Nat) (d0 d : Array α) (w : World) (R : Row1 enc w0 blk off d0) (hs : d0.size = d.size) (S : SW enc w0 blk off d w) (ham : a < m) (hmb : m < b) (hb : b ≤ d.size) (hsz : d.size < 4611686018427387904) (cmp : Value) :
    Calls Try.prog 52 #[.slice (some ⟨blk, off, none⟩) d.size cap, .int .i64 a, .int .i64 m, .int .i64 b, cmp] w
      fun e w' => e = .returned (.tuple #[]) ∧ ∃ d', Rot a (m - a) (b - m) d d' ∧ PermIn a b d d' ∧ SW enc w0 blk off d' w' := by
  have HR : Aside _ := R
  have S0 : Aside (SW enc w0 blk off d w) := S
  have r1 : IntKind.i64.wrap ((m : Int) - (a : Int)) = (m : Int) - (a : Int) := by rw [IntKind.wrap_i64]; omega
  have r2 : IntKind.i64.wrap ((b : Int) - (m : Int)) = (b : Int) - (m : Int) := by rw [IntKind.wrap_i64]; omega
  clear S R
  go_enter Try.func52, Try.ntmps52
  go_wp2
  go_loopg [10, 11] (b - a) (fun g1 vi vj wr => ∃ (i j : Nat) (dk : Array α), vi = .int .i64 i ∧ vj = .int .i64 j ∧ 0 < i ∧ 0 < j ∧ i ≤ m - a ∧ j ≤ b - m ∧ i + j ≤ g1 ∧ dk.size = d.size ∧ Aside (SW enc w0 blk off dk wr) ∧ Hid ((∀ d', Rot (m - i) i j dk d' → Rot a (m - a) (b - m) d d') ∧ PermIn a b d dk))
  case atStart => exact ⟨m - a, b - m, d, by congr 1; omega, by congr 1; omega, by omega, by omega, by omega, by omega, by omega, rfl, S0, fun d' h => by rwa [show m - (m - a) = a from by omega] at h, permIn_refl _ _ _⟩
  case round =>
    clear S0
    obtain ⟨i, j, dk, rfl, rfl, hi, hj, hia, hjb, hg1, hsk, S1, HX⟩ := hrel
    have r3 : IntKind.i64.wrap ((m : Int) - (i : Int)) = (m : Int) - (i : Int) := by rw [IntKind.wrap_i64]; omega
    rcases Nat.lt_trichotomy j i with hlt | hlt | hlt
    · have q1 : ((i : Int) != (j : Int)) = true := by simp; omega
      have q2 : (j : Int) < (i : Int) := by omega
      have r4 : IntKind.i64.wrap ((i : Int) - (j : Int)) = (i : Int) - (j : Int) := by rw [IntKind.wrap_i64]; omega
      have hc := Lib.hid (swapRange_at enc w0 blk off cap (m - i) m j ((m : Int) - i) m j d0 dk wr HR.out (by omega) S1.out (by omega) (by omega) (by omega) cmp (by omega) rfl rfl d.size hsk.symm)
      clear S1
      go_wp2_with (go_at_call 53; refine hc.out.mono ?_; rintro e w1 ⟨rfl, d1, hE, hP, hS⟩)
      have H1 : Hid (Exch (m - i) m j dk d1) := hE
      have H2 : Hid (PermIn (m - i) (m + j) dk d1) := hP
      have S2 : Aside (SW enc w0 blk off d1 w1) := hS
      clear hE hP hS
      go_roundg (i + j - j)
      case measure => omega
      case rel =>
        have hz := H1.out.size
        refine ⟨i - j, j, d1, by congr 1; omega, rfl, by omega, by omega, by omega, by omega, by omega, by omega, S2, fun d' h => HX.out.1 d' (Rot.big hlt (by rw [show m - i + i = m from by omega]; exact H1.out) (by rw [show m - i + j = m - (i - j) from by omega]; exact h)), permIn_trans _ _ _ _ _ HX.out.2 (permIn_mono _ _ _ _ _ _ (by omega) (by omega) (by omega) H2.out)⟩
    · subst hlt
      have q1 : ((j : Int) != (j : Int)) = false := by simp
      have hc := Lib.hid (swapRange_at enc w0 blk off cap (m - j) m j ((m : Int) - j) m j d0 dk wr HR.out (by omega) S1.out (by omega) (by omega) (by omega) cmp (by omega) rfl rfl d.size hsk.symm)
      clear S1
      go_wp2_with (go_at_call 53; refine hc.out.mono ?_; rintro e w1 ⟨rfl, d1, hE, hP, hS⟩)
      have H1 : Hid (Exch (m - j) m j dk d1) := hE
      have H2 : Hid (PermIn (m - j) (m + j) dk d1) := hP
      have S2 : Aside (SW enc w0 blk off d1 w1) := hS
      clear hE hP hS
      go_end0
      exact ⟨rfl, d1, HX.out.1 d1 (Rot.of_exch (by rw [show m - j + j = m from by omega]; exact H1.out)), permIn_trans _ _ _ _ _ HX.out.2 (permIn_mono _ _ _ _ _ _ (by omega) (by omega) (by omega) H2.out), S2.out⟩
    · have q1 : ((i : Int) != (j : Int)) = true := by simp; omega
      have q2 : ¬ (j : Int) < (i : Int) := by omega
      have r4 : IntKind.i64.wrap ((j : Int) - (i : Int)) = (j : Int) - (i : Int) := by rw [IntKind.wrap_i64]; omega
      have r5 : IntKind.i64.wrap ((m : Int) + (j : Int)) = (m : Int) + (j : Int) := by rw [IntKind.wrap_i64]; omega
      have r6 : IntKind.i64.wrap ((m : Int) + (j : Int) - (i : Int)) = (m : Int) + (j : Int) - (i : Int) := by rw [IntKind.wrap_i64]; omega
      have hc := Lib.hid (swapRange_at enc w0 blk off cap (m - i) (m + j - i) i ((m : Int) - i) ((m : Int) + j - i) i d0 dk wr HR.out (by omega) S1.out (by omega) (by omega) (by omega) cmp (by omega) (by omega) rfl d.size hsk.symm)
      clear S1
      go_wp2_with (go_at_call 53; refine hc.out.mono ?_; rintro e w1 ⟨rfl, d1, hE, hP, hS⟩)
      have H1 : Hid (Exch (m - i) (m + j - i) i dk d1) := hE
      have H2 : Hid (PermIn (m - i) (m + j - i + i) dk d1) := hP
      have S2 : Aside (SW enc w0 blk off d1 w1) := hS
      clear hE hP hS
      go_roundg (i + j - i)
      case measure => omega
      case rel =>
        have hz := H1.out.size
        refine ⟨i, j - i, d1, rfl, by congr 1; omega, by omega, by omega, by omega, by omega, by omega, by omega, S2, fun d' h => HX.out.1 d' (Rot.small hlt (by rw [show m - i + j = m + j - i from by omega]; exact H1.out) h), permIn_trans _ _ _ _ _ HX.out.2 (permIn_mono _ _ _ _ _ _ (by omega) (by omega) (by omega) H2.out)⟩

end Go.Proofs.Ythmpkelnmlkbiaa
