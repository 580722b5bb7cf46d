/- slices.swapRangeCmpFunc, slices.rotateCmpFunc at floats. -/
import Derived.Test.YthmpkelnmlkbiaaFltSort
import Derived.Test.YthmpkelnmlkbiaaStabMath
import Derived.Sort.WalkA
import Derived.Sort.WalkB2
import Derived.Sort.WalkB12
import Derived.Deep.LoopGhost
import Derived.Deep.CutRange
namespace Go.Proofs.Ythmpkelnmlkbiaa
open Go.RowKit Go.Shelf Go.Lib Go.Sort
set_option linter.unusedVariables false

theorem mixed_on : Try.prog.follows .mixedOrders = true := by kernel_rfl

set_option maxRecDepth 1000000 in
set_option maxHeartbeats 4000000 in
theorem swapRange_any {α : Type} [Inhabited α] (enc : α → Value) (w0 : World) (blk off cap a b n : Nat) (d0 d : Array α) (w : World) (R : Row1 enc w0 blk off d0) (hs : d0.size = d.size) (S : SW enc w0 blk off d w) (hab : a + n ≤ b) (hb : b + n ≤ d.size) (hsz : d.size < 4611686018427387904) (cmp : Value) :
    Calls Try.prog 53 #[.slice (some ⟨blk, off, none⟩) d.size cap, .int .i64 a, .int .i64 b, .int .i64 n, cmp] w
      fun e w' => e = .returned (.tuple #[]) ∧ ∃ d', Exch a b n d d' ∧ PermIn a (b + n) d d' ∧ SW enc w0 blk off d' w' := by
  have mixed := mixed_on
  have hcl0 := R.hO.cells
  simp only [Value.cells] at hcl0
  have hst := R.hO.store Try.prog
  have HR : Aside _ := R
  have S0 : Aside (SW enc w0 blk off d w) := S
  clear S R
  go_enter Try.func53, Try.ntmps53
  go_wp2
  go_loopg [10] n (fun g1 vi wr => ∃ (i : Nat) (dk : Array α), vi = .int .i64 i ∧ i ≤ n ∧ n - i ≤ g1 ∧ dk.size = d.size ∧ Aside (SW enc w0 blk off dk wr) ∧ Hid (Exch a b i d dk ∧ PermIn a (b + n) d dk))
  case atStart => exact ⟨0, d, by go_num, by omega, by omega, rfl, S0, Exch.zero _ _ _, permIn_refl _ _ _⟩
  case round =>
    clear S0
    obtain ⟨i, dk, rfl, hi, hg1, hsk, S1, HX⟩ := hrel
    by_cases hlt : i < n
    · have hltz : (i : Int) < (n : Int) := by omega
      obtain ⟨iN, hiN⟩ : ∃ q, q = a + i := ⟨_, rfl⟩
      obtain ⟨jN, hjN⟩ : ∃ q, q = b + i := ⟨_, rfl⟩
      have ea : ((a : Int) + (i : Int)).toNat = iN := by omega
      have pa : (0 : Int) ≤ (a : Int) + (i : Int) := by omega
      have ba : (a : Int) + (i : Int) < (d.size : Int) := by omega
      have ra : IntKind.i64.wrap ((a : Int) + (i : Int)) = (a : Int) + (i : Int) := by rw [IntKind.wrap_i64]; omega
      have ec : ((b : Int) + (i : Int)).toNat = jN := by omega
      have pc : (0 : Int) ≤ (b : Int) + (i : Int) := by omega
      have bc : (b : Int) + (i : Int) < (d.size : Int) := by omega
      have rc : IntKind.i64.wrap ((b : Int) + (i : Int)) = (b : Int) + (i : Int) := by rw [IntKind.wrap_i64]; omega
      obtain ⟨x, hx⟩ : ∃ x, x = dk[a + i]! := ⟨_, rfl⟩
      obtain ⟨y, hy⟩ : ∃ x, x = dk[b + i]! := ⟨_, rfl⟩
      have S3 : Aside (SW enc w0 blk off (swp dk (a + i) (b + i)) ((wr.setCell ⟨blk, off + iN, none⟩ (enc y)).setCell ⟨blk, off + jN, none⟩ (enc x)).drew) := by rw [hiN, hjN, hx, hy]; exact S1.out.swapped HR.out (a + i) (b + i) (by omega) (by omega)
      have c1a := S1.out.c1 HR.out (by omega) (a + i) (by omega)
      have c1b := S1.out.c1 HR.out (by omega) (b + i) (by omega)
      have f1a := S1.out.f1 HR.out (by omega) (a + i) (by omega)
      have f1b := S1.out.f1 HR.out (by omega) (b + i) (by omega)
      obtain ⟨u1, c1c⟩ := S1.out.c2 HR.out (by omega) (a + i) (b + i) (by omega) (by omega) (enc y)
      have HX2 : Hid (Exch a b (i + 1) d (swp dk (a + i) (b + i)) ∧ PermIn a (b + n) d (swp dk (a + i) (b + i))) :=
        ⟨HX.out.1.step (by omega) (by omega), permIn_trans _ _ _ _ _ HX.out.2 (swp_permIn dk a (b + n) (a + i) (b + i) (by omega) (by omega) (by omega) (by omega) (by omega))⟩
      rw [← hjN, ← hiN] at c1c
      rw [← hx, ← hiN] at c1a
      rw [← hy, ← hjN] at c1b
      rw [← hiN] at f1a
      rw [← hjN] at f1b
      clear S1 hx hy hiN hjN
      go_wp2_with fail
      go_big_region_o
      clear c1a c1b c1c f1a f1b
      generalize ((wr.setCell ⟨blk, off + iN, none⟩ (enc y)).setCell ⟨blk, off + jN, none⟩ (enc x)).drew = w3 at S3 ⊢
      clear ea ec
      go_wp2
      go_roundg (n - (i + 1))
      case measure => omega
      case rel => exact ⟨i + 1, swp dk (a + i) (b + i), by go_num, by omega, Nat.le_refl _, by rw [size_swp]; exact hsk, S3, HX2⟩
    · have hltz : ¬ (i : Int) < (n : Int) := by omega
      have hin : i = n := by omega
      subst hin
      go_wp2
      go_end0
      exact ⟨rfl, dk, HX.out.1, HX.out.2, S1.out⟩

end Go.Proofs.Ythmpkelnmlkbiaa
