/- slices.symMergeCmpFunc where one stretch has a single place. -/
import Derived.Test.YthmpkelnmlkbiaaStabRot
namespace Go.Proofs.Ythmpkelnmlkbiaa
open Go.RowKit Go.Shelf Go.Lib Go.Sort
set_option linter.unusedVariables false

/-- What merging does. -/
def Mrg {α : Type} [Inhabited α] (enc : α → Value) (cf : α → α → Int) (w0 : World) (blk off a b : Nat) (d : Array α) (e : Ending) (w' : World) : Prop :=
  e = .returned (.tuple #[]) ∧ ∃ d', PermIn a b d d' ∧ SortedIn (ltOf cf) a b d' ∧ SW enc w0 blk off d' w'

set_option maxRecDepth 1000000 in
set_option maxHeartbeats 8000000 in
theorem symMerge_left {α : Type} [Inhabited α] (enc : α → Value) (cf : α → α → Int) (hO : SWO (ltOf cf)) (g : Nat) (cb : Array Value) (w0 : World) (blk off cap a b : Nat) (d0 d : Array α) (w : World)
    (eg : ∀ args w, (callFunc g args).run Try.prog w = .ok (.enter g args) w) (hcmp : CmpLays1 Try.prog g cb enc cf blk off d0.size w0) (R : Row1 enc w0 blk off d0) (hs : d0.size = d.size) (S : SW enc w0 blk off d w)
    (hab : a + 1 < b) (hb : b ≤ d.size) (hsz : d.size < 2305843009213693952) (s2 : SortedIn (ltOf cf) (a + 1) b d) :
    Calls Try.prog 51 #[.slice (some ⟨blk, off, none⟩) d.size cap, .int .i64 a, .int .i64 ((a : Int) + 1), .int .i64 b, .func (.func g) #[] cb] w (Mrg enc cf w0 blk off a b d) := by
  unfold Mrg
  have mixed := mixed_on
  have hcl0 := R.hO.cells
  simp only [Value.cells] at hcl0
  have hst := R.hO.store Try.prog
  have HR : Aside _ := R
  have HC : Aside _ := hcmp
  have SS : Aside _ := s2
  have OO : Aside _ := hO
  have S0 : Aside (SW enc w0 blk off d w) := S
  have r1 : IntKind.i64.wrap ((a : Int) + 1 - (a : Int)) = 1 := by rw [IntKind.wrap_i64]; omega
  have baz : (a : Int) < (d.size : Int) := by omega
  clear S R hcmp s2 hO
  go_enter Try.func51, Try.ntmps51
  go_wp2
  go_loopg [10, 11] b (fun g1 vi vj wr => ∃ lo hi : Nat, vi = .int .i64 lo ∧ vj = .int .i64 hi ∧ a + 1 ≤ lo ∧ lo ≤ hi ∧ hi ≤ b ∧ hi - lo ≤ g1 ∧ Aside (SW enc w0 blk off d wr) ∧
    Hid ((lo = a + 1 ∨ ltOf cf d[lo - 1]! d[a]! = true) ∧ (hi = b ∨ ltOf cf d[hi]! d[a]! = false)))
  case atStart => exact ⟨a + 1, b, by go_num, rfl, by omega, by omega, by omega, by omega, S0, .inl rfl, .inl rfl⟩
  case round =>
    clear S0
    obtain ⟨lo, hi, rfl, rfl, hal, hlh, hhb, hg1, S1, HX⟩ := hrel
    by_cases hlt : lo < hi
    · have hltz : (lo : Int) < (hi : Int) := by omega
      obtain ⟨x, hx⟩ : ∃ x, x = d[(lo + hi) / 2]! := ⟨_, rfl⟩
      obtain ⟨y, hy⟩ : ∃ x, x = d[a]! := ⟨_, rfl⟩
      have l1 := S1.out.cl HR.out (by omega) ((lo + hi) / 2) (by omega)
      have l2 := S1.out.cl HR.out (by omega) a (by omega)
      obtain ⟨hN, hhN⟩ : ∃ q, q = (lo + hi) / 2 := ⟨_, rfl⟩
      rw [← hx, ← hhN] at l1
      rw [← hy] at l2
      have ea : (((lo : Int) + (hi : Int)) / 2).toNat = hN := by omega
      have pa : (0 : Int) ≤ ((lo : Int) + (hi : Int)) / 2 := by omega
      have ra : IntKind.i64.wrap (((lo : Int) + (hi : Int)) / 2) = ((lo : Int) + (hi : Int)) / 2 := by rw [IntKind.wrap_i64]; omega
      have hc := S1.out.cmp HC.out (by omega) x y
      have bm : ((lo : Int) + (hi : Int)) / 2 < (d.size : Int) := by omega
      have HXY : Hid (x = d[(lo + hi) / 2]! ∧ y = d[a]!) := ⟨hx, hy⟩
      clear hx hy hhN
      by_cases hv : cf x y < 0
      · have hd : decide (cf x y < 0) = true := decide_eq_true hv
        go_wp2_with fail
        go_quiet_grown (first | (go_at_fn g; refine Calls.grown_of (hc _ _)))
        have S2 : Aside (SW enc w0 blk off d (grow (wr.drewN nq) osq)) := S1.out.grown nq osq
        clear l1 l2 hc S1
        generalize grow (wr.drewN nq) osq = w2 at S2 ⊢
        clear nq osq
        go_wp2
        go_roundg (hi - ((lo + hi) / 2 + 1))
        case measure => omega
        case rel =>
          refine ⟨(lo + hi) / 2 + 1, hi, by rw [show ((lo : Int) + (hi : Int)) / 2 + 1 = (((lo + hi) / 2 + 1 : Nat) : Int) by omega], rfl, by omega, by omega, by omega, Nat.le_refl _, S2, ?_, HX.out.2⟩
          right
          rw [show (lo + hi) / 2 + 1 - 1 = (lo + hi) / 2 from by omega, ← HXY.out.1, ← HXY.out.2]
          exact hd
      · have hd : decide (cf x y < 0) = false := decide_eq_false hv
        go_wp2_with fail
        go_quiet_grown (first | (go_at_fn g; refine Calls.grown_of (hc _ _)))
        have S2 : Aside (SW enc w0 blk off d (grow (wr.drewN nq) osq)) := S1.out.grown nq osq
        clear l1 l2 hc S1
        generalize grow (wr.drewN nq) osq = w2 at S2 ⊢
        clear nq osq
        go_wp2
        go_roundg ((lo + hi) / 2 - lo)
        case measure => omega
        case rel =>
          refine ⟨lo, (lo + hi) / 2, rfl, by rw [show ((lo : Int) + (hi : Int)) / 2 = (((lo + hi) / 2 : Nat) : Int) by omega], by omega, by omega, by omega, Nat.le_refl _, S2, HX.out.1, ?_⟩
          right
          rw [← HXY.out.1, ← HXY.out.2]
          exact hd
    · obtain rfl : hi = lo := by omega
      have r2 : IntKind.i64.wrap ((hi : Int) - 1) = (hi : Int) - 1 := by rw [IntKind.wrap_i64]; omega
      have hq : ¬ (hi : Int) < (hi : Int) := by omega
      go_wp2
      go_loopg [13] b (fun g2 vk wr2 => ∃ (n : Nat) (dk : Array α), vk = .int .i64 ((a + n : Nat) : Int) ∧ a + n + 1 ≤ hi ∧ b - (a + n) ≤ g2 ∧ dk.size = d.size ∧ Aside (SW enc w0 blk off dk wr2) ∧ Hid (Rot a 1 n d dk ∧ PermIn a b d dk))
      case atStart => exact ⟨0, d, by go_num, by omega, by omega, rfl, S1, Rot.triv (.inr rfl), permIn_refl _ _ _⟩
      case round =>
        clear S1
        obtain ⟨n, dk, rfl, hn, hg2, hsk, S2, HY⟩ := hrel
        by_cases hk : a + n + 1 < hi
        · have hkz : ((a + n : Nat) : Int) < (hi : Int) - 1 := by omega
          obtain ⟨kN, hkN⟩ : ∃ q, q = a + n := ⟨_, rfl⟩
          rw [← hkN] at hkz ⊢
          obtain ⟨jN, hjN⟩ : ∃ q, q = kN + 1 := ⟨_, rfl⟩
          have ea : ((kN : Int) + 1).toNat = jN := by omega
          have pa : (0 : Int) ≤ (kN : Int) + 1 := by omega
          have ba : (kN : Int) + 1 < (d.size : Int) := by omega
          have bk : (kN : Int) < (d.size : Int) := by omega
          have ra : IntKind.i64.wrap ((kN : Int) + 1) = (kN : Int) + 1 := by rw [IntKind.wrap_i64]; omega
          obtain ⟨x, hx⟩ : ∃ x, x = dk[kN]! := ⟨_, rfl⟩
          obtain ⟨y, hy⟩ : ∃ x, x = dk[jN]! := ⟨_, rfl⟩
          have S3 : Aside (SW enc w0 blk off (swp dk kN jN) ((wr.setCell ⟨blk, off + kN, none⟩ (enc y)).setCell ⟨blk, off + jN, none⟩ (enc x)).drew) := by rw [hx, hy]; exact S2.out.swapped HR.out kN jN (by omega) (by omega)
          have c1a := S2.out.c1 HR.out (by omega) kN (by omega)
          have c1b := S2.out.c1 HR.out (by omega) jN (by omega)
          have f1a := S2.out.f1 HR.out (by omega) kN (by omega)
          have f1b := S2.out.f1 HR.out (by omega) jN (by omega)
          obtain ⟨u1, c1c⟩ := S2.out.c2 HR.out (by omega) kN jN (by omega) (by omega) (enc y)
          rw [← hx] at c1a
          rw [← hy] at c1b
          have HY2 : Hid (Rot a 1 (n + 1) d (swp dk kN jN) ∧ PermIn a b d (swp dk kN jN)) :=
            ⟨by rw [hjN, hkN]; exact HY.out.1.up (by omega), permIn_trans _ _ _ _ _ HY.out.2 (swp_permIn dk a b kN jN (by omega) (by omega) (by omega) (by omega) (by omega))⟩
          have HK : Hid (kN = a + n) := hkN
          clear S2 hx hy hjN hkN
          go_wp2_with fail
          go_big_region_o
          clear c1a c1b c1c f1a f1b
          generalize ((wr.setCell ⟨blk, off + kN, none⟩ (enc y)).setCell ⟨blk, off + jN, none⟩ (enc x)).drew = w3 at S3 ⊢
          clear ea
          go_wp2
          go_roundg (b - (a + (n + 1)))
          case measure => have := HK.out; omega
          case rel => exact ⟨n + 1, swp dk kN jN, by rw [HK.out]; go_num, by omega, Nat.le_refl _, by rw [size_swp]; exact hsk, S3, HY2⟩
        · have hkz : ¬ ((a + n : Nat) : Int) < (hi : Int) - 1 := by omega
          have en : hi = a + 1 + n := by omega
          have R1 : Hid (Rot a 1 n d dk ∧ PermIn a b d dk) := HY
          have EN : Hid (hi = a + 1 + n) := en
          obtain ⟨kN, hkN⟩ : ∃ q, q = a + n := ⟨_, rfl⟩
          rw [← hkN] at hkz ⊢
          clear en hkN
          go_wp2
          refine bodyPost_ret (results_none rfl _ _ _) rfl ?_
          have e1 := EN.out
          refine ⟨rfl, dk, R1.out.2, ins_left OO.out R1.out.1 (by omega) SS.out ?_ ?_, S2.out⟩
          · rcases HX.out.1 with h | h
            · exact .inl (by omega)
            · right; rw [show a + n = hi - 1 from by omega]; exact h
          · rcases HX.out.2 with h | h
            · exact .inl (by omega)
            · right; rw [← e1]; exact h

end Go.Proofs.Ythmpkelnmlkbiaa
