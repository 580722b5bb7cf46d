/- TaintEach: the walk. -/
import Derived.Test.YthlhaefaafjmlaaDoorTaKnown
import Derived.OpenShut
import Derived.RegionTactic
import Derived.ChangeAlike
namespace Go.Proofs.YthlhaefaafjmlaaDoor
open Go.RowKit Go.Sort
set_option linter.unusedVariables false

def kk : Nat → ByteArray
  | 0 => ⟨#[103, 112, 117]⟩
  | 1 => ⟨#[111, 108, 100]⟩
  | _ => ⟨#[]⟩
def vv : Nat → ByteArray
  | 0 => ⟨#[121, 101, 115]⟩
  | _ => ⟨#[110, 111]⟩
theorem kk_cell (w : World) (T : TypeId) (i : Nat) (hi : i < 3) : (w.alloc (.cells #[.string ⟨#[103, 112, 117]⟩, .string ⟨#[111, 108, 100]⟩, .string ⟨#[]⟩] T)).cell? ⟨w.heap.size, i, none⟩ = some (.string (kk i)) := by
  have hh := w.alloc_heap_new (.cells #[.string ⟨#[103, 112, 117]⟩, .string ⟨#[111, 108, 100]⟩, .string ⟨#[]⟩] T)
  match i, hi with
  | 0, _ => rw [Lib.cell_of_heap hh]; rfl
  | 1, _ => rw [Lib.cell_of_heap hh]; rfl
  | 2, _ => rw [Lib.cell_of_heap hh]; rfl
theorem vv_cell (w : World) (T : TypeId) (i : Nat) (hi : i < 2) : (w.alloc (.cells #[.string ⟨#[121, 101, 115]⟩, .string ⟨#[110, 111]⟩] T)).cell? ⟨w.heap.size, i, none⟩ = some (.string (vv i)) := by
  have hh := w.alloc_heap_new (.cells #[.string ⟨#[121, 101, 115]⟩, .string ⟨#[110, 111]⟩] T)
  match i, hi with
  | 0, _ => rw [Lib.cell_of_heap hh]; rfl
  | 1, _ => rw [Lib.cell_of_heap hh]; rfl
theorem kk_size (i : Nat) : (kk i).size ≤ maxLen := by
  unfold kk; split <;> exact (by decide)
theorem vv_size (i : Nat) : (vv i).size ≤ maxLen := by
  unfold vv; split <;> exact (by decide)
theorem kk_no {i : Nat} (h : i < 3) : isNo (kk i) = (i == 2) := by
  match i, h with
  | 0, _ => rw [no_list]; rfl
  | 1, _ => rw [no_list]; rfl
  | 2, _ => rw [no_list]; rfl
theorem kk_eq {i j : Nat} (h : i < 3) (g : j < 2) : eqS (kk i) (kk j) = (i == j) := by
  match i, h, j, g with
  | 0, _, 0, _ => rw [eq_list]; rfl
  | 0, _, 1, _ => rw [eq_list]; rfl
  | 1, _, 0, _ => rw [eq_list]; rfl
  | 1, _, 1, _ => rw [eq_list]; rfl
  | 2, _, 0, _ => rw [eq_list]; rfl
  | 2, _, 1, _ => rw [eq_list]; rfl
theorem vv_eq {i j : Nat} (h : i < 2) (g : j < 2) : eqS (vv i) (vv j) = (i == j) := by
  match i, h, j, g with
  | 0, _, 0, _ => rw [eq_list]; rfl
  | 0, _, 1, _ => rw [eq_list]; rfl
  | 1, _, 0, _ => rw [eq_list]; rfl
  | 1, _, 1, _ => rw [eq_list]; rfl

theorem int_nat_eq (i j : Nat) : ((i : Int) == (j : Int)) = (i == j) := by rw [Bool.eq_iff_iff, beq_iff_eq, beq_iff_eq]; omega

set_option maxRecDepth 100000 in
set_option maxHeartbeats 16000000 in
theorem TaintEach_nat (a b x y : Nat) (any : Bool) (w : World) (hE : Env w) (ha : a < 256) (hb : b < 256) (hx : x < 256) (hy : y < 256) :
    Calls Tryd.prog 7 #[.int .u8 a, .int .u8 b, .int .u8 x, .int .u8 y, .bool any] w fun e w' => e = .returned (.bool true) ∧ Kept w w' := by
  have HK := Lib.hid (known_any w hE)
  obtain ⟨A, hA⟩ : ∃ z, a % 2 = z := ⟨_, rfl⟩
  obtain ⟨B, hB⟩ : ∃ z, b % 3 = z := ⟨_, rfl⟩
  obtain ⟨X, hX⟩ : ∃ z, x % 2 = z := ⟨_, rfl⟩
  obtain ⟨Y, hY⟩ : ∃ z, y % 2 = z := ⟨_, rfl⟩
  have ra : (a : Int).tmod 2 = (A : Int) := by rw [Int.tmod_eq_emod_of_nonneg (by omega)]; omega
  have rb : (b : Int).tmod 3 = (B : Int) := by rw [Int.tmod_eq_emod_of_nonneg (by omega)]; omega
  have rx : (x : Int).tmod 2 = (X : Int) := by rw [Int.tmod_eq_emod_of_nonneg (by omega)]; omega
  have ry : (y : Int).tmod 2 = (Y : Int) := by rw [Int.tmod_eq_emod_of_nonneg (by omega)]; omega
  have la : A < 2 := by omega
  have lb : B < 3 := by omega
  have lx : X < 2 := by omega
  have ly : Y < 2 := by omega
  have wa : IntKind.u8.wrap (A : Int) = (A : Int) := by rw [IntKind.wrap_u8]; omega
  have wb : IntKind.u8.wrap (B : Int) = (B : Int) := by rw [IntKind.wrap_u8]; omega
  have wx : IntKind.u8.wrap (X : Int) = (X : Int) := by rw [IntKind.wrap_u8]; omega
  have wy : IntKind.u8.wrap (Y : Int) = (Y : Int) := by rw [IntKind.wrap_u8]; omega
  have ia : (A : Int) < 2 := by omega
  have ia3 : (A : Int) < 3 := by omega
  have ib : (B : Int) < 3 := by omega
  have ix : (X : Int) < 2 := by omega
  have iy : (Y : Int) < 2 := by omega
  clear hE ha hb hx hy hA hB hX hY
  obtain ⟨p, hp⟩ : ∃ p, ((B : Int) == 2) = p := ⟨_, rfl⟩
  obtain ⟨q, hq⟩ : ∃ q, ((B : Int) == (A : Int)) = q := ⟨_, rfl⟩
  obtain ⟨r, hr⟩ : ∃ r, ((X : Int) == (Y : Int)) = r := ⟨_, rfl⟩
  have hp' : (B == 2) = p := by rw [← hp]; exact (int_nat_eq B 2).symm
  have hq' : (B == A) = q := by rw [← hq]; exact (int_nat_eq B A).symm
  have hr' : (Y == X) = r := by rw [← hr, int_nat_eq X Y]; exact Bool.beq_comm
  have HB1 := Lib.hid (show bearsN [(kk B, ⟨#[]⟩, true)] (kk A, vv X, false) = (p || q) by
    unfold bearsN bearN
    simp only [List.any_cons, List.any_nil, Bool.or_false, Bool.true_or, Bool.and_true]
    rw [kk_no lb, kk_eq lb la, hp', hq'])
  have HB2 := Lib.hid (show bearsN [(kk B, vv Y, false)] (kk A, vv X, false) = ((p || q) && r) by
    unfold bearsN bearN
    simp only [List.any_cons, List.any_nil, Bool.or_false, Bool.false_or]
    rw [kk_no lb, kk_eq lb la, vv_eq ly lx, hp', hq', hr'])
  have hp2 : decide ((B : Int) = 2) = p := by rw [← hp, Bool.eq_iff_iff, decide_eq_true_eq, beq_iff_eq]
  have hp3 : decide (B = 2) = p := by rw [← hp', Bool.eq_iff_iff, decide_eq_true_eq, beq_iff_eq]
  have hq2 : decide ((B : Int) = (A : Int)) = q := by rw [← hq, Bool.eq_iff_iff, decide_eq_true_eq, beq_iff_eq]
  have hq3 : decide (B = A) = q := by rw [← hq', Bool.eq_iff_iff, decide_eq_true_eq, beq_iff_eq]
  have hr2 : decide ((X : Int) = (Y : Int)) = r := by rw [← hr, Bool.eq_iff_iff, decide_eq_true_eq, beq_iff_eq]
  have hr3 : decide (X = Y) = r := by rw [Bool.eq_iff_iff, decide_eq_true_eq, ← hr', beq_iff_eq]; exact eq_comm
  have hr4 : (X == Y) = r := by rw [← hr']; exact Bool.beq_comm
  cases any with
  | true =>
    have HB := HB1
    clear HB1 HB2
    cases p with
    | true =>
      have HB := Lib.hid (show bearsN [(kk B, ⟨#[]⟩, true)] (kk A, vv X, false) = true from HB.out)
      go_enter Tryd.func7, Tryd.ntmps7
      go_wp2_with fail
      refine HK.out.mono ?_
      rintro e w1 ⟨rfl, k1⟩
      have K1 := Lib.hid k1
      clear k1
      go_wp2_with fail
      obtain ⟨W2, hW2⟩ : ∃ W, (w1.alloc (.cells #[.string ⟨#[103, 112, 117]⟩, .string ⟨#[111, 108, 100]⟩, .string ⟨#[]⟩] 9)).alloc (.cells #[.string ⟨#[121, 101, 115]⟩, .string ⟨#[110, 111]⟩] 9) = W := ⟨_, rfl⟩
      have c1 : W2.cell? ⟨w1.heap.size, A, none⟩ = some (.string (kk A)) := by rw [← hW2]; exact cell_later (kept_alloc _ _) (kk_cell w1 _ A (by omega))
      have c2 : W2.cell? ⟨w1.heap.size, B, none⟩ = some (.string (kk B)) := by rw [← hW2]; exact cell_later (kept_alloc _ _) (kk_cell w1 _ B lb)
      have c3 : W2.cell? ⟨w1.heap.size + 1, X, none⟩ = some (.string (vv X)) := by
        have h := vv_cell (w1.alloc (.cells #[.string ⟨#[103, 112, 117]⟩, .string ⟨#[111, 108, 100]⟩, .string ⟨#[]⟩] 9)) 9 X lx
        rw [World.size_alloc] at h
        rw [← hW2]; exact h
      have c4 : W2.cell? ⟨w1.heap.size + 1, Y, none⟩ = some (.string (vv Y)) := by
        have h := vv_cell (w1.alloc (.cells #[.string ⟨#[103, 112, 117]⟩, .string ⟨#[111, 108, 100]⟩, .string ⟨#[]⟩] 9)) 9 Y ly
        rw [World.size_alloc] at h
        rw [← hW2]; exact h
      have K2 := Lib.hid (show Kept w W2 by rw [← hW2]; exact K1.out.trans (kept_two _ _ _))
      rw [hW2]
      clear hW2
      have z1 := cell_later (kept_alloc W2 (.cells #[.string ⟨#[]⟩, .string ⟨#[]⟩, .bool false] 37)) c1
      have z3 := cell_later (kept_alloc W2 (.cells #[.string ⟨#[]⟩, .string ⟨#[]⟩, .bool false] 37)) c3
      go_region
      clear z1 z3
      obtain ⟨W3, hW3⟩ : ∃ W, (W2.alloc (.cells #[.string (kk A), .string (vv X), .bool false] 37)).drew = W := ⟨_, rfl⟩
      have tn : TriAt W3 W2.heap.size (kk A, vv X, false) := by rw [← hW3]; exact (TriAt.new W2 (kk A) (vv X) false 37).kept (Kept.drewN _ 1)
      have K3 := Lib.hid (show Kept w W3 by rw [← hW3]; exact K2.out.trans ((kept_alloc _ _).trans (Kept.drewN _ 1)))
      have d2 : W3.cell? ⟨w1.heap.size, B, none⟩ = some (.string (kk B)) := by rw [← hW3]; exact cell_later ((kept_alloc _ _).trans (Kept.drewN _ 1)) c2
      have d4 : W3.cell? ⟨w1.heap.size + 1, Y, none⟩ = some (.string (vv Y)) := by rw [← hW3]; exact cell_later ((kept_alloc _ _).trans (Kept.drewN _ 1)) c4
      rw [hW3]
      clear hW3 c1 c2 c3 c4
      have g := tn.kept (kept_two W3 (.cells #[.string (kk B), .string ⟨#[]⟩, .bool true] 64) (.cells #[.string (kk B), .string ⟨#[]⟩, .bool true] 64))
      have g1 := g.1
      have g2 := g.2.1
      have g3 := g.2.2
      dsimp only at g1 g2 g3
      have d5 := cell_later (kept_alloc W3 (.cells #[.string (kk B), .string ⟨#[]⟩, .bool true] 64)) d4
      clear g tn
      go_wp2_with fail
      refine (bearsR (lit_tri_at (W3.alloc (.cells #[.string (kk B), .string ⟨#[]⟩, .bool true] 64)) _ (kk B) ⟨#[]⟩ true _ (kk_size _) (Nat.zero_le _) (World.size_alloc _ _).symm) HB.out).mono ?_
      rintro e w2 ⟨rfl, k⟩
      have g1 := cell_later k g1
      have g2 := cell_later k g2
      have g3 := cell_later k g3
      have K4 := Lib.hid (K3.out.trans ((kept_two W3 (.cells #[.string (kk B), .string ⟨#[]⟩, .bool true] 64) (.cells #[.string (kk B), .string ⟨#[]⟩, .bool true] 64)).trans k))
      clear k
      go_wp2_with fail
      refine (bearsR (l := []) (b := false) (Reads.nil _) rfl).mono ?_
      rintro e w3 ⟨rfl, k⟩
      have K5 := Lib.hid (K4.out.trans k)
      clear k
      go_wp2
      go_ret
      exact ⟨rfl, K5.out⟩
    | false =>
      cases q with
      | true =>
        have HB := Lib.hid (show bearsN [(kk B, ⟨#[]⟩, true)] (kk A, vv X, false) = true from HB.out)
        go_enter Tryd.func7, Tryd.ntmps7
        go_wp2_with fail
        refine HK.out.mono ?_
        rintro e w1 ⟨rfl, k1⟩
        have K1 := Lib.hid k1
        clear k1
        go_wp2_with fail
        obtain ⟨W2, hW2⟩ : ∃ W, (w1.alloc (.cells #[.string ⟨#[103, 112, 117]⟩, .string ⟨#[111, 108, 100]⟩, .string ⟨#[]⟩] 9)).alloc (.cells #[.string ⟨#[121, 101, 115]⟩, .string ⟨#[110, 111]⟩] 9) = W := ⟨_, rfl⟩
        have c1 : W2.cell? ⟨w1.heap.size, A, none⟩ = some (.string (kk A)) := by rw [← hW2]; exact cell_later (kept_alloc _ _) (kk_cell w1 _ A (by omega))
        have c2 : W2.cell? ⟨w1.heap.size, B, none⟩ = some (.string (kk B)) := by rw [← hW2]; exact cell_later (kept_alloc _ _) (kk_cell w1 _ B lb)
        have c3 : W2.cell? ⟨w1.heap.size + 1, X, none⟩ = some (.string (vv X)) := by
          have h := vv_cell (w1.alloc (.cells #[.string ⟨#[103, 112, 117]⟩, .string ⟨#[111, 108, 100]⟩, .string ⟨#[]⟩] 9)) 9 X lx
          rw [World.size_alloc] at h
          rw [← hW2]; exact h
        have c4 : W2.cell? ⟨w1.heap.size + 1, Y, none⟩ = some (.string (vv Y)) := by
          have h := vv_cell (w1.alloc (.cells #[.string ⟨#[103, 112, 117]⟩, .string ⟨#[111, 108, 100]⟩, .string ⟨#[]⟩] 9)) 9 Y ly
          rw [World.size_alloc] at h
          rw [← hW2]; exact h
        have K2 := Lib.hid (show Kept w W2 by rw [← hW2]; exact K1.out.trans (kept_two _ _ _))
        rw [hW2]
        clear hW2
        have z1 := cell_later (kept_alloc W2 (.cells #[.string ⟨#[]⟩, .string ⟨#[]⟩, .bool false] 37)) c1
        have z3 := cell_later (kept_alloc W2 (.cells #[.string ⟨#[]⟩, .string ⟨#[]⟩, .bool false] 37)) c3
        go_region
        clear z1 z3
        obtain ⟨W3, hW3⟩ : ∃ W, (W2.alloc (.cells #[.string (kk A), .string (vv X), .bool false] 37)).drew = W := ⟨_, rfl⟩
        have tn : TriAt W3 W2.heap.size (kk A, vv X, false) := by rw [← hW3]; exact (TriAt.new W2 (kk A) (vv X) false 37).kept (Kept.drewN _ 1)
        have K3 := Lib.hid (show Kept w W3 by rw [← hW3]; exact K2.out.trans ((kept_alloc _ _).trans (Kept.drewN _ 1)))
        have d2 : W3.cell? ⟨w1.heap.size, B, none⟩ = some (.string (kk B)) := by rw [← hW3]; exact cell_later ((kept_alloc _ _).trans (Kept.drewN _ 1)) c2
        have d4 : W3.cell? ⟨w1.heap.size + 1, Y, none⟩ = some (.string (vv Y)) := by rw [← hW3]; exact cell_later ((kept_alloc _ _).trans (Kept.drewN _ 1)) c4
        rw [hW3]
        clear hW3 c1 c2 c3 c4
        have g := tn.kept (kept_two W3 (.cells #[.string (kk B), .string ⟨#[]⟩, .bool true] 64) (.cells #[.string (kk B), .string ⟨#[]⟩, .bool true] 64))
        have g1 := g.1
        have g2 := g.2.1
        have g3 := g.2.2
        dsimp only at g1 g2 g3
        have d5 := cell_later (kept_alloc W3 (.cells #[.string (kk B), .string ⟨#[]⟩, .bool true] 64)) d4
        clear g tn
        go_wp2_with fail
        refine (bearsR (lit_tri_at (W3.alloc (.cells #[.string (kk B), .string ⟨#[]⟩, .bool true] 64)) _ (kk B) ⟨#[]⟩ true _ (kk_size _) (Nat.zero_le _) (World.size_alloc _ _).symm) HB.out).mono ?_
        rintro e w2 ⟨rfl, k⟩
        have g1 := cell_later k g1
        have g2 := cell_later k g2
        have g3 := cell_later k g3
        have K4 := Lib.hid (K3.out.trans ((kept_two W3 (.cells #[.string (kk B), .string ⟨#[]⟩, .bool true] 64) (.cells #[.string (kk B), .string ⟨#[]⟩, .bool true] 64)).trans k))
        clear k
        go_wp2_with fail
        refine (bearsR (l := []) (b := false) (Reads.nil _) rfl).mono ?_
        rintro e w3 ⟨rfl, k⟩
        have K5 := Lib.hid (K4.out.trans k)
        clear k
        go_wp2
        go_ret
        exact ⟨rfl, K5.out⟩
      | false =>
        have HB := Lib.hid (show bearsN [(kk B, ⟨#[]⟩, true)] (kk A, vv X, false) = false from HB.out)
        go_enter Tryd.func7, Tryd.ntmps7
        go_wp2_with fail
        refine HK.out.mono ?_
        rintro e w1 ⟨rfl, k1⟩
        have K1 := Lib.hid k1
        clear k1
        go_wp2_with fail
        obtain ⟨W2, hW2⟩ : ∃ W, (w1.alloc (.cells #[.string ⟨#[103, 112, 117]⟩, .string ⟨#[111, 108, 100]⟩, .string ⟨#[]⟩] 9)).alloc (.cells #[.string ⟨#[121, 101, 115]⟩, .string ⟨#[110, 111]⟩] 9) = W := ⟨_, rfl⟩
        have c1 : W2.cell? ⟨w1.heap.size, A, none⟩ = some (.string (kk A)) := by rw [← hW2]; exact cell_later (kept_alloc _ _) (kk_cell w1 _ A (by omega))
        have c2 : W2.cell? ⟨w1.heap.size, B, none⟩ = some (.string (kk B)) := by rw [← hW2]; exact cell_later (kept_alloc _ _) (kk_cell w1 _ B lb)
        have c3 : W2.cell? ⟨w1.heap.size + 1, X, none⟩ = some (.string (vv X)) := by
          have h := vv_cell (w1.alloc (.cells #[.string ⟨#[103, 112, 117]⟩, .string ⟨#[111, 108, 100]⟩, .string ⟨#[]⟩] 9)) 9 X lx
          rw [World.size_alloc] at h
          rw [← hW2]; exact h
        have c4 : W2.cell? ⟨w1.heap.size + 1, Y, none⟩ = some (.string (vv Y)) := by
          have h := vv_cell (w1.alloc (.cells #[.string ⟨#[103, 112, 117]⟩, .string ⟨#[111, 108, 100]⟩, .string ⟨#[]⟩] 9)) 9 Y ly
          rw [World.size_alloc] at h
          rw [← hW2]; exact h
        have K2 := Lib.hid (show Kept w W2 by rw [← hW2]; exact K1.out.trans (kept_two _ _ _))
        rw [hW2]
        clear hW2
        have z1 := cell_later (kept_alloc W2 (.cells #[.string ⟨#[]⟩, .string ⟨#[]⟩, .bool false] 37)) c1
        have z3 := cell_later (kept_alloc W2 (.cells #[.string ⟨#[]⟩, .string ⟨#[]⟩, .bool false] 37)) c3
        go_region
        clear z1 z3
        obtain ⟨W3, hW3⟩ : ∃ W, (W2.alloc (.cells #[.string (kk A), .string (vv X), .bool false] 37)).drew = W := ⟨_, rfl⟩
        have tn : TriAt W3 W2.heap.size (kk A, vv X, false) := by rw [← hW3]; exact (TriAt.new W2 (kk A) (vv X) false 37).kept (Kept.drewN _ 1)
        have K3 := Lib.hid (show Kept w W3 by rw [← hW3]; exact K2.out.trans ((kept_alloc _ _).trans (Kept.drewN _ 1)))
        have d2 : W3.cell? ⟨w1.heap.size, B, none⟩ = some (.string (kk B)) := by rw [← hW3]; exact cell_later ((kept_alloc _ _).trans (Kept.drewN _ 1)) c2
        have d4 : W3.cell? ⟨w1.heap.size + 1, Y, none⟩ = some (.string (vv Y)) := by rw [← hW3]; exact cell_later ((kept_alloc _ _).trans (Kept.drewN _ 1)) c4
        rw [hW3]
        clear hW3 c1 c2 c3 c4
        have g := tn.kept (kept_two W3 (.cells #[.string (kk B), .string ⟨#[]⟩, .bool true] 64) (.cells #[.string (kk B), .string ⟨#[]⟩, .bool true] 64))
        have g1 := g.1
        have g2 := g.2.1
        have g3 := g.2.2
        dsimp only at g1 g2 g3
        have d5 := cell_later (kept_alloc W3 (.cells #[.string (kk B), .string ⟨#[]⟩, .bool true] 64)) d4
        clear g tn
        go_wp2_with fail
        refine (bearsR (lit_tri_at (W3.alloc (.cells #[.string (kk B), .string ⟨#[]⟩, .bool true] 64)) _ (kk B) ⟨#[]⟩ true _ (kk_size _) (Nat.zero_le _) (World.size_alloc _ _).symm) HB.out).mono ?_
        rintro e w2 ⟨rfl, k⟩
        have g1 := cell_later k g1
        have g2 := cell_later k g2
        have g3 := cell_later k g3
        have K4 := Lib.hid (K3.out.trans ((kept_two W3 (.cells #[.string (kk B), .string ⟨#[]⟩, .bool true] 64) (.cells #[.string (kk B), .string ⟨#[]⟩, .bool true] 64)).trans k))
        clear k
        go_wp2_with fail
        refine (bearsR (l := []) (b := false) (Reads.nil _) rfl).mono ?_
        rintro e w3 ⟨rfl, k⟩
        have K5 := Lib.hid (K4.out.trans k)
        clear k
        go_wp2
        go_ret
        exact ⟨rfl, K5.out⟩
  | false =>
    have HB := HB2
    clear HB1 HB2
    cases p with
    | true =>
      cases r with
      | true =>
        have HB := Lib.hid (show bearsN [(kk B, (vv Y), false)] (kk A, vv X, false) = true from HB.out)
        go_enter Tryd.func7, Tryd.ntmps7
        go_wp2_with fail
        refine HK.out.mono ?_
        rintro e w1 ⟨rfl, k1⟩
        have K1 := Lib.hid k1
        clear k1
        go_wp2_with fail
        obtain ⟨W2, hW2⟩ : ∃ W, (w1.alloc (.cells #[.string ⟨#[103, 112, 117]⟩, .string ⟨#[111, 108, 100]⟩, .string ⟨#[]⟩] 9)).alloc (.cells #[.string ⟨#[121, 101, 115]⟩, .string ⟨#[110, 111]⟩] 9) = W := ⟨_, rfl⟩
        have c1 : W2.cell? ⟨w1.heap.size, A, none⟩ = some (.string (kk A)) := by rw [← hW2]; exact cell_later (kept_alloc _ _) (kk_cell w1 _ A (by omega))
        have c2 : W2.cell? ⟨w1.heap.size, B, none⟩ = some (.string (kk B)) := by rw [← hW2]; exact cell_later (kept_alloc _ _) (kk_cell w1 _ B lb)
        have c3 : W2.cell? ⟨w1.heap.size + 1, X, none⟩ = some (.string (vv X)) := by
          have h := vv_cell (w1.alloc (.cells #[.string ⟨#[103, 112, 117]⟩, .string ⟨#[111, 108, 100]⟩, .string ⟨#[]⟩] 9)) 9 X lx
          rw [World.size_alloc] at h
          rw [← hW2]; exact h
        have c4 : W2.cell? ⟨w1.heap.size + 1, Y, none⟩ = some (.string (vv Y)) := by
          have h := vv_cell (w1.alloc (.cells #[.string ⟨#[103, 112, 117]⟩, .string ⟨#[111, 108, 100]⟩, .string ⟨#[]⟩] 9)) 9 Y ly
          rw [World.size_alloc] at h
          rw [← hW2]; exact h
        have K2 := Lib.hid (show Kept w W2 by rw [← hW2]; exact K1.out.trans (kept_two _ _ _))
        rw [hW2]
        clear hW2
        have z1 := cell_later (kept_alloc W2 (.cells #[.string ⟨#[]⟩, .string ⟨#[]⟩, .bool false] 37)) c1
        have z3 := cell_later (kept_alloc W2 (.cells #[.string ⟨#[]⟩, .string ⟨#[]⟩, .bool false] 37)) c3
        go_region
        clear z1 z3
        obtain ⟨W3, hW3⟩ : ∃ W, (W2.alloc (.cells #[.string (kk A), .string (vv X), .bool false] 37)).drew = W := ⟨_, rfl⟩
        have tn : TriAt W3 W2.heap.size (kk A, vv X, false) := by rw [← hW3]; exact (TriAt.new W2 (kk A) (vv X) false 37).kept (Kept.drewN _ 1)
        have K3 := Lib.hid (show Kept w W3 by rw [← hW3]; exact K2.out.trans ((kept_alloc _ _).trans (Kept.drewN _ 1)))
        have d2 : W3.cell? ⟨w1.heap.size, B, none⟩ = some (.string (kk B)) := by rw [← hW3]; exact cell_later ((kept_alloc _ _).trans (Kept.drewN _ 1)) c2
        have d4 : W3.cell? ⟨w1.heap.size + 1, Y, none⟩ = some (.string (vv Y)) := by rw [← hW3]; exact cell_later ((kept_alloc _ _).trans (Kept.drewN _ 1)) c4
        rw [hW3]
        clear hW3 c1 c2 c3 c4
        have g := tn.kept (kept_two W3 (.cells #[.string (kk B), .string (vv Y), .bool false] 64) (.cells #[.string (kk B), .string (vv Y), .bool false] 64))
        have g1 := g.1
        have g2 := g.2.1
        have g3 := g.2.2
        dsimp only at g1 g2 g3
        have d5 := cell_later (kept_alloc W3 (.cells #[.string (kk B), .string ⟨#[]⟩, .bool false] 64)) d4
        clear g tn
        go_wp2_with fail
        refine (bearsR (lit_tri_at (W3.alloc (.cells #[.string (kk B), .string (vv Y), .bool false] 64)) _ (kk B) (vv Y) false _ (kk_size _) (vv_size _) (World.size_alloc _ _).symm) HB.out).mono ?_
        rintro e w2 ⟨rfl, k⟩
        have g1 := cell_later k g1
        have g2 := cell_later k g2
        have g3 := cell_later k g3
        have K4 := Lib.hid (K3.out.trans ((kept_two W3 (.cells #[.string (kk B), .string (vv Y), .bool false] 64) (.cells #[.string (kk B), .string (vv Y), .bool false] 64)).trans k))
        clear k
        go_wp2_with fail
        refine (bearsR (l := []) (b := false) (Reads.nil _) rfl).mono ?_
        rintro e w3 ⟨rfl, k⟩
        have K5 := Lib.hid (K4.out.trans k)
        clear k
        go_wp2
        go_ret
        exact ⟨rfl, K5.out⟩
      | false =>
        have HB := Lib.hid (show bearsN [(kk B, (vv Y), false)] (kk A, vv X, false) = false from HB.out)
        go_enter Tryd.func7, Tryd.ntmps7
        go_wp2_with fail
        refine HK.out.mono ?_
        rintro e w1 ⟨rfl, k1⟩
        have K1 := Lib.hid k1
        clear k1
        go_wp2_with fail
        obtain ⟨W2, hW2⟩ : ∃ W, (w1.alloc (.cells #[.string ⟨#[103, 112, 117]⟩, .string ⟨#[111, 108, 100]⟩, .string ⟨#[]⟩] 9)).alloc (.cells #[.string ⟨#[121, 101, 115]⟩, .string ⟨#[110, 111]⟩] 9) = W := ⟨_, rfl⟩
        have c1 : W2.cell? ⟨w1.heap.size, A, none⟩ = some (.string (kk A)) := by rw [← hW2]; exact cell_later (kept_alloc _ _) (kk_cell w1 _ A (by omega))
        have c2 : W2.cell? ⟨w1.heap.size, B, none⟩ = some (.string (kk B)) := by rw [← hW2]; exact cell_later (kept_alloc _ _) (kk_cell w1 _ B lb)
        have c3 : W2.cell? ⟨w1.heap.size + 1, X, none⟩ = some (.string (vv X)) := by
          have h := vv_cell (w1.alloc (.cells #[.string ⟨#[103, 112, 117]⟩, .string ⟨#[111, 108, 100]⟩, .string ⟨#[]⟩] 9)) 9 X lx
          rw [World.size_alloc] at h
          rw [← hW2]; exact h
        have c4 : W2.cell? ⟨w1.heap.size + 1, Y, none⟩ = some (.string (vv Y)) := by
          have h := vv_cell (w1.alloc (.cells #[.string ⟨#[103, 112, 117]⟩, .string ⟨#[111, 108, 100]⟩, .string ⟨#[]⟩] 9)) 9 Y ly
          rw [World.size_alloc] at h
          rw [← hW2]; exact h
        have K2 := Lib.hid (show Kept w W2 by rw [← hW2]; exact K1.out.trans (kept_two _ _ _))
        rw [hW2]
        clear hW2
        have z1 := cell_later (kept_alloc W2 (.cells #[.string ⟨#[]⟩, .string ⟨#[]⟩, .bool false] 37)) c1
        have z3 := cell_later (kept_alloc W2 (.cells #[.string ⟨#[]⟩, .string ⟨#[]⟩, .bool false] 37)) c3
        go_region
        clear z1 z3
        obtain ⟨W3, hW3⟩ : ∃ W, (W2.alloc (.cells #[.string (kk A), .string (vv X), .bool false] 37)).drew = W := ⟨_, rfl⟩
        have tn : TriAt W3 W2.heap.size (kk A, vv X, false) := by rw [← hW3]; exact (TriAt.new W2 (kk A) (vv X) false 37).kept (Kept.drewN _ 1)
        have K3 := Lib.hid (show Kept w W3 by rw [← hW3]; exact K2.out.trans ((kept_alloc _ _).trans (Kept.drewN _ 1)))
        have d2 : W3.cell? ⟨w1.heap.size, B, none⟩ = some (.string (kk B)) := by rw [← hW3]; exact cell_later ((kept_alloc _ _).trans (Kept.drewN _ 1)) c2
        have d4 : W3.cell? ⟨w1.heap.size + 1, Y, none⟩ = some (.string (vv Y)) := by rw [← hW3]; exact cell_later ((kept_alloc _ _).trans (Kept.drewN _ 1)) c4
        rw [hW3]
        clear hW3 c1 c2 c3 c4
        have g := tn.kept (kept_two W3 (.cells #[.string (kk B), .string (vv Y), .bool false] 64) (.cells #[.string (kk B), .string (vv Y), .bool false] 64))
        have g1 := g.1
        have g2 := g.2.1
        have g3 := g.2.2
        dsimp only at g1 g2 g3
        have d5 := cell_later (kept_alloc W3 (.cells #[.string (kk B), .string ⟨#[]⟩, .bool false] 64)) d4
        clear g tn
        go_wp2_with fail
        refine (bearsR (lit_tri_at (W3.alloc (.cells #[.string (kk B), .string (vv Y), .bool false] 64)) _ (kk B) (vv Y) false _ (kk_size _) (vv_size _) (World.size_alloc _ _).symm) HB.out).mono ?_
        rintro e w2 ⟨rfl, k⟩
        have g1 := cell_later k g1
        have g2 := cell_later k g2
        have g3 := cell_later k g3
        have K4 := Lib.hid (K3.out.trans ((kept_two W3 (.cells #[.string (kk B), .string (vv Y), .bool false] 64) (.cells #[.string (kk B), .string (vv Y), .bool false] 64)).trans k))
        clear k
        go_wp2_with fail
        refine (bearsR (l := []) (b := false) (Reads.nil _) rfl).mono ?_
        rintro e w3 ⟨rfl, k⟩
        have K5 := Lib.hid (K4.out.trans k)
        clear k
        go_wp2
        go_ret
        exact ⟨rfl, K5.out⟩
    | false =>
      cases q with
      | true =>
        cases r with
        | true =>
          have HB := Lib.hid (show bearsN [(kk B, (vv Y), false)] (kk A, vv X, false) = true from HB.out)
          go_enter Tryd.func7, Tryd.ntmps7
          go_wp2_with fail
          refine HK.out.mono ?_
          rintro e w1 ⟨rfl, k1⟩
          have K1 := Lib.hid k1
          clear k1
          go_wp2_with fail
          obtain ⟨W2, hW2⟩ : ∃ W, (w1.alloc (.cells #[.string ⟨#[103, 112, 117]⟩, .string ⟨#[111, 108, 100]⟩, .string ⟨#[]⟩] 9)).alloc (.cells #[.string ⟨#[121, 101, 115]⟩, .string ⟨#[110, 111]⟩] 9) = W := ⟨_, rfl⟩
          have c1 : W2.cell? ⟨w1.heap.size, A, none⟩ = some (.string (kk A)) := by rw [← hW2]; exact cell_later (kept_alloc _ _) (kk_cell w1 _ A (by omega))
          have c2 : W2.cell? ⟨w1.heap.size, B, none⟩ = some (.string (kk B)) := by rw [← hW2]; exact cell_later (kept_alloc _ _) (kk_cell w1 _ B lb)
          have c3 : W2.cell? ⟨w1.heap.size + 1, X, none⟩ = some (.string (vv X)) := by
            have h := vv_cell (w1.alloc (.cells #[.string ⟨#[103, 112, 117]⟩, .string ⟨#[111, 108, 100]⟩, .string ⟨#[]⟩] 9)) 9 X lx
            rw [World.size_alloc] at h
            rw [← hW2]; exact h
          have c4 : W2.cell? ⟨w1.heap.size + 1, Y, none⟩ = some (.string (vv Y)) := by
            have h := vv_cell (w1.alloc (.cells #[.string ⟨#[103, 112, 117]⟩, .string ⟨#[111, 108, 100]⟩, .string ⟨#[]⟩] 9)) 9 Y ly
            rw [World.size_alloc] at h
            rw [← hW2]; exact h
          have K2 := Lib.hid (show Kept w W2 by rw [← hW2]; exact K1.out.trans (kept_two _ _ _))
          rw [hW2]
          clear hW2
          have z1 := cell_later (kept_alloc W2 (.cells #[.string ⟨#[]⟩, .string ⟨#[]⟩, .bool false] 37)) c1
          have z3 := cell_later (kept_alloc W2 (.cells #[.string ⟨#[]⟩, .string ⟨#[]⟩, .bool false] 37)) c3
          go_region
          clear z1 z3
          obtain ⟨W3, hW3⟩ : ∃ W, (W2.alloc (.cells #[.string (kk A), .string (vv X), .bool false] 37)).drew = W := ⟨_, rfl⟩
          have tn : TriAt W3 W2.heap.size (kk A, vv X, false) := by rw [← hW3]; exact (TriAt.new W2 (kk A) (vv X) false 37).kept (Kept.drewN _ 1)
          have K3 := Lib.hid (show Kept w W3 by rw [← hW3]; exact K2.out.trans ((kept_alloc _ _).trans (Kept.drewN _ 1)))
          have d2 : W3.cell? ⟨w1.heap.size, B, none⟩ = some (.string (kk B)) := by rw [← hW3]; exact cell_later ((kept_alloc _ _).trans (Kept.drewN _ 1)) c2
          have d4 : W3.cell? ⟨w1.heap.size + 1, Y, none⟩ = some (.string (vv Y)) := by rw [← hW3]; exact cell_later ((kept_alloc _ _).trans (Kept.drewN _ 1)) c4
          rw [hW3]
          clear hW3 c1 c2 c3 c4
          have g := tn.kept (kept_two W3 (.cells #[.string (kk B), .string (vv Y), .bool false] 64) (.cells #[.string (kk B), .string (vv Y), .bool false] 64))
          have g1 := g.1
          have g2 := g.2.1
          have g3 := g.2.2
          dsimp only at g1 g2 g3
          have d5 := cell_later (kept_alloc W3 (.cells #[.string (kk B), .string ⟨#[]⟩, .bool false] 64)) d4
          clear g tn
          go_wp2_with fail
          refine (bearsR (lit_tri_at (W3.alloc (.cells #[.string (kk B), .string (vv Y), .bool false] 64)) _ (kk B) (vv Y) false _ (kk_size _) (vv_size _) (World.size_alloc _ _).symm) HB.out).mono ?_
          rintro e w2 ⟨rfl, k⟩
          have g1 := cell_later k g1
          have g2 := cell_later k g2
          have g3 := cell_later k g3
          have K4 := Lib.hid (K3.out.trans ((kept_two W3 (.cells #[.string (kk B), .string (vv Y), .bool false] 64) (.cells #[.string (kk B), .string (vv Y), .bool false] 64)).trans k))
          clear k
          go_wp2_with fail
          refine (bearsR (l := []) (b := false) (Reads.nil _) rfl).mono ?_
          rintro e w3 ⟨rfl, k⟩
          have K5 := Lib.hid (K4.out.trans k)
          clear k
          go_wp2
          go_ret
          exact ⟨rfl, K5.out⟩
        | false =>
          have HB := Lib.hid (show bearsN [(kk B, (vv Y), false)] (kk A, vv X, false) = false from HB.out)
          go_enter Tryd.func7, Tryd.ntmps7
          go_wp2_with fail
          refine HK.out.mono ?_
          rintro e w1 ⟨rfl, k1⟩
          have K1 := Lib.hid k1
          clear k1
          go_wp2_with fail
          obtain ⟨W2, hW2⟩ : ∃ W, (w1.alloc (.cells #[.string ⟨#[103, 112, 117]⟩, .string ⟨#[111, 108, 100]⟩, .string ⟨#[]⟩] 9)).alloc (.cells #[.string ⟨#[121, 101, 115]⟩, .string ⟨#[110, 111]⟩] 9) = W := ⟨_, rfl⟩
          have c1 : W2.cell? ⟨w1.heap.size, A, none⟩ = some (.string (kk A)) := by rw [← hW2]; exact cell_later (kept_alloc _ _) (kk_cell w1 _ A (by omega))
          have c2 : W2.cell? ⟨w1.heap.size, B, none⟩ = some (.string (kk B)) := by rw [← hW2]; exact cell_later (kept_alloc _ _) (kk_cell w1 _ B lb)
          have c3 : W2.cell? ⟨w1.heap.size + 1, X, none⟩ = some (.string (vv X)) := by
            have h := vv_cell (w1.alloc (.cells #[.string ⟨#[103, 112, 117]⟩, .string ⟨#[111, 108, 100]⟩, .string ⟨#[]⟩] 9)) 9 X lx
            rw [World.size_alloc] at h
            rw [← hW2]; exact h
          have c4 : W2.cell? ⟨w1.heap.size + 1, Y, none⟩ = some (.string (vv Y)) := by
            have h := vv_cell (w1.alloc (.cells #[.string ⟨#[103, 112, 117]⟩, .string ⟨#[111, 108, 100]⟩, .string ⟨#[]⟩] 9)) 9 Y ly
            rw [World.size_alloc] at h
            rw [← hW2]; exact h
          have K2 := Lib.hid (show Kept w W2 by rw [← hW2]; exact K1.out.trans (kept_two _ _ _))
          rw [hW2]
          clear hW2
          have z1 := cell_later (kept_alloc W2 (.cells #[.string ⟨#[]⟩, .string ⟨#[]⟩, .bool false] 37)) c1
          have z3 := cell_later (kept_alloc W2 (.cells #[.string ⟨#[]⟩, .string ⟨#[]⟩, .bool false] 37)) c3
          go_region
          clear z1 z3
          obtain ⟨W3, hW3⟩ : ∃ W, (W2.alloc (.cells #[.string (kk A), .string (vv X), .bool false] 37)).drew = W := ⟨_, rfl⟩
          have tn : TriAt W3 W2.heap.size (kk A, vv X, false) := by rw [← hW3]; exact (TriAt.new W2 (kk A) (vv X) false 37).kept (Kept.drewN _ 1)
          have K3 := Lib.hid (show Kept w W3 by rw [← hW3]; exact K2.out.trans ((kept_alloc _ _).trans (Kept.drewN _ 1)))
          have d2 : W3.cell? ⟨w1.heap.size, B, none⟩ = some (.string (kk B)) := by rw [← hW3]; exact cell_later ((kept_alloc _ _).trans (Kept.drewN _ 1)) c2
          have d4 : W3.cell? ⟨w1.heap.size + 1, Y, none⟩ = some (.string (vv Y)) := by rw [← hW3]; exact cell_later ((kept_alloc _ _).trans (Kept.drewN _ 1)) c4
          rw [hW3]
          clear hW3 c1 c2 c3 c4
          have g := tn.kept (kept_two W3 (.cells #[.string (kk B), .string (vv Y), .bool false] 64) (.cells #[.string (kk B), .string (vv Y), .bool false] 64))
          have g1 := g.1
          have g2 := g.2.1
          have g3 := g.2.2
          dsimp only at g1 g2 g3
          have d5 := cell_later (kept_alloc W3 (.cells #[.string (kk B), .string ⟨#[]⟩, .bool false] 64)) d4
          clear g tn
          go_wp2_with fail
          refine (bearsR (lit_tri_at (W3.alloc (.cells #[.string (kk B), .string (vv Y), .bool false] 64)) _ (kk B) (vv Y) false _ (kk_size _) (vv_size _) (World.size_alloc _ _).symm) HB.out).mono ?_
          rintro e w2 ⟨rfl, k⟩
          have g1 := cell_later k g1
          have g2 := cell_later k g2
          have g3 := cell_later k g3
          have K4 := Lib.hid (K3.out.trans ((kept_two W3 (.cells #[.string (kk B), .string (vv Y), .bool false] 64) (.cells #[.string (kk B), .string (vv Y), .bool false] 64)).trans k))
          clear k
          go_wp2_with fail
          refine (bearsR (l := []) (b := false) (Reads.nil _) rfl).mono ?_
          rintro e w3 ⟨rfl, k⟩
          have K5 := Lib.hid (K4.out.trans k)
          clear k
          go_wp2
          go_ret
          exact ⟨rfl, K5.out⟩
      | false =>
        have HB := Lib.hid (show bearsN [(kk B, (vv Y), false)] (kk A, vv X, false) = false from HB.out)
        go_enter Tryd.func7, Tryd.ntmps7
        go_wp2_with fail
        refine HK.out.mono ?_
        rintro e w1 ⟨rfl, k1⟩
        have K1 := Lib.hid k1
        clear k1
        go_wp2_with fail
        obtain ⟨W2, hW2⟩ : ∃ W, (w1.alloc (.cells #[.string ⟨#[103, 112, 117]⟩, .string ⟨#[111, 108, 100]⟩, .string ⟨#[]⟩] 9)).alloc (.cells #[.string ⟨#[121, 101, 115]⟩, .string ⟨#[110, 111]⟩] 9) = W := ⟨_, rfl⟩
        have c1 : W2.cell? ⟨w1.heap.size, A, none⟩ = some (.string (kk A)) := by rw [← hW2]; exact cell_later (kept_alloc _ _) (kk_cell w1 _ A (by omega))
        have c2 : W2.cell? ⟨w1.heap.size, B, none⟩ = some (.string (kk B)) := by rw [← hW2]; exact cell_later (kept_alloc _ _) (kk_cell w1 _ B lb)
        have c3 : W2.cell? ⟨w1.heap.size + 1, X, none⟩ = some (.string (vv X)) := by
          have h := vv_cell (w1.alloc (.cells #[.string ⟨#[103, 112, 117]⟩, .string ⟨#[111, 108, 100]⟩, .string ⟨#[]⟩] 9)) 9 X lx
          rw [World.size_alloc] at h
          rw [← hW2]; exact h
        have c4 : W2.cell? ⟨w1.heap.size + 1, Y, none⟩ = some (.string (vv Y)) := by
          have h := vv_cell (w1.alloc (.cells #[.string ⟨#[103, 112, 117]⟩, .string ⟨#[111, 108, 100]⟩, .string ⟨#[]⟩] 9)) 9 Y ly
          rw [World.size_alloc] at h
          rw [← hW2]; exact h
        have K2 := Lib.hid (show Kept w W2 by rw [← hW2]; exact K1.out.trans (kept_two _ _ _))
        rw [hW2]
        clear hW2
        have z1 := cell_later (kept_alloc W2 (.cells #[.string ⟨#[]⟩, .string ⟨#[]⟩, .bool false] 37)) c1
        have z3 := cell_later (kept_alloc W2 (.cells #[.string ⟨#[]⟩, .string ⟨#[]⟩, .bool false] 37)) c3
        go_region
        clear z1 z3
        obtain ⟨W3, hW3⟩ : ∃ W, (W2.alloc (.cells #[.string (kk A), .string (vv X), .bool false] 37)).drew = W := ⟨_, rfl⟩
        have tn : TriAt W3 W2.heap.size (kk A, vv X, false) := by rw [← hW3]; exact (TriAt.new W2 (kk A) (vv X) false 37).kept (Kept.drewN _ 1)
        have K3 := Lib.hid (show Kept w W3 by rw [← hW3]; exact K2.out.trans ((kept_alloc _ _).trans (Kept.drewN _ 1)))
        have d2 : W3.cell? ⟨w1.heap.size, B, none⟩ = some (.string (kk B)) := by rw [← hW3]; exact cell_later ((kept_alloc _ _).trans (Kept.drewN _ 1)) c2
        have d4 : W3.cell? ⟨w1.heap.size + 1, Y, none⟩ = some (.string (vv Y)) := by rw [← hW3]; exact cell_later ((kept_alloc _ _).trans (Kept.drewN _ 1)) c4
        rw [hW3]
        clear hW3 c1 c2 c3 c4
        have g := tn.kept (kept_two W3 (.cells #[.string (kk B), .string (vv Y), .bool false] 64) (.cells #[.string (kk B), .string (vv Y), .bool false] 64))
        have g1 := g.1
        have g2 := g.2.1
        have g3 := g.2.2
        dsimp only at g1 g2 g3
        have d5 := cell_later (kept_alloc W3 (.cells #[.string (kk B), .string ⟨#[]⟩, .bool false] 64)) d4
        clear g tn
        go_wp2_with fail
        refine (bearsR (lit_tri_at (W3.alloc (.cells #[.string (kk B), .string (vv Y), .bool false] 64)) _ (kk B) (vv Y) false _ (kk_size _) (vv_size _) (World.size_alloc _ _).symm) HB.out).mono ?_
        rintro e w2 ⟨rfl, k⟩
        have g1 := cell_later k g1
        have g2 := cell_later k g2
        have g3 := cell_later k g3
        have K4 := Lib.hid (K3.out.trans ((kept_two W3 (.cells #[.string (kk B), .string (vv Y), .bool false] 64) (.cells #[.string (kk B), .string (vv Y), .bool false] 64)).trans k))
        clear k
        go_wp2_with fail
        refine (bearsR (l := []) (b := false) (Reads.nil _) rfl).mono ?_
        rintro e w3 ⟨rfl, k⟩
        have K5 := Lib.hid (K4.out.trans k)
        clear k
        go_wp2
        go_ret
        exact ⟨rfl, K5.out⟩

theorem TaintEach_walk (n0 n1 n2 n3 : Int) (any : Bool) (w : World) (hE : Env w) (h0 : (Lit.int .u8 n0).wf = true) (h1 : (Lit.int .u8 n1).wf = true) (h2 : (Lit.int .u8 n2).wf = true) (h3 : (Lit.int .u8 n3).wf = true) :
    Calls Tryd.prog 7 #[.int .u8 n0, .int .u8 n1, .int .u8 n2, .int .u8 n3, .bool any] w fun e w' => e = .returned (.bool true) ∧ Kept w w' := by
  have b0 := bounds_u8 h0
  have b1 := bounds_u8 h1
  have b2 := bounds_u8 h2
  have b3 := bounds_u8 h3
  obtain ⟨a, rfl⟩ : ∃ a : Nat, n0 = a := ⟨n0.toNat, by omega⟩
  obtain ⟨b, rfl⟩ : ∃ a : Nat, n1 = a := ⟨n1.toNat, by omega⟩
  obtain ⟨x, rfl⟩ : ∃ a : Nat, n2 = a := ⟨n2.toNat, by omega⟩
  obtain ⟨y, rfl⟩ : ∃ a : Nat, n3 = a := ⟨n3.toNat, by omega⟩
  exact TaintEach_nat a b x y any w hE (by omega) (by omega) (by omega) (by omega)

end Go.Proofs.YthlhaefaafjmlaaDoor
