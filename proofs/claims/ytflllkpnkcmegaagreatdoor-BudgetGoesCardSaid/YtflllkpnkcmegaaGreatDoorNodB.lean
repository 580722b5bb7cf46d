/- Package by package: contracts of the functions that the laws call. -/
import Derived.Test.YtflllkpnkcmegaaGreatDoorNodParsed
import Derived.Recover
import Derived.Defers
import Derived.Laws.Pointers
import Derived.Test.YtflllkpnkcmegaaGreatDoorBase
import Derived.Lib.SliceRun
import Derived.Deep.RegionHeld3
import Derived.Test.YtflllkpnkcmegaaGreatDoorNodA

/- A node's text read: the closure, the recovery, the face. -/
namespace Go.Proofs.YtflllkpnkcmegaaGreatDoor
open Go.RowKit
set_option linter.unusedVariables false

theorem NodRB.less {B B' : Nat} {w : World} {v : Value} {n : Nod} (h : NodRB B w v n) (hb : B' ≤ B) : NodRB B' w v n := by
  obtain ⟨a1, m1, c1, a2, m2, c2, a3, m3, c3, e, h0, h1, h2, h3, g1, g2, g3⟩ := h
  exact ⟨a1, m1, c1, a2, m2, c2, a3, m3, c3, e, h0, h1, h2, h3, fun b o s e => Nat.le_trans hb (g1 b o s e), fun b o s e => Nat.le_trans hb (g2 b o s e), fun b o s e => Nat.le_trans hb (g3 b o s e)⟩
theorem NodRB.far {B : Nat} {w w' : World} {v : Value} {n : Nod} (h : NodRB B w v n) (hs : w'.heap.size = w.heap.size) (hb : ∀ b, B ≤ b → w'.heap[b]? = w.heap[b]?) : NodRB B w' v n := by
  obtain ⟨a1, m1, c1, a2, m2, c2, a3, m3, c3, e, h0, h1, h2, h3, g1, g2, g3⟩ := h
  exact ⟨a1, m1, c1, a2, m2, c2, a3, m3, c3, e, h0, h1.far hs (fun b o s e => hb b (g1 b o s e)), h2.far hs (fun b o s e => hb b (g2 b o s e)), h3.far hs (fun b o s e => hb b (g3 b o s e)), g1, g2, g3⟩
theorem NodRB.kept {B : Nat} {w w' : World} {v : Value} {n : Nod} (h : NodRB B w v n) (k : Kept w w') : NodRB B w' v n := by
  obtain ⟨a1, m1, c1, a2, m2, c2, a3, m3, c3, e, h0, h1, h2, h3, g1, g2, g3⟩ := h
  exact ⟨a1, m1, c1, a2, m2, c2, a3, m3, c3, e, h0, h1.kept k, h2.kept k, h3.kept k, g1, g2, g3⟩
end Go.Proofs.YtflllkpnkcmegaaGreatDoor

/- slices.Clone at amounts, pairs, taints; a node with rows of its own; Find. -/
namespace Go.Proofs.YtflllkpnkcmegaaGreatDoor
open Go.RowKit
set_option linter.unusedVariables false

theorem kindP : Kind 25 87 2 32 := by
  obtain ⟨i, hi, hz, h1, h2⟩ := info_parts (show (Tryz.prog.info? 87).map (fun i => (i.zero, i.size, i.bytes)) = some (some (.agg #[.string ByteArray.empty, .string ByteArray.empty]), 2, 32) by kernel_rfl)
  exact ⟨i, _, Tryz.underlying25, hi, hz, h1, h2, rfl, by decide⟩
theorem kindV : Kind 23 155 2 24 := by
  obtain ⟨i, hi, hz, h1, h2⟩ := info_parts (show (Tryz.prog.info? 155).map (fun i => (i.zero, i.size, i.bytes)) = some (some (.agg #[.string ByteArray.empty, .int .i64 0]), 2, 24) by kernel_rfl)
  exact ⟨i, _, Tryz.underlying23, hi, hz, h1, h2, rfl, by decide⟩
theorem vec_cells_from : ∀ (l : Vec.V) (j : Nat) (u : Value), (Vec.cellsOf l)[j]? = some u → ∃ i, i < l.length ∧ ((j = i * 2 ∧ u = .string (Vec.nm l i)) ∨ (j = i * 2 + 1 ∧ u = .int .i64 (Vec.qn l i))) := by
  intro l j u h
  have hlt : j < l.length * 2 := by have := (List.getElem?_eq_some_iff.1 h).1; rw [Vec.cellsOf_length] at this; exact this
  have hi : j / 2 < l.length := by omega
  obtain ⟨h1, h2⟩ := Vec.cellsOf_at l (j / 2) hi
  refine ⟨j / 2, hi, ?_⟩
  by_cases he : j % 2 = 0
  · have e : j = j / 2 * 2 := by omega
    rw [← e] at h1
    rw [h1] at h
    exact .inl ⟨e, by cases h; rfl⟩
  · have e : j = j / 2 * 2 + 1 := by omega
    rw [← e] at h2
    rw [h2] at h
    exact .inr ⟨e, by cases h; rfl⟩
theorem vec_src {w : World} {a : Option Addr} {len cap : Nat} {l : Vec.V} (h : Vec.VecAt w a len l) : AppSrc w (.slice a len cap) len (Vec.cellsOf l) := by
  obtain ⟨h0, h1, h2, h3⟩ := h
  rcases h3 with h3 | ⟨b, off, rfl, hb, hc⟩
  · have hl : l = [] := List.eq_nil_of_length_eq_zero (by omega)
    subst hl
    subst h3
    cases a with
    | none => exact .inr ⟨cap, rfl, rfl⟩
    | some ad => exact .inl ⟨ad, cap, rfl, fun j u hu => by simp [Vec.cellsOf] at hu⟩
  · refine .inl ⟨_, cap, rfl, fun j u hu => ?_⟩
    obtain ⟨i, hi, hj⟩ := vec_cells_from l j u hu
    obtain ⟨c1, c2⟩ := hc i (by omega)
    have e : (⟨b, off, none⟩ : Addr).add j = ⟨b, off + j, none⟩ := by
      unfold Addr.add
      split <;> simp_all
    rw [e]
    rcases hj with ⟨rfl, rfl⟩ | ⟨rfl, rfl⟩
    · exact c1
    · rw [← Nat.add_assoc]; exact c2

set_option maxRecDepth 100000 in
theorem cloneP_any (a : Option Addr) (len cap : Nat) (l : PL) (w : World) (hr : RowAt PairLay w a len l) (hc : len ≤ cap) (hm : cap ≤ maxLen) (hn : len ≤ 1000000) :
    Calls Tryz.prog 145 #[.slice a len cap] w fun e w' => ∃ a' m' c', e = .returned (.slice a' m' c') ∧ Reads PairLay w' (.slice a' m' c') l ∧ (∀ b off sp, a' = some ⟨b, off, sp⟩ → w.heap.size ≤ b) ∧ Kept w w' := by
  have hl := hr.1
  have q22 : ∀ (w : World) (a : Option Addr) (n c n' c' : Nat), (binOp .eql 25 (.slice a n c) (.slice none n' c')).run Tryz.prog w = .ok (.bool a.isNone) w := fun w a n c n' c' => Lib.run_eql_slice_nil w _ _ a n c n' c' Tryz.underlying25
  cases a with
  | none =>
    have h0 : len = 0 := by
      rcases hr.form with h | ⟨b, off, h⟩
      · exact h
      · cases h
    subst h0
    have hl0 : l = [] := List.eq_nil_of_length_eq_zero hl
    subst hl0
    clear hr hl
    go_enter Tryz.func145, Tryz.ntmps145
    go_wp2
    go_ret
    exact ⟨none, 0, 0, rfl, Reads.nil _, (fun b o s e => by cases e), Kept.refl _⟩
  | some ad =>
    have HR := Lib.hid hr
    have HL := Lib.hid hl
    have hrl : (rowCells PairLay l).length = len * 2 := by rw [rowCells_length, hl]; rfl
    have hb1 : 0 + len ≤ maxLen := by unfold maxLen; omega
    have hb2 : ((0 + len) + (0 + len) / 4 + 192) * 32 ≤ 281474976710656 := by omega
    clear hr hl
    go_enter Tryz.func145, Tryz.ntmps145
    go_wp2_with (at_builtin; refine wpList_app_own kindP _ rfl (.tmp 5) (.tmp 6) rfl w.heap.size (by simp) w.heap.size 0 0 [] rfl (own_empty w w.heap.size 2 _ (Nat.le_refl _)) _ len (rowCells PairLay l) rfl hrl (rowCells_one _ _) (RowAt.src (HR.out.kept (kept_alloc _ _))) hb1 hb2 ?_; intro g1 k1 W1 ho hd hg; have HO := Lib.hid ho; have HD := Lib.hid hd; clear ho hd hg; refine Hid.out ?_)
    refine Lib.hid ?_
    simp only [Nat.zero_add, List.nil_append] at HO ⊢
    go_wp2
    go_ret
    exact ⟨_, _, _, rfl, Own.reads (⟨by rw [HL.out]; exact HO.out, HR.out.2.2.1⟩ : Own PairLay 87 W1 w.heap.size (.slice (some ⟨g1, 0, none⟩) len k1) l), (fun b o s e => by cases e; exact (HO.out.lt g1 rfl).1), Below.trans (kept_alloc w _) HD.out⟩

set_option maxRecDepth 100000 in
theorem cloneV_any (a : Option Addr) (len cap : Nat) (l : Vec.V) (w : World) (hr : Vec.VecAt w a len l) (hc : len ≤ cap) (hm : cap ≤ maxLen) (hn : len ≤ 1000000) :
    Calls Tryz.prog 144 #[.slice a len cap] w fun e w' => ∃ a' m' c', e = .returned (.slice a' m' c') ∧ Vec.Reads w' (.slice a' m' c') l ∧ (∀ b off sp, a' = some ⟨b, off, sp⟩ → w.heap.size ≤ b) ∧ Kept w w' := by
  have hl := hr.1
  have q22 : ∀ (w : World) (a : Option Addr) (n c n' c' : Nat), (binOp .eql 23 (.slice a n c) (.slice none n' c')).run Tryz.prog w = .ok (.bool a.isNone) w := fun w a n c n' c' => Lib.run_eql_slice_nil w _ _ a n c n' c' Tryz.underlying23
  cases a with
  | none =>
    have h0 : len = 0 := by
      rcases hr.form with h | ⟨b, off, h⟩
      · exact h
      · cases h
    subst h0
    have hl0 : l = [] := List.eq_nil_of_length_eq_zero hl
    subst hl0
    clear hr hl
    go_enter Tryz.func144, Tryz.ntmps144
    go_wp2
    go_ret
    exact ⟨none, 0, 0, rfl, Vec.Reads.nil _, (fun b o s e => by cases e), Kept.refl _⟩
  | some ad =>
    have HR := Lib.hid hr
    have HL := Lib.hid hl
    have hrl : (Vec.cellsOf l).length = len * 2 := by rw [Vec.cellsOf_length, hl]
    have hb1 : 0 + len ≤ maxLen := by unfold maxLen; omega
    have hb2 : ((0 + len) + (0 + len) / 4 + 192) * 24 ≤ 281474976710656 := by omega
    clear hr hl
    go_enter Tryz.func144, Tryz.ntmps144
    go_wp2_with (at_builtin; refine wpList_app_own kindV _ rfl (.tmp 5) (.tmp 6) rfl w.heap.size (by simp) w.heap.size 0 0 [] rfl (own_empty w w.heap.size 2 _ (Nat.le_refl _)) _ len (Vec.cellsOf l) rfl hrl (Vec.cellsOf_one _) (vec_src (HR.out.kept (kept_alloc _ _))) hb1 hb2 ?_; intro g1 k1 W1 ho hd hg; have HO := Lib.hid ho; have HD := Lib.hid hd; clear ho hd hg; refine Hid.out ?_)
    refine Lib.hid ?_
    simp only [Nat.zero_add, List.nil_append] at HO ⊢
    go_wp2
    go_ret
    exact ⟨_, _, _, rfl, Vec.OwnV.reads (⟨by rw [HL.out]; exact HO.out, HR.out.2.2.1⟩ : Vec.OwnV 155 W1 w.heap.size (.slice (some ⟨g1, 0, none⟩) len k1) l), (fun b o s e => by cases e; exact (HO.out.lt g1 rfl).1), Below.trans (kept_alloc w _) HD.out⟩

/-- A block of five cells. -/
def Cells5 (q : Nat) (v0 v1 v2 v3 v4 : Value) (W : World) : Prop :=
  (W.cell? ⟨q, 0, none⟩ = some v0 ∧ W.cell? ⟨q, 1, none⟩ = some v1 ∧ W.cell? ⟨q, 2, none⟩ = some v2 ∧ W.cell? ⟨q, 3, none⟩ = some v3 ∧ W.cell? ⟨q, 4, none⟩ = some v4) ∧
    W.frozen? ⟨q, 0, none⟩ = false ∧ W.frozen? ⟨q, 1, none⟩ = false ∧ W.frozen? ⟨q, 2, none⟩ = false ∧ W.frozen? ⟨q, 3, none⟩ = false ∧ W.frozen? ⟨q, 4, none⟩ = false
theorem Cells5.block {q : Nat} {v0 v1 v2 v3 v4 : Value} {W W' : World} (h : Cells5 q v0 v1 v2 v3 v4 W) (e : W'.heap[q]? = W.heap[q]?) : Cells5 q v0 v1 v2 v3 v4 W' := by
  have c : ∀ j, W'.cell? ⟨q, j, none⟩ = W.cell? ⟨q, j, none⟩ := fun j => World.cell?_of_block (a := ⟨q, j, none⟩) e
  have f : ∀ j, W'.frozen? ⟨q, j, none⟩ = W.frozen? ⟨q, j, none⟩ := fun j => World.frozen?_of_block (a := ⟨q, j, none⟩) e
  unfold Cells5
  simp only [c, f]
  exact h
theorem Cells5.kept {q : Nat} {v0 v1 v2 v3 v4 : Value} {W W' : World} (h : Cells5 q v0 v1 v2 v3 v4 W) (k : Kept W W') : Cells5 q v0 v1 v2 v3 v4 W' := h.block (k.block q (World.block_lt_of_cell? _ _ h.1.1))
theorem Cells5.other {q p j : Nat} {v0 v1 v2 v3 v4 u : Value} {W : World} (h : Cells5 q v0 v1 v2 v3 v4 W) (hp : q ≠ p) : Cells5 q v0 v1 v2 v3 v4 (W.setCell ⟨p, j, none⟩ u) := h.block (Below.heap_setCell W ⟨p, j, none⟩ u q hp)
theorem far_set {α : Type} {L : Lay α} {B p j : Nat} {u : Value} {w : World} {a : Option Addr} {m c : Nat} {l : List α} (h : Reads L w (.slice a m c) l) (g : ∀ b off sp, a = some ⟨b, off, sp⟩ → B ≤ b) (hp : p < B) : Reads L (w.setCell ⟨p, j, none⟩ u) (.slice a m c) l :=
  h.far (by simp [World.setCell]) (fun b o s e => Below.heap_setCell w ⟨p, j, none⟩ u b (show b ≠ p by have := g b o s e; omega))
theorem far_setV {B p j : Nat} {u : Value} {w : World} {a : Option Addr} {m c : Nat} {l : Vec.V} (h : Vec.Reads w (.slice a m c) l) (g : ∀ b off sp, a = some ⟨b, off, sp⟩ → B ≤ b) (hp : p < B) : Vec.Reads (w.setCell ⟨p, j, none⟩ u) (.slice a m c) l :=
  h.far (by simp [World.setCell]) (fun b o s e => Below.heap_setCell w ⟨p, j, none⟩ u b (show b ≠ p by have := g b o s e; omega))

/-- A row of nodes lies at a. -/
def NodesAt (w : World) (a : Option Addr) (len : Nat) (l : List Nod) : Prop :=
  l.length = len ∧ len ≤ maxLen ∧ (len = 0 ∨ ∃ b off, a = some ⟨b, off, none⟩ ∧ b < w.heap.size ∧ ∀ i n, l[i]? = some n → ∃ a1 m1 c1 a2 m2 c2 a3 m3 c3,
    w.cell? ⟨b, off + i * 5, none⟩ = some (.string n.name) ∧ w.cell? ⟨b, off + i * 5 + 1, none⟩ = some (.slice a1 m1 c1) ∧ w.cell? ⟨b, off + i * 5 + 2, none⟩ = some (.slice a2 m2 c2) ∧ w.cell? ⟨b, off + i * 5 + 3, none⟩ = some (.slice a3 m3 c3) ∧ w.cell? ⟨b, off + i * 5 + 4, none⟩ = some (.bool n.cordon) ∧
    NodAt w (.slice a1 m1 c1) (.slice a2 m2 c2) (.slice a3 m3 c3) n)
theorem NodesAt.kept {w w' : World} {a : Option Addr} {len : Nat} {l : List Nod} (h : NodesAt w a len l) (k : Kept w w') : NodesAt w' a len l := by
  obtain ⟨h0, h1, h2⟩ := h
  refine ⟨h0, h1, h2.imp id ?_⟩
  rintro ⟨b, off, rfl, hb, hc⟩
  refine ⟨b, off, rfl, Nat.lt_of_lt_of_le hb k.size, fun i n hi => ?_⟩
  obtain ⟨a1, m1, c1, a2, m2, c2, a3, m3, c3, p0, p1, p2, p3, p4, hn⟩ := hc i n hi
  exact ⟨a1, m1, c1, a2, m2, c2, a3, m3, c3, cell_later k p0, cell_later k p1, cell_later k p2, cell_later k p3, cell_later k p4, hn.kept k⟩
theorem NodesAt.form {w : World} {a : Option Addr} {len : Nat} {l : List Nod} (h : NodesAt w a len l) : len = 0 ∨ ∃ b off, a = some ⟨b, off, none⟩ := by
  obtain ⟨_, _, h2⟩ := h
  exact h2.imp id fun ⟨b, off, e, _⟩ => ⟨b, off, e⟩
theorem NodesAt.at_ {w : World} {b off len : Nat} {l : List Nod} {k : Nat} (h : NodesAt w (some ⟨b, off, none⟩) len l) (hk : k < len) : ∃ n a1 m1 c1 a2 m2 c2 a3 m3 c3, l[k]? = some n ∧ l.drop k = n :: l.drop (k + 1) ∧ b < w.heap.size ∧
    w.cell? ⟨b, off + k * 5, none⟩ = some (.string n.name) ∧ w.cell? ⟨b, off + k * 5 + 1, none⟩ = some (.slice a1 m1 c1) ∧ w.cell? ⟨b, off + k * 5 + 2, none⟩ = some (.slice a2 m2 c2) ∧ w.cell? ⟨b, off + k * 5 + 3, none⟩ = some (.slice a3 m3 c3) ∧ w.cell? ⟨b, off + k * 5 + 4, none⟩ = some (.bool n.cordon) ∧
    NodAt w (.slice a1 m1 c1) (.slice a2 m2 c2) (.slice a3 m3 c3) n := by
  obtain ⟨h0, _, h3⟩ := h
  have hkl : k < l.length := by omega
  rcases h3 with h3 | ⟨b', off', e, hb, hc⟩
  · omega
  · injection e with e; injection e with e1 e2 e3; subst e1; subst e2
    have he : l[k]? = some l[k] := List.getElem?_eq_getElem hkl
    obtain ⟨a1, m1, c1, a2, m2, c2, a3, m3, c3, r⟩ := hc k _ he
    exact ⟨l[k], a1, m1, c1, a2, m2, c2, a3, m3, c3, he, List.drop_eq_getElem_cons hkl, hb, r⟩
def NodesR (w : World) (v : Value) (l : List Nod) : Prop := ∃ a cap, v = .slice a l.length cap ∧ l.length ≤ cap ∧ cap ≤ maxLen ∧ NodesAt w a l.length l
theorem NodesR.kept {w w' : World} {v : Value} {l : List Nod} (h : NodesR w v l) (k : Kept w w') : NodesR w' v l := by
  obtain ⟨a, cap, e, h1, h2, h3⟩ := h
  exact ⟨a, cap, e, h1, h2, h3.kept k⟩

end Go.Proofs.YtflllkpnkcmegaaGreatDoor

/- Nodes: the one of a name. -/
namespace Go.Proofs.YtflllkpnkcmegaaGreatDoor
open Go.RowKit
set_option linter.unusedVariables false

end Go.Proofs.YtflllkpnkcmegaaGreatDoor

/- Rows of nodes: whether they may stand so. -/
namespace Go.Proofs.YtflllkpnkcmegaaGreatDoor
open Go.RowKit
set_option linter.unusedVariables false

end Go.Proofs.YtflllkpnkcmegaaGreatDoor

/- Whether two nodes are the same: the program's, the reference's. -/
namespace Go.Proofs.YtflllkpnkcmegaaGreatDoor
open Go.RowKit
set_option linter.unusedVariables false

end Go.Proofs.YtflllkpnkcmegaaGreatDoor
