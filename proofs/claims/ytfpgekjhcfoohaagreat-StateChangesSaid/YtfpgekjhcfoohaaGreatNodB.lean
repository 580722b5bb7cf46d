/- Package by package: contracts of the functions that the laws call. -/
import Derived.Test.YtfpgekjhcfoohaaGreatShort
import Derived.Test.YtfpgekjhcfoohaaGreatNodParsed
import Derived.Recover
import Derived.Defers
import Derived.Laws.Pointers
import Derived.Test.YtfpgekjhcfoohaaGreatBase
import Derived.Lib.SliceRun
import Derived.Deep.RegionHeld3
import Derived.Test.YtfpgekjhcfoohaaGreatNodA
/- A node's text read: the closure, the recovery, the face. -/
set_option linter.unusedVariables false
namespace Go.Proofs.YtfpgekjhcfoohaaGreat
open Go.RowKit
theorem zero_reads (B : Nat) (w : World) : NodRB B w (.agg #[.string ⟨#[]⟩, .slice none 0 0, .slice none 0 0, .slice none 0 0, .bool false]) Nod.zero :=
 ⟨none, 0, 0, none, 0, 0, none, 0, 0, rfl, (by decide : (0 : Nat) ≤ maxLen), Vec.Reads.nil w, Reads.nil w, Reads.nil w, (fun _ _ _ e => by cases e), (fun _ _ _ e => by cases e), (fun _ _ _ e => by cases e)⟩
theorem NodRB.less {B B' : Nat} {w : World} {v : Value} {n : Nod} (h : NodRB B w v n) (hb : B' ≤ B) : NodRB B' w v n := by
 obtain ⟨a1, m1, c1, a2, m2, c2, a3, m3, c3, e, h0, h1, h2, h3, g1, g2, g3⟩ := h
 exact ⟨a1, m1, c1, a2, m2, c2, a3, m3, c3, e, h0, h1, h2, h3, fun b o s e => Nat.le_trans hb (g1 b o s e), fun b o s e => Nat.le_trans hb (g2 b o s e), fun b o s e => Nat.le_trans hb (g3 b o s e)⟩
theorem NodRB.far {B : Nat} {w w' : World} {v : Value} {n : Nod} (h : NodRB B w v n) (hs : w'.heap.size = w.heap.size) (hb : ∀ b, B ≤ b → w'.heap[b]? = w.heap[b]?) : NodRB B w' v n := by
 obtain ⟨a1, m1, c1, a2, m2, c2, a3, m3, c3, e, h0, h1, h2, h3, g1, g2, g3⟩ := h
 exact ⟨a1, m1, c1, a2, m2, c2, a3, m3, c3, e, h0, h1.far hs (fun b o s e => hb b (g1 b o s e)), h2.far hs (fun b o s e => hb b (g2 b o s e)), h3.far hs (fun b o s e => hb b (g3 b o s e)), g1, g2, g3⟩
theorem NodRB.kept {B : Nat} {w w' : World} {v : Value} {n : Nod} (h : NodRB B w v n) (k : Kept w w') : NodRB B w' v n := by
 obtain ⟨a1, m1, c1, a2, m2, c2, a3, m3, c3, e, h0, h1, h2, h3, g1, g2, g3⟩ := h
 exact ⟨a1, m1, c1, a2, m2, c2, a3, m3, c3, e, h0, h1.kept k, h2.kept k, h3.kept k, g1, g2, g3⟩
def PutAt (q : Nat) (x : ByteArray) (a1 a2 a3 : Option Addr) (m1 c1 m2 c2 m3 c3 : Nat) (b : Bool) (W W' : World) : Prop :=
 (W'.cell? ⟨q, 0, none⟩ = some (.string x) ∧ W'.cell? ⟨q, 1, none⟩ = some (.slice a1 m1 c1) ∧ W'.cell? ⟨q, 2, none⟩ = some (.slice a2 m2 c2) ∧ W'.cell? ⟨q, 3, none⟩ = some (.slice a3 m3 c3) ∧ W'.cell? ⟨q, 4, none⟩ = some (.bool b)) ∧
  W'.heap.size = W.heap.size ∧ (∀ j, j ≠ q → W'.heap[j]? = W.heap[j]?) ∧ ∀ B w, B ≤ q → Below B w W → Below B w W'
theorem put_at {W : World} {q : Nat} {v0 v1 v2 v3 v4 : Value} (y : W.cell? ⟨q, 0, none⟩ = some v0 ∧ W.cell? ⟨q, 1, none⟩ = some v1 ∧ W.cell? ⟨q, 2, none⟩ = some v2 ∧ W.cell? ⟨q, 3, none⟩ = some v3 ∧ W.cell? ⟨q, 4, none⟩ = some v4) (x : ByteArray) (a1 a2 a3 : Option Addr) (m1 c1 m2 c2 m3 c3 : Nat) (b : Bool) :
 PutAt q x a1 a2 a3 m1 c1 m2 c2 m3 c3 b W (((((W.setCell ⟨q, 0, none⟩ (.string x)).setCell ⟨q, 1, none⟩ (.slice a1 m1 c1)).setCell ⟨q, 2, none⟩ (.slice a2 m2 c2)).setCell ⟨q, 3, none⟩ (.slice a3 m3 c3)).setCell ⟨q, 4, none⟩ (.bool b)) :=
 ⟨set5_cells y.1 y.2.1 y.2.2.1 y.2.2.2.1 y.2.2.2.2 _ rfl, set5_size _ _ _ _ _ _ _, fun j hj => set5_block _ _ _ _ _ _ _ j hj,
  fun B w hB hk => ((((hk.setCell (p := ⟨q, 0, none⟩) hB _).setCell (p := ⟨q, 1, none⟩) hB _).setCell (p := ⟨q, 2, none⟩) hB _).setCell (p := ⟨q, 3, none⟩) hB _).setCell (p := ⟨q, 4, none⟩) hB _⟩
open Go.RowKit
theorem kindP : Kind 40 131 2 32 := by
 obtain ⟨i, hi, hz, h1, h2⟩ := info_parts (show (Tryz.prog.info? 131).map (fun i => (i.zero, i.size, i.bytes)) = some (some (.agg #[.string ByteArray.empty, .string ByteArray.empty]), 2, 32) by kernel_rfl)
 exact ⟨i, _, Tryz.underlying40, hi, hz, h1, h2, rfl, by decide⟩
theorem kindA : Kind 41 158 3 40 := by
 obtain ⟨i, hi, hz, h1, h2⟩ := info_parts (show (Tryz.prog.info? 158).map (fun i => (i.zero, i.size, i.bytes)) = some (some (.agg #[.string ByteArray.empty, .string ByteArray.empty, .bool false]), 3, 40) by kernel_rfl)
 exact ⟨i, _, Tryz.underlying41, hi, hz, h1, h2, rfl, by decide⟩
theorem kindV : Kind 38 103 2 24 := by
 obtain ⟨i, hi, hz, h1, h2⟩ := info_parts (show (Tryz.prog.info? 103).map (fun i => (i.zero, i.size, i.bytes)) = some (some (.agg #[.string ByteArray.empty, .int .i64 0]), 2, 24) by kernel_rfl)
 exact ⟨i, _, Tryz.underlying38, hi, hz, h1, h2, rfl, by decide⟩
theorem vec_cells_from : ∀ (l : Vec.V) (j : Nat) (u : Value), (Vec.cellsOf l)[j]? = some u → ∃ i, i < l.length ∧ ((j = i * 2 ∧ u = .string (Vec.nm l i)) ∨ (j = i * 2 + 1 ∧ u = .int .i64 (Vec.qn l i))) := by
 intro l j u h
 have hlt : j < l.length * 2 := by have := (List.getElem?_eq_some_iff.1 h).1; rw [Vec.cellsOf_length] at this; exact this
 have hi : j / 2 < l.length := by omega
 obtain ⟨h1, h2⟩ := Vec.cellsOf_at l (j / 2) hi
 refine ⟨j / 2, hi, ?_⟩
 by_cases he : j % 2 = 0
 · have e : j = j / 2 * 2 := by omega
   rw [← e] at h1
   rw [h1] at h
   exact .inl ⟨e, by cases h; rfl⟩
 · have e : j = j / 2 * 2 + 1 := by omega
   rw [← e] at h2
   rw [h2] at h
   exact .inr ⟨e, by cases h; rfl⟩
theorem vec_src {w : World} {a : Option Addr} {len cap : Nat} {l : Vec.V} (h : Vec.VecAt w a len l) : AppSrc w (.slice a len cap) len (Vec.cellsOf l) := by
 obtain ⟨h0, h1, h2, h3⟩ := h
 rcases h3 with h3 | ⟨b, off, rfl, hb, hc⟩
 · have hl : l = [] := List.eq_nil_of_length_eq_zero (by omega)
   subst hl
   subst h3
   cases a with
   | none => exact .inr ⟨cap, rfl, rfl⟩
   | some ad => exact .inl ⟨ad, cap, rfl, fun j u hu => by simp [Vec.cellsOf] at hu⟩
 · refine .inl ⟨_, cap, rfl, fun j u hu => ?_⟩
   obtain ⟨i, hi, hj⟩ := vec_cells_from l j u hu
   obtain ⟨c1, c2⟩ := hc i (by omega)
   have e : (⟨b, off, none⟩ : Addr).add j = ⟨b, off + j, none⟩ := by
    unfold Addr.add
    split <;> simp_all
   rw [e]
   rcases hj with ⟨rfl, rfl⟩ | ⟨rfl, rfl⟩
   · exact c1
   · rw [← Nat.add_assoc]; exact c2
set_option maxRecDepth 100000 in
theorem cloneP_any (a : Option Addr) (len cap : Nat) (l : PL) (w : World) (hr : RowAt PairLay w a len l) (hc : len ≤ cap) (hm : cap ≤ maxLen) (hn : len ≤ 1000000) :
 Calls Tryz.prog 109 #[.slice a len cap] w fun e w' => ∃ a' m' c', e = .returned (.slice a' m' c') ∧ Reads PairLay w' (.slice a' m' c') l ∧ (∀ b off sp, a' = some ⟨b, off, sp⟩ → w.heap.size ≤ b) ∧ Kept w w' := by
 have hl := hr.1
 have q22 : ∀ (w : World) (a : Option Addr) (n c n' c' : Nat), (binOp .eql 40 (.slice a n c) (.slice none n' c')).run Tryz.prog w = .ok (.bool a.isNone) w := fun w a n c n' c' => Lib.run_eql_slice_nil w _ _ a n c n' c' Tryz.underlying40
 cases a with
 | none =>
  have h0 : len = 0 := by
   rcases hr.form with h | ⟨b, off, h⟩
   · exact h
   · cases h
  subst h0
  have hl0 : l = [] := List.eq_nil_of_length_eq_zero hl
  subst hl0
  clear hr hl
  go_enter Tryz.func109, Tryz.ntmps109
  go_wp2
  go_ret
  exact ⟨none, 0, 0, rfl, Reads.nil _, (fun b o s e => by cases e), Kept.refl _⟩
 | some ad =>
  have HR := lH hr
  have HL := lH hl
  have hrl : (rowCells PairLay l).length = len * 2 := by rw [rowCells_length, hl]; rfl
  have hb1 : 0 + len ≤ maxLen := by unfold maxLen; omega
  have hb2 : ((0 + len) + (0 + len) / 4 + 192) * 32 ≤ 281474976710656 := by omega
  clear hr hl
  go_enter Tryz.func109, Tryz.ntmps109
  go_wp2_with (at_builtin; refine wpList_app_own kindP _ rfl (.tmp 5) (.tmp 6) rfl w.heap.size (by simp) w.heap.size 0 0 [] rfl (own_empty w w.heap.size 2 _ (Nat.le_refl _)) _ len (rowCells PairLay l) rfl hrl (rowCells_one _ _) (RowAt.src (HR.out.kept (kept_alloc _ _))) hb1 hb2 ?_; intro g1 k1 W1 ho hd hg; have HO := lH ho; have HD := lH hd; clear ho hd hg; refine Hid.out ?_)
  refine lH ?_
  simp only [Nat.zero_add, List.nil_append] at HO ⊢
  go_wp2
  go_ret
  exact ⟨_, _, _, rfl, Own.reads (⟨by rw [HL.out]; exact HO.out, HR.out.2.2.1⟩ : Own PairLay 131 W1 w.heap.size (.slice (some ⟨g1, 0, none⟩) len k1) l), (fun b o s e => by cases e; exact (HO.out.lt g1 rfl).1), Below.trans (kept_alloc w _) HD.out⟩
set_option maxRecDepth 100000 in
theorem cloneA_any (a : Option Addr) (len cap : Nat) (l : NL) (w : World) (hr : RowAt TaLay w a len l) (hc : len ≤ cap) (hm : cap ≤ maxLen) (hn : len ≤ 1000000) :
 Calls Tryz.prog 162 #[.slice a len cap] w fun e w' => ∃ a' m' c', e = .returned (.slice a' m' c') ∧ Reads TaLay w' (.slice a' m' c') l ∧ (∀ b off sp, a' = some ⟨b, off, sp⟩ → w.heap.size ≤ b) ∧ Kept w w' := by
 have hl := hr.1
 have q22 : ∀ (w : World) (a : Option Addr) (n c n' c' : Nat), (binOp .eql 41 (.slice a n c) (.slice none n' c')).run Tryz.prog w = .ok (.bool a.isNone) w := fun w a n c n' c' => Lib.run_eql_slice_nil w _ _ a n c n' c' Tryz.underlying41
 cases a with
 | none =>
  have h0 : len = 0 := by
   rcases hr.form with h | ⟨b, off, h⟩
   · exact h
   · cases h
  subst h0
  have hl0 : l = [] := List.eq_nil_of_length_eq_zero hl
  subst hl0
  clear hr hl
  go_enter Tryz.func162, Tryz.ntmps162
  go_wp2
  go_ret
  exact ⟨none, 0, 0, rfl, Reads.nil _, (fun b o s e => by cases e), Kept.refl _⟩
 | some ad =>
  have HR := lH hr
  have HL := lH hl
  have hrl : (rowCells TaLay l).length = len * 3 := by rw [rowCells_length, hl]; rfl
  have hb1 : 0 + len ≤ maxLen := by unfold maxLen; omega
  have hb2 : ((0 + len) + (0 + len) / 4 + 192) * 40 ≤ 281474976710656 := by omega
  clear hr hl
  go_enter Tryz.func162, Tryz.ntmps162
  go_wp2_with (at_builtin; refine wpList_app_own kindA _ rfl (.tmp 5) (.tmp 6) rfl w.heap.size (by simp) w.heap.size 0 0 [] rfl (own_empty w w.heap.size 3 _ (Nat.le_refl _)) _ len (rowCells TaLay l) rfl hrl (rowCells_one _ _) (RowAt.src (HR.out.kept (kept_alloc _ _))) hb1 hb2 ?_; intro g1 k1 W1 ho hd hg; have HO := lH ho; have HD := lH hd; clear ho hd hg; refine Hid.out ?_)
  refine lH ?_
  simp only [Nat.zero_add, List.nil_append] at HO ⊢
  go_wp2
  go_ret
  exact ⟨_, _, _, rfl, Own.reads (⟨by rw [HL.out]; exact HO.out, HR.out.2.2.1⟩ : Own TaLay 158 W1 w.heap.size (.slice (some ⟨g1, 0, none⟩) len k1) l), (fun b o s e => by cases e; exact (HO.out.lt g1 rfl).1), Below.trans (kept_alloc w _) HD.out⟩
set_option maxRecDepth 100000 in
theorem cloneV_any (a : Option Addr) (len cap : Nat) (l : Vec.V) (w : World) (hr : Vec.VecAt w a len l) (hc : len ≤ cap) (hm : cap ≤ maxLen) (hn : len ≤ 1000000) :
 Calls Tryz.prog 108 #[.slice a len cap] w fun e w' => ∃ a' m' c', e = .returned (.slice a' m' c') ∧ Vec.Reads w' (.slice a' m' c') l ∧ (∀ b off sp, a' = some ⟨b, off, sp⟩ → w.heap.size ≤ b) ∧ Kept w w' := by
 have hl := hr.1
 have q22 : ∀ (w : World) (a : Option Addr) (n c n' c' : Nat), (binOp .eql 38 (.slice a n c) (.slice none n' c')).run Tryz.prog w = .ok (.bool a.isNone) w := fun w a n c n' c' => Lib.run_eql_slice_nil w _ _ a n c n' c' Tryz.underlying38
 cases a with
 | none =>
  have h0 : len = 0 := by
   rcases hr.form with h | ⟨b, off, h⟩
   · exact h
   · cases h
  subst h0
  have hl0 : l = [] := List.eq_nil_of_length_eq_zero hl
  subst hl0
  clear hr hl
  go_enter Tryz.func108, Tryz.ntmps108
  go_wp2
  go_ret
  exact ⟨none, 0, 0, rfl, Vec.Reads.nil _, (fun b o s e => by cases e), Kept.refl _⟩
 | some ad =>
  have HR := lH hr
  have HL := lH hl
  have hrl : (Vec.cellsOf l).length = len * 2 := by rw [Vec.cellsOf_length, hl]
  have hb1 : 0 + len ≤ maxLen := by unfold maxLen; omega
  have hb2 : ((0 + len) + (0 + len) / 4 + 192) * 24 ≤ 281474976710656 := by omega
  clear hr hl
  go_enter Tryz.func108, Tryz.ntmps108
  go_wp2_with (at_builtin; refine wpList_app_own kindV _ rfl (.tmp 5) (.tmp 6) rfl w.heap.size (by simp) w.heap.size 0 0 [] rfl (own_empty w w.heap.size 2 _ (Nat.le_refl _)) _ len (Vec.cellsOf l) rfl hrl (Vec.cellsOf_one _) (vec_src (HR.out.kept (kept_alloc _ _))) hb1 hb2 ?_; intro g1 k1 W1 ho hd hg; have HO := lH ho; have HD := lH hd; clear ho hd hg; refine Hid.out ?_)
  refine lH ?_
  simp only [Nat.zero_add, List.nil_append] at HO ⊢
  go_wp2
  go_ret
  exact ⟨_, _, _, rfl, Vec.OwnV.reads (⟨by rw [HL.out]; exact HO.out, HR.out.2.2.1⟩ : Vec.OwnV 103 W1 w.heap.size (.slice (some ⟨g1, 0, none⟩) len k1) l), (fun b o s e => by cases e; exact (HO.out.lt g1 rfl).1), Below.trans (kept_alloc w _) HD.out⟩
def Cells5 (q : Nat) (v0 v1 v2 v3 v4 : Value) (W : World) : Prop :=
 (W.cell? ⟨q, 0, none⟩ = some v0 ∧ W.cell? ⟨q, 1, none⟩ = some v1 ∧ W.cell? ⟨q, 2, none⟩ = some v2 ∧ W.cell? ⟨q, 3, none⟩ = some v3 ∧ W.cell? ⟨q, 4, none⟩ = some v4) ∧
  W.frozen? ⟨q, 0, none⟩ = false ∧ W.frozen? ⟨q, 1, none⟩ = false ∧ W.frozen? ⟨q, 2, none⟩ = false ∧ W.frozen? ⟨q, 3, none⟩ = false ∧ W.frozen? ⟨q, 4, none⟩ = false
theorem Cells5.block {q : Nat} {v0 v1 v2 v3 v4 : Value} {W W' : World} (h : Cells5 q v0 v1 v2 v3 v4 W) (e : W'.heap[q]? = W.heap[q]?) : Cells5 q v0 v1 v2 v3 v4 W' := by
 have c : ∀ j, W'.cell? ⟨q, j, none⟩ = W.cell? ⟨q, j, none⟩ := fun j => World.cell?_of_block (a := ⟨q, j, none⟩) e
 have f : ∀ j, W'.frozen? ⟨q, j, none⟩ = W.frozen? ⟨q, j, none⟩ := fun j => World.frozen?_of_block (a := ⟨q, j, none⟩) e
 unfold Cells5
 simp only [c, f]
 exact h
theorem Cells5.kept {q : Nat} {v0 v1 v2 v3 v4 : Value} {W W' : World} (h : Cells5 q v0 v1 v2 v3 v4 W) (k : Kept W W') : Cells5 q v0 v1 v2 v3 v4 W' := h.block (k.block q (World.block_lt_of_cell? _ _ h.1.1))
theorem Cells5.other {q p j : Nat} {v0 v1 v2 v3 v4 u : Value} {W : World} (h : Cells5 q v0 v1 v2 v3 v4 W) (hp : q ≠ p) : Cells5 q v0 v1 v2 v3 v4 (W.setCell ⟨p, j, none⟩ u) := h.block (Below.heap_setCell W ⟨p, j, none⟩ u q hp)
theorem Cells5.set1 {q : Nat} {v0 v1 v2 v3 v4 : Value} {W : World} (h : Cells5 q v0 v1 v2 v3 v4 W) (u : Value) : Cells5 q v0 u v2 v3 v4 (W.setCell ⟨q, 1, none⟩ u) := by
 obtain ⟨⟨y0, y1, y2, y3, y4⟩, x0, x1, x2, x3, x4⟩ := h
 refine ⟨⟨?_, ?_, ?_, ?_, ?_⟩, ?_, ?_, ?_, ?_, ?_⟩ <;> go_simp
theorem Cells5.set2 {q : Nat} {v0 v1 v2 v3 v4 : Value} {W : World} (h : Cells5 q v0 v1 v2 v3 v4 W) (u : Value) : Cells5 q v0 v1 u v3 v4 (W.setCell ⟨q, 2, none⟩ u) := by
 obtain ⟨⟨y0, y1, y2, y3, y4⟩, x0, x1, x2, x3, x4⟩ := h
 refine ⟨⟨?_, ?_, ?_, ?_, ?_⟩, ?_, ?_, ?_, ?_, ?_⟩ <;> go_simp
theorem Cells5.set3 {q : Nat} {v0 v1 v2 v3 v4 : Value} {W : World} (h : Cells5 q v0 v1 v2 v3 v4 W) (u : Value) : Cells5 q v0 v1 v2 u v4 (W.setCell ⟨q, 3, none⟩ u) := by
 obtain ⟨⟨y0, y1, y2, y3, y4⟩, x0, x1, x2, x3, x4⟩ := h
 refine ⟨⟨?_, ?_, ?_, ?_, ?_⟩, ?_, ?_, ?_, ?_, ?_⟩ <;> go_simp
theorem far_set {α : Type} {L : Lay α} {B p j : Nat} {u : Value} {w : World} {a : Option Addr} {m c : Nat} {l : List α} (h : Reads L w (.slice a m c) l) (g : ∀ b off sp, a = some ⟨b, off, sp⟩ → B ≤ b) (hp : p < B) : Reads L (w.setCell ⟨p, j, none⟩ u) (.slice a m c) l :=
 h.far (by simp [World.setCell]) (fun b o s e => Below.heap_setCell w ⟨p, j, none⟩ u b (show b ≠ p by have := g b o s e; omega))
theorem far_setV {B p j : Nat} {u : Value} {w : World} {a : Option Addr} {m c : Nat} {l : Vec.V} (h : Vec.Reads w (.slice a m c) l) (g : ∀ b off sp, a = some ⟨b, off, sp⟩ → B ≤ b) (hp : p < B) : Vec.Reads (w.setCell ⟨p, j, none⟩ u) (.slice a m c) l :=
 h.far (by simp [World.setCell]) (fun b o s e => Below.heap_setCell w ⟨p, j, none⟩ u b (show b ≠ p by have := g b o s e; omega))
structure LowNod (n : Nod) : Prop where
 cap : n.cap.length ≤ 1000000
 labels : n.labels.length ≤ 1000000
 taints : n.taints.length ≤ 1000000
set_option maxRecDepth 100000 in
set_option maxHeartbeats 1600000 in
theorem owned_any (n : Nod) (a1 a2 a3 : Option Addr) (m1 c1 m2 c2 m3 c3 : Nat) (w : World) (h : NodAt w (.slice a1 m1 c1) (.slice a2 m2 c2) (.slice a3 m3 c3) n) (hl : LowNod n) :
 Calls Tryz.prog 168 #[.agg #[.string n.name, .slice a1 m1 c1, .slice a2 m2 c2, .slice a3 m3 c3, .bool n.cordon]] w fun e w' => ∃ v, e = .returned v ∧ NodRB w.heap.size w' v n ∧ Kept w w' := by
 have hsz := h.size
 obtain ⟨x1, y1, e1, p1, q1, r1⟩ := h.cap
 cases e1
 obtain ⟨x2, y2, e2, p2, q2, r2⟩ := h.labels
 cases e2
 obtain ⟨x3, y3, e3, p3, q3, r3⟩ := h.taints
 cases e3
 have H1 := lH (fun W (k : Kept w W) => cloneV_any a1 n.cap.length c1 n.cap W (r1.kept k) p1 q1 hl.cap)
 have H2 := lH (fun W (k : Kept w W) => cloneP_any a2 n.labels.length c2 n.labels W (r2.kept k) p2 q2 hl.labels)
 have H3 := lH (fun W (k : Kept w W) => cloneA_any a3 n.taints.length c3 n.taints W (r3.kept k) p3 q3 hl.taints)
 obtain ⟨k1, hk1⟩ : ∃ k, n.cap.length = k := ⟨_, rfl⟩
 obtain ⟨k2, hk2⟩ : ∃ k, n.labels.length = k := ⟨_, rfl⟩
 obtain ⟨k3, hk3⟩ : ∃ k, n.taints.length = k := ⟨_, rfl⟩
 obtain ⟨x, hx⟩ : ∃ x, n.name = x := ⟨_, rfl⟩
 obtain ⟨cd, hcd⟩ : ∃ x, n.cordon = x := ⟨_, rfl⟩
 have hxs : x.size ≤ maxLen := by rw [← hx]; exact hsz
 rw [hk1] at H1
 rw [hk2] at H2
 rw [hk3] at H3
 rw [hk1, hk2, hk3, hx, hcd]
 have HX := lH hx
 have HCD := lH hcd
 clear h hl p1 q1 r1 p2 q2 r2 p3 q3 r3 hk1 hk2 hk3 hx hcd hsz
 obtain ⟨Z, hZ⟩ : ∃ Z, (w.alloc (.cells #[.string x, .slice a1 k1 c1, .slice a2 k2 c2, .slice a3 k3 c3, .bool cd] 43)).alloc (.cells #[.string ⟨#[]⟩, .slice none 0 0, .slice none 0 0, .slice none 0 0, .bool false] 43) = Z := ⟨_, rfl⟩
 have hkz : Kept w Z := by rw [← hZ]; exact kept_two _ _ _
 have hzs : Z.heap.size = w.heap.size + 2 := by rw [← hZ]; simp
 have Q0 := lH (show Cells5 w.heap.size (.string x) (.slice a1 k1 c1) (.slice a2 k2 c2) (.slice a3 k3 c3) (.bool cd) Z from fresh5 w _ _ _ _ _ 43 Z (by rw [← hZ]; exact kept_alloc _ _))
 have Q1 := lH (show Cells5 (w.heap.size + 1) (.string ⟨#[]⟩) (.slice none 0 0) (.slice none 0 0) (.slice none 0 0) (.bool false) Z by
  have := fresh5 (w.alloc (.cells #[.string x, .slice a1 k1 c1, .slice a2 k2 c2, .slice a3 k3 c3, .bool cd] 43)) (.string ⟨#[]⟩) (.slice none 0 0) (.slice none 0 0) (.slice none 0 0) (.bool false) 43 Z (by rw [hZ]; exact Kept.refl _)
  rw [World.size_alloc] at this
  exact this)
 have K := lH hkz
 have hs0 : w.heap.size + 2 ≤ Z.heap.size := by omega
 clear hkz hzs
 obtain ⟨⟨y0, y1, y2, y3, y4⟩, x0, x1, x2, x3, x4⟩ := Q0.out
 go_enter Tryz.func168, Tryz.ntmps168
 go_wp2_with fail
 try rw [hZ]
 clear hZ
 clear y0 y1 y2 y3 y4 x0 x1 x2 x3 x4
 refine (H1.out _ K.out).mono ?_
 rintro e w1 ⟨b1, n1, d1, rfl, rr, gg, k⟩
 have HBA := lH (show ∀ b off sp, b1 = some ⟨b, off, sp⟩ → w.heap.size + 2 ≤ b from fun b o s e => by have := gg b o s e; omega)
 have RA := lH rr
 have K := lH (K.out.trans k)
 have hs1 : w.heap.size + 2 ≤ w1.heap.size := by have := k.size; omega
 have Q0 := lH (Q0.out.kept k)
 have Q1 := lH (Q1.out.kept k)
 clear rr gg k hs0
 obtain ⟨⟨y0, y1, y2, y3, y4⟩, x0, x1, x2, x3, x4⟩ := Q0.out
 have Q0 := lH (Q0.out.set1 (.slice b1 n1 d1))
 have Q1 := lH (Q1.out.other (p := w.heap.size) (j := 1) (u := .slice b1 n1 d1) (by omega))
 have RA := lH (far_setV (p := w.heap.size) (j := 1) (u := .slice b1 n1 d1) RA.out HBA.out (by omega))
 have K := lH (show Kept w (w1.setCell ⟨w.heap.size, 1, none⟩ (.slice b1 n1 d1)) from K.out.setCell (p := ⟨w.heap.size, 1, none⟩) (Nat.le_refl _) _)
 have hs0 : w.heap.size + 2 ≤ (w1.setCell ⟨w.heap.size, 1, none⟩ (.slice b1 n1 d1)).heap.size := by simpa [World.setCell] using hs1
 clear hs1
 obtain ⟨⟨z0, z1, z2, z3, z4⟩, -⟩ := Q0.out
 go_wp2_with fail
 clear y0 y1 y2 y3 y4 x0 x1 x2 x3 x4 z0 z1 z2 z3 z4
 obtain ⟨W1, hW1⟩ : ∃ W, w1.setCell ⟨w.heap.size, 1, none⟩ (.slice b1 n1 d1) = W := ⟨_, rfl⟩
 rw [hW1] at Q0 Q1 RA K hs0 ⊢
 clear hW1
 refine (H2.out _ K.out).mono ?_
 rintro e w2 ⟨b2, n2, d2, rfl, rr, gg, k⟩
 have HBB := lH (show ∀ b off sp, b2 = some ⟨b, off, sp⟩ → w.heap.size + 2 ≤ b from fun b o s e => by have := gg b o s e; omega)
 have RB := lH rr
 have K := lH (K.out.trans k)
 have hs1 : w.heap.size + 2 ≤ w2.heap.size := by have := k.size; omega
 have Q0 := lH (Q0.out.kept k)
 have Q1 := lH (Q1.out.kept k)
 have RA := lH (RA.out.kept k)
 clear rr gg k hs0
 obtain ⟨⟨y0, y1, y2, y3, y4⟩, x0, x1, x2, x3, x4⟩ := Q0.out
 have Q0 := lH (Q0.out.set2 (.slice b2 n2 d2))
 have Q1 := lH (Q1.out.other (p := w.heap.size) (j := 2) (u := .slice b2 n2 d2) (by omega))
 have RA := lH (far_setV (p := w.heap.size) (j := 2) (u := .slice b2 n2 d2) RA.out HBA.out (by omega))
 have RB := lH (far_set (p := w.heap.size) (j := 2) (u := .slice b2 n2 d2) RB.out HBB.out (by omega))
 have K := lH (show Kept w (w2.setCell ⟨w.heap.size, 2, none⟩ (.slice b2 n2 d2)) from K.out.setCell (p := ⟨w.heap.size, 2, none⟩) (Nat.le_refl _) _)
 have hs0 : w.heap.size + 2 ≤ (w2.setCell ⟨w.heap.size, 2, none⟩ (.slice b2 n2 d2)).heap.size := by simpa [World.setCell] using hs1
 clear hs1
 obtain ⟨⟨z0, z1, z2, z3, z4⟩, -⟩ := Q0.out
 go_wp2_with fail
 clear y0 y1 y2 y3 y4 x0 x1 x2 x3 x4 z0 z1 z2 z3 z4
 obtain ⟨W2, hW2⟩ : ∃ W, w2.setCell ⟨w.heap.size, 2, none⟩ (.slice b2 n2 d2) = W := ⟨_, rfl⟩
 rw [hW2] at Q0 Q1 RA RB K hs0 ⊢
 clear hW2
 refine (H3.out _ K.out).mono ?_
 rintro e w3 ⟨b3, n3, d3, rfl, rr, gg, k⟩
 have HBC := lH (show ∀ b off sp, b3 = some ⟨b, off, sp⟩ → w.heap.size + 2 ≤ b from fun b o s e => by have := gg b o s e; omega)
 have RC := lH rr
 have K := lH (K.out.trans k)
 have hs1 : w.heap.size + 2 ≤ w3.heap.size := by have := k.size; omega
 have Q0 := lH (Q0.out.kept k)
 have Q1 := lH (Q1.out.kept k)
 have RA := lH (RA.out.kept k)
 have RB := lH (RB.out.kept k)
 clear rr gg k hs0
 obtain ⟨⟨y0, y1, y2, y3, y4⟩, x0, x1, x2, x3, x4⟩ := Q0.out
 have Q0 := lH (Q0.out.set3 (.slice b3 n3 d3))
 have Q1 := lH (Q1.out.other (p := w.heap.size) (j := 3) (u := .slice b3 n3 d3) (by omega))
 have RA := lH (far_setV (p := w.heap.size) (j := 3) (u := .slice b3 n3 d3) RA.out HBA.out (by omega))
 have RB := lH (far_set (p := w.heap.size) (j := 3) (u := .slice b3 n3 d3) RB.out HBB.out (by omega))
 have RC := lH (far_set (p := w.heap.size) (j := 3) (u := .slice b3 n3 d3) RC.out HBC.out (by omega))
 have K := lH (show Kept w (w3.setCell ⟨w.heap.size, 3, none⟩ (.slice b3 n3 d3)) from K.out.setCell (p := ⟨w.heap.size, 3, none⟩) (Nat.le_refl _) _)
 have hs0 : w.heap.size + 2 ≤ (w3.setCell ⟨w.heap.size, 3, none⟩ (.slice b3 n3 d3)).heap.size := by simpa [World.setCell] using hs1
 clear hs1
 obtain ⟨⟨z0, z1, z2, z3, z4⟩, -⟩ := Q0.out
 obtain ⟨⟨g0, g1, g2, g3, g4⟩, f0, f1, f2, f3, f4⟩ := Q1.out
 go_wp2
 have P := lH (put_at ⟨g0, g1, g2, g3, g4⟩ x b1 b2 b3 n1 d1 n2 d2 n3 d3 cd)
 clear y0 y1 y2 y3 y4 x0 x1 x2 x3 x4 z0 z1 z2 z3 z4 g0 g1 g2 g3 g4 f0 f1 f2 f3 f4
 obtain ⟨W3, hW3⟩ : ∃ W, w3.setCell ⟨w.heap.size, 3, none⟩ (.slice b3 n3 d3) = W := ⟨_, rfl⟩
 rw [hW3] at RA RB RC K hs0 P ⊢
 obtain ⟨WE, hWE⟩ : ∃ W, (((((W3.setCell ⟨w.heap.size + 1, 0, none⟩ (.string x)).setCell ⟨w.heap.size + 1, 1, none⟩ (.slice b1 n1 d1)).setCell ⟨w.heap.size + 1, 2, none⟩ (.slice b2 n2 d2)).setCell ⟨w.heap.size + 1, 3, none⟩ (.slice b3 n3 d3)).setCell ⟨w.heap.size + 1, 4, none⟩ (.bool cd)) = W := ⟨_, rfl⟩
 rw [hWE] at P ⊢
 clear hWE hW3
 obtain ⟨⟨e0, e1, e2, e3, e4⟩, hsz, hbl, hkp⟩ := P.out
 refine bodyPost_ret (by simp [results, Tryz.results168, go_sem, e0, e1, e2, e3, e4]; try rfl) rfl ?_
 exact ⟨_, rfl, ⟨b1, n1, d1, b2, n2, d2, b3, n3, d3, by rw [HX.out, HCD.out], by rw [HX.out]; exact hxs, RA.out.far hsz (fun b o s e => hbl b (by have := HBA.out b o s e; omega)), RB.out.far hsz (fun b o s e => hbl b (by have := HBB.out b o s e; omega)), RC.out.far hsz (fun b o s e => hbl b (by have := HBC.out b o s e; omega)), fun b o s e => Nat.le_trans (Nat.le_add_right _ 2) (HBA.out b o s e), fun b o s e => Nat.le_trans (Nat.le_add_right _ 2) (HBB.out b o s e), fun b o s e => Nat.le_trans (Nat.le_add_right _ 2) (HBC.out b o s e)⟩, hkp _ _ (Nat.le_succ _) K.out⟩
def NodesAt (w : World) (a : Option Addr) (len : Nat) (l : List Nod) : Prop :=
 l.length = len ∧ len ≤ maxLen ∧ (len = 0 ∨ ∃ b off, a = some ⟨b, off, none⟩ ∧ b < w.heap.size ∧ ∀ i n, l[i]? = some n → ∃ a1 m1 c1 a2 m2 c2 a3 m3 c3,
  w.cell? ⟨b, off + i * 5, none⟩ = some (.string n.name) ∧ w.cell? ⟨b, off + i * 5 + 1, none⟩ = some (.slice a1 m1 c1) ∧ w.cell? ⟨b, off + i * 5 + 2, none⟩ = some (.slice a2 m2 c2) ∧ w.cell? ⟨b, off + i * 5 + 3, none⟩ = some (.slice a3 m3 c3) ∧ w.cell? ⟨b, off + i * 5 + 4, none⟩ = some (.bool n.cordon) ∧
  NodAt w (.slice a1 m1 c1) (.slice a2 m2 c2) (.slice a3 m3 c3) n)
theorem NodesAt.kept {w w' : World} {a : Option Addr} {len : Nat} {l : List Nod} (h : NodesAt w a len l) (k : Kept w w') : NodesAt w' a len l := by
 obtain ⟨h0, h1, h2⟩ := h
 refine ⟨h0, h1, h2.imp id ?_⟩
 rintro ⟨b, off, rfl, hb, hc⟩
 refine ⟨b, off, rfl, Nat.lt_of_lt_of_le hb k.size, fun i n hi => ?_⟩
 obtain ⟨a1, m1, c1, a2, m2, c2, a3, m3, c3, p0, p1, p2, p3, p4, hn⟩ := hc i n hi
 exact ⟨a1, m1, c1, a2, m2, c2, a3, m3, c3, cell_later k p0, cell_later k p1, cell_later k p2, cell_later k p3, cell_later k p4, hn.kept k⟩
theorem NodesAt.form {w : World} {a : Option Addr} {len : Nat} {l : List Nod} (h : NodesAt w a len l) : len = 0 ∨ ∃ b off, a = some ⟨b, off, none⟩ := by
 obtain ⟨_, _, h2⟩ := h
 exact h2.imp id fun ⟨b, off, e, _⟩ => ⟨b, off, e⟩
theorem NodesAt.at_ {w : World} {b off len : Nat} {l : List Nod} {k : Nat} (h : NodesAt w (some ⟨b, off, none⟩) len l) (hk : k < len) : ∃ n a1 m1 c1 a2 m2 c2 a3 m3 c3, l[k]? = some n ∧ l.drop k = n :: l.drop (k + 1) ∧ b < w.heap.size ∧
 w.cell? ⟨b, off + k * 5, none⟩ = some (.string n.name) ∧ w.cell? ⟨b, off + k * 5 + 1, none⟩ = some (.slice a1 m1 c1) ∧ w.cell? ⟨b, off + k * 5 + 2, none⟩ = some (.slice a2 m2 c2) ∧ w.cell? ⟨b, off + k * 5 + 3, none⟩ = some (.slice a3 m3 c3) ∧ w.cell? ⟨b, off + k * 5 + 4, none⟩ = some (.bool n.cordon) ∧
 NodAt w (.slice a1 m1 c1) (.slice a2 m2 c2) (.slice a3 m3 c3) n := by
 obtain ⟨h0, _, h3⟩ := h
 have hkl : k < l.length := by omega
 rcases h3 with h3 | ⟨b', off', e, hb, hc⟩
 · omega
 · injection e with e; injection e with e1 e2 e3; subst e1; subst e2
   have he : l[k]? = some l[k] := List.getElem?_eq_getElem hkl
   obtain ⟨a1, m1, c1, a2, m2, c2, a3, m3, c3, r⟩ := hc k _ he
   exact ⟨l[k], a1, m1, c1, a2, m2, c2, a3, m3, c3, he, List.drop_eq_getElem_cons hkl, hb, r⟩
def NodesR (w : World) (v : Value) (l : List Nod) : Prop := ∃ a cap, v = .slice a l.length cap ∧ l.length ≤ cap ∧ cap ≤ maxLen ∧ NodesAt w a l.length l
theorem NodesR.kept {w w' : World} {v : Value} {l : List Nod} (h : NodesR w v l) (k : Kept w w') : NodesR w' v l := by
 obtain ⟨a, cap, e, h1, h2, h3⟩ := h
 exact ⟨a, cap, e, h1, h2, h3.kept k⟩
open Go.RowKit
theorem nameOfN_any (n : Nod) (v1 v2 v3 : Value) (w : World) : Calls Tryz.prog 148 #[NodV n v1 v2 v3] w fun e w' => e = .returned (.string n.name) ∧ Kept w w' := by
 unfold NodV
 go_enter Tryz.func148, Tryz.ntmps148
 go_wp2
 go_ret
 exact ⟨rfl, kept_alloc _ _⟩
set_option maxRecDepth 100000 in
set_option maxHeartbeats 1600000 in
theorem nameIsN_any (n : Nod) (v1 v2 v3 : Value) (p q : Addr) (x : ByteArray) (w : World) (hp : w.cell? p = some (.func (.func 148) #[] #[])) (hq : w.cell? q = some (.string x)) :
 Calls Tryz.prog 183 #[NodV n v1 v2 v3, .pointer (some p), .pointer (some q)] w fun e w' => e = .returned (.bool (eqS n.name x)) ∧ Kept w w' := by
 have HB := lH (show ∀ W, Kept (w.alloc (.cells #[.string n.name, v1, v2, v3, .bool n.cordon] 43)) W → W.cell? p = some (.func (.func 148) #[] #[]) ∧ W.cell? q = some (.string x) ∧ W.cell? ⟨w.heap.size, 0, none⟩ = some (.string n.name) ∧ W.cell? ⟨w.heap.size, 1, none⟩ = some (v1) ∧ W.cell? ⟨w.heap.size, 2, none⟩ = some (v2) ∧ W.cell? ⟨w.heap.size, 3, none⟩ = some (v3) ∧ W.cell? ⟨w.heap.size, 4, none⟩ = some (.bool n.cordon) from fun W k => ⟨cell_later ((kept_alloc _ _).trans k) hp, cell_later ((kept_alloc _ _).trans k) hq, (freshN w (.string n.name) [v1, v2, v3, .bool n.cordon] 43 W k).at_ 0 _ rfl, (freshN w (.string n.name) [v1, v2, v3, .bool n.cordon] 43 W k).at_ 1 _ rfl, (freshN w (.string n.name) [v1, v2, v3, .bool n.cordon] 43 W k).at_ 2 _ rfl, (freshN w (.string n.name) [v1, v2, v3, .bool n.cordon] 43 W k).at_ 3 _ rfl, (freshN w (.string n.name) [v1, v2, v3, .bool n.cordon] 43 W k).at_ 4 _ rfl⟩)
 have HN := lH (fun W => nameOfN_any n v1 v2 v3 W)
 unfold NodV at HN ⊢
 obtain ⟨b, hb⟩ : ∃ b, eqS n.name x = b := ⟨_, rfl⟩
 have t1 : (n.name.toList == x.toList) = b := hb
 rw [hb]
 clear hp hq hb
 go_enter Tryz.func183, Tryz.ntmps183
 go_wp2
 go_region_held3 (fun W => W.cell? p = some (.func (.func 148) #[] #[]) ∧ W.cell? q = some (.string x) ∧ W.cell? ⟨w.heap.size, 0, none⟩ = some (.string n.name) ∧ W.cell? ⟨w.heap.size, 1, none⟩ = some (v1) ∧ W.cell? ⟨w.heap.size, 2, none⟩ = some (v2) ∧ W.cell? ⟨w.heap.size, 3, none⟩ = some (v3) ∧ W.cell? ⟨w.heap.size, 4, none⟩ = some (.bool n.cordon))
  (first | exact HB.out _ (Kept.drew _) | exact HB.out _ K1.out)
  (first | (go_at_call 148; refine (HN.out _).mono ?_; rintro e1 w1 ⟨rfl, k1⟩; have K1 := lH ((Kept.drew _).trans k1); clear k1))
 go_wp2
 go_ret
 exact ⟨ret_bool rfl, (kept_alloc _ _).trans K1.out⟩
def findN (l : List Nod) (x : ByteArray) : Option Nod := l.find? fun n => eqS n.name x
def SoughtN (l : List Nod) (x : ByteArray) (i : Int) : Prop := (∃ (k : Nat) (n : Nod), i = (k : Int) ∧ l[k]? = some n ∧ findN l x = some n) ∨ (i = -1 ∧ findN l x = none)
set_option maxRecDepth 100000 in
set_option maxHeartbeats 1600000 in
theorem indexN_any (a : Option Addr) (len cap : Nat) (l : List Nod) (x : ByteArray) (p q : Addr) (w : World) (hr : NodesAt w a len l) (hp : w.cell? p = some (.func (.func 148) #[] #[])) (hq : w.cell? q = some (.string x)) :
 Calls Tryz.prog 182 #[.slice a len cap, .func (.func 183) #[] #[.pointer (some p), .pointer (some q)]] w fun e w' => ∃ i, e = .returned (.int .i64 i) ∧ SoughtN l x i ∧ Kept w w' := by
 have hl := hr.1
 have hm := hr.2.1
 unfold maxLen at hm
 have HL := lH hl
 by_cases h0 : len = 0
 · subst h0
   have hl0 : l = [] := List.eq_nil_of_length_eq_zero hl
   have HF := lH (show findN l x = none by rw [hl0]; rfl)
   clear hr hl hp hq
   go_enter Tryz.func182, Tryz.ntmps182
   go_wp2
   refine wp_loop_rounds 1 ?_
   rw [rounds_succ]
   go_wp2
   go_ret
   exact ⟨-1, rfl, .inr ⟨rfl, HF.out⟩, Kept.refl _⟩
 · obtain ⟨b, off, rfl⟩ := hr.form.resolve_left h0
   have HR := lH hr
   have HP := lH hp
   have HQ := lH hq
   clear hr hl hp hq h0
   go_enter Tryz.func182, Tryz.ntmps182
   go_wp2
   go_loopw [8] (fun i wr => ∃ k : Nat, k ≤ len ∧ i = .int .i64 k ∧ findN (l.drop k) x = findN l x ∧ Kept w wr) (fun i _ => len - (intOf i).toNat)
   case atStart => exact ⟨0, Nat.zero_le _, rfl, rfl, Kept.refl _⟩
   case round =>
    obtain ⟨k, hk, rfl, hrest, hK⟩ := hrel
    have HS := lH hrest
    have HK := lH hK
    by_cases hlt : k < len
    · obtain ⟨n, a1, m1, c1, a2, m2, c2, a3, m3, c3, hn, hd, hb, p0, p1, p2, p3, p4, hat⟩ := (HR.out.kept hK).at_ hlt
      have HN := lH hn
      have HD := lH hd
      have HC := lH (nameIsN_any n (.slice a1 m1 c1) (.slice a2 m2 c2) (.slice a3 m3 c3) p q x wr (cell_later hK HP.out) (cell_later hK HQ.out))
      unfold NodV at HC
      obtain ⟨t, ht⟩ : ∃ t, eqS n.name x = t := ⟨_, rfl⟩
      have HT := lH ht
      rw [ht] at HC
      clear hrest hK hat hd hn ht
      cases t with
      | true =>
       have HF := lH (show findN l x = some n by rw [← HS.out, HD.out]; unfold findN; rw [List.find?_cons, HT.out])
       go_wp2_with fail
       refine HC.out.mono ?_
       rintro e w1 ⟨rfl, k1⟩
       have K1 := lH (HK.out.trans k1)
       clear k1
       go_wp2
       go_ret
       exact ⟨(k : Int), rfl, .inl ⟨k, n, rfl, HN.out, HF.out⟩, K1.out⟩
      | false =>
       have HE := lH (show findN (l.drop k) x = findN (l.drop (k + 1)) x by rw [HD.out]; unfold findN; rw [List.find?_cons, HT.out])
       go_wp2_with fail
       refine HC.out.mono ?_
       rintro e w1 ⟨rfl, k1⟩
       have K1 := lH (HK.out.trans k1)
       clear k1
       go_wp2
       go_roundw
       case rel => exact ⟨k + 1, by omega, by go_num, HE.out.symm.trans HS.out, K1.out⟩
       case measure => simp [intOf]; omega
    · have HF := lH (show findN l x = none by rw [← hrest, List.drop_of_length_le (by rw [HL.out]; omega)]; rfl)
      clear hrest hK
      go_wp2
      go_ret
      exact ⟨-1, rfl, .inr ⟨rfl, HF.out⟩, HK.out⟩
set_option maxRecDepth 100000 in
set_option maxHeartbeats 3200000 in
theorem rowsFindN_any (a : Option Addr) (len cap : Nat) (l : List Nod) (x : ByteArray) (w : World) (hr : NodesAt w a len l) (hlow : ∀ n ∈ l, LowNod n) :
 Calls Tryz.prog 167 #[.slice a len cap, .string x, .func (.func 148) #[] #[], .func (.func 168) #[] #[]] w fun e w' => ∃ v, e = .returned (.tuple #[v, .bool (findN l x).isSome]) ∧ NodRB w.heap.size w' v ((findN l x).getD Nod.zero) ∧ Kept w w' := by
 have hmf : ∀ (fn : Fn) (first cap : Array Value) (w : World), (Instr.makeFunc fn first cap).run Tryz.prog w = .ok (.func fn first cap) w := fun _ _ _ _ => rfl
 have hl := hr.1
 have hm := hr.2.1
 unfold maxLen at hm
 obtain ⟨Z, hZ⟩ : ∃ Z, ((w.alloc (.cells #[.string x] 9)).alloc (.cells #[.func (.func 148) #[] #[]] 203)).alloc (.cells #[.string ⟨#[]⟩, .slice none 0 0, .slice none 0 0, .slice none 0 0, .bool false] 43) = Z := ⟨_, rfl⟩
 have hkz : Kept w Z := by rw [← hZ]; exact (kept_two _ _ _).trans (kept_alloc _ _)
 have hzs : Z.heap.size = w.heap.size + 3 := by rw [← hZ]; simp
 have hq := (freshN w (.string x) [] 9 Z (by rw [← hZ]; exact kept_two _ _ _)).at_ 0 _ rfl
 have hp : Z.cell? ⟨w.heap.size + 1, 0, none⟩ = some (.func (.func 148) #[] #[]) := by
  have := (freshN (w.alloc (.cells #[.string x] 9)) (.func (.func 148) #[] #[]) [] 203 Z (by rw [← hZ]; exact kept_alloc _ _)).at_ 0 _ rfl
  rw [World.size_alloc] at this
  exact this
 have HQ0 := lH (show CellsN (w.heap.size + 2) [.string ⟨#[]⟩, .slice none 0 0, .slice none 0 0, .slice none 0 0, .bool false] Z by
  have := freshN ((w.alloc (.cells #[.string x] 9)).alloc (.cells #[.func (.func 148) #[] #[]] 203)) (.string ⟨#[]⟩) [.slice none 0 0, .slice none 0 0, .slice none 0 0, .bool false] 43 Z (by rw [hZ]; exact Kept.refl _)
  rw [World.size_alloc, World.size_alloc] at this
  exact this)
 have HIX := lH (indexN_any a len cap l x ⟨w.heap.size + 1, 0, none⟩ ⟨w.heap.size, 0, none⟩ Z (hr.kept hkz) hp hq)
 have HKZ := lH hkz
 have HZS := lH hzs
 have HR := lH (hr.kept hkz)
 have HLOW := lH hlow
 have HL := lH hl
 clear hr hl hlow hkz hq hp hzs
 go_enter Tryz.func167, Tryz.ntmps167
 go_wp2_with fail
 try rw [hZ]
 clear hZ
 refine HIX.out.mono ?_
 rintro e w1 ⟨i, rfl, hs, k1⟩
 have K1 := lH k1
 rcases hs with ⟨k, n9, rfl, hn9, hf⟩ | ⟨rfl, hf⟩
 · have HF := lH hf
   have hkl : k < len := by have := (List.getElem?_eq_some_iff.1 hn9).1; rw [HL.out] at this; exact this
   have hk0 : decide ((k : Int) < 0) = false := by simp
   have hkk : (k : Int) < (len : Int) := by omega
   obtain ⟨b, off, rfl⟩ := HR.out.form.resolve_left (by omega)
   obtain ⟨n, a1, m1, c1, a2, m2, c2, a3, m3, c3, hn, hd, hb, p0, p1, p2, p3, p4, hat⟩ := (HR.out.kept k1).at_ hkl
   obtain rfl : n9 = n := by rw [hn9] at hn; exact Option.some.inj hn
   have HLN := lH (HLOW.out n9 (List.mem_of_getElem? hn9))
   have HAT := lH hat
   have HQZ := lH (HQ0.out.kept k1)
   have HZ1 := lH (show w.heap.size + 3 ≤ w1.heap.size by have := k1.size; rw [HZS.out] at this; exact this)
   have HOW := lH (owned_any n9 a1 a2 a3 m1 c1 m2 c2 m3 c3 w1 HAT.out HLN.out)
   clear hn9 hn hd hat hf k1
   go_wp2_with fail
   refine HOW.out.mono ?_
   rintro e w2 ⟨v, rfl, hn, k2⟩
   have HN := lH hn
   have KW := lH (HKZ.out.trans (K1.out.trans k2))
   have HQZ := lH (HQZ.out.kept k2)
   obtain ⟨b1, n1, d1, b2, n2, d2, b3, n3, d3, rfl, -⟩ := hn
   obtain ⟨z, hz⟩ : ∃ z, n9.name = z := ⟨_, rfl⟩
   obtain ⟨cd, hcd⟩ : ∃ z, n9.cordon = z := ⟨_, rfl⟩
   rw [hz, hcd]
   rw [hz, hcd] at HN
   clear k2 p0 p1 p2 p3 p4 hb hkl hk0 hkk
   have y0 := HQZ.out.at_ 0 _ rfl
   have y1 := HQZ.out.at_ 1 _ rfl
   have y2 := HQZ.out.at_ 2 _ rfl
   have y3 := HQZ.out.at_ 3 _ rfl
   have y4 := HQZ.out.at_ 4 _ rfl
   have x0 := HQZ.out.free 0
   have x1 := HQZ.out.free 1
   have x2 := HQZ.out.free 2
   have x3 := HQZ.out.free 3
   have x4 := HQZ.out.free 4
   have P := lH (putN (vs := [.string z, .slice b1 n1 d1, .slice b2 n2 d2, .slice b3 n3 d3, .bool cd]) HQZ.out rfl)
   clear HQZ
   go_wp2
   obtain ⟨WE, hWE⟩ : ∃ W, w2.setCells (w.heap.size + 2) 0 [.string z, .slice b1 n1 d1, .slice b2 n2 d2, .slice b3 n3 d3, .bool cd] = W := ⟨_, rfl⟩
   have hWE2 : (((((w2.setCell ⟨(w.heap.size + 2), 0, none⟩ (.string z)).setCell ⟨(w.heap.size + 2), 1, none⟩ (.slice b1 n1 d1)).setCell ⟨(w.heap.size + 2), 2, none⟩ (.slice b2 n2 d2)).setCell ⟨(w.heap.size + 2), 3, none⟩ (.slice b3 n3 d3)).setCell ⟨(w.heap.size + 2), 4, none⟩ (.bool cd)) = WE := hWE
   rw [hWE] at P
   rw [hWE2]
   clear hWE hWE2
   obtain ⟨PC, hsz, hbl, hkp⟩ := P.out
   refine bodyPost_ret (by simp [results, Tryz.results167, go_sem, PC.at_ 0 _ rfl, PC.at_ 1 _ rfl, PC.at_ 2 _ rfl, PC.at_ 3 _ rfl, PC.at_ 4 _ rfl]; try rfl) rfl ?_
   rw [HF.out]
   exact ⟨_, rfl, (HN.out.far hsz (fun b hb => hbl b (by have := HZ1.out; omega))).less (by have := HZ1.out; omega), hkp _ _ (by omega) KW.out⟩
 · have HF := lH hf
   have HQZ := lH (HQ0.out.kept k1)
   have KW := lH (HKZ.out.trans k1)
   clear hf k1
   have y0 := HQZ.out.at_ 0 _ rfl
   have y1 := HQZ.out.at_ 1 _ rfl
   have y2 := HQZ.out.at_ 2 _ rfl
   have y3 := HQZ.out.at_ 3 _ rfl
   have y4 := HQZ.out.at_ 4 _ rfl
   have x0 := HQZ.out.free 0
   have x1 := HQZ.out.free 1
   have x2 := HQZ.out.free 2
   have x3 := HQZ.out.free 3
   have x4 := HQZ.out.free 4
   have P := lH (putN (vs := [.string ⟨#[]⟩, .slice none 0 0, .slice none 0 0, .slice none 0 0, .bool false]) HQZ.out rfl)
   clear HQZ
   go_wp2
   obtain ⟨WE, hWE⟩ : ∃ W, w1.setCells (w.heap.size + 2) 0 [.string ⟨#[]⟩, .slice none 0 0, .slice none 0 0, .slice none 0 0, .bool false] = W := ⟨_, rfl⟩
   have hWE2 : (((((w1.setCell ⟨(w.heap.size + 2), 0, none⟩ (.string ⟨#[]⟩)).setCell ⟨(w.heap.size + 2), 1, none⟩ (.slice none 0 0)).setCell ⟨(w.heap.size + 2), 2, none⟩ (.slice none 0 0)).setCell ⟨(w.heap.size + 2), 3, none⟩ (.slice none 0 0)).setCell ⟨(w.heap.size + 2), 4, none⟩ (.bool false)) = WE := hWE
   rw [hWE] at P
   rw [hWE2]
   clear hWE hWE2
   obtain ⟨PC, hsz, hbl, hkp⟩ := P.out
   refine bodyPost_ret (by simp [results, Tryz.results167, go_sem, PC.at_ 0 _ rfl, PC.at_ 1 _ rfl, PC.at_ 2 _ rfl, PC.at_ 3 _ rfl, PC.at_ 4 _ rfl]; try rfl) rfl ?_
   rw [HF.out]
   exact ⟨_, rfl, zero_reads _ _, hkp _ _ (by omega) KW.out⟩
set_option maxRecDepth 100000 in
set_option maxHeartbeats 1600000 in
theorem find_anyB (a : Option Addr) (len cap : Nat) (l : List Nod) (x : ByteArray) (w : World) (hr : NodesAt w a len l) (hlow : ∀ n ∈ l, LowNod n) :
 Calls Tryz.prog 141 #[.slice a len cap, .string x] w fun e w' => ∃ v, e = .returned (.tuple #[v, .bool (findN l x).isSome]) ∧ NodRB w.heap.size w' v ((findN l x).getD Nod.zero) ∧ Kept w w' := by
 obtain ⟨Z, hZ⟩ : ∃ Z, w.alloc (.cells #[.string ⟨#[]⟩, .slice none 0 0, .slice none 0 0, .slice none 0 0, .bool false] 43) = Z := ⟨_, rfl⟩
 have hkz : Kept w Z := by rw [← hZ]; exact kept_alloc _ _
 have hzs : Z.heap.size = w.heap.size + 1 := by rw [← hZ]; simp
 have HQ0 := lH (show CellsN w.heap.size [.string ⟨#[]⟩, .slice none 0 0, .slice none 0 0, .slice none 0 0, .bool false] Z from freshN w (.string ⟨#[]⟩) [.slice none 0 0, .slice none 0 0, .slice none 0 0, .bool false] 43 Z (by rw [hZ]; exact Kept.refl _))
 have HRF := lH (rowsFindN_any a len cap l x Z (hr.kept hkz) hlow)
 have HKZ := lH hkz
 have HZS := lH hzs
 obtain ⟨n9, hn9⟩ : ∃ n, (findN l x).getD Nod.zero = n := ⟨_, rfl⟩
 obtain ⟨is, his⟩ : ∃ n, (findN l x).isSome = n := ⟨_, rfl⟩
 rw [hn9, his] at HRF
 rw [hn9, his]
 clear hr hlow hkz hzs hn9 his
 go_enter Tryz.func141, Tryz.ntmps141
 go_wp2_with fail
 try rw [hZ]
 clear hZ
 refine HRF.out.mono ?_
 rintro e w1 ⟨v, rfl, hn, k1⟩
 have HN := lH hn
 have HQZ := lH (HQ0.out.kept k1)
 have KW := lH (HKZ.out.trans k1)
 obtain ⟨b1, n1, d1, b2, n2, d2, b3, n3, d3, rfl, -⟩ := hn
 obtain ⟨z, hz⟩ : ∃ z, n9.name = z := ⟨_, rfl⟩
 obtain ⟨cd, hcd⟩ : ∃ z, n9.cordon = z := ⟨_, rfl⟩
 rw [hz, hcd]
 rw [hz, hcd] at HN
 clear k1
 have y0 := HQZ.out.at_ 0 _ rfl
 have y1 := HQZ.out.at_ 1 _ rfl
 have y2 := HQZ.out.at_ 2 _ rfl
 have y3 := HQZ.out.at_ 3 _ rfl
 have y4 := HQZ.out.at_ 4 _ rfl
 have x0 := HQZ.out.free 0
 have x1 := HQZ.out.free 1
 have x2 := HQZ.out.free 2
 have x3 := HQZ.out.free 3
 have x4 := HQZ.out.free 4
 have P := lH (putN (vs := [.string z, .slice b1 n1 d1, .slice b2 n2 d2, .slice b3 n3 d3, .bool cd]) HQZ.out rfl)
 clear HQZ
 go_wp2
 obtain ⟨WE, hWE⟩ : ∃ W, w1.setCells w.heap.size 0 [.string z, .slice b1 n1 d1, .slice b2 n2 d2, .slice b3 n3 d3, .bool cd] = W := ⟨_, rfl⟩
 have hWE2 : (((((w1.setCell ⟨w.heap.size, 0, none⟩ (.string z)).setCell ⟨w.heap.size, 1, none⟩ (.slice b1 n1 d1)).setCell ⟨w.heap.size, 2, none⟩ (.slice b2 n2 d2)).setCell ⟨w.heap.size, 3, none⟩ (.slice b3 n3 d3)).setCell ⟨w.heap.size, 4, none⟩ (.bool cd)) = WE := hWE
 rw [hWE] at P
 rw [hWE2]
 clear hWE hWE2
 obtain ⟨PC, hsz, hbl, hkp⟩ := P.out
 refine bodyPost_ret (by simp [results, Tryz.results141, go_sem, PC.at_ 0 _ rfl, PC.at_ 1 _ rfl, PC.at_ 2 _ rfl, PC.at_ 3 _ rfl, PC.at_ 4 _ rfl]; try rfl) rfl ?_
 exact ⟨_, rfl, (HN.out.far hsz (fun b hb => hbl b (by have := HZS.out; omega))).less (by have := HZS.out; omega), hkp _ _ (Nat.le_refl _) KW.out⟩
open Go.RowKit
def chkFromN : Option ByteArray → List Nod → Int
 | _, [] => 0
 | prev, n :: t => if chkNod n ≠ 0 then chkNod n else if Vec.behindB prev n.name = true then 13 else chkFromN (some n.name) t
def chkAllN (l : List Nod) : Int := if 32 < l.length then 4 else chkFromN none l
def prevN (l : List Nod) (k : Nat) : Option ByteArray := if k = 0 then none else (l[k - 1]?).map Nod.name
theorem prevN_zero {l : List Nod} {k : Nat} (h : k = 0) (s : ByteArray) : Vec.behindB (prevN l k) s = false := by unfold prevN; rw [if_pos h]; rfl
theorem prevN_some {l : List Nod} {k : Nat} {n : Nod} (h : ¬ k = 0) (hn : l[k - 1]? = some n) (s : ByteArray) : Vec.behindB (prevN l k) s = leS s n.name := by unfold prevN; rw [if_neg h, hn]; rfl
theorem prevN_succ {l : List Nod} {k : Nat} {n : Nod} (hn : l[k]? = some n) : prevN l (k + 1) = some n.name := by unfold prevN; rw [if_neg (by omega), Nat.add_sub_cancel, hn]; rfl
theorem chkN_bad {p : Option ByteArray} {n : Nod} {t : List Nod} (h : chkNod n ≠ 0) : chkFromN p (n :: t) = chkNod n := by rw [chkFromN, if_pos h]
theorem chkN_order {p : Option ByteArray} {n : Nod} {t : List Nod} (h : chkNod n = 0) (b : Vec.behindB p n.name = true) : chkFromN p (n :: t) = 13 := by rw [chkFromN, if_neg (by rw [h]; decide), if_pos b]
theorem chkN_next {p : Option ByteArray} {n : Nod} {t : List Nod} (h : chkNod n = 0) (b : Vec.behindB p n.name = false) : chkFromN p (n :: t) = chkFromN (some n.name) t := by rw [chkFromN, if_neg (by rw [h]; decide), if_neg (by rw [b]; decide)]
set_option maxRecDepth 100000 in
set_option maxHeartbeats 3200000 in
theorem rowsCheckN_any (a : Option Addr) (len cap : Nat) (l : List Nod) (w : World) (hr : NodesAt w a len l) :
 Calls Tryz.prog 147 #[.slice a len cap, .int .i64 32, .func (.func 148) #[] #[], .func (.func 149) #[] #[]] w (Say (.int .i64 (chkAllN l)) w) := by
 have hl := hr.1
 have hm := hr.2.1
 unfold maxLen at hm
 by_cases h32 : 32 < len
 · have HV := lH (show chkAllN l = 4 by unfold chkAllN; rw [if_pos (by omega)])
   clear hr hl
   go_enter Tryz.func147, Tryz.ntmps147
   go_wp2
   go_ret
   exact ⟨ret_i64 HV.out.symm, Kept.refl _⟩
 · have HV := lH (show chkAllN l = chkFromN none l by unfold chkAllN; rw [if_neg (by omega)])
   have h32' : len ≤ 32 := by omega
   by_cases h0 : len = 0
   · subst h0
     have HE := lH (show chkAllN l = 0 by rw [HV.out, List.eq_nil_of_length_eq_zero hl]; rfl)
     clear hr hl h32
     go_enter Tryz.func147, Tryz.ntmps147
     go_wp2
     refine wp_loop_rounds 1 ?_
     rw [rounds_succ]
     go_wp2
     go_ret
     exact ⟨ret_i64 HE.out.symm, Kept.refl _⟩
   · obtain ⟨b, off, rfl⟩ := hr.form.resolve_left h0
     have HR := lH hr
     have HL := lH hl
     clear hr hl h0 h32
     go_enter Tryz.func147, Tryz.ntmps147
     go_wp2
     go_loopw [18] (fun i wr => ∃ k : Nat, k ≤ len ∧ i = .int .i64 k ∧ chkFromN (prevN l k) (l.drop k) = chkFromN none l ∧ Kept w wr) (fun i _ => len - (intOf i).toNat)
     case atStart => exact ⟨0, Nat.zero_le _, rfl, rfl, Kept.refl _⟩
     case round =>
      obtain ⟨k, hk, rfl, hrest, hK⟩ := hrel
      have HS := lH (HV.out.trans hrest.symm)
      have HT := lH hrest
      have HK := lH hK
      by_cases hlt : k < len
      · obtain ⟨n, a1, m1, c1, a2, m2, c2, a3, m3, c3, hn, hd, hb, p0, p1, p2, p3, p4, hat⟩ := (HR.out.kept hK).at_ hlt
        have HAT := lH hat
        have HD := lH hd
        have HNX := lH (prevN_succ hn)
        have HCK := lH (fun W (kk : Kept wr W) => checkN_any n (.slice a1 m1 c1) (.slice a2 m2 c2) (.slice a3 m3 c3) W (HAT.out.kept kk))
        have HNA := lH (fun W => nameOfN_any n (.slice a1 m1 c1) (.slice a2 m2 c2) (.slice a3 m3 c3) W)
        unfold NodV at HCK HNA
        obtain ⟨ck, hck⟩ : ∃ x, chkNod n = x := ⟨_, rfl⟩
        have HCN := lH hck
        rw [hck] at HCK
        have hkk : (k : Int) < (len : Int) := by omega
        clear hrest hK hat hd hck
        by_cases z1 : ck = 0
        · subst z1
          by_cases h0 : k = 0
          · have hd0 : decide (0 < k) = false := by subst h0; decide
            have HP := lH (prevN_zero (l := l) h0 n.name)
            clear h0
            go_wp2_with fail
            refine (HCK.out _ (kept_alloc _ _)).mono ?_
            rintro e w1 ⟨rfl, kk⟩
            have KW := lH (Kept.trans (kept_alloc _ _) kk)
            have HBX := lH (fun W k => freshN wr (.string n.name) [.slice a1 m1 c1, .slice a2 m2 c2, .slice a3 m3 c3, .bool n.cordon] 43 W (Kept.trans kk k))
            have y0 := (HBX.out w1 (Kept.refl _)).at_ 0 _ rfl
            have y1 := (HBX.out w1 (Kept.refl _)).at_ 1 _ rfl
            have y2 := (HBX.out w1 (Kept.refl _)).at_ 2 _ rfl
            have y3 := (HBX.out w1 (Kept.refl _)).at_ 3 _ rfl
            have y4 := (HBX.out w1 (Kept.refl _)).at_ 4 _ rfl
            clear kk
            go_wp2
            go_quiet (fail)
            go_wp2
            go_roundw
            case rel => exact ⟨k + 1, by omega, by go_num, (show chkFromN (prevN l (k + 1)) (l.drop (k + 1)) = chkFromN none l by rw [← HT.out, HD.out, chkN_next HCN.out HP.out, HNX.out]), HK.out.trans (KW.out.trans (Kept.drewN _ _))⟩
            case measure => simp [intOf]; omega
          · have hd0 : decide (0 < k) = true := by simp; omega
            obtain ⟨q, hqk⟩ : ∃ q, k = q + 1 := ⟨k - 1, by omega⟩
            have g1 : (k : Int) - 1 = (q : Int) := by omega
            have gw : IntKind.i64.wrap (q : Int) = (q : Int) := by rw [IntKind.wrap_i64]; omega
            have g2 : (q : Int) < (len : Int) := by omega
            obtain ⟨n9, b1, h1, d1, b2, h2, d2, b3, h3, d3, hn9, -, hb9, q0, q1, q2, q3, q4, -⟩ := (HR.out.kept HK.out).at_ (show q < len by omega)
            have HQK := lH hqk
            have hqk1 : k - 1 = q := by omega
            have HP := lH (prevN_some (l := l) h0 (show l[k - 1]? = some n9 by rw [hqk1]; exact hn9) n.name)
            clear hqk hqk1
            have HNB := lH (fun W => nameOfN_any n9 (.slice b1 h1 d1) (.slice b2 h2 d2) (.slice b3 h3 d3) W)
            unfold NodV at HNB
            clear h0 hn9
            by_cases n3 : leS n.name n9.name = true
            · have n3' : (Op.bytesLess n.name.toList n9.name.toList || n.name.toList == n9.name.toList) = true := n3
              have N3 := lH n3
              clear n3
              go_wp2_with fail
              refine (HCK.out _ (kept_alloc _ _)).mono ?_
              rintro e w1 ⟨rfl, kk⟩
              have KW := lH (Kept.trans (kept_alloc _ _) kk)
              have HBX := lH (fun W k => freshN wr (.string n.name) [.slice a1 m1 c1, .slice a2 m2 c2, .slice a3 m3 c3, .bool n.cordon] 43 W (Kept.trans kk k))
              have y0 := (HBX.out w1 (Kept.refl _)).at_ 0 _ rfl
              have y1 := (HBX.out w1 (Kept.refl _)).at_ 1 _ rfl
              have y2 := (HBX.out w1 (Kept.refl _)).at_ 2 _ rfl
              have y3 := (HBX.out w1 (Kept.refl _)).at_ 3 _ rfl
              have y4 := (HBX.out w1 (Kept.refl _)).at_ 4 _ rfl
              have HO := lH (show ∀ W, Kept w1 W → (W.cell? ⟨wr.heap.size, 0, none⟩ = some (.string n.name) ∧ W.cell? ⟨wr.heap.size, 1, none⟩ = some (.slice a1 m1 c1) ∧ W.cell? ⟨wr.heap.size, 2, none⟩ = some (.slice a2 m2 c2) ∧ W.cell? ⟨wr.heap.size, 3, none⟩ = some (.slice a3 m3 c3) ∧ W.cell? ⟨wr.heap.size, 4, none⟩ = some (.bool n.cordon)) ∧ (W.cell? ⟨b, off + q * 5, none⟩ = some (.string n9.name) ∧ W.cell? ⟨b, off + q * 5 + 1, none⟩ = some (.slice b1 h1 d1) ∧ W.cell? ⟨b, off + q * 5 + 2, none⟩ = some (.slice b2 h2 d2) ∧ W.cell? ⟨b, off + q * 5 + 3, none⟩ = some (.slice b3 h3 d3) ∧ W.cell? ⟨b, off + q * 5 + 4, none⟩ = some (.bool n9.cordon)) from fun W k => ⟨⟨(HBX.out W k).at_ 0 _ rfl, (HBX.out W k).at_ 1 _ rfl, (HBX.out W k).at_ 2 _ rfl, (HBX.out W k).at_ 3 _ rfl, (HBX.out W k).at_ 4 _ rfl⟩, ⟨cell_later (KW.out.trans k) q0, cell_later (KW.out.trans k) q1, cell_later (KW.out.trans k) q2, cell_later (KW.out.trans k) q3, cell_later (KW.out.trans k) q4⟩⟩)
              clear kk q0 q1 q2 q3 q4
              go_wp2
              go_region_held3 (fun W => (W.cell? ⟨wr.heap.size, 0, none⟩ = some (.string n.name) ∧ W.cell? ⟨wr.heap.size, 1, none⟩ = some (.slice a1 m1 c1) ∧ W.cell? ⟨wr.heap.size, 2, none⟩ = some (.slice a2 m2 c2) ∧ W.cell? ⟨wr.heap.size, 3, none⟩ = some (.slice a3 m3 c3) ∧ W.cell? ⟨wr.heap.size, 4, none⟩ = some (.bool n.cordon)) ∧ (W.cell? ⟨b, off + q * 5, none⟩ = some (.string n9.name) ∧ W.cell? ⟨b, off + q * 5 + 1, none⟩ = some (.slice b1 h1 d1) ∧ W.cell? ⟨b, off + q * 5 + 2, none⟩ = some (.slice b2 h2 d2) ∧ W.cell? ⟨b, off + q * 5 + 3, none⟩ = some (.slice b3 h3 d3) ∧ W.cell? ⟨b, off + q * 5 + 4, none⟩ = some (.bool n9.cordon)))
               (first | exact HO.out _ (Kept.drew _) | exact HO.out _ J1.out | exact HO.out _ J2.out)
               (first | (go_at_call 148; refine (HNA.out _).mono ?_; rintro e1 w2 ⟨rfl, k1⟩; have J1 := lH ((Kept.drew _).trans k1); clear k1)
                      | (go_at_call 148; refine (HNB.out _).mono ?_; rintro e2 w3 ⟨rfl, k1⟩; have J2 := lH (J1.out.trans k1); clear k1))
              go_wp2
              go_ret
              exact ⟨ret_i64 (show (13 : Int) = chkAllN l by rw [HS.out, HD.out, chkN_order HCN.out (HP.out.trans N3.out)]), HK.out.trans (KW.out.trans J2.out)⟩
            · have n3 : leS n.name n9.name = false := by simpa using n3
              have n3' : (Op.bytesLess n.name.toList n9.name.toList || n.name.toList == n9.name.toList) = false := n3
              have N3 := lH n3
              clear n3
              go_wp2_with fail
              refine (HCK.out _ (kept_alloc _ _)).mono ?_
              rintro e w1 ⟨rfl, kk⟩
              have KW := lH (Kept.trans (kept_alloc _ _) kk)
              have HBX := lH (fun W k => freshN wr (.string n.name) [.slice a1 m1 c1, .slice a2 m2 c2, .slice a3 m3 c3, .bool n.cordon] 43 W (Kept.trans kk k))
              have y0 := (HBX.out w1 (Kept.refl _)).at_ 0 _ rfl
              have y1 := (HBX.out w1 (Kept.refl _)).at_ 1 _ rfl
              have y2 := (HBX.out w1 (Kept.refl _)).at_ 2 _ rfl
              have y3 := (HBX.out w1 (Kept.refl _)).at_ 3 _ rfl
              have y4 := (HBX.out w1 (Kept.refl _)).at_ 4 _ rfl
              have HO := lH (show ∀ W, Kept w1 W → (W.cell? ⟨wr.heap.size, 0, none⟩ = some (.string n.name) ∧ W.cell? ⟨wr.heap.size, 1, none⟩ = some (.slice a1 m1 c1) ∧ W.cell? ⟨wr.heap.size, 2, none⟩ = some (.slice a2 m2 c2) ∧ W.cell? ⟨wr.heap.size, 3, none⟩ = some (.slice a3 m3 c3) ∧ W.cell? ⟨wr.heap.size, 4, none⟩ = some (.bool n.cordon)) ∧ (W.cell? ⟨b, off + q * 5, none⟩ = some (.string n9.name) ∧ W.cell? ⟨b, off + q * 5 + 1, none⟩ = some (.slice b1 h1 d1) ∧ W.cell? ⟨b, off + q * 5 + 2, none⟩ = some (.slice b2 h2 d2) ∧ W.cell? ⟨b, off + q * 5 + 3, none⟩ = some (.slice b3 h3 d3) ∧ W.cell? ⟨b, off + q * 5 + 4, none⟩ = some (.bool n9.cordon)) from fun W k => ⟨⟨(HBX.out W k).at_ 0 _ rfl, (HBX.out W k).at_ 1 _ rfl, (HBX.out W k).at_ 2 _ rfl, (HBX.out W k).at_ 3 _ rfl, (HBX.out W k).at_ 4 _ rfl⟩, ⟨cell_later (KW.out.trans k) q0, cell_later (KW.out.trans k) q1, cell_later (KW.out.trans k) q2, cell_later (KW.out.trans k) q3, cell_later (KW.out.trans k) q4⟩⟩)
              clear kk q0 q1 q2 q3 q4
              go_wp2
              go_region_held3 (fun W => (W.cell? ⟨wr.heap.size, 0, none⟩ = some (.string n.name) ∧ W.cell? ⟨wr.heap.size, 1, none⟩ = some (.slice a1 m1 c1) ∧ W.cell? ⟨wr.heap.size, 2, none⟩ = some (.slice a2 m2 c2) ∧ W.cell? ⟨wr.heap.size, 3, none⟩ = some (.slice a3 m3 c3) ∧ W.cell? ⟨wr.heap.size, 4, none⟩ = some (.bool n.cordon)) ∧ (W.cell? ⟨b, off + q * 5, none⟩ = some (.string n9.name) ∧ W.cell? ⟨b, off + q * 5 + 1, none⟩ = some (.slice b1 h1 d1) ∧ W.cell? ⟨b, off + q * 5 + 2, none⟩ = some (.slice b2 h2 d2) ∧ W.cell? ⟨b, off + q * 5 + 3, none⟩ = some (.slice b3 h3 d3) ∧ W.cell? ⟨b, off + q * 5 + 4, none⟩ = some (.bool n9.cordon)))
               (first | exact HO.out _ (Kept.drew _) | exact HO.out _ J1.out | exact HO.out _ J2.out)
               (first | (go_at_call 148; refine (HNA.out _).mono ?_; rintro e1 w2 ⟨rfl, k1⟩; have J1 := lH ((Kept.drew _).trans k1); clear k1)
                      | (go_at_call 148; refine (HNB.out _).mono ?_; rintro e2 w3 ⟨rfl, k1⟩; have J2 := lH (J1.out.trans k1); clear k1))
              go_wp2
              go_roundw
              case rel => exact ⟨k + 1, by omega, by go_num, (show chkFromN (prevN l (k + 1)) (l.drop (k + 1)) = chkFromN none l by rw [← HT.out, HD.out, chkN_next HCN.out (HP.out.trans N3.out), HNX.out]), HK.out.trans (KW.out.trans J2.out)⟩
              case measure => simp [intOf]; omega
        · have z1' : (ck != 0) = true := by simpa using z1
          have HB := lH (show chkAllN l = ck by rw [HS.out, HD.out, chkN_bad (by rw [HCN.out]; exact z1), HCN.out])
          clear z1
          go_wp2_with fail
          refine (HCK.out _ (kept_alloc _ _)).mono ?_
          rintro e w1 ⟨rfl, kk⟩
          have KW := lH (Kept.trans (kept_alloc _ _) kk)
          clear kk
          go_wp2
          go_ret
          exact ⟨ret_i64 HB.out.symm, HK.out.trans KW.out⟩
      · have HE := lH (show chkAllN l = 0 by rw [HS.out, List.drop_of_length_le (by rw [HL.out]; omega)]; rfl)
        clear hrest hK
        go_wp2
        go_ret
        exact ⟨ret_i64 HE.out.symm, HK.out⟩
theorem checkAll_any (a : Option Addr) (len cap : Nat) (l : List Nod) (w : World) (hr : NodesAt w a len l) :
 Calls Tryz.prog 114 #[.slice a len cap] w (Say (.int .i64 (chkAllN l)) w) := by
 have H := lH (rowsCheckN_any a len cap l w hr)
 clear hr
 go_enter Tryz.func114, Tryz.ntmps114
 go_wp2_with fail
 refine H.out.mono ?_
 rintro e w1 ⟨rfl, k⟩
 have K := lH k
 clear k
 go_wp2
 go_ret
 exact ⟨rfl, K.out⟩
set_option maxRecDepth 100000 in
set_option maxHeartbeats 1600000 in
theorem rcheckAll_any (a : Option Addr) (len cap : Nat) (l : List Nod) (w : World) (hr : NodesAt w a len l) :
 Calls Tryz.prog 118 #[.slice a len cap] w (Say (.int .i64 (chkAllN l)) w) := by
 have hl := hr.1
 have hm := hr.2.1
 unfold maxLen at hm
 by_cases h32 : 32 < len
 · have HV := lH (show chkAllN l = 4 by unfold chkAllN; rw [if_pos (by omega)])
   clear hr hl
   go_enter Tryz.func118, Tryz.ntmps118
   go_wp2
   go_ret
   exact ⟨ret_i64 HV.out.symm, Kept.refl _⟩
 · have HV := lH (show chkAllN l = chkFromN none l by unfold chkAllN; rw [if_neg (by omega)])
   have h32' : len ≤ 32 := by omega
   by_cases h0 : len = 0
   · subst h0
     have HE := lH (show chkAllN l = 0 by rw [HV.out, List.eq_nil_of_length_eq_zero hl]; rfl)
     clear hr hl h32
     go_enter Tryz.func118, Tryz.ntmps118
     go_wp2
     refine wp_loop_rounds 1 ?_
     rw [rounds_succ]
     go_wp2
     go_ret
     exact ⟨ret_i64 HE.out.symm, Kept.refl _⟩
   · obtain ⟨b, off, rfl⟩ := hr.form.resolve_left h0
     have HR := lH hr
     have HL := lH hl
     clear hr hl h0 h32
     go_enter Tryz.func118, Tryz.ntmps118
     go_wp2
     go_loopw [3] (fun i wr => ∃ k : Nat, k ≤ len ∧ i = .int .i64 k ∧ chkFromN (prevN l k) (l.drop k) = chkFromN none l ∧ Kept w wr) (fun i _ => len - (intOf i).toNat)
     case atStart => exact ⟨0, Nat.zero_le _, rfl, rfl, Kept.refl _⟩
     case round =>
      obtain ⟨k, hk, rfl, hrest, hK⟩ := hrel
      have HS := lH (HV.out.trans hrest.symm)
      have HT := lH hrest
      have HK := lH hK
      by_cases hlt : k < len
      · obtain ⟨n, a1, m1, c1, a2, m2, c2, a3, m3, c3, hn, hd, hb, p0, p1, p2, p3, p4, hat⟩ := (HR.out.kept hK).at_ hlt
        have HAT := lH hat
        have HD := lH hd
        have HNX := lH (prevN_succ hn)
        have HCK := lH (fun W (kk : Kept wr W) => rcheckN_any n (.slice a1 m1 c1) (.slice a2 m2 c2) (.slice a3 m3 c3) W (HAT.out.kept kk))
        unfold NodV at HCK
        obtain ⟨ck, hck⟩ : ∃ x, chkNod n = x := ⟨_, rfl⟩
        have HCN := lH hck
        rw [hck] at HCK
        have hkk : (k : Int) < (len : Int) := by omega
        clear hrest hK hat hd hck
        by_cases z1 : ck = 0
        · subst z1
          by_cases h0 : k = 0
          · have hd0 : decide (0 < k) = false := by subst h0; decide
            have HP := lH (prevN_zero (l := l) h0 n.name)
            clear h0
            go_wp2_with fail
            refine (HCK.out _ (Kept.refl _)).mono ?_
            rintro e w1 ⟨rfl, kk⟩
            have KW := lH kk
            clear kk
            go_wp2
            go_quiet (fail)
            go_wp2
            go_roundw
            case rel => exact ⟨k + 1, by omega, by go_num, (show chkFromN (prevN l (k + 1)) (l.drop (k + 1)) = chkFromN none l by rw [← HT.out, HD.out, chkN_next HCN.out HP.out, HNX.out]), HK.out.trans (KW.out.trans (Kept.drewN _ _))⟩
            case measure => simp [intOf]; omega
          · have hd0 : decide (0 < k) = true := by simp; omega
            have g1 : 0 ≤ (k : Int) - 1 := by omega
            have g2 : (k : Int) - 1 < (len : Int) := by omega
            have g3 : ((k : Int) - 1).toNat = k - 1 := by omega
            obtain ⟨n9, _, _, _, _, _, _, _, _, _, hn9, -, hb9, o0, -⟩ := (HR.out.kept HK.out).at_ (show k - 1 < len by omega)
            have HP := lH (prevN_some (l := l) h0 hn9 n.name)
            clear h0 hn9
            by_cases n3 : leS n.name n9.name = true
            · have n3' : (Op.bytesLess n.name.toList n9.name.toList || n.name.toList == n9.name.toList) = true := n3
              have N3 := lH n3
              clear n3
              go_wp2_with fail
              refine (HCK.out _ (Kept.refl _)).mono ?_
              rintro e w1 ⟨rfl, kk⟩
              have KW := lH kk
              have o1 := cell_later kk o0
              have p9 := cell_later kk p0
              clear kk
              go_wp2
              go_quiet (fail)
              go_wp2
              go_ret
              exact ⟨ret_i64 (show (13 : Int) = chkAllN l by rw [HS.out, HD.out, chkN_order HCN.out (HP.out.trans N3.out)]), HK.out.trans (KW.out.trans (Kept.drewN _ _))⟩
            · have n3 : leS n.name n9.name = false := by simpa using n3
              have n3' : (Op.bytesLess n.name.toList n9.name.toList || n.name.toList == n9.name.toList) = false := n3
              have N3 := lH n3
              clear n3
              go_wp2_with fail
              refine (HCK.out _ (Kept.refl _)).mono ?_
              rintro e w1 ⟨rfl, kk⟩
              have KW := lH kk
              have o1 := cell_later kk o0
              have p9 := cell_later kk p0
              clear kk
              go_wp2
              go_quiet (fail)
              go_wp2
              go_roundw
              case rel => exact ⟨k + 1, by omega, by go_num, (show chkFromN (prevN l (k + 1)) (l.drop (k + 1)) = chkFromN none l by rw [← HT.out, HD.out, chkN_next HCN.out (HP.out.trans N3.out), HNX.out]), HK.out.trans (KW.out.trans (Kept.drewN _ _))⟩
              case measure => simp [intOf]; omega
        · have z1' : (ck != 0) = true := by simpa using z1
          have HB := lH (show chkAllN l = ck by rw [HS.out, HD.out, chkN_bad (by rw [HCN.out]; exact z1), HCN.out])
          clear z1
          go_wp2_with fail
          refine (HCK.out _ (Kept.refl _)).mono ?_
          rintro e w1 ⟨rfl, kk⟩
          have KW := lH kk
          clear kk
          go_wp2
          go_ret
          exact ⟨ret_i64 HB.out.symm, HK.out.trans KW.out⟩
      · have HE := lH (show chkAllN l = 0 by rw [HS.out, List.drop_of_length_le (by rw [HL.out]; omega)]; rfl)
        clear hrest hK
        go_wp2
        go_ret
        exact ⟨ret_i64 HE.out.symm, HK.out⟩
theorem rcheckAllR {v : Value} {l : List Nod} {c : Int} {w : World} (h : NodesR w v l) (hc : chkAllN l = c) : Calls Tryz.prog 118 #[v] w (Say (.int .i64 c) w) := by
 subst hc
 obtain ⟨a, cap, rfl, _, _, hr⟩ := h
 exact rcheckAll_any a _ cap l w hr
open Go.RowKit
set_option maxHeartbeats 1600000 in
theorem sameNod_any (n m : Nod) (v1 v2 v3 u1 u2 u3 : Value) (w : World) (h : NodAt w v1 v2 v3 n) (g : NodAt w u1 u2 u3 m) :
 Calls Tryz.prog 37 #[NodV n v1 v2 v3, NodV m u1 u2 u3] w (Say (.bool (sameN n m)) w) := by
 have HH := lH h
 have GG := lH g
 obtain ⟨b1, hb1⟩ : ∃ b, eqS n.name m.name = b := ⟨_, rfl⟩
 obtain ⟨b2, hb2⟩ : ∃ b, (n.cordon == m.cordon) = b := ⟨_, rfl⟩
 obtain ⟨b3, hb3⟩ : ∃ b, Vec.sameFrom n.cap m.cap = b := ⟨_, rfl⟩
 obtain ⟨b4, hb4⟩ : ∃ b, sameP n.labels m.labels = b := ⟨_, rfl⟩
 obtain ⟨b5, hb5⟩ : ∃ b, sameA n.taints m.taints = b := ⟨_, rfl⟩
 have HV0 := lH (show sameN n m = (b1 && (b2 && (b3 && (b4 && b5)))) by unfold sameN; rw [hb1, hb2, hb3, hb4, hb5])
 have t1 : (n.name.toList == m.name.toList) = b1 := hb1
 have B3 := lH hb3
 have B4 := lH hb4
 have B5 := lH hb5
 obtain ⟨W0, hW0⟩ : ∃ W0, (w.alloc (.cells #[.string n.name, v1, v2, v3, .bool n.cordon] 43)).alloc (.cells #[.string m.name, u1, u2, u3, .bool m.cordon] 43) = W0 := ⟨_, rfl⟩
 have hk0 : Kept w W0 := by rw [← hW0]; exact kept_two _ _ _
 have HK0 := lH hk0
 have HC := lH (show ∀ W, Kept W0 W → (W.cell? ⟨w.heap.size, 0, none⟩ = some (.string n.name) ∧ W.cell? ⟨w.heap.size, 4, none⟩ = some (.bool n.cordon) ∧ W.cell? ⟨w.heap.size, 1, none⟩ = some v1 ∧ W.cell? ⟨w.heap.size, 2, none⟩ = some v2 ∧ W.cell? ⟨w.heap.size, 3, none⟩ = some v3) ∧ (W.cell? ⟨w.heap.size + 1, 0, none⟩ = some (.string m.name) ∧ W.cell? ⟨w.heap.size + 1, 4, none⟩ = some (.bool m.cordon) ∧ W.cell? ⟨w.heap.size + 1, 1, none⟩ = some u1 ∧ W.cell? ⟨w.heap.size + 1, 2, none⟩ = some u2 ∧ W.cell? ⟨w.heap.size + 1, 3, none⟩ = some u3) from fun W k => by
  have hh := (w.alloc (.cells #[.string n.name, v1, v2, v3, .bool n.cordon] 43)).alloc_heap_new (.cells #[.string m.name, u1, u2, u3, .bool m.cordon] 43)
  have h9 := w.alloc_heap_new (.cells #[.string n.name, v1, v2, v3, .bool n.cordon] 43)
  have kk : Kept (w.alloc (.cells #[.string n.name, v1, v2, v3, .bool n.cordon] 43)) W0 := by rw [← hW0]; exact kept_alloc _ _
  rw [hW0, World.size_alloc] at hh
  have k2 := kk.trans k
  exact ⟨⟨cell_later k2 (by rw [Lib.cell_of_heap h9]; rfl), cell_later k2 (by rw [Lib.cell_of_heap h9]; rfl), cell_later k2 (by rw [Lib.cell_of_heap h9]; rfl), cell_later k2 (by rw [Lib.cell_of_heap h9]; rfl), cell_later k2 (by rw [Lib.cell_of_heap h9]; rfl)⟩, ⟨cell_later k (by rw [Lib.cell_of_heap hh]; rfl), cell_later k (by rw [Lib.cell_of_heap hh]; rfl), cell_later k (by rw [Lib.cell_of_heap hh]; rfl), cell_later k (by rw [Lib.cell_of_heap hh]; rfl), cell_later k (by rw [Lib.cell_of_heap hh]; rfl)⟩⟩)
 obtain ⟨⟨c0, c4, c1, c2, c3⟩, d0, d4, d1, d2, d3⟩ := HC.out _ (Kept.refl _)
 clear hb1 hb3 hb4 hb5 hk0 h g
 unfold NodV
 by_cases z1 : b1 = true
 · subst z1
   by_cases z2 : b2 = true
   · subst z2
     by_cases z3 : b3 = true
     · subst z3
       by_cases z4 : b4 = true
       · subst z4
         by_cases z5 : b5 = true
         · subst z5
           have HV := lH (show sameN n m = true by rw [HV0.out]; rfl)
           go_enter Tryz.func37, Tryz.ntmps37
           have K := lH (Kept.refl W0)
           go_wp2_with fail
           refine (Vec.sameR (HH.out.cap.kept (HK0.out.trans K.out)) (GG.out.cap.kept (HK0.out.trans K.out)) B3.out).mono ?_
           rintro e w1 ⟨rfl, k1⟩
           have K := lH (K.out.trans k1)
           clear k1
           obtain ⟨⟨c0, c4, c1, c2, c3⟩, d0, d4, d1, d2, d3⟩ := HC.out _ K.out
           go_wp2_with fail
           refine (equalPR (HH.out.labels.kept (HK0.out.trans K.out)) (GG.out.labels.kept (HK0.out.trans K.out)) B4.out).mono ?_
           rintro e w2 ⟨rfl, k2⟩
           have K := lH (K.out.trans k2)
           clear k2
           obtain ⟨⟨c0, c4, c1, c2, c3⟩, d0, d4, d1, d2, d3⟩ := HC.out _ K.out
           go_wp2_with fail
           refine (equalAR (HH.out.taints.kept (HK0.out.trans K.out)) (GG.out.taints.kept (HK0.out.trans K.out)) B5.out).mono ?_
           rintro e w3 ⟨rfl, k3⟩
           have K := lH (K.out.trans k3)
           clear k3
           go_wp2
           go_ret
           exact ⟨ret_bool HV.out.symm, HK0.out.trans K.out⟩
         · obtain rfl : b5 = false := by simpa using z5
           clear z5
           have HV := lH (show sameN n m = false by rw [HV0.out]; simp)
           go_enter Tryz.func37, Tryz.ntmps37
           have K := lH (Kept.refl W0)
           go_wp2_with fail
           refine (Vec.sameR (HH.out.cap.kept (HK0.out.trans K.out)) (GG.out.cap.kept (HK0.out.trans K.out)) B3.out).mono ?_
           rintro e w1 ⟨rfl, k1⟩
           have K := lH (K.out.trans k1)
           clear k1
           obtain ⟨⟨c0, c4, c1, c2, c3⟩, d0, d4, d1, d2, d3⟩ := HC.out _ K.out
           go_wp2_with fail
           refine (equalPR (HH.out.labels.kept (HK0.out.trans K.out)) (GG.out.labels.kept (HK0.out.trans K.out)) B4.out).mono ?_
           rintro e w2 ⟨rfl, k2⟩
           have K := lH (K.out.trans k2)
           clear k2
           obtain ⟨⟨c0, c4, c1, c2, c3⟩, d0, d4, d1, d2, d3⟩ := HC.out _ K.out
           go_wp2_with fail
           refine (equalAR (HH.out.taints.kept (HK0.out.trans K.out)) (GG.out.taints.kept (HK0.out.trans K.out)) B5.out).mono ?_
           rintro e w3 ⟨rfl, k3⟩
           have K := lH (K.out.trans k3)
           clear k3
           go_wp2
           go_ret
           exact ⟨ret_bool HV.out.symm, HK0.out.trans K.out⟩
       · obtain rfl : b4 = false := by simpa using z4
         clear z4
         have HV := lH (show sameN n m = false by rw [HV0.out]; simp)
         go_enter Tryz.func37, Tryz.ntmps37
         have K := lH (Kept.refl W0)
         go_wp2_with fail
         refine (Vec.sameR (HH.out.cap.kept (HK0.out.trans K.out)) (GG.out.cap.kept (HK0.out.trans K.out)) B3.out).mono ?_
         rintro e w1 ⟨rfl, k1⟩
         have K := lH (K.out.trans k1)
         clear k1
         obtain ⟨⟨c0, c4, c1, c2, c3⟩, d0, d4, d1, d2, d3⟩ := HC.out _ K.out
         go_wp2_with fail
         refine (equalPR (HH.out.labels.kept (HK0.out.trans K.out)) (GG.out.labels.kept (HK0.out.trans K.out)) B4.out).mono ?_
         rintro e w2 ⟨rfl, k2⟩
         have K := lH (K.out.trans k2)
         clear k2
         go_wp2
         go_ret
         exact ⟨ret_bool HV.out.symm, HK0.out.trans K.out⟩
     · obtain rfl : b3 = false := by simpa using z3
       clear z3
       have HV := lH (show sameN n m = false by rw [HV0.out]; simp)
       go_enter Tryz.func37, Tryz.ntmps37
       have K := lH (Kept.refl W0)
       go_wp2_with fail
       refine (Vec.sameR (HH.out.cap.kept (HK0.out.trans K.out)) (GG.out.cap.kept (HK0.out.trans K.out)) B3.out).mono ?_
       rintro e w1 ⟨rfl, k1⟩
       have K := lH (K.out.trans k1)
       clear k1
       go_wp2
       go_ret
       exact ⟨ret_bool HV.out.symm, HK0.out.trans K.out⟩
   · obtain rfl : b2 = false := by simpa using z2
     clear z2
     have HV := lH (show sameN n m = false by rw [HV0.out]; simp)
     go_enter Tryz.func37, Tryz.ntmps37
     go_wp2
     go_ret
     exact ⟨ret_bool HV.out.symm, HK0.out⟩
 · obtain rfl : b1 = false := by simpa using z1
   clear z1
   have HV := lH (show sameN n m = false by rw [HV0.out]; simp)
   go_enter Tryz.func37, Tryz.ntmps37
   go_wp2
   go_ret
   exact ⟨ret_bool HV.out.symm, HK0.out⟩
theorem sameNodR {v u : Value} {n m : Nod} {b : Bool} {w : World} (h : NodR w v n) (g : NodR w u m) (hb : sameN n m = b) : Calls Tryz.prog 37 #[v, u] w (Say (.bool b) w) := by
 subst hb
 obtain ⟨v1, v2, v3, rfl, h⟩ := h
 obtain ⟨u1, u2, u3, rfl, g⟩ := g
 exact sameNod_any n m v1 v2 v3 u1 u2 u3 w h g
set_option maxHeartbeats 1600000 in
theorem rsameNod_any (n m : Nod) (v1 v2 v3 u1 u2 u3 : Value) (w : World) (h : NodAt w v1 v2 v3 n) (g : NodAt w u1 u2 u3 m) :
 Calls Tryz.prog 41 #[NodV n v1 v2 v3, NodV m u1 u2 u3] w (Say (.bool (sameN n m)) w) := by
 have HH := lH h
 have GG := lH g
 obtain ⟨b1, hb1⟩ : ∃ b, eqS n.name m.name = b := ⟨_, rfl⟩
 obtain ⟨b2, hb2⟩ : ∃ b, (n.cordon == m.cordon) = b := ⟨_, rfl⟩
 obtain ⟨b3, hb3⟩ : ∃ b, Vec.sameFrom n.cap m.cap = b := ⟨_, rfl⟩
 obtain ⟨b4, hb4⟩ : ∃ b, sameP n.labels m.labels = b := ⟨_, rfl⟩
 obtain ⟨b5, hb5⟩ : ∃ b, sameA n.taints m.taints = b := ⟨_, rfl⟩
 have HV0 := lH (show sameN n m = (b1 && (b2 && (b3 && (b4 && b5)))) by unfold sameN; rw [hb1, hb2, hb3, hb4, hb5])
 have t1 : (n.name.toList == m.name.toList) = b1 := hb1
 have B3 := lH hb3
 have B4 := lH hb4
 have B5 := lH hb5
 obtain ⟨W0, hW0⟩ : ∃ W0, (w.alloc (.cells #[.string n.name, v1, v2, v3, .bool n.cordon] 94)).alloc (.cells #[.string m.name, u1, u2, u3, .bool m.cordon] 94) = W0 := ⟨_, rfl⟩
 have hk0 : Kept w W0 := by rw [← hW0]; exact kept_two _ _ _
 have HK0 := lH hk0
 have HC := lH (show ∀ W, Kept W0 W → (W.cell? ⟨w.heap.size, 0, none⟩ = some (.string n.name) ∧ W.cell? ⟨w.heap.size, 4, none⟩ = some (.bool n.cordon) ∧ W.cell? ⟨w.heap.size, 1, none⟩ = some v1 ∧ W.cell? ⟨w.heap.size, 2, none⟩ = some v2 ∧ W.cell? ⟨w.heap.size, 3, none⟩ = some v3) ∧ (W.cell? ⟨w.heap.size + 1, 0, none⟩ = some (.string m.name) ∧ W.cell? ⟨w.heap.size + 1, 4, none⟩ = some (.bool m.cordon) ∧ W.cell? ⟨w.heap.size + 1, 1, none⟩ = some u1 ∧ W.cell? ⟨w.heap.size + 1, 2, none⟩ = some u2 ∧ W.cell? ⟨w.heap.size + 1, 3, none⟩ = some u3) from fun W k => by
  have hh := (w.alloc (.cells #[.string n.name, v1, v2, v3, .bool n.cordon] 94)).alloc_heap_new (.cells #[.string m.name, u1, u2, u3, .bool m.cordon] 94)
  have h9 := w.alloc_heap_new (.cells #[.string n.name, v1, v2, v3, .bool n.cordon] 94)
  have kk : Kept (w.alloc (.cells #[.string n.name, v1, v2, v3, .bool n.cordon] 94)) W0 := by rw [← hW0]; exact kept_alloc _ _
  rw [hW0, World.size_alloc] at hh
  have k2 := kk.trans k
  exact ⟨⟨cell_later k2 (by rw [Lib.cell_of_heap h9]; rfl), cell_later k2 (by rw [Lib.cell_of_heap h9]; rfl), cell_later k2 (by rw [Lib.cell_of_heap h9]; rfl), cell_later k2 (by rw [Lib.cell_of_heap h9]; rfl), cell_later k2 (by rw [Lib.cell_of_heap h9]; rfl)⟩, ⟨cell_later k (by rw [Lib.cell_of_heap hh]; rfl), cell_later k (by rw [Lib.cell_of_heap hh]; rfl), cell_later k (by rw [Lib.cell_of_heap hh]; rfl), cell_later k (by rw [Lib.cell_of_heap hh]; rfl), cell_later k (by rw [Lib.cell_of_heap hh]; rfl)⟩⟩)
 obtain ⟨⟨c0, c4, c1, c2, c3⟩, d0, d4, d1, d2, d3⟩ := HC.out _ (Kept.refl _)
 clear hb1 hb3 hb4 hb5 hk0 h g
 unfold NodV
 by_cases z1 : b1 = true
 · subst z1
   by_cases z2 : b2 = true
   · subst z2
     by_cases z3 : b3 = true
     · subst z3
       by_cases z4 : b4 = true
       · subst z4
         by_cases z5 : b5 = true
         · subst z5
           have HV := lH (show sameN n m = true by rw [HV0.out]; rfl)
           go_enter Tryz.func41, Tryz.ntmps41
           have K := lH (Kept.refl W0)
           go_wp2_with fail
           refine (Vec.rsameR (HH.out.cap.kept (HK0.out.trans K.out)) (GG.out.cap.kept (HK0.out.trans K.out)) B3.out).mono ?_
           rintro e w1 ⟨rfl, k1⟩
           have K := lH (K.out.trans k1)
           clear k1
           obtain ⟨⟨c0, c4, c1, c2, c3⟩, d0, d4, d1, d2, d3⟩ := HC.out _ K.out
           go_wp2_with fail
           refine (rsamePR (HH.out.labels.kept (HK0.out.trans K.out)) (GG.out.labels.kept (HK0.out.trans K.out)) B4.out).mono ?_
           rintro e w2 ⟨rfl, k2⟩
           have K := lH (K.out.trans k2)
           clear k2
           obtain ⟨⟨c0, c4, c1, c2, c3⟩, d0, d4, d1, d2, d3⟩ := HC.out _ K.out
           go_wp2_with fail
           refine (rsameAR (HH.out.taints.kept (HK0.out.trans K.out)) (GG.out.taints.kept (HK0.out.trans K.out)) B5.out).mono ?_
           rintro e w3 ⟨rfl, k3⟩
           have K := lH (K.out.trans k3)
           clear k3
           go_wp2
           go_ret
           exact ⟨ret_bool HV.out.symm, HK0.out.trans K.out⟩
         · obtain rfl : b5 = false := by simpa using z5
           clear z5
           have HV := lH (show sameN n m = false by rw [HV0.out]; simp)
           go_enter Tryz.func41, Tryz.ntmps41
           have K := lH (Kept.refl W0)
           go_wp2_with fail
           refine (Vec.rsameR (HH.out.cap.kept (HK0.out.trans K.out)) (GG.out.cap.kept (HK0.out.trans K.out)) B3.out).mono ?_
           rintro e w1 ⟨rfl, k1⟩
           have K := lH (K.out.trans k1)
           clear k1
           obtain ⟨⟨c0, c4, c1, c2, c3⟩, d0, d4, d1, d2, d3⟩ := HC.out _ K.out
           go_wp2_with fail
           refine (rsamePR (HH.out.labels.kept (HK0.out.trans K.out)) (GG.out.labels.kept (HK0.out.trans K.out)) B4.out).mono ?_
           rintro e w2 ⟨rfl, k2⟩
           have K := lH (K.out.trans k2)
           clear k2
           obtain ⟨⟨c0, c4, c1, c2, c3⟩, d0, d4, d1, d2, d3⟩ := HC.out _ K.out
           go_wp2_with fail
           refine (rsameAR (HH.out.taints.kept (HK0.out.trans K.out)) (GG.out.taints.kept (HK0.out.trans K.out)) B5.out).mono ?_
           rintro e w3 ⟨rfl, k3⟩
           have K := lH (K.out.trans k3)
           clear k3
           go_wp2
           go_ret
           exact ⟨ret_bool HV.out.symm, HK0.out.trans K.out⟩
       · obtain rfl : b4 = false := by simpa using z4
         clear z4
         have HV := lH (show sameN n m = false by rw [HV0.out]; simp)
         go_enter Tryz.func41, Tryz.ntmps41
         have K := lH (Kept.refl W0)
         go_wp2_with fail
         refine (Vec.rsameR (HH.out.cap.kept (HK0.out.trans K.out)) (GG.out.cap.kept (HK0.out.trans K.out)) B3.out).mono ?_
         rintro e w1 ⟨rfl, k1⟩
         have K := lH (K.out.trans k1)
         clear k1
         obtain ⟨⟨c0, c4, c1, c2, c3⟩, d0, d4, d1, d2, d3⟩ := HC.out _ K.out
         go_wp2_with fail
         refine (rsamePR (HH.out.labels.kept (HK0.out.trans K.out)) (GG.out.labels.kept (HK0.out.trans K.out)) B4.out).mono ?_
         rintro e w2 ⟨rfl, k2⟩
         have K := lH (K.out.trans k2)
         clear k2
         go_wp2
         go_ret
         exact ⟨ret_bool HV.out.symm, HK0.out.trans K.out⟩
     · obtain rfl : b3 = false := by simpa using z3
       clear z3
       have HV := lH (show sameN n m = false by rw [HV0.out]; simp)
       go_enter Tryz.func41, Tryz.ntmps41
       have K := lH (Kept.refl W0)
       go_wp2_with fail
       refine (Vec.rsameR (HH.out.cap.kept (HK0.out.trans K.out)) (GG.out.cap.kept (HK0.out.trans K.out)) B3.out).mono ?_
       rintro e w1 ⟨rfl, k1⟩
       have K := lH (K.out.trans k1)
       clear k1
       go_wp2
       go_ret
       exact ⟨ret_bool HV.out.symm, HK0.out.trans K.out⟩
   · obtain rfl : b2 = false := by simpa using z2
     clear z2
     have HV := lH (show sameN n m = false by rw [HV0.out]; simp)
     go_enter Tryz.func41, Tryz.ntmps41
     go_wp2
     go_ret
     exact ⟨ret_bool HV.out.symm, HK0.out⟩
 · obtain rfl : b1 = false := by simpa using z1
   clear z1
   have HV := lH (show sameN n m = false by rw [HV0.out]; simp)
   go_enter Tryz.func41, Tryz.ntmps41
   go_wp2
   go_ret
   exact ⟨ret_bool HV.out.symm, HK0.out⟩
theorem rsameNodR {v u : Value} {n m : Nod} {b : Bool} {w : World} (h : NodR w v n) (g : NodR w u m) (hb : sameN n m = b) : Calls Tryz.prog 41 #[v, u] w (Say (.bool b) w) := by
 subst hb
 obtain ⟨v1, v2, v3, rfl, h⟩ := h
 obtain ⟨u1, u2, u3, rfl, g⟩ := g
 exact rsameNod_any n m v1 v2 v3 u1 u2 u3 w h g
end Go.Proofs.YtfpgekjhcfoohaaGreat
