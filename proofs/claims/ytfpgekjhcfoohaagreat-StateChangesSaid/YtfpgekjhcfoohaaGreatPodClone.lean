/- Pods with rows of their own; rows of pods. -/
import Derived.Test.YtfpgekjhcfoohaaGreatShort
import Derived.Test.YtfpgekjhcfoohaaGreatPodBase
import Derived.Test.YtfpgekjhcfoohaaGreatNodB
set_option linter.unusedVariables false
namespace Go.Proofs.YtfpgekjhcfoohaaGreat
open Go.RowKit
theorem kindO : Kind 47 137 3 40 := by
 obtain ⟨i, hi, hz, h1, h2⟩ := info_parts (show (Tryz.prog.info? 137).map (fun i => (i.zero, i.size, i.bytes)) = some (some (.agg #[.string ByteArray.empty, .string ByteArray.empty, .bool false]), 3, 40) by kernel_rfl)
 exact ⟨i, _, Tryz.underlying47, hi, hz, h1, h2, rfl, by decide⟩
theorem kindT : Kind 46 134 3 40 := by
 obtain ⟨i, hi, hz, h1, h2⟩ := info_parts (show (Tryz.prog.info? 134).map (fun i => (i.zero, i.size, i.bytes)) = some (some (.agg #[.int .i64 0, .string ByteArray.empty, .string ByteArray.empty]), 3, 40) by kernel_rfl)
 exact ⟨i, _, Tryz.underlying46, hi, hz, h1, h2, rfl, by decide⟩
set_option maxRecDepth 100000 in
theorem cloneO_any (a : Option Addr) (len cap : Nat) (l : NL) (w : World) (hr : RowAt TaLay w a len l) (hc : len ≤ cap) (hm : cap ≤ maxLen) (hn : len ≤ 1000000) :
 Calls Tryz.prog 111 #[.slice a len cap] w fun e w' => ∃ a' m' c', e = .returned (.slice a' m' c') ∧ Reads TaLay w' (.slice a' m' c') l ∧ (∀ b off sp, a' = some ⟨b, off, sp⟩ → w.heap.size ≤ b) ∧ Kept w w' := by
 have hl := hr.1
 have q22 : ∀ (w : World) (a : Option Addr) (n c n' c' : Nat), (binOp .eql 47 (.slice a n c) (.slice none n' c')).run Tryz.prog w = .ok (.bool a.isNone) w := fun w a n c n' c' => Lib.run_eql_slice_nil w _ _ a n c n' c' Tryz.underlying47
 cases a with
 | none =>
  have h0 : len = 0 := by
   rcases hr.form with h | ⟨b, off, h⟩
   · exact h
   · cases h
  subst h0
  have hl0 : l = [] := List.eq_nil_of_length_eq_zero hl
  subst hl0
  clear hr hl
  go_enter Tryz.func111, Tryz.ntmps111
  go_wp2
  go_ret
  exact ⟨none, 0, 0, rfl, Reads.nil _, (fun b o s e => by cases e), Kept.refl _⟩
 | some ad =>
  have HR := lH hr
  have HL := lH hl
  have hrl : (rowCells TaLay l).length = len * 3 := by rw [rowCells_length, hl]; rfl
  have hb1 : 0 + len ≤ maxLen := by unfold maxLen; omega
  have hb2 : ((0 + len) + (0 + len) / 4 + 192) * 40 ≤ 281474976710656 := by omega
  clear hr hl
  go_enter Tryz.func111, Tryz.ntmps111
  go_wp2_with (at_builtin; refine wpList_app_own kindO _ rfl (.tmp 5) (.tmp 6) rfl w.heap.size (by simp) w.heap.size 0 0 [] rfl (own_empty w w.heap.size 3 _ (Nat.le_refl _)) _ len (rowCells TaLay l) rfl hrl (rowCells_one _ _) (RowAt.src (HR.out.kept (kept_alloc _ _))) hb1 hb2 ?_; intro g1 k1 W1 ho hd hg; have HO := lH ho; have HD := lH hd; clear ho hd hg; refine Hid.out ?_)
  refine lH ?_
  simp only [Nat.zero_add, List.nil_append] at HO ⊢
  go_wp2
  go_ret
  exact ⟨_, _, _, rfl, Own.reads (⟨by rw [HL.out]; exact HO.out, HR.out.2.2.1⟩ : Own TaLay 137 W1 w.heap.size (.slice (some ⟨g1, 0, none⟩) len k1) l), (fun b o s e => by cases e; exact (HO.out.lt g1 rfl).1), Below.trans (kept_alloc w _) HD.out⟩
set_option maxRecDepth 100000 in
theorem cloneT_any (a : Option Addr) (len cap : Nat) (l : TL) (w : World) (hr : RowAt TermLay w a len l) (hc : len ≤ cap) (hm : cap ≤ maxLen) (hn : len ≤ 1000000) :
 Calls Tryz.prog 110 #[.slice a len cap] w fun e w' => ∃ a' m' c', e = .returned (.slice a' m' c') ∧ Reads TermLay w' (.slice a' m' c') l ∧ (∀ b off sp, a' = some ⟨b, off, sp⟩ → w.heap.size ≤ b) ∧ Kept w w' := by
 have hl := hr.1
 have q22 : ∀ (w : World) (a : Option Addr) (n c n' c' : Nat), (binOp .eql 46 (.slice a n c) (.slice none n' c')).run Tryz.prog w = .ok (.bool a.isNone) w := fun w a n c n' c' => Lib.run_eql_slice_nil w _ _ a n c n' c' Tryz.underlying46
 cases a with
 | none =>
  have h0 : len = 0 := by
   rcases hr.form with h | ⟨b, off, h⟩
   · exact h
   · cases h
  subst h0
  have hl0 : l = [] := List.eq_nil_of_length_eq_zero hl
  subst hl0
  clear hr hl
  go_enter Tryz.func110, Tryz.ntmps110
  go_wp2
  go_ret
  exact ⟨none, 0, 0, rfl, Reads.nil _, (fun b o s e => by cases e), Kept.refl _⟩
 | some ad =>
  have HR := lH hr
  have HL := lH hl
  have hrl : (rowCells TermLay l).length = len * 3 := by rw [rowCells_length, hl]; rfl
  have hb1 : 0 + len ≤ maxLen := by unfold maxLen; omega
  have hb2 : ((0 + len) + (0 + len) / 4 + 192) * 40 ≤ 281474976710656 := by omega
  clear hr hl
  go_enter Tryz.func110, Tryz.ntmps110
  go_wp2_with (at_builtin; refine wpList_app_own kindT _ rfl (.tmp 5) (.tmp 6) rfl w.heap.size (by simp) w.heap.size 0 0 [] rfl (own_empty w w.heap.size 3 _ (Nat.le_refl _)) _ len (rowCells TermLay l) rfl hrl (rowCells_one _ _) (RowAt.src (HR.out.kept (kept_alloc _ _))) hb1 hb2 ?_; intro g1 k1 W1 ho hd hg; have HO := lH ho; have HD := lH hd; clear ho hd hg; refine Hid.out ?_)
  refine lH ?_
  simp only [Nat.zero_add, List.nil_append] at HO ⊢
  go_wp2
  go_ret
  exact ⟨_, _, _, rfl, Own.reads (⟨by rw [HL.out]; exact HO.out, HR.out.2.2.1⟩ : Own TermLay 134 W1 w.heap.size (.slice (some ⟨g1, 0, none⟩) len k1) l), (fun b o s e => by cases e; exact (HO.out.lt g1 rfl).1), Below.trans (kept_alloc w _) HD.out⟩
def Behind (B : Nat) (a : Option Addr) : Prop := ∀ b off sp, a = some ⟨b, off, sp⟩ → B ≤ b
theorem Behind.less {B B' : Nat} {a : Option Addr} (h : Behind B a) (hb : B' ≤ B) : Behind B' a := fun b o s e => Nat.le_trans hb (h b o s e)
theorem Behind.none (B : Nat) : Behind B none := fun _ _ _ e => by cases e
def PodRB (B : Nat) (w : World) (v : Value) (n : Pd) : Prop := ∃ b1 n1 d1 b2 n2 d2 b3 n3 d3 b4 n4 d4, v = PodV n (.slice b1 n1 d1) (.slice b2 n2 d2) (.slice b3 n3 d3) (.slice b4 n4 d4) ∧ PodAt w (.slice b1 n1 d1) (.slice b2 n2 d2) (.slice b3 n3 d3) (.slice b4 n4 d4) n ∧ Behind B b1 ∧ Behind B b2 ∧ Behind B b3 ∧ Behind B b4
theorem PodRB.toR {B : Nat} {w : World} {v : Value} {n : Pd} (h : PodRB B w v n) : PodR w v n := by
 obtain ⟨b1, n1, d1, b2, n2, d2, b3, n3, d3, b4, n4, d4, e, h, _⟩ := h
 exact ⟨_, _, _, _, e, h⟩
theorem PodAt.far {B : Nat} {w w' : World} {n : Pd} {b1 b2 b3 b4 : Option Addr} {n1 d1 n2 d2 n3 d3 n4 d4 : Nat} (h : PodAt w (.slice b1 n1 d1) (.slice b2 n2 d2) (.slice b3 n3 d3) (.slice b4 n4 d4) n) (hs : w'.heap.size = w.heap.size) (hb : ∀ b, B ≤ b → w'.heap[b]? = w.heap[b]?) (g1 : Behind B b1) (g2 : Behind B b2) (g3 : Behind B b3) (g4 : Behind B b4) : PodAt w' (.slice b1 n1 d1) (.slice b2 n2 d2) (.slice b3 n3 d3) (.slice b4 n4 d4) n :=
 ⟨h.name, h.owner, h.key, h.node, h.prio, h.most, h.need.far hs (fun b o s e => hb b (g1 b o s e)), h.labels.far hs (fun b o s e => hb b (g2 b o s e)), h.sel.far hs (fun b o s e => hb b (g3 b o s e)), h.tols.far hs (fun b o s e => hb b (g4 b o s e))⟩
theorem PodRB.far {B : Nat} {w w' : World} {v : Value} {n : Pd} (h : PodRB B w v n) (hs : w'.heap.size = w.heap.size) (hb : ∀ b, B ≤ b → w'.heap[b]? = w.heap[b]?) : PodRB B w' v n := by
 obtain ⟨b1, n1, d1, b2, n2, d2, b3, n3, d3, b4, n4, d4, e, h, g1, g2, g3, g4⟩ := h
 exact ⟨b1, n1, d1, b2, n2, d2, b3, n3, d3, b4, n4, d4, e, h.far hs hb g1 g2 g3 g4, g1, g2, g3, g4⟩
theorem PodRB.less {B B' : Nat} {w : World} {v : Value} {n : Pd} (h : PodRB B w v n) (hb : B' ≤ B) : PodRB B' w v n := by
 obtain ⟨b1, n1, d1, b2, n2, d2, b3, n3, d3, b4, n4, d4, e, h, g1, g2, g3, g4⟩ := h
 exact ⟨b1, n1, d1, b2, n2, d2, b3, n3, d3, b4, n4, d4, e, h, g1.less hb, g2.less hb, g3.less hb, g4.less hb⟩
theorem PodRB.kept {B : Nat} {w w' : World} {v : Value} {n : Pd} (h : PodRB B w v n) (k : Kept w w') : PodRB B w' v n := by
 obtain ⟨b1, n1, d1, b2, n2, d2, b3, n3, d3, b4, n4, d4, e, h, g1, g2, g3, g4⟩ := h
 exact ⟨b1, n1, d1, b2, n2, d2, b3, n3, d3, b4, n4, d4, e, h.kept k, g1, g2, g3, g4⟩
theorem PodAt.spelt {w : World} {v1 v2 v3 v4 : Value} {n : Pd} (h : PodAt w v1 v2 v3 v4 n) : ∃ b1 n1 d1 b2 n2 d2 b3 n3 d3 b4 n4 d4, v1 = .slice b1 n1 d1 ∧ v2 = .slice b2 n2 d2 ∧ v3 = .slice b3 n3 d3 ∧ v4 = .slice b4 n4 d4 := by
 obtain ⟨a1, c1, e1, _⟩ := h.need
 obtain ⟨a2, c2, e2, _⟩ := h.labels
 obtain ⟨a3, c3, e3, _⟩ := h.sel
 obtain ⟨a4, c4, e4, _⟩ := h.tols
 exact ⟨_, _, _, _, _, _, _, _, _, _, _, _, e1, e2, e3, e4⟩
structure LowPd (n : Pd) : Prop where
 need : n.need.length ≤ 1000000
 labels : n.labels.length ≤ 1000000
 sel : n.sel.length ≤ 1000000
 tols : n.tols.length ≤ 1000000
def PodsAt (w : World) (a : Option Addr) (len : Nat) (l : List Pd) : Prop :=
 l.length = len ∧ len ≤ maxLen ∧ (len = 0 ∨ ∃ b off, a = some ⟨b, off, none⟩ ∧ b < w.heap.size ∧ ∀ i n, l[i]? = some n → ∃ v1 v2 v3 v4,
  w.cell? ⟨b, off + i * 11, none⟩ = some (.string n.name) ∧ w.cell? ⟨b, off + i * 11 + 1, none⟩ = some (.string n.owner) ∧ w.cell? ⟨b, off + i * 11 + 2, none⟩ = some (.int .i64 n.prio) ∧ w.cell? ⟨b, off + i * 11 + 3, none⟩ = some (v1) ∧ w.cell? ⟨b, off + i * 11 + 4, none⟩ = some (v2) ∧ w.cell? ⟨b, off + i * 11 + 5, none⟩ = some (v3) ∧ w.cell? ⟨b, off + i * 11 + 6, none⟩ = some (v4) ∧ w.cell? ⟨b, off + i * 11 + 7, none⟩ = some (.string n.key) ∧ w.cell? ⟨b, off + i * 11 + 8, none⟩ = some (.int .i64 n.most) ∧ w.cell? ⟨b, off + i * 11 + 9, none⟩ = some (.string n.node) ∧ w.cell? ⟨b, off + i * 11 + 10, none⟩ = some (.bool n.hold) ∧ PodAt w v1 v2 v3 v4 n)
theorem PodsAt.kept {w w' : World} {a : Option Addr} {len : Nat} {l : List Pd} (h : PodsAt w a len l) (k : Kept w w') : PodsAt w' a len l := by
 obtain ⟨h0, h1, h2⟩ := h
 refine ⟨h0, h1, h2.imp id ?_⟩
 rintro ⟨b, off, rfl, hb, hc⟩
 refine ⟨b, off, rfl, Nat.lt_of_lt_of_le hb k.size, fun i n hi => ?_⟩
 obtain ⟨v1, v2, v3, v4, p0, p1, p2, p3, p4, p5, p6, p7, p8, p9, p10, hn⟩ := hc i n hi
 exact ⟨v1, v2, v3, v4, cell_later k p0, cell_later k p1, cell_later k p2, cell_later k p3, cell_later k p4, cell_later k p5, cell_later k p6, cell_later k p7, cell_later k p8, cell_later k p9, cell_later k p10, hn.kept k⟩
theorem PodsAt.form {w : World} {a : Option Addr} {len : Nat} {l : List Pd} (h : PodsAt w a len l) : len = 0 ∨ ∃ b off, a = some ⟨b, off, none⟩ := by
 obtain ⟨_, _, h2⟩ := h
 exact h2.imp id fun ⟨b, off, e, _⟩ => ⟨b, off, e⟩
theorem PodsAt.at_ {w : World} {b off len : Nat} {l : List Pd} {k : Nat} (h : PodsAt w (some ⟨b, off, none⟩) len l) (hk : k < len) : ∃ n a1 m1 c1 a2 m2 c2 a3 m3 c3 a4 m4 c4, l[k]? = some n ∧ l.drop k = n :: l.drop (k + 1) ∧ b < w.heap.size ∧
 w.cell? ⟨b, off + k * 11, none⟩ = some (.string n.name) ∧ w.cell? ⟨b, off + k * 11 + 1, none⟩ = some (.string n.owner) ∧ w.cell? ⟨b, off + k * 11 + 2, none⟩ = some (.int .i64 n.prio) ∧ w.cell? ⟨b, off + k * 11 + 3, none⟩ = some (.slice a1 m1 c1) ∧ w.cell? ⟨b, off + k * 11 + 4, none⟩ = some (.slice a2 m2 c2) ∧ w.cell? ⟨b, off + k * 11 + 5, none⟩ = some (.slice a3 m3 c3) ∧ w.cell? ⟨b, off + k * 11 + 6, none⟩ = some (.slice a4 m4 c4) ∧ w.cell? ⟨b, off + k * 11 + 7, none⟩ = some (.string n.key) ∧ w.cell? ⟨b, off + k * 11 + 8, none⟩ = some (.int .i64 n.most) ∧ w.cell? ⟨b, off + k * 11 + 9, none⟩ = some (.string n.node) ∧ w.cell? ⟨b, off + k * 11 + 10, none⟩ = some (.bool n.hold) ∧ PodAt w (.slice a1 m1 c1) (.slice a2 m2 c2) (.slice a3 m3 c3) (.slice a4 m4 c4) n := by
 obtain ⟨h0, _, h3⟩ := h
 have hkl : k < l.length := by omega
 rcases h3 with h3 | ⟨b', off', e, hb, hc⟩
 · omega
 · injection e with e; injection e with e1 e2 e3; subst e1; subst e2
   have he : l[k]? = some l[k] := List.getElem?_eq_getElem hkl
   obtain ⟨v1, v2, v3, v4, r⟩ := hc k _ he
   obtain ⟨a1, m1, c1, a2, m2, c2, a3, m3, c3, a4, m4, c4, rfl, rfl, rfl, rfl⟩ := PodAt.spelt r.2.2.2.2.2.2.2.2.2.2.2
   exact ⟨l[k], a1, m1, c1, a2, m2, c2, a3, m3, c3, a4, m4, c4, he, List.drop_eq_getElem_cons hkl, hb, r⟩
def PodsR (w : World) (v : Value) (l : List Pd) : Prop := ∃ a cap, v = .slice a l.length cap ∧ l.length ≤ cap ∧ cap ≤ maxLen ∧ PodsAt w a l.length l
theorem PodsR.kept {w w' : World} {v : Value} {l : List Pd} (h : PodsR w v l) (k : Kept w w') : PodsR w' v l := by
 obtain ⟨a, cap, e, h1, h2, h3⟩ := h
 exact ⟨a, cap, e, h1, h2, h3.kept k⟩
end Go.Proofs.YtfpgekjhcfoohaaGreat
