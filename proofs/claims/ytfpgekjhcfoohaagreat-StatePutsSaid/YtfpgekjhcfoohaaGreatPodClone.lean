/- Pods with rows of their own; rows of pods. -/
import Derived.Test.YtfpgekjhcfoohaaGreatPodBase
import Derived.Test.YtfpgekjhcfoohaaGreatNodB
namespace Go.Proofs.YtfpgekjhcfoohaaGreat
open Go.RowKit
set_option linter.unusedVariables false

theorem kindO : Kind 47 137 3 40 := by
  obtain ⟨i, hi, hz, h1, h2⟩ := info_parts (show (Tryz.prog.info? 137).map (fun i => (i.zero, i.size, i.bytes)) = some (some (.agg #[.string ByteArray.empty, .string ByteArray.empty, .bool false]), 3, 40) by kernel_rfl)
  exact ⟨i, _, Tryz.underlying47, hi, hz, h1, h2, rfl, by decide⟩
theorem kindT : Kind 46 134 3 40 := by
  obtain ⟨i, hi, hz, h1, h2⟩ := info_parts (show (Tryz.prog.info? 134).map (fun i => (i.zero, i.size, i.bytes)) = some (some (.agg #[.int .i64 0, .string ByteArray.empty, .string ByteArray.empty]), 3, 40) by kernel_rfl)
  exact ⟨i, _, Tryz.underlying46, hi, hz, h1, h2, rfl, by decide⟩

set_option maxRecDepth 100000 in
theorem cloneO_any (a : Option Addr) (len cap : Nat) (l : NL) (w : World) (hr : RowAt TaLay w a len l) (hc : len ≤ cap) (hm : cap ≤ maxLen) (hn : len ≤ 1000000) :
    Calls Tryz.prog 111 #[.slice a len cap] w fun e w' => ∃ a' m' c', e = .returned (.slice a' m' c') ∧ Reads TaLay w' (.slice a' m' c') l ∧ (∀ b off sp, a' = some ⟨b, off, sp⟩ → w.heap.size ≤ b) ∧ Kept w w' := by
  have hl := hr.1
  have q22 : ∀ (w : World) (a : Option Addr) (n c n' c' : Nat), (binOp .eql 47 (.slice a n c) (.slice none n' c')).run Tryz.prog w = .ok (.bool a.isNone) w := fun w a n c n' c' => Lib.run_eql_slice_nil w _ _ a n c n' c' Tryz.underlying47
  cases a with
  | none =>
    have h0 : len = 0 := by
      rcases hr.form with h | ⟨b, off, h⟩
      · exact h
      · cases h
    subst h0
    have hl0 : l = [] := List.eq_nil_of_length_eq_zero hl
    subst hl0
    clear hr hl
    go_enter Tryz.func111, Tryz.ntmps111
    go_wp2
    go_ret
    exact ⟨none, 0, 0, rfl, Reads.nil _, (fun b o s e => by cases e), Kept.refl _⟩
  | some ad =>
    have HR := Lib.hid hr
    have HL := Lib.hid hl
    have hrl : (rowCells TaLay l).length = len * 3 := by rw [rowCells_length, hl]; rfl
    have hb1 : 0 + len ≤ maxLen := by unfold maxLen; omega
    have hb2 : ((0 + len) + (0 + len) / 4 + 192) * 40 ≤ 281474976710656 := by omega
    clear hr hl
    go_enter Tryz.func111, Tryz.ntmps111
    go_wp2_with (at_builtin; refine wpList_app_own kindO _ rfl (.tmp 5) (.tmp 6) rfl w.heap.size (by simp) w.heap.size 0 0 [] rfl (own_empty w w.heap.size 3 _ (Nat.le_refl _)) _ len (rowCells TaLay l) rfl hrl (rowCells_one _ _) (RowAt.src (HR.out.kept (kept_alloc _ _))) hb1 hb2 ?_; intro g1 k1 W1 ho hd hg; have HO := Lib.hid ho; have HD := Lib.hid hd; clear ho hd hg; refine Hid.out ?_)
    refine Lib.hid ?_
    simp only [Nat.zero_add, List.nil_append] at HO ⊢
    go_wp2
    go_ret
    exact ⟨_, _, _, rfl, Own.reads (⟨by rw [HL.out]; exact HO.out, HR.out.2.2.1⟩ : Own TaLay 137 W1 w.heap.size (.slice (some ⟨g1, 0, none⟩) len k1) l), (fun b o s e => by cases e; exact (HO.out.lt g1 rfl).1), Below.trans (kept_alloc w _) HD.out⟩

set_option maxRecDepth 100000 in
theorem cloneT_any (a : Option Addr) (len cap : Nat) (l : TL) (w : World) (hr : RowAt TermLay w a len l) (hc : len ≤ cap) (hm : cap ≤ maxLen) (hn : len ≤ 1000000) :
    Calls Tryz.prog 110 #[.slice a len cap] w fun e w' => ∃ a' m' c', e = .returned (.slice a' m' c') ∧ Reads TermLay w' (.slice a' m' c') l ∧ (∀ b off sp, a' = some ⟨b, off, sp⟩ → w.heap.size ≤ b) ∧ Kept w w' := by
  have hl := hr.1
  have q22 : ∀ (w : World) (a : Option Addr) (n c n' c' : Nat), (binOp .eql 46 (.slice a n c) (.slice none n' c')).run Tryz.prog w = .ok (.bool a.isNone) w := fun w a n c n' c' => Lib.run_eql_slice_nil w _ _ a n c n' c' Tryz.underlying46
  cases a with
  | none =>
    have h0 : len = 0 := by
      rcases hr.form with h | ⟨b, off, h⟩
      · exact h
      · cases h
    subst h0
    have hl0 : l = [] := List.eq_nil_of_length_eq_zero hl
    subst hl0
    clear hr hl
    go_enter Tryz.func110, Tryz.ntmps110
    go_wp2
    go_ret
    exact ⟨none, 0, 0, rfl, Reads.nil _, (fun b o s e => by cases e), Kept.refl _⟩
  | some ad =>
    have HR := Lib.hid hr
    have HL := Lib.hid hl
    have hrl : (rowCells TermLay l).length = len * 3 := by rw [rowCells_length, hl]; rfl
    have hb1 : 0 + len ≤ maxLen := by unfold maxLen; omega
    have hb2 : ((0 + len) + (0 + len) / 4 + 192) * 40 ≤ 281474976710656 := by omega
    clear hr hl
    go_enter Tryz.func110, Tryz.ntmps110
    go_wp2_with (at_builtin; refine wpList_app_own kindT _ rfl (.tmp 5) (.tmp 6) rfl w.heap.size (by simp) w.heap.size 0 0 [] rfl (own_empty w w.heap.size 3 _ (Nat.le_refl _)) _ len (rowCells TermLay l) rfl hrl (rowCells_one _ _) (RowAt.src (HR.out.kept (kept_alloc _ _))) hb1 hb2 ?_; intro g1 k1 W1 ho hd hg; have HO := Lib.hid ho; have HD := Lib.hid hd; clear ho hd hg; refine Hid.out ?_)
    refine Lib.hid ?_
    simp only [Nat.zero_add, List.nil_append] at HO ⊢
    go_wp2
    go_ret
    exact ⟨_, _, _, rfl, Own.reads (⟨by rw [HL.out]; exact HO.out, HR.out.2.2.1⟩ : Own TermLay 134 W1 w.heap.size (.slice (some ⟨g1, 0, none⟩) len k1) l), (fun b o s e => by cases e; exact (HO.out.lt g1 rfl).1), Below.trans (kept_alloc w _) HD.out⟩

def Behind (B : Nat) (a : Option Addr) : Prop := ∀ b off sp, a = some ⟨b, off, sp⟩ → B ≤ b
theorem Behind.less {B B' : Nat} {a : Option Addr} (h : Behind B a) (hb : B' ≤ B) : Behind B' a := fun b o s e => Nat.le_trans hb (h b o s e)
theorem Behind.none (B : Nat) : Behind B none := fun _ _ _ e => by cases e
def PodRB (B : Nat) (w : World) (v : Value) (n : Pd) : Prop := ∃ b1 n1 d1 b2 n2 d2 b3 n3 d3 b4 n4 d4, v = PodV n (.slice b1 n1 d1) (.slice b2 n2 d2) (.slice b3 n3 d3) (.slice b4 n4 d4) ∧ PodAt w (.slice b1 n1 d1) (.slice b2 n2 d2) (.slice b3 n3 d3) (.slice b4 n4 d4) n ∧ Behind B b1 ∧ Behind B b2 ∧ Behind B b3 ∧ Behind B b4
theorem PodRB.toR {B : Nat} {w : World} {v : Value} {n : Pd} (h : PodRB B w v n) : PodR w v n := by
  obtain ⟨b1, n1, d1, b2, n2, d2, b3, n3, d3, b4, n4, d4, e, h, _⟩ := h
  exact ⟨_, _, _, _, e, h⟩
theorem PodAt.far {B : Nat} {w w' : World} {n : Pd} {b1 b2 b3 b4 : Option Addr} {n1 d1 n2 d2 n3 d3 n4 d4 : Nat} (h : PodAt w (.slice b1 n1 d1) (.slice b2 n2 d2) (.slice b3 n3 d3) (.slice b4 n4 d4) n) (hs : w'.heap.size = w.heap.size) (hb : ∀ b, B ≤ b → w'.heap[b]? = w.heap[b]?) (g1 : Behind B b1) (g2 : Behind B b2) (g3 : Behind B b3) (g4 : Behind B b4) : PodAt w' (.slice b1 n1 d1) (.slice b2 n2 d2) (.slice b3 n3 d3) (.slice b4 n4 d4) n :=
  ⟨h.name, h.owner, h.key, h.node, h.prio, h.most, h.need.far hs (fun b o s e => hb b (g1 b o s e)), h.labels.far hs (fun b o s e => hb b (g2 b o s e)), h.sel.far hs (fun b o s e => hb b (g3 b o s e)), h.tols.far hs (fun b o s e => hb b (g4 b o s e))⟩
theorem PodRB.far {B : Nat} {w w' : World} {v : Value} {n : Pd} (h : PodRB B w v n) (hs : w'.heap.size = w.heap.size) (hb : ∀ b, B ≤ b → w'.heap[b]? = w.heap[b]?) : PodRB B w' v n := by
  obtain ⟨b1, n1, d1, b2, n2, d2, b3, n3, d3, b4, n4, d4, e, h, g1, g2, g3, g4⟩ := h
  exact ⟨b1, n1, d1, b2, n2, d2, b3, n3, d3, b4, n4, d4, e, h.far hs hb g1 g2 g3 g4, g1, g2, g3, g4⟩
theorem PodRB.less {B B' : Nat} {w : World} {v : Value} {n : Pd} (h : PodRB B w v n) (hb : B' ≤ B) : PodRB B' w v n := by
  obtain ⟨b1, n1, d1, b2, n2, d2, b3, n3, d3, b4, n4, d4, e, h, g1, g2, g3, g4⟩ := h
  exact ⟨b1, n1, d1, b2, n2, d2, b3, n3, d3, b4, n4, d4, e, h, g1.less hb, g2.less hb, g3.less hb, g4.less hb⟩
theorem PodRB.kept {B : Nat} {w w' : World} {v : Value} {n : Pd} (h : PodRB B w v n) (k : Kept w w') : PodRB B w' v n := by
  obtain ⟨b1, n1, d1, b2, n2, d2, b3, n3, d3, b4, n4, d4, e, h, g1, g2, g3, g4⟩ := h
  exact ⟨b1, n1, d1, b2, n2, d2, b3, n3, d3, b4, n4, d4, e, h.kept k, g1, g2, g3, g4⟩
theorem zero_at (w : World) : PodAt w (.slice none 0 0) (.slice none 0 0) (.slice none 0 0) (.slice none 0 0) Pd.zero :=
  ⟨(by decide : (0 : Nat) ≤ maxLen), (by decide : (0 : Nat) ≤ maxLen), (by decide : (0 : Nat) ≤ maxLen), (by decide : (0 : Nat) ≤ maxLen), by decide, by decide, Vec.Reads.nil w, Reads.nil w, Reads.nil w, Reads.nil w⟩
theorem zero_readsP (B : Nat) (w : World) : PodRB B w (.agg #[.string ⟨#[]⟩, .string ⟨#[]⟩, .int .i64 0, .slice none 0 0, .slice none 0 0, .slice none 0 0, .slice none 0 0, .string ⟨#[]⟩, .int .i64 0, .string ⟨#[]⟩, .bool false]) Pd.zero :=
  ⟨none, 0, 0, none, 0, 0, none, 0, 0, none, 0, 0, rfl, zero_at w, Behind.none B, Behind.none B, Behind.none B, Behind.none B⟩
theorem PodAt.spelt {w : World} {v1 v2 v3 v4 : Value} {n : Pd} (h : PodAt w v1 v2 v3 v4 n) : ∃ b1 n1 d1 b2 n2 d2 b3 n3 d3 b4 n4 d4, v1 = .slice b1 n1 d1 ∧ v2 = .slice b2 n2 d2 ∧ v3 = .slice b3 n3 d3 ∧ v4 = .slice b4 n4 d4 := by
  obtain ⟨a1, c1, e1, _⟩ := h.need
  obtain ⟨a2, c2, e2, _⟩ := h.labels
  obtain ⟨a3, c3, e3, _⟩ := h.sel
  obtain ⟨a4, c4, e4, _⟩ := h.tols
  exact ⟨_, _, _, _, _, _, _, _, _, _, _, _, e1, e2, e3, e4⟩

structure LowPd (n : Pd) : Prop where
  need : n.need.length ≤ 1000000
  labels : n.labels.length ≤ 1000000
  sel : n.sel.length ≤ 1000000
  tols : n.tols.length ≤ 1000000
set_option maxRecDepth 100000 in
set_option maxHeartbeats 3200000 in
theorem ownedP_any (n : Pd) (v1 v2 v3 v4 : Value) (w : World) (h : PodAt w v1 v2 v3 v4 n) (hl : LowPd n) :
    Calls Tryz.prog 69 #[PodV n v1 v2 v3 v4] w fun e w' => ∃ v, e = .returned v ∧ PodRB w.heap.size w' v n ∧ Kept w w' := by
  have HH := Lib.hid h
  have E1 := Lib.hid (show ∀ W, Kept w W → Calls Tryz.prog 108 #[v1] W fun e w' => ∃ a' m' c', e = .returned (.slice a' m' c') ∧ Vec.Reads w' (.slice a' m' c') n.need ∧ (∀ b off sp, a' = some ⟨b, off, sp⟩ → W.heap.size ≤ b) ∧ Kept W w' from fun W k => by
    obtain ⟨x, y, rfl, p, q, r⟩ := h.need
    exact cloneV_any x _ y n.need W (r.kept k) p q hl.need)
  have E2 := Lib.hid (show ∀ W, Kept w W → Calls Tryz.prog 109 #[v2] W fun e w' => ∃ a' m' c', e = .returned (.slice a' m' c') ∧ Reads PairLay w' (.slice a' m' c') n.labels ∧ (∀ b off sp, a' = some ⟨b, off, sp⟩ → W.heap.size ≤ b) ∧ Kept W w' from fun W k => by
    obtain ⟨x, y, rfl, p, q, r⟩ := h.labels
    exact cloneP_any x _ y n.labels W (r.kept k) p q hl.labels)
  have E3 := Lib.hid (show ∀ W, Kept w W → Calls Tryz.prog 110 #[v3] W fun e w' => ∃ a' m' c', e = .returned (.slice a' m' c') ∧ Reads TermLay w' (.slice a' m' c') n.sel ∧ (∀ b off sp, a' = some ⟨b, off, sp⟩ → W.heap.size ≤ b) ∧ Kept W w' from fun W k => by
    obtain ⟨x, y, rfl, p, q, r⟩ := h.sel
    exact cloneT_any x _ y n.sel W (r.kept k) p q hl.sel)
  have E4 := Lib.hid (show ∀ W, Kept w W → Calls Tryz.prog 111 #[v4] W fun e w' => ∃ a' m' c', e = .returned (.slice a' m' c') ∧ Reads TaLay w' (.slice a' m' c') n.tols ∧ (∀ b off sp, a' = some ⟨b, off, sp⟩ → W.heap.size ≤ b) ∧ Kept W w' from fun W k => by
    obtain ⟨x, y, rfl, p, q, r⟩ := h.tols
    exact cloneO_any x _ y n.tols W (r.kept k) p q hl.tols)
  obtain ⟨x0, hx0⟩ : ∃ x, n.name = x := ⟨_, rfl⟩
  obtain ⟨x1, hx1⟩ : ∃ x, n.owner = x := ⟨_, rfl⟩
  obtain ⟨x2, hx2⟩ : ∃ x, n.prio = x := ⟨_, rfl⟩
  obtain ⟨x3, hx3⟩ : ∃ x, n.key = x := ⟨_, rfl⟩
  obtain ⟨x4, hx4⟩ : ∃ x, n.most = x := ⟨_, rfl⟩
  obtain ⟨x5, hx5⟩ : ∃ x, n.node = x := ⟨_, rfl⟩
  obtain ⟨x6, hx6⟩ : ∃ x, n.hold = x := ⟨_, rfl⟩
  unfold PodV
  rw [hx0, hx1, hx2, hx3, hx4, hx5, hx6]
  have HXS := Lib.hid (And.intro hx0 (And.intro hx1 (And.intro hx2 (And.intro hx3 (And.intro hx4 (And.intro hx5 hx6))))))
  clear h hl hx0 hx1 hx2 hx3 hx4 hx5 hx6
  obtain ⟨Z, hZ⟩ : ∃ Z, (w.alloc (.cells #[.string x0, .string x1, .int .i64 x2, v1, v2, v3, v4, .string x3, .int .i64 x4, .string x5, .bool x6] 49)).alloc (.cells #[.string ⟨#[]⟩, .string ⟨#[]⟩, .int .i64 0, .slice none 0 0, .slice none 0 0, .slice none 0 0, .slice none 0 0, .string ⟨#[]⟩, .int .i64 0, .string ⟨#[]⟩, .bool false] 49) = Z := ⟨_, rfl⟩
  have hkz : Kept w Z := by rw [← hZ]; exact kept_two _ _ _
  have hzs : Z.heap.size = w.heap.size + 2 := by rw [← hZ]; simp
  have Q0 := Lib.hid (show CellsN w.heap.size [.string x0, .string x1, .int .i64 x2, v1, v2, v3, v4, .string x3, .int .i64 x4, .string x5, .bool x6] Z from freshN w (.string x0) [.string x1, .int .i64 x2, v1, v2, v3, v4, .string x3, .int .i64 x4, .string x5, .bool x6] 49 Z (by rw [← hZ]; exact kept_alloc _ _))
  have Q1 := Lib.hid (show CellsN (w.heap.size + 1) [.string ⟨#[]⟩, .string ⟨#[]⟩, .int .i64 0, .slice none 0 0, .slice none 0 0, .slice none 0 0, .slice none 0 0, .string ⟨#[]⟩, .int .i64 0, .string ⟨#[]⟩, .bool false] Z by
    have := freshN (w.alloc (.cells #[.string x0, .string x1, .int .i64 x2, v1, v2, v3, v4, .string x3, .int .i64 x4, .string x5, .bool x6] 49)) (.string ⟨#[]⟩) [.string ⟨#[]⟩, .int .i64 0, .slice none 0 0, .slice none 0 0, .slice none 0 0, .slice none 0 0, .string ⟨#[]⟩, .int .i64 0, .string ⟨#[]⟩, .bool false] 49 Z (by rw [hZ]; exact Kept.refl _)
    rw [World.size_alloc] at this
    exact this)
  have K := Lib.hid hkz
  have HZ := Lib.hid (show w.heap.size + 2 ≤ Z.heap.size by omega)
  clear hkz hzs
  go_enter Tryz.func69, Tryz.ntmps69
  have y := Q0.out.at_ 3 _ rfl
  go_wp2_with fail
  try rw [hZ]
  clear hZ
  clear y
  refine (E1.out _ K.out).mono ?_
  rintro e w1 ⟨b1, n1, d1, rfl, rr, gg, k⟩
  have G1 := Lib.hid (show Behind (w.heap.size + 2) b1 from fun b o s e => Nat.le_trans HZ.out (gg b o s e))
  have R1 := Lib.hid rr
  have K := Lib.hid (K.out.trans k)
  have HZ := Lib.hid (Nat.le_trans HZ.out k.size)
  have Q0 := Lib.hid (Q0.out.kept k)
  have Q1 := Lib.hid (Q1.out.kept k)
  clear rr gg k
  have y := Q0.out.at_ 3 _ rfl
  have x := Q0.out.free 3
  have Q0 := Lib.hid (show CellsN w.heap.size [.string x0, .string x1, .int .i64 x2, .slice b1 n1 d1, v2, v3, v4, .string x3, .int .i64 x4, .string x5, .bool x6] (w1.setCell ⟨w.heap.size, 3, none⟩ (.slice b1 n1 d1)) from Q0.out.set (j := 3) (by simp))
  have Q1 := Lib.hid (Q1.out.other (p := w.heap.size) (j := 3) (u := .slice b1 n1 d1) (by omega))
  have R1 := Lib.hid (far_setV (p := w.heap.size) (j := 3) (u := .slice b1 n1 d1) R1.out G1.out (by omega))
  have K := Lib.hid (show Kept w (w1.setCell ⟨w.heap.size, 3, none⟩ (.slice b1 n1 d1)) from K.out.setCell (p := ⟨w.heap.size, 3, none⟩) (Nat.le_refl _) _)
  have HZ := Lib.hid (show w.heap.size + 2 ≤ (w1.setCell ⟨w.heap.size, 3, none⟩ (.slice b1 n1 d1)).heap.size by simpa [World.setCell] using HZ.out)
  have y9 := Q0.out.at_ 4 _ rfl
  go_wp2_with fail
  clear y x y9
  obtain ⟨W1, hW1⟩ : ∃ W, w1.setCell ⟨w.heap.size, 3, none⟩ (.slice b1 n1 d1) = W := ⟨_, rfl⟩
  rw [hW1] at Q0 Q1 R1 K HZ ⊢
  clear hW1
  refine (E2.out _ K.out).mono ?_
  rintro e w2 ⟨b2, n2, d2, rfl, rr, gg, k⟩
  have G2 := Lib.hid (show Behind (w.heap.size + 2) b2 from fun b o s e => Nat.le_trans HZ.out (gg b o s e))
  have R2 := Lib.hid rr
  have K := Lib.hid (K.out.trans k)
  have HZ := Lib.hid (Nat.le_trans HZ.out k.size)
  have Q0 := Lib.hid (Q0.out.kept k)
  have Q1 := Lib.hid (Q1.out.kept k)
  have R1 := Lib.hid (R1.out.kept k)
  clear rr gg k
  have y := Q0.out.at_ 4 _ rfl
  have x := Q0.out.free 4
  have Q0 := Lib.hid (show CellsN w.heap.size [.string x0, .string x1, .int .i64 x2, .slice b1 n1 d1, .slice b2 n2 d2, v3, v4, .string x3, .int .i64 x4, .string x5, .bool x6] (w2.setCell ⟨w.heap.size, 4, none⟩ (.slice b2 n2 d2)) from Q0.out.set (j := 4) (by simp))
  have Q1 := Lib.hid (Q1.out.other (p := w.heap.size) (j := 4) (u := .slice b2 n2 d2) (by omega))
  have R1 := Lib.hid (far_setV (p := w.heap.size) (j := 4) (u := .slice b2 n2 d2) R1.out G1.out (by omega))
  have R2 := Lib.hid (far_set (p := w.heap.size) (j := 4) (u := .slice b2 n2 d2) R2.out G2.out (by omega))
  have K := Lib.hid (show Kept w (w2.setCell ⟨w.heap.size, 4, none⟩ (.slice b2 n2 d2)) from K.out.setCell (p := ⟨w.heap.size, 4, none⟩) (Nat.le_refl _) _)
  have HZ := Lib.hid (show w.heap.size + 2 ≤ (w2.setCell ⟨w.heap.size, 4, none⟩ (.slice b2 n2 d2)).heap.size by simpa [World.setCell] using HZ.out)
  have y9 := Q0.out.at_ 5 _ rfl
  go_wp2_with fail
  clear y x y9
  obtain ⟨W2, hW2⟩ : ∃ W, w2.setCell ⟨w.heap.size, 4, none⟩ (.slice b2 n2 d2) = W := ⟨_, rfl⟩
  rw [hW2] at Q0 Q1 R1 R2 K HZ ⊢
  clear hW2
  refine (E3.out _ K.out).mono ?_
  rintro e w3 ⟨b3, n3, d3, rfl, rr, gg, k⟩
  have G3 := Lib.hid (show Behind (w.heap.size + 2) b3 from fun b o s e => Nat.le_trans HZ.out (gg b o s e))
  have R3 := Lib.hid rr
  have K := Lib.hid (K.out.trans k)
  have HZ := Lib.hid (Nat.le_trans HZ.out k.size)
  have Q0 := Lib.hid (Q0.out.kept k)
  have Q1 := Lib.hid (Q1.out.kept k)
  have R1 := Lib.hid (R1.out.kept k)
  have R2 := Lib.hid (R2.out.kept k)
  clear rr gg k
  have y := Q0.out.at_ 5 _ rfl
  have x := Q0.out.free 5
  have Q0 := Lib.hid (show CellsN w.heap.size [.string x0, .string x1, .int .i64 x2, .slice b1 n1 d1, .slice b2 n2 d2, .slice b3 n3 d3, v4, .string x3, .int .i64 x4, .string x5, .bool x6] (w3.setCell ⟨w.heap.size, 5, none⟩ (.slice b3 n3 d3)) from Q0.out.set (j := 5) (by simp))
  have Q1 := Lib.hid (Q1.out.other (p := w.heap.size) (j := 5) (u := .slice b3 n3 d3) (by omega))
  have R1 := Lib.hid (far_setV (p := w.heap.size) (j := 5) (u := .slice b3 n3 d3) R1.out G1.out (by omega))
  have R2 := Lib.hid (far_set (p := w.heap.size) (j := 5) (u := .slice b3 n3 d3) R2.out G2.out (by omega))
  have R3 := Lib.hid (far_set (p := w.heap.size) (j := 5) (u := .slice b3 n3 d3) R3.out G3.out (by omega))
  have K := Lib.hid (show Kept w (w3.setCell ⟨w.heap.size, 5, none⟩ (.slice b3 n3 d3)) from K.out.setCell (p := ⟨w.heap.size, 5, none⟩) (Nat.le_refl _) _)
  have HZ := Lib.hid (show w.heap.size + 2 ≤ (w3.setCell ⟨w.heap.size, 5, none⟩ (.slice b3 n3 d3)).heap.size by simpa [World.setCell] using HZ.out)
  have y9 := Q0.out.at_ 6 _ rfl
  go_wp2_with fail
  clear y x y9
  obtain ⟨W3, hW3⟩ : ∃ W, w3.setCell ⟨w.heap.size, 5, none⟩ (.slice b3 n3 d3) = W := ⟨_, rfl⟩
  rw [hW3] at Q0 Q1 R1 R2 R3 K HZ ⊢
  clear hW3
  refine (E4.out _ K.out).mono ?_
  rintro e w4 ⟨b4, n4, d4, rfl, rr, gg, k⟩
  have G4 := Lib.hid (show Behind (w.heap.size + 2) b4 from fun b o s e => Nat.le_trans HZ.out (gg b o s e))
  have R4 := Lib.hid rr
  have K := Lib.hid (K.out.trans k)
  have HZ := Lib.hid (Nat.le_trans HZ.out k.size)
  have Q0 := Lib.hid (Q0.out.kept k)
  have Q1 := Lib.hid (Q1.out.kept k)
  have R1 := Lib.hid (R1.out.kept k)
  have R2 := Lib.hid (R2.out.kept k)
  have R3 := Lib.hid (R3.out.kept k)
  clear rr gg k
  have y := Q0.out.at_ 6 _ rfl
  have x := Q0.out.free 6
  have Q0 := Lib.hid (show CellsN w.heap.size [.string x0, .string x1, .int .i64 x2, .slice b1 n1 d1, .slice b2 n2 d2, .slice b3 n3 d3, .slice b4 n4 d4, .string x3, .int .i64 x4, .string x5, .bool x6] (w4.setCell ⟨w.heap.size, 6, none⟩ (.slice b4 n4 d4)) from Q0.out.set (j := 6) (by simp))
  have Q1 := Lib.hid (Q1.out.other (p := w.heap.size) (j := 6) (u := .slice b4 n4 d4) (by omega))
  have R1 := Lib.hid (far_setV (p := w.heap.size) (j := 6) (u := .slice b4 n4 d4) R1.out G1.out (by omega))
  have R2 := Lib.hid (far_set (p := w.heap.size) (j := 6) (u := .slice b4 n4 d4) R2.out G2.out (by omega))
  have R3 := Lib.hid (far_set (p := w.heap.size) (j := 6) (u := .slice b4 n4 d4) R3.out G3.out (by omega))
  have R4 := Lib.hid (far_set (p := w.heap.size) (j := 6) (u := .slice b4 n4 d4) R4.out G4.out (by omega))
  have K := Lib.hid (show Kept w (w4.setCell ⟨w.heap.size, 6, none⟩ (.slice b4 n4 d4)) from K.out.setCell (p := ⟨w.heap.size, 6, none⟩) (Nat.le_refl _) _)
  have HZ := Lib.hid (show w.heap.size + 2 ≤ (w4.setCell ⟨w.heap.size, 6, none⟩ (.slice b4 n4 d4)).heap.size by simpa [World.setCell] using HZ.out)
  have y0 := Q0.out.at_ 0 _ rfl
  have y1 := Q0.out.at_ 1 _ rfl
  have y2 := Q0.out.at_ 2 _ rfl
  have y3 := Q0.out.at_ 3 _ rfl
  have y4 := Q0.out.at_ 4 _ rfl
  have y5 := Q0.out.at_ 5 _ rfl
  have y6 := Q0.out.at_ 6 _ rfl
  have y7 := Q0.out.at_ 7 _ rfl
  have y8 := Q0.out.at_ 8 _ rfl
  have y9 := Q0.out.at_ 9 _ rfl
  have y10 := Q0.out.at_ 10 _ rfl
  have z0 := Q1.out.at_ 0 _ rfl
  have z1 := Q1.out.at_ 1 _ rfl
  have z2 := Q1.out.at_ 2 _ rfl
  have z3 := Q1.out.at_ 3 _ rfl
  have z4 := Q1.out.at_ 4 _ rfl
  have z5 := Q1.out.at_ 5 _ rfl
  have z6 := Q1.out.at_ 6 _ rfl
  have z7 := Q1.out.at_ 7 _ rfl
  have z8 := Q1.out.at_ 8 _ rfl
  have z9 := Q1.out.at_ 9 _ rfl
  have z10 := Q1.out.at_ 10 _ rfl
  have f0 := Q1.out.free 0
  have f1 := Q1.out.free 1
  have f2 := Q1.out.free 2
  have f3 := Q1.out.free 3
  have f4 := Q1.out.free 4
  have f5 := Q1.out.free 5
  have f6 := Q1.out.free 6
  have f7 := Q1.out.free 7
  have f8 := Q1.out.free 8
  have f9 := Q1.out.free 9
  have f10 := Q1.out.free 10
  have P := Lib.hid (putN (vs := [.string x0, .string x1, .int .i64 x2, .slice b1 n1 d1, .slice b2 n2 d2, .slice b3 n3 d3, .slice b4 n4 d4, .string x3, .int .i64 x4, .string x5, .bool x6]) Q1.out rfl)
  go_wp2
  obtain ⟨WE, hWE⟩ : ∃ W, (w4.setCell ⟨w.heap.size, 6, none⟩ (.slice b4 n4 d4)).setCells (w.heap.size + 1) 0 [.string x0, .string x1, .int .i64 x2, .slice b1 n1 d1, .slice b2 n2 d2, .slice b3 n3 d3, .slice b4 n4 d4, .string x3, .int .i64 x4, .string x5, .bool x6] = W := ⟨_, rfl⟩
  have hWE2 : ((((((((((((w4.setCell ⟨w.heap.size, 6, none⟩ (.slice b4 n4 d4)).setCell ⟨w.heap.size + 1, 0, none⟩ (.string x0)).setCell ⟨w.heap.size + 1, 1, none⟩ (.string x1)).setCell ⟨w.heap.size + 1, 2, none⟩ (.int .i64 x2)).setCell ⟨w.heap.size + 1, 3, none⟩ (.slice b1 n1 d1)).setCell ⟨w.heap.size + 1, 4, none⟩ (.slice b2 n2 d2)).setCell ⟨w.heap.size + 1, 5, none⟩ (.slice b3 n3 d3)).setCell ⟨w.heap.size + 1, 6, none⟩ (.slice b4 n4 d4)).setCell ⟨w.heap.size + 1, 7, none⟩ (.string x3)).setCell ⟨w.heap.size + 1, 8, none⟩ (.int .i64 x4)).setCell ⟨w.heap.size + 1, 9, none⟩ (.string x5)).setCell ⟨w.heap.size + 1, 10, none⟩ (.bool x6)) = WE := hWE
  rw [hWE] at P
  rw [hWE2]
  clear hWE hWE2
  obtain ⟨PC, hsz, hbl, hkp⟩ := P.out
  refine bodyPost_ret (by simp [results, Tryz.results69, go_sem, PC.at_ 0 _ rfl, PC.at_ 1 _ rfl, PC.at_ 2 _ rfl, PC.at_ 3 _ rfl, PC.at_ 4 _ rfl, PC.at_ 5 _ rfl, PC.at_ 6 _ rfl, PC.at_ 7 _ rfl, PC.at_ 8 _ rfl, PC.at_ 9 _ rfl, PC.at_ 10 _ rfl]; try rfl) rfl ?_
  obtain ⟨hx0, hx1, hx2, hx3, hx4, hx5, hx6⟩ := HXS.out
  exact ⟨_, rfl, ⟨b1, n1, d1, b2, n2, d2, b3, n3, d3, b4, n4, d4, by unfold PodV; rw [hx0, hx1, hx2, hx3, hx4, hx5, hx6], (show PodAt _ (.slice b1 n1 d1) (.slice b2 n2 d2) (.slice b3 n3 d3) (.slice b4 n4 d4) n from PodAt.far (B := w.heap.size + 2) ⟨HH.out.name, HH.out.owner, HH.out.key, HH.out.node, HH.out.prio, HH.out.most, R1.out, R2.out, R3.out, R4.out⟩ hsz (fun b hb => hbl b (by omega)) G1.out G2.out G3.out G4.out), G1.out.less (by omega), G2.out.less (by omega), G3.out.less (by omega), G4.out.less (by omega)⟩, hkp _ _ (by omega) K.out⟩

def PodsAt (w : World) (a : Option Addr) (len : Nat) (l : List Pd) : Prop :=
  l.length = len ∧ len ≤ maxLen ∧ (len = 0 ∨ ∃ b off, a = some ⟨b, off, none⟩ ∧ b < w.heap.size ∧ ∀ i n, l[i]? = some n → ∃ v1 v2 v3 v4,
    w.cell? ⟨b, off + i * 11, none⟩ = some (.string n.name) ∧ w.cell? ⟨b, off + i * 11 + 1, none⟩ = some (.string n.owner) ∧ w.cell? ⟨b, off + i * 11 + 2, none⟩ = some (.int .i64 n.prio) ∧ w.cell? ⟨b, off + i * 11 + 3, none⟩ = some (v1) ∧ w.cell? ⟨b, off + i * 11 + 4, none⟩ = some (v2) ∧ w.cell? ⟨b, off + i * 11 + 5, none⟩ = some (v3) ∧ w.cell? ⟨b, off + i * 11 + 6, none⟩ = some (v4) ∧ w.cell? ⟨b, off + i * 11 + 7, none⟩ = some (.string n.key) ∧ w.cell? ⟨b, off + i * 11 + 8, none⟩ = some (.int .i64 n.most) ∧ w.cell? ⟨b, off + i * 11 + 9, none⟩ = some (.string n.node) ∧ w.cell? ⟨b, off + i * 11 + 10, none⟩ = some (.bool n.hold) ∧ PodAt w v1 v2 v3 v4 n)
theorem PodsAt.kept {w w' : World} {a : Option Addr} {len : Nat} {l : List Pd} (h : PodsAt w a len l) (k : Kept w w') : PodsAt w' a len l := by
  obtain ⟨h0, h1, h2⟩ := h
  refine ⟨h0, h1, h2.imp id ?_⟩
  rintro ⟨b, off, rfl, hb, hc⟩
  refine ⟨b, off, rfl, Nat.lt_of_lt_of_le hb k.size, fun i n hi => ?_⟩
  obtain ⟨v1, v2, v3, v4, p0, p1, p2, p3, p4, p5, p6, p7, p8, p9, p10, hn⟩ := hc i n hi
  exact ⟨v1, v2, v3, v4, cell_later k p0, cell_later k p1, cell_later k p2, cell_later k p3, cell_later k p4, cell_later k p5, cell_later k p6, cell_later k p7, cell_later k p8, cell_later k p9, cell_later k p10, hn.kept k⟩
theorem PodsAt.form {w : World} {a : Option Addr} {len : Nat} {l : List Pd} (h : PodsAt w a len l) : len = 0 ∨ ∃ b off, a = some ⟨b, off, none⟩ := by
  obtain ⟨_, _, h2⟩ := h
  exact h2.imp id fun ⟨b, off, e, _⟩ => ⟨b, off, e⟩
theorem PodsAt.at_ {w : World} {b off len : Nat} {l : List Pd} {k : Nat} (h : PodsAt w (some ⟨b, off, none⟩) len l) (hk : k < len) : ∃ n a1 m1 c1 a2 m2 c2 a3 m3 c3 a4 m4 c4, l[k]? = some n ∧ l.drop k = n :: l.drop (k + 1) ∧ b < w.heap.size ∧
    w.cell? ⟨b, off + k * 11, none⟩ = some (.string n.name) ∧ w.cell? ⟨b, off + k * 11 + 1, none⟩ = some (.string n.owner) ∧ w.cell? ⟨b, off + k * 11 + 2, none⟩ = some (.int .i64 n.prio) ∧ w.cell? ⟨b, off + k * 11 + 3, none⟩ = some (.slice a1 m1 c1) ∧ w.cell? ⟨b, off + k * 11 + 4, none⟩ = some (.slice a2 m2 c2) ∧ w.cell? ⟨b, off + k * 11 + 5, none⟩ = some (.slice a3 m3 c3) ∧ w.cell? ⟨b, off + k * 11 + 6, none⟩ = some (.slice a4 m4 c4) ∧ w.cell? ⟨b, off + k * 11 + 7, none⟩ = some (.string n.key) ∧ w.cell? ⟨b, off + k * 11 + 8, none⟩ = some (.int .i64 n.most) ∧ w.cell? ⟨b, off + k * 11 + 9, none⟩ = some (.string n.node) ∧ w.cell? ⟨b, off + k * 11 + 10, none⟩ = some (.bool n.hold) ∧ PodAt w (.slice a1 m1 c1) (.slice a2 m2 c2) (.slice a3 m3 c3) (.slice a4 m4 c4) n := by
  obtain ⟨h0, _, h3⟩ := h
  have hkl : k < l.length := by omega
  rcases h3 with h3 | ⟨b', off', e, hb, hc⟩
  · omega
  · injection e with e; injection e with e1 e2 e3; subst e1; subst e2
    have he : l[k]? = some l[k] := List.getElem?_eq_getElem hkl
    obtain ⟨v1, v2, v3, v4, r⟩ := hc k _ he
    obtain ⟨a1, m1, c1, a2, m2, c2, a3, m3, c3, a4, m4, c4, rfl, rfl, rfl, rfl⟩ := PodAt.spelt r.2.2.2.2.2.2.2.2.2.2.2
    exact ⟨l[k], a1, m1, c1, a2, m2, c2, a3, m3, c3, a4, m4, c4, he, List.drop_eq_getElem_cons hkl, hb, r⟩
def PodsR (w : World) (v : Value) (l : List Pd) : Prop := ∃ a cap, v = .slice a l.length cap ∧ l.length ≤ cap ∧ cap ≤ maxLen ∧ PodsAt w a l.length l
theorem PodsR.kept {w w' : World} {v : Value} {l : List Pd} (h : PodsR w v l) (k : Kept w w') : PodsR w' v l := by
  obtain ⟨a, cap, e, h1, h2, h3⟩ := h
  exact ⟨a, cap, e, h1, h2, h3.kept k⟩

end Go.Proofs.YtfpgekjhcfoohaaGreat
