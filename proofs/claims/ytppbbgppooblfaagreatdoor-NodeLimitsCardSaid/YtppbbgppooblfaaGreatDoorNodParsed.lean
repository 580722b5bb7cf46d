/- A node's text read: parsed. -/
import Derived.Test.YtppbbgppooblfaaGreatDoorNodA
import Derived.Test.YtppbbgppooblfaaGreatDoorBase
import Derived.Deep.RegionHeld3
import Derived.Handy
import Derived.Deep.CutRange
import Derived.Laws.ResultCell
namespace Go.Proofs.YtppbbgppooblfaaGreatDoor
open Go.RowKit
set_option linter.unusedVariables false

def madeNod (a b c d e : List UInt8) : Nod := ⟨bytes a, (Vec.parseV b).2, (parsedP c).2, (parsedA d).2, e == cordonL⟩
/-- What five words make. -/
def fiveR (a b c d e : List UInt8) : Int × Nod :=
  if (Vec.parseV b).1 ≠ 0 then ((Vec.parseV b).1, Nod.zero) else if (parsedP c).1 ≠ 0 then ((parsedP c).1, Nod.zero) else if (parsedA d).1 ≠ 0 then ((parsedA d).1, Nod.zero)
  else if chkNod (madeNod a b c d e) ≠ 0 then (chkNod (madeNod a b c d e), Nod.zero) else (0, madeNod a b c d e)
def parseN (s : List UInt8) : Int × Nod :=
  match wordsL s with
  | some [a, b, c, d, e] => fiveR a b c d e
  | _ => (2, Nod.zero)
/-- A value that reads as a node, its rows spelt out, from block B on. -/
def NodRB (B : Nat) (w : World) (v : Value) (n : Nod) : Prop := ∃ a1 m1 c1 a2 m2 c2 a3 m3 c3, v = .agg #[.string n.name, .slice a1 m1 c1, .slice a2 m2 c2, .slice a3 m3 c3, .bool n.cordon] ∧ n.name.size ≤ maxLen ∧ Vec.Reads w (.slice a1 m1 c1) n.cap ∧ Reads PairLay w (.slice a2 m2 c2) n.labels ∧ Reads TaLay w (.slice a3 m3 c3) n.taints ∧
  (∀ b off sp, a1 = some ⟨b, off, sp⟩ → B ≤ b) ∧ (∀ b off sp, a2 = some ⟨b, off, sp⟩ → B ≤ b) ∧ (∀ b off sp, a3 = some ⟨b, off, sp⟩ → B ≤ b)
theorem NodRB.toR {B : Nat} {w : World} {v : Value} {n : Nod} (h : NodRB B w v n) : NodR w v n := by
  obtain ⟨a1, m1, c1, a2, m2, c2, a3, m3, c3, e, h0, h1, h2, h3, _⟩ := h
  exact ⟨_, _, _, e, h0, h1, h2, h3⟩
/-- What a call does that makes a node, or panics. -/
def NodRes (r : Int × Nod) (w : World) (e : Ending) (w' : World) : Prop := (r.1 = 0 → ∃ v, e = .returned v ∧ NodRB w.heap.size w' v r.2) ∧ (r.1 ≠ 0 → e = .panicked [perr r.1]) ∧ Kept w w'
theorem NodRes.good {r : Int × Nod} {w w' : World} {v : Value} (h : r.1 = 0) (ho : NodRB w.heap.size w' v r.2) (hb : Kept w w') : NodRes r w (.returned v) w' := ⟨fun _ => ⟨v, rfl, ho⟩, fun g => absurd h g, hb⟩
theorem NodRes.bad {r : Int × Nod} {w w' : World} {c : Int} (h : r.1 = c) (hc : c ≠ 0) (hb : Kept w w') : NodRes r w (.panicked [perr c]) w' := ⟨fun g => absurd (h.symm.trans g) hc, fun _ => by rw [h], hb⟩

/-- What a call answers that makes a row: its slice spelt out; it lies behind what was there. -/
theorem Vec.Done.spelt {r : Int × Vec.V} {w w' : World} {e : Ending} (h : Vec.Done r w e w') : ∃ a m cap, e = .returned (.tuple #[.slice a m cap, .int .i64 r.1]) ∧ Vec.Reads w' (.slice a m cap) r.2 ∧ (∀ b off sp, a = some ⟨b, off, sp⟩ → w.heap.size ≤ b ∧ b < w'.heap.size) ∧ Kept w w' := by
  obtain ⟨v, rfl, ho, k⟩ := h
  obtain ⟨a, cap, rfl, h⟩ := ho.at_
  exact ⟨a, _, cap, rfl, ⟨a, cap, rfl, h⟩, fun b off sp e => ho.1.lt b (by subst e; rfl), k⟩
theorem own_spelt {α : Type} {L : Lay α} {T : TypeId} {c : Int} {l : List α} {w w' : World} {e : Ending} (h : ∃ v, e = .returned (.tuple #[v, .int .i64 c]) ∧ Own L T w' w.heap.size v l ∧ Kept w w') : ∃ a m cap, e = .returned (.tuple #[.slice a m cap, .int .i64 c]) ∧ Reads L w' (.slice a m cap) l ∧ (∀ b off sp, a = some ⟨b, off, sp⟩ → w.heap.size ≤ b ∧ b < w'.heap.size) ∧ Kept w w' := by
  obtain ⟨v, rfl, ho, k⟩ := h
  obtain ⟨a, cap, rfl, h⟩ := ho.at_
  exact ⟨a, _, cap, rfl, ⟨a, cap, rfl, h⟩, fun b off sp e => ho.1.lt b (by subst e; rfl), k⟩
/-- A new block of five cells. -/
theorem fresh5 (w : World) (v0 v1 v2 v3 v4 : Value) (T : TypeId) (W : World) (k : Kept (w.alloc (.cells #[v0, v1, v2, v3, v4] T)) W) :
    (W.cell? ⟨w.heap.size, 0, none⟩ = some v0 ∧ W.cell? ⟨w.heap.size, 1, none⟩ = some v1 ∧ W.cell? ⟨w.heap.size, 2, none⟩ = some v2 ∧ W.cell? ⟨w.heap.size, 3, none⟩ = some v3 ∧ W.cell? ⟨w.heap.size, 4, none⟩ = some v4) ∧
    W.frozen? ⟨w.heap.size, 0, none⟩ = false ∧ W.frozen? ⟨w.heap.size, 1, none⟩ = false ∧ W.frozen? ⟨w.heap.size, 2, none⟩ = false ∧ W.frozen? ⟨w.heap.size, 3, none⟩ = false ∧ W.frozen? ⟨w.heap.size, 4, none⟩ = false := by
  have hh := w.alloc_heap_new (.cells #[v0, v1, v2, v3, v4] T)
  have hf : ∀ j, W.frozen? ⟨w.heap.size, j, none⟩ = false := fun j => by
    have := k.frozen (p := ⟨w.heap.size, j, none⟩) (by simp)
    rw [this]
    unfold World.frozen?
    rw [show (w.alloc (.cells #[v0, v1, v2, v3, v4] T)).heap[(⟨w.heap.size, j, none⟩ : Addr).block]? = some (.cells #[v0, v1, v2, v3, v4] T) from hh]
    simp
  exact ⟨⟨cell_later k (by rw [Lib.cell_of_heap hh]; rfl), cell_later k (by rw [Lib.cell_of_heap hh]; rfl), cell_later k (by rw [Lib.cell_of_heap hh]; rfl), cell_later k (by rw [Lib.cell_of_heap hh]; rfl), cell_later k (by rw [Lib.cell_of_heap hh]; rfl)⟩, hf 0, hf 1, hf 2, hf 3, hf 4⟩
/-- A node's cells at block q, its rows elsewhere. -/
def Laid (w1 : World) (q : Nat) (x : ByteArray) (n1 : Vec.V) (n2 : PL) (n3 : NL) (b : Bool) (W : World) : Prop :=
  ∃ aa ma ca ab mb cb ac mc cc, W.cell? ⟨q, 0, none⟩ = some (.string x) ∧ W.cell? ⟨q, 1, none⟩ = some (.slice aa ma ca) ∧ W.cell? ⟨q, 2, none⟩ = some (.slice ab mb cb) ∧ W.cell? ⟨q, 3, none⟩ = some (.slice ac mc cc) ∧ W.cell? ⟨q, 4, none⟩ = some (.bool b) ∧
    Vec.Reads W (.slice aa ma ca) n1 ∧ Reads PairLay W (.slice ab mb cb) n2 ∧ Reads TaLay W (.slice ac mc cc) n3 ∧ Kept w1 W ∧ w1.heap.size ≤ q ∧
    (∀ b off sp, aa = some ⟨b, off, sp⟩ → w1.heap.size ≤ b) ∧ (∀ b off sp, ab = some ⟨b, off, sp⟩ → w1.heap.size ≤ b) ∧ (∀ b off sp, ac = some ⟨b, off, sp⟩ → w1.heap.size ≤ b)
theorem set5_block (W : World) (q : Nat) (u0 u1 u2 u3 u4 : Value) (b : Nat) (h : b ≠ q) :
    (((((W.setCell ⟨q, 0, none⟩ u0).setCell ⟨q, 1, none⟩ u1).setCell ⟨q, 2, none⟩ u2).setCell ⟨q, 3, none⟩ u3).setCell ⟨q, 4, none⟩ u4).heap[b]? = W.heap[b]? :=
  (Below.heap_setCell _ ⟨q, 4, none⟩ _ b h).trans ((Below.heap_setCell _ ⟨q, 3, none⟩ _ b h).trans ((Below.heap_setCell _ ⟨q, 2, none⟩ _ b h).trans ((Below.heap_setCell _ ⟨q, 1, none⟩ _ b h).trans (Below.heap_setCell _ ⟨q, 0, none⟩ _ b h))))
theorem set5_size (W : World) (q : Nat) (u0 u1 u2 u3 u4 : Value) :
    (((((W.setCell ⟨q, 0, none⟩ u0).setCell ⟨q, 1, none⟩ u1).setCell ⟨q, 2, none⟩ u2).setCell ⟨q, 3, none⟩ u3).setCell ⟨q, 4, none⟩ u4).heap.size = W.heap.size := by simp [World.setCell]
/-- What is read elsewhere stays read. -/
theorem Reads.far {α : Type} {L : Lay α} {w w' : World} {a : Option Addr} {m cap : Nat} {l : List α} (h : Reads L w (.slice a m cap) l) (hs : w'.heap.size = w.heap.size) (hb : ∀ b off sp, a = some ⟨b, off, sp⟩ → w'.heap[b]? = w.heap[b]?) : Reads L w' (.slice a m cap) l := by
  obtain ⟨a', cap', e, h1, h2, h3, h4, h5, h6⟩ := h
  cases e
  refine ⟨a, cap, rfl, h1, h2, h3, h4, h5, h6.imp id ?_⟩
  rintro ⟨b, off, rfl, hlt, hc⟩
  exact ⟨b, off, rfl, by rw [hs]; exact hlt, fun i x j u hi hj => (World.cell?_of_block (a := ⟨b, off + i * L.m + j, none⟩) (hb b off none rfl)).trans (hc i x j u hi hj)⟩
theorem Vec.Reads.far {w w' : World} {a : Option Addr} {m cap : Nat} {l : Vec.V} (h : Vec.Reads w (.slice a m cap) l) (hs : w'.heap.size = w.heap.size) (hb : ∀ b off sp, a = some ⟨b, off, sp⟩ → w'.heap[b]? = w.heap[b]?) : Vec.Reads w' (.slice a m cap) l := by
  obtain ⟨a', cap', e, h1, h2, h3, h4, h5, h6⟩ := h
  cases e
  refine ⟨a, cap, rfl, h1, h2, h3, h4, h5, h6.imp id ?_⟩
  rintro ⟨b, off, rfl, hlt, hc⟩
  exact ⟨b, off, rfl, by rw [hs]; exact hlt, fun i hi => ⟨(World.cell?_of_block (a := ⟨b, off + i * 2, none⟩) (hb b off none rfl)).trans (hc i hi).1, (World.cell?_of_block (a := ⟨b, off + i * 2 + 1, none⟩) (hb b off none rfl)).trans (hc i hi).2⟩⟩
theorem set5_cells {W : World} {q : Nat} {v0 v1 v2 v3 v4 u0 u1 u2 u3 u4 : Value} (y0 : W.cell? ⟨q, 0, none⟩ = some v0) (y1 : W.cell? ⟨q, 1, none⟩ = some v1) (y2 : W.cell? ⟨q, 2, none⟩ = some v2) (y3 : W.cell? ⟨q, 3, none⟩ = some v3) (y4 : W.cell? ⟨q, 4, none⟩ = some v4) (W' : World)
    (hW : (((((W.setCell ⟨q, 0, none⟩ u0).setCell ⟨q, 1, none⟩ u1).setCell ⟨q, 2, none⟩ u2).setCell ⟨q, 3, none⟩ u3).setCell ⟨q, 4, none⟩ u4) = W') :
    W'.cell? ⟨q, 0, none⟩ = some u0 ∧ W'.cell? ⟨q, 1, none⟩ = some u1 ∧ W'.cell? ⟨q, 2, none⟩ = some u2 ∧ W'.cell? ⟨q, 3, none⟩ = some u3 ∧ W'.cell? ⟨q, 4, none⟩ = some u4 := by
  subst hW
  refine ⟨?_, ?_, ?_, ?_, ?_⟩ <;> go_simp
theorem laid_at {w1 W : World} {q : Nat} {x : ByteArray} {n1 : Vec.V} {n2 : PL} {n3 : NL} {b : Bool} {aa ab ac : Option Addr} {ma ca mb cb mc cc : Nat} {v0 v1 v2 v3 v4 : Value} (kk : Kept w1 W) (hq : w1.heap.size ≤ q)
    (y0 : W.cell? ⟨q, 0, none⟩ = some v0) (y1 : W.cell? ⟨q, 1, none⟩ = some v1) (y2 : W.cell? ⟨q, 2, none⟩ = some v2) (y3 : W.cell? ⟨q, 3, none⟩ = some v3) (y4 : W.cell? ⟨q, 4, none⟩ = some v4)
    (ra : Vec.Reads W (.slice aa ma ca) n1) (rb : Reads PairLay W (.slice ab mb cb) n2) (rc : Reads TaLay W (.slice ac mc cc) n3)
    (fa : ∀ b off sp, aa = some ⟨b, off, sp⟩ → b ≠ q) (fb : ∀ b off sp, ab = some ⟨b, off, sp⟩ → b ≠ q) (fc : ∀ b off sp, ac = some ⟨b, off, sp⟩ → b ≠ q)
    (ga : ∀ b off sp, aa = some ⟨b, off, sp⟩ → w1.heap.size ≤ b) (gb : ∀ b off sp, ab = some ⟨b, off, sp⟩ → w1.heap.size ≤ b) (gc : ∀ b off sp, ac = some ⟨b, off, sp⟩ → w1.heap.size ≤ b) :
    Laid w1 q x n1 n2 n3 b (((((W.setCell ⟨q, 0, none⟩ (.string x)).setCell ⟨q, 1, none⟩ (.slice aa ma ca)).setCell ⟨q, 2, none⟩ (.slice ab mb cb)).setCell ⟨q, 3, none⟩ (.slice ac mc cc)).setCell ⟨q, 4, none⟩ (.bool b)) := by
  obtain ⟨c0, c1, c2, c3, c4⟩ := set5_cells (u0 := .string x) (u1 := .slice aa ma ca) (u2 := .slice ab mb cb) (u3 := .slice ac mc cc) (u4 := .bool b) y0 y1 y2 y3 y4 _ rfl
  have hb := set5_block W q (.string x) (.slice aa ma ca) (.slice ab mb cb) (.slice ac mc cc) (.bool b)
  have hs := set5_size W q (.string x) (.slice aa ma ca) (.slice ab mb cb) (.slice ac mc cc) (.bool b)
  exact ⟨aa, ma, ca, ab, mb, cb, ac, mc, cc, c0, c1, c2, c3, c4, ra.far hs (fun b' o sp e => hb b' (fa b' o sp e)), rb.far hs (fun b' o sp e => hb b' (fb b' o sp e)), rc.far hs (fun b' o sp e => hb b' (fc b' o sp e)),
    ((((kk.setCell (p := ⟨q, 0, none⟩) hq _).setCell (p := ⟨q, 1, none⟩) hq _).setCell (p := ⟨q, 2, none⟩) hq _).setCell (p := ⟨q, 3, none⟩) hq _).setCell (p := ⟨q, 4, none⟩) hq _, hq, ga, gb, gc⟩
/-- The result's own block. -/
theorem zero_cells (w w1 : World) (k : Kept (w.alloc (.cells #[.string ⟨#[]⟩, .slice none 0 0, .slice none 0 0, .slice none 0 0, .bool false] 53)) w1) : ∀ W, Kept w1 W →
    (W.cell? ⟨w.heap.size, 0, none⟩ = some (.string ⟨#[]⟩) ∧ W.cell? ⟨w.heap.size, 1, none⟩ = some (.slice none 0 0) ∧ W.cell? ⟨w.heap.size, 2, none⟩ = some (.slice none 0 0) ∧ W.cell? ⟨w.heap.size, 3, none⟩ = some (.slice none 0 0) ∧ W.cell? ⟨w.heap.size, 4, none⟩ = some (.bool false)) ∧
    W.frozen? ⟨w.heap.size, 0, none⟩ = false ∧ W.frozen? ⟨w.heap.size, 1, none⟩ = false ∧ W.frozen? ⟨w.heap.size, 2, none⟩ = false ∧ W.frozen? ⟨w.heap.size, 3, none⟩ = false ∧ W.frozen? ⟨w.heap.size, 4, none⟩ = false :=
  fun W (kk : Kept w1 W) => fresh5 w _ _ _ _ _ 53 W (k.trans kk)

theorem words_five {s : List UInt8} {ps : List (List UInt8)} (h : wordsL s = some ps) : ∃ a b c d e, ps = [a, b, c, d, e] ∧ ∀ p ∈ ps, p.length ≤ s.length := by
  unfold wordsL at h
  split at h
  · rename_i h5
    cases h
    have hl := h5.1
    have hm : ∀ p ∈ partsAt 32 s, p.length ≤ s.length := fun p hp => partAt_len 32 s p hp
    match hps : partsAt 32 s, hl with
    | [a, b, c, d, e], _ => exact ⟨a, b, c, d, e, rfl, by rw [hps] at hm; exact hm⟩
  · cases h

theorem soundN_ok (x : ByteArray) (a1 a2 a3 : Option Addr) (l1 c1 l2 c2 l3 c3 : Nat) (b : Bool) (w : World) : Calls Tryz.prog 191 #[.agg #[.string x, .slice a1 l1 c1, .slice a2 l2 c2, .slice a3 l3 c3, .bool b], .int .i64 0] w fun e w' => e = .returned (.agg #[.string x, .slice a1 l1 c1, .slice a2 l2 c2, .slice a3 l3 c3, .bool b]) ∧ Kept w w' := by
  go_enter Tryz.func191, Tryz.ntmps191
  go_wp2
  go_returns
  exact ⟨rfl, kept_two _ _ _⟩
theorem soundN_bad (x : ByteArray) (a1 a2 a3 : Option Addr) (l1 c1 l2 c2 l3 c3 : Nat) (b : Bool) (c : Int) (w : World) (h : c ≠ 0) : Calls Tryz.prog 191 #[.agg #[.string x, .slice a1 l1 c1, .slice a2 l2 c2, .slice a3 l3 c3, .bool b], .int .i64 c] w fun e w' => e = .panicked [perr c] ∧ Kept w w' := by
  have h3 : (c != 0) = true := by simpa using h
  clear h
  go_enter Tryz.func191, Tryz.ntmps191
  go_wp2
  exact ⟨rfl, rfl, kept_two _ _ _⟩

set_option maxRecDepth 100000 in
set_option maxHeartbeats 4000000 in
theorem parsedN_any (s : List UInt8) (w : World) (hE : Vec.EnvT w) (hs : s.length ≤ 900000) :
    Calls Tryz.prog 119 #[.string (bytes s)] w (NodRes (parseN s) w) := by
  have HWD := Lib.hid (fun W (k : Kept w W) => words_any s W (hE.kept k).toEnv.base (by omega))
  cases hw : wordsL s with
  | none =>
    have HP := Lib.hid (show parseN s = (2, Nod.zero) by unfold parseN; rw [hw])
    have HW := Lib.hid hw
    clear hw hs hE
    go_enter Tryz.func119, Tryz.ntmps119
    go_wp2_with fail
    refine (HWD.out _ (kept_alloc _ _)).mono ?_
    rintro ee w1 ⟨g1, g2, k⟩
    obtain rfl := g2 HW.out
    have K := Lib.hid ((kept_alloc _ _).trans k)
    clear g1 g2 k
    go_wp2
    exact ⟨rfl, NodRes.bad (by rw [HP.out]) (by decide) K.out⟩
  | some ps =>
    obtain ⟨a, b, c, d, e, rfl, hlen⟩ := words_five hw
    have hla := hlen a (by simp)
    have hlb := hlen b (by simp)
    have hlc := hlen c (by simp)
    have hld := hlen d (by simp)
    have HP := Lib.hid (show parseN s = fiveR a b c d e by unfold parseN; rw [hw])
    have HW := Lib.hid hw
    obtain ⟨e1, n1, he1⟩ : ∃ x y, Vec.parseV b = (x, y) := ⟨_, _, rfl⟩
    obtain ⟨e2, n2, he2⟩ : ∃ x y, parsedP c = (x, y) := ⟨_, _, rfl⟩
    obtain ⟨e3, n3, he3⟩ : ∃ x y, parsedA d = (x, y) := ⟨_, _, rfl⟩
    have H1 := Lib.hid (fun W (k : Kept w W) => (Vec.parse_any b W (hE.kept k).toEnv (by omega)).mono fun _ _ => Vec.Done.spelt)
    have H2 := Lib.hid (fun W (k : Kept w W) => (parse_any c W (hE.kept k).toEnv.base (by omega)).mono fun _ _ => own_spelt)
    have H3 := Lib.hid (fun W (k : Kept w W) => (parseA_any d W (hE.kept k).toEnv.base (by omega)).mono fun _ _ => own_spelt)
    rw [he1] at H1
    rw [he2] at H2
    rw [he3] at H3
    dsimp only at H1 H2 H3
    have HCL := Lib.hid (fun W => clone_any (bytes a) W (by rw [bytes_size]; omega))
    have HNM := Lib.hid (show (bytes a).size ≤ maxLen by rw [bytes_size]; unfold maxLen; omega)
    have t4 : ((bytes e).toList == [99, 111, 114, 100, 111, 110]) = (e == cordonL) := by rw [bytes_toList]; rfl
    have HFV := Lib.hid (show parseN s = if e1 ≠ 0 then (e1, Nod.zero) else if e2 ≠ 0 then (e2, Nod.zero) else if e3 ≠ 0 then (e3, Nod.zero) else if chkNod ⟨bytes a, n1, n2, n3, e == cordonL⟩ ≠ 0 then (chkNod ⟨bytes a, n1, n2, n3, e == cordonL⟩, Nod.zero) else (0, ⟨bytes a, n1, n2, n3, e == cordonL⟩) by rw [HP.out]; unfold fiveR madeNod; rw [he1, he2, he3])
    obtain ⟨cd, hcd⟩ : ∃ x, (e == cordonL) = x := ⟨_, rfl⟩
    rw [hcd] at t4 HFV
    clear hlen hla hlb hlc hld hw he1 he2 he3 hcd hs HP hE
    by_cases z1 : e1 = 0
    · subst z1
      by_cases z2 : e2 = 0
      · subst z2
        by_cases z3 : e3 = 0
        · subst z3
          have HV := Lib.hid (show parseN s = if chkNod ⟨bytes a, n1, n2, n3, cd⟩ ≠ 0 then (chkNod ⟨bytes a, n1, n2, n3, cd⟩, Nod.zero) else (0, ⟨bytes a, n1, n2, n3, cd⟩) by rw [HFV.out, if_neg (by decide), if_neg (by decide), if_neg (by decide)])
          clear HFV
          go_enter Tryz.func119, Tryz.ntmps119
          go_wp2_with fail
          refine (HWD.out _ (kept_alloc _ _)).mono ?_
          rintro ee w1 ⟨g1, g2, k⟩
          obtain ⟨g, cap, rfl, hcells⟩ := g1 _ HW.out
          have K := Lib.hid ((kept_alloc _ _).trans k)
          have K1S := Lib.hid (show w.heap.size + 1 ≤ w1.heap.size by have := k.size; rw [World.size_alloc] at this; exact this)
          have HR0 := Lib.hid (zero_cells w w1 k)
          have HC := Lib.hid (show ∀ W, Kept w1 W → W.cell? ⟨g, 0, none⟩ = some (.string (bytes a)) ∧ W.cell? ⟨g, 1, none⟩ = some (.string (bytes b)) ∧ W.cell? ⟨g, 2, none⟩ = some (.string (bytes c)) ∧ W.cell? ⟨g, 3, none⟩ = some (.string (bytes d)) ∧ W.cell? ⟨g, 4, none⟩ = some (.string (bytes e)) from fun W k =>
            ⟨cell_later k (hcells 0 a rfl), cell_later k (hcells 1 b rfl), cell_later k (hcells 2 c rfl), cell_later k (hcells 3 d rfl), cell_later k (hcells 4 e rfl)⟩)
          clear g1 g2 k hcells HWD HW
          go_wp2
          go_cut [4] from 7 to 37 (fun s4 wx => ∃ q, s4 = .pointer (some ⟨q, 0, none⟩) ∧ Laid w1 q (bytes a) n1 n2 n3 cd wx)
          case first =>
            refine wp_region_held_drew (S := fun W => Kept w1 W) (by kernel_rfl) (Kept.drew _) (fun hHeld => ?_)
            have KK := Lib.hid hHeld
            obtain ⟨wd, hwd⟩ : ∃ W, w1.drew = W := ⟨_, rfl⟩
            rw [hwd] at KK hHeld ⊢
            clear hwd
            refine wpAnyH_take (i := 0) (v := ?_) (by rw [List.getElem?_toArray]; exact rfl) (by kernel_rfl) (by kernel_rfl) (by kernel_rfl) (by exact fun _ _ _ h => h) (Or.inl ⟨by rfl, (by intro W hSw; obtain ⟨q0, q1, q2, q3, q4⟩ := HC.out _ hSw; go_simp <;> with_reducible rfl)⟩) (by assumption) ?_
            try simp only [Act.put, List.setIfInBounds_toArray, List.set_cons_zero, List.set_cons_succ]
            refine wpAnyH_take (i := 1) (v := ?_) (by rw [List.getElem?_toArray]; exact rfl) (by kernel_rfl) (by kernel_rfl) (by kernel_rfl) (by exact fun _ _ _ h => h) (Or.inl ⟨by rfl, (by intro W hSw; obtain ⟨q0, q1, q2, q3, q4⟩ := HC.out _ hSw; go_simp <;> with_reducible rfl)⟩) (by assumption) ?_
            try simp only [Act.put, List.setIfInBounds_toArray, List.set_cons_zero, List.set_cons_succ]
            refine wpAnyH_take (i := 2) (v := ?_) (by rw [List.getElem?_toArray]; exact rfl) (by kernel_rfl) (by kernel_rfl) (by kernel_rfl) (by exact fun _ _ _ h => h) (Or.inl ⟨by rfl, (by intro W hSw; obtain ⟨q0, q1, q2, q3, q4⟩ := HC.out _ hSw; go_simp <;> with_reducible rfl)⟩) (by assumption) ?_
            try simp only [Act.put, List.setIfInBounds_toArray, List.set_cons_zero, List.set_cons_succ]
            refine wpAnyH_take (i := 4) (v := ?_) (by rw [List.getElem?_toArray]; exact rfl) (by kernel_rfl) (by kernel_rfl) (by kernel_rfl) (by exact fun _ _ _ h => h) (Or.inl ⟨by rfl, (by intro W hSw; obtain ⟨q0, q1, q2, q3, q4⟩ := HC.out _ hSw; go_simp <;> with_reducible rfl)⟩) (by assumption) ?_
            try simp only [Act.put, List.setIfInBounds_toArray, List.set_cons_zero, List.set_cons_succ]
            refine wpAnyH_take (i := 5) (v := ?_) (by rw [List.getElem?_toArray]; exact rfl) (by kernel_rfl) (by kernel_rfl) (by kernel_rfl) (by exact fun _ _ _ h => h) (Or.inl ⟨by rfl, (by intro W hSw; obtain ⟨q0, q1, q2, q3, q4⟩ := HC.out _ hSw; go_simp <;> with_reducible rfl)⟩) (by assumption) ?_
            try simp only [Act.put, List.setIfInBounds_toArray, List.set_cons_zero, List.set_cons_succ]
            refine wpAnyH_take (i := 6) (v := ?_) (by rw [List.getElem?_toArray]; exact rfl) (by kernel_rfl) (by kernel_rfl) (by kernel_rfl) (by exact fun _ _ _ h => h) (Or.inl ⟨by rfl, (by intro W hSw; obtain ⟨q0, q1, q2, q3, q4⟩ := HC.out _ hSw; go_simp <;> with_reducible rfl)⟩) (by assumption) ?_
            try simp only [Act.put, List.setIfInBounds_toArray, List.set_cons_zero, List.set_cons_succ]
            refine wpAnyH_take (i := 11) (v := ?_) (by rw [List.getElem?_toArray]; exact rfl) (by kernel_rfl) (by kernel_rfl) (by kernel_rfl) (by exact fun _ _ _ h => h) (Or.inl ⟨by rfl, (by intro W hSw; obtain ⟨q0, q1, q2, q3, q4⟩ := HC.out _ hSw; go_simp <;> with_reducible rfl)⟩) (by assumption) ?_
            try simp only [Act.put, List.setIfInBounds_toArray, List.set_cons_zero, List.set_cons_succ]
            refine wpAnyH_take (i := 12) (v := ?_) (by rw [List.getElem?_toArray]; exact rfl) (by kernel_rfl) (by kernel_rfl) (by kernel_rfl) (by exact fun _ _ _ h => h) (Or.inl ⟨by rfl, (by intro W hSw; obtain ⟨q0, q1, q2, q3, q4⟩ := HC.out _ hSw; go_simp <;> with_reducible rfl)⟩) (by assumption) ?_
            try simp only [Act.put, List.setIfInBounds_toArray, List.set_cons_zero, List.set_cons_succ]
            refine wpAnyH_take (i := 13) (v := ?_) (by rw [List.getElem?_toArray]; exact rfl) (by kernel_rfl) (by kernel_rfl) (by kernel_rfl) (by exact fun _ _ _ h => h) (Or.inl ⟨by rfl, (by intro W hSw; obtain ⟨q0, q1, q2, q3, q4⟩ := HC.out _ hSw; go_simp <;> with_reducible rfl)⟩) (by assumption) ?_
            try simp only [Act.put, List.setIfInBounds_toArray, List.set_cons_zero, List.set_cons_succ]
            refine wpAnyH_take (i := 18) (v := ?_) (by rw [List.getElem?_toArray]; exact rfl) (by kernel_rfl) (by kernel_rfl) (by kernel_rfl) (by exact fun _ _ _ h => h) (Or.inl ⟨by rfl, (by intro W hSw; obtain ⟨q0, q1, q2, q3, q4⟩ := HC.out _ hSw; go_simp <;> with_reducible rfl)⟩) (by assumption) ?_
            try simp only [Act.put, List.setIfInBounds_toArray, List.set_cons_zero, List.set_cons_succ]
            refine wpAnyH_take (i := 19) (v := ?_) (by rw [List.getElem?_toArray]; exact rfl) (by kernel_rfl) (by kernel_rfl) (by kernel_rfl) (by exact fun _ _ _ h => h) (Or.inl ⟨by rfl, (by intro W hSw; obtain ⟨q0, q1, q2, q3, q4⟩ := HC.out _ hSw; go_simp <;> with_reducible rfl)⟩) (by assumption) ?_
            try simp only [Act.put, List.setIfInBounds_toArray, List.set_cons_zero, List.set_cons_succ]
            refine wpAnyH_take (i := 20) (v := ?_) (by rw [List.getElem?_toArray]; exact rfl) (by kernel_rfl) (by kernel_rfl) (by kernel_rfl) (by exact fun _ _ _ h => h) (Or.inl ⟨by rfl, (by intro W hSw; obtain ⟨q0, q1, q2, q3, q4⟩ := HC.out _ hSw; go_simp <;> with_reducible rfl)⟩) (by assumption) ?_
            try simp only [Act.put, List.setIfInBounds_toArray, List.set_cons_zero, List.set_cons_succ]
            refine wpAnyH_take (i := 25) (v := ?_) (by rw [List.getElem?_toArray]; exact rfl) (by kernel_rfl) (by kernel_rfl) (by kernel_rfl) (by exact fun _ _ _ h => h) (Or.inl ⟨by rfl, (by intro W hSw; obtain ⟨q0, q1, q2, q3, q4⟩ := HC.out _ hSw; go_simp <;> with_reducible rfl)⟩) (by assumption) ?_
            try simp only [Act.put, List.setIfInBounds_toArray, List.set_cons_zero, List.set_cons_succ]
            refine wpAnyH_take (i := 26) (v := ?_) (by rw [List.getElem?_toArray]; exact rfl) (by kernel_rfl) (by kernel_rfl) (by kernel_rfl) (by exact fun _ _ _ h => h) (Or.inl ⟨by rfl, (by intro W hSw; obtain ⟨q0, q1, q2, q3, q4⟩ := HC.out _ hSw; go_simp <;> with_reducible rfl)⟩) (by assumption) ?_
            try simp only [Act.put, List.setIfInBounds_toArray, List.set_cons_zero, List.set_cons_succ]
            refine wpAnyH_take (i := 27) (v := ?_) (by rw [List.getElem?_toArray]; exact rfl) (by kernel_rfl) (by kernel_rfl) (by kernel_rfl) (by exact fun _ _ _ h => h) (Or.inl ⟨by rfl, (by intro W hSw; obtain ⟨q0, q1, q2, q3, q4⟩ := HC.out _ hSw; go_simp <;> with_reducible rfl)⟩) (by assumption) ?_
            try simp only [Act.put, List.setIfInBounds_toArray, List.set_cons_zero, List.set_cons_succ]
            refine wpAnyH_take (i := 28) (v := ?_) (by rw [List.getElem?_toArray]; exact rfl) (by kernel_rfl) (by kernel_rfl) (by kernel_rfl) (by exact fun _ _ _ h => h) (Or.inl ⟨by rfl, (by intro W hSw; obtain ⟨q0, q1, q2, q3, q4⟩ := HC.out _ hSw; go_simp <;> with_reducible rfl)⟩) (by assumption) ?_
            try simp only [Act.put, List.setIfInBounds_toArray, List.set_cons_zero, List.set_cons_succ]
            refine wpAnyH_ready (rs := [3, 30]) (by kernel_rfl) (by simp) (AllReadyH.cons (by rw [List.getElem?_toArray]; exact rfl) (fun K9 hK9 => ?_) (AllReadyH.cons (by rw [List.getElem?_toArray]; exact rfl) (fun K9 hK9 => ?_) AllReadyH.nil))
            · -- the call
              go_simp
              refine (HCL.out _).mono ?_
              rintro e1 ww1 ⟨rfl, k⟩
              have HSZ := Lib.hid KK.out.size
              have KK := Lib.hid (KK.out.trans k)
              clear k
              refine hK9.out _ _ KK.out (fun hHeld2 => ?_)
              clear hK9 K9
              try simp only [Act.put, List.setIfInBounds_toArray, List.set_cons_zero, List.set_cons_succ]
              refine wpAnyH_ready (rs := [7, 30]) (by kernel_rfl) (by simp) (AllReadyH.cons (by rw [List.getElem?_toArray]; exact rfl) (fun K9 hK9 => ?_) (AllReadyH.cons (by rw [List.getElem?_toArray]; exact rfl) (fun K9 hK9 => ?_) AllReadyH.nil))
              · -- the call
                go_simp
                refine (H1.out _ (K.out.trans KK.out)).mono ?_
                rintro e3 ww3 ⟨aa, ma, ca, rfl, rr, bb, k⟩
                have HSZ := Lib.hid KK.out.size
                have KK := Lib.hid (KK.out.trans k)
                have RA := Lib.hid rr
                have BA := Lib.hid (show ∀ b off sp, aa = some ⟨b, off, sp⟩ → w1.heap.size ≤ b ∧ b < ww3.heap.size from fun b off sp e => ⟨Nat.le_trans HSZ.out (bb b off sp e).1, (bb b off sp e).2⟩)
                clear rr bb
                clear k
                refine hK9.out _ _ KK.out (fun hHeld4 => ?_)
                clear hK9 K9
                try simp only [Act.put, List.setIfInBounds_toArray, List.set_cons_zero, List.set_cons_succ]
                refine wpAnyH_take (i := 8) (v := ?_) (by rw [List.getElem?_toArray]; exact rfl) (by kernel_rfl) (by kernel_rfl) (by kernel_rfl) (by exact fun _ _ _ h => h) (Or.inl ⟨by rfl, (by intro W hSw; obtain ⟨q0, q1, q2, q3, q4⟩ := HC.out _ hSw; go_simp <;> with_reducible rfl)⟩) (by assumption) ?_
                try simp only [Act.put, List.setIfInBounds_toArray, List.set_cons_zero, List.set_cons_succ]
                refine wpAnyH_take (i := 9) (v := ?_) (by rw [List.getElem?_toArray]; exact rfl) (by kernel_rfl) (by kernel_rfl) (by kernel_rfl) (by exact fun _ _ _ h => h) (Or.inl ⟨by rfl, (by intro W hSw; obtain ⟨q0, q1, q2, q3, q4⟩ := HC.out _ hSw; go_simp <;> with_reducible rfl)⟩) (by assumption) ?_
                try simp only [Act.put, List.setIfInBounds_toArray, List.set_cons_zero, List.set_cons_succ]
                refine wpAnyH_ready (rs := [10, 30]) (by kernel_rfl) (by simp) (AllReadyH.cons (by rw [List.getElem?_toArray]; exact rfl) (fun K9 hK9 => ?_) (AllReadyH.cons (by rw [List.getElem?_toArray]; exact rfl) (fun K9 hK9 => ?_) AllReadyH.nil))
                · -- the call
                  go_simp
                  refine (soundV_ok _ _).mono ?_
                  rintro e5 w5_ ⟨rfl, rfl⟩
                  refine hK9.out _ _ KK.out (fun hHeld6 => ?_)
                  clear hK9 K9
                  try simp only [Act.put, List.setIfInBounds_toArray, List.set_cons_zero, List.set_cons_succ]
                  refine wpAnyH_ready (rs := [14, 30]) (by kernel_rfl) (by simp) (AllReadyH.cons (by rw [List.getElem?_toArray]; exact rfl) (fun K9 hK9 => ?_) (AllReadyH.cons (by rw [List.getElem?_toArray]; exact rfl) (fun K9 hK9 => ?_) AllReadyH.nil))
                  · -- the call
                    go_simp
                    refine (H2.out _ (K.out.trans KK.out)).mono ?_
                    rintro e7 ww7 ⟨ab, mb, cb, rfl, rr, bb, k⟩
                    have HSZ := Lib.hid KK.out.size
                    have KK := Lib.hid (KK.out.trans k)
                    have RA := Lib.hid (RA.out.kept k)
                    have RB := Lib.hid rr
                    have BB := Lib.hid (show ∀ b off sp, ab = some ⟨b, off, sp⟩ → w1.heap.size ≤ b ∧ b < ww7.heap.size from fun b off sp e => ⟨Nat.le_trans HSZ.out (bb b off sp e).1, (bb b off sp e).2⟩)
                    clear rr bb
                    have BA := Lib.hid (show ∀ b off sp, aa = some ⟨b, off, sp⟩ → w1.heap.size ≤ b ∧ b < ww7.heap.size from fun b off sp e => ⟨(BA.out b off sp e).1, Nat.lt_of_lt_of_le (BA.out b off sp e).2 k.size⟩)
                    clear k
                    refine hK9.out _ _ KK.out (fun hHeld8 => ?_)
                    clear hK9 K9
                    try simp only [Act.put, List.setIfInBounds_toArray, List.set_cons_zero, List.set_cons_succ]
                    refine wpAnyH_take (i := 15) (v := ?_) (by rw [List.getElem?_toArray]; exact rfl) (by kernel_rfl) (by kernel_rfl) (by kernel_rfl) (by exact fun _ _ _ h => h) (Or.inl ⟨by rfl, (by intro W hSw; obtain ⟨q0, q1, q2, q3, q4⟩ := HC.out _ hSw; go_simp <;> with_reducible rfl)⟩) (by assumption) ?_
                    try simp only [Act.put, List.setIfInBounds_toArray, List.set_cons_zero, List.set_cons_succ]
                    refine wpAnyH_take (i := 16) (v := ?_) (by rw [List.getElem?_toArray]; exact rfl) (by kernel_rfl) (by kernel_rfl) (by kernel_rfl) (by exact fun _ _ _ h => h) (Or.inl ⟨by rfl, (by intro W hSw; obtain ⟨q0, q1, q2, q3, q4⟩ := HC.out _ hSw; go_simp <;> with_reducible rfl)⟩) (by assumption) ?_
                    try simp only [Act.put, List.setIfInBounds_toArray, List.set_cons_zero, List.set_cons_succ]
                    refine wpAnyH_ready (rs := [17, 30]) (by kernel_rfl) (by simp) (AllReadyH.cons (by rw [List.getElem?_toArray]; exact rfl) (fun K9 hK9 => ?_) (AllReadyH.cons (by rw [List.getElem?_toArray]; exact rfl) (fun K9 hK9 => ?_) AllReadyH.nil))
                    · -- the call
                      go_simp
                      refine (soundP_ok _ _).mono ?_
                      rintro e9 w9_ ⟨rfl, rfl⟩
                      refine hK9.out _ _ KK.out (fun hHeld10 => ?_)
                      clear hK9 K9
                      try simp only [Act.put, List.setIfInBounds_toArray, List.set_cons_zero, List.set_cons_succ]
                      refine wpAnyH_ready (rs := [21, 30]) (by kernel_rfl) (by simp) (AllReadyH.cons (by rw [List.getElem?_toArray]; exact rfl) (fun K9 hK9 => ?_) (AllReadyH.cons (by rw [List.getElem?_toArray]; exact rfl) (fun K9 hK9 => ?_) AllReadyH.nil))
                      · -- the call
                        go_simp
                        refine (H3.out _ (K.out.trans KK.out)).mono ?_
                        rintro e11 ww11 ⟨ac, mc, cc, rfl, rr, bb, k⟩
                        have HSZ := Lib.hid KK.out.size
                        have KK := Lib.hid (KK.out.trans k)
                        have RA := Lib.hid (RA.out.kept k)
                        have RB := Lib.hid (RB.out.kept k)
                        have RC := Lib.hid rr
                        have BC := Lib.hid (show ∀ b off sp, ac = some ⟨b, off, sp⟩ → w1.heap.size ≤ b ∧ b < ww11.heap.size from fun b off sp e => ⟨Nat.le_trans HSZ.out (bb b off sp e).1, (bb b off sp e).2⟩)
                        clear rr bb
                        have BA := Lib.hid (show ∀ b off sp, aa = some ⟨b, off, sp⟩ → w1.heap.size ≤ b ∧ b < ww11.heap.size from fun b off sp e => ⟨(BA.out b off sp e).1, Nat.lt_of_lt_of_le (BA.out b off sp e).2 k.size⟩)
                        have BB := Lib.hid (show ∀ b off sp, ab = some ⟨b, off, sp⟩ → w1.heap.size ≤ b ∧ b < ww11.heap.size from fun b off sp e => ⟨(BB.out b off sp e).1, Nat.lt_of_lt_of_le (BB.out b off sp e).2 k.size⟩)
                        clear k
                        refine hK9.out _ _ KK.out (fun hHeld12 => ?_)
                        clear hK9 K9
                        try simp only [Act.put, List.setIfInBounds_toArray, List.set_cons_zero, List.set_cons_succ]
                        refine wpAnyH_take (i := 22) (v := ?_) (by rw [List.getElem?_toArray]; exact rfl) (by kernel_rfl) (by kernel_rfl) (by kernel_rfl) (by exact fun _ _ _ h => h) (Or.inl ⟨by rfl, (by intro W hSw; obtain ⟨q0, q1, q2, q3, q4⟩ := HC.out _ hSw; go_simp <;> with_reducible rfl)⟩) (by assumption) ?_
                        try simp only [Act.put, List.setIfInBounds_toArray, List.set_cons_zero, List.set_cons_succ]
                        refine wpAnyH_take (i := 23) (v := ?_) (by rw [List.getElem?_toArray]; exact rfl) (by kernel_rfl) (by kernel_rfl) (by kernel_rfl) (by exact fun _ _ _ h => h) (Or.inl ⟨by rfl, (by intro W hSw; obtain ⟨q0, q1, q2, q3, q4⟩ := HC.out _ hSw; go_simp <;> with_reducible rfl)⟩) (by assumption) ?_
                        try simp only [Act.put, List.setIfInBounds_toArray, List.set_cons_zero, List.set_cons_succ]
                        refine wpAnyH_ready (rs := [24, 30]) (by kernel_rfl) (by simp) (AllReadyH.cons (by rw [List.getElem?_toArray]; exact rfl) (fun K9 hK9 => ?_) (AllReadyH.cons (by rw [List.getElem?_toArray]; exact rfl) (fun K9 hK9 => ?_) AllReadyH.nil))
                        · -- the call
                          go_simp
                          refine (soundA_ok _ _).mono ?_
                          rintro e13 w13_ ⟨rfl, rfl⟩
                          refine hK9.out _ _ KK.out (fun hHeld14 => ?_)
                          clear hK9 K9
                          try simp only [Act.put, List.setIfInBounds_toArray, List.set_cons_zero, List.set_cons_succ]
                          refine wpAnyH_take (i := 29) (v := ?_) (by rw [List.getElem?_toArray]; exact rfl) (by kernel_rfl) (by kernel_rfl) (by kernel_rfl) (by exact fun _ _ _ h => h) (Or.inl ⟨by rfl, (by intro W hSw; obtain ⟨q0, q1, q2, q3, q4⟩ := HC.out _ hSw; go_simp <;> with_reducible rfl)⟩) (by assumption) ?_
                          try simp only [Act.put, List.setIfInBounds_toArray, List.set_cons_zero, List.set_cons_succ]
                          refine wpAnyH_ready (rs := [30]) (by kernel_rfl) (by simp) (AllReadyH.cons (by rw [List.getElem?_toArray]; exact rfl) (fun K9 hK9 => ?_) AllReadyH.nil)
                          go_simp
                          have HQ := Lib.hid (fresh5 ww11 (.string ⟨#[]⟩) (.slice none 0 0) (.slice none 0 0) (.slice none 0 0) (.bool false) 53)
                          have hq : w1.heap.size ≤ ww11.heap.size := KK.out.size
                          obtain ⟨q, hqe⟩ : ∃ q, ww11.heap.size = q := ⟨_, rfl⟩
                          have FA := Lib.hid (show ∀ b off sp, aa = some ⟨b, off, sp⟩ → b ≠ q from fun b off sp e => by have := (BA.out b off sp e).2; omega)
                          have FB := Lib.hid (show ∀ b off sp, ab = some ⟨b, off, sp⟩ → b ≠ q from fun b off sp e => by have := (BB.out b off sp e).2; omega)
                          have FC := Lib.hid (show ∀ b off sp, ac = some ⟨b, off, sp⟩ → b ≠ q from fun b off sp e => by have := (BC.out b off sp e).2; omega)
                          have hsz : (ww11.alloc (.cells #[.string ⟨#[]⟩, .slice none 0 0, .slice none 0 0, .slice none 0 0, .bool false] 53)).heap.size = q + 1 := by rw [World.size_alloc, hqe]
                          have KA := Lib.hid (kept_alloc ww11 (.cells #[.string ⟨#[]⟩, .slice none 0 0, .slice none 0 0, .slice none 0 0, .bool false] 53))
                          rw [hqe] at HQ hq ⊢
                          obtain ⟨wq15, hWQ⟩ : ∃ W, ww11.alloc (.cells #[.string ⟨#[]⟩, .slice none 0 0, .slice none 0 0, .slice none 0 0, .bool false] 53) = W := ⟨_, rfl⟩
                          rw [hWQ] at HQ hsz KA ⊢
                          clear hWQ hqe
                          have KK := Lib.hid (KK.out.trans KA.out)
                          have KQ := Lib.hid (Kept.refl wq15)
                          have RA := Lib.hid (RA.out.kept KA.out)
                          have RB := Lib.hid (RB.out.kept KA.out)
                          have RC := Lib.hid (RC.out.kept KA.out)
                          clear KA
                          refine hK9.out _ _ KK.out (fun hHeld16 => ?_)
                          clear hK9 K9
                          try simp only [Act.put, List.setIfInBounds_toArray, List.set_cons_zero, List.set_cons_succ]
                          refine wpAnyH_ready (rs := [31]) (by kernel_rfl) (by simp) (AllReadyH.cons (by rw [List.getElem?_toArray]; exact rfl) (fun K9 hK9 => ?_) AllReadyH.nil)
                          obtain ⟨⟨y0, y1, y2, y3, y4⟩, x0, x1, x2, x3, x4⟩ := HQ.out _ KQ.out
                          go_simp
                          refine hK9.out _ _ (((((KK.out.setCell (p := ⟨q, 0, none⟩) hq _).setCell (p := ⟨q, 1, none⟩) hq _).setCell (p := ⟨q, 2, none⟩) hq _).setCell (p := ⟨q, 3, none⟩) hq _).setCell (p := ⟨q, 4, none⟩) hq _) (fun hHeldS => ?_)
                          clear hK9 K9
                          try simp only [Act.put, List.setIfInBounds_toArray, List.set_cons_zero, List.set_cons_succ]
                          refine wpAnyH_done (by kernel_rfl) ?_ _
                          go_wp2
                          go_meet
                          case rel => exact ⟨q, rfl, laid_at KK.out hq y0 y1 y2 y3 y4 RA.out RB.out RC.out FA.out FB.out FC.out (fun b o sp e => (BA.out b o sp e).1) (fun b o sp e => (BB.out b o sp e).1) (fun b o sp e => (BC.out b o sp e).1)⟩
                        · -- the block
                          go_simp
                          have HQ := Lib.hid (fresh5 ww11 (.string ⟨#[]⟩) (.slice none 0 0) (.slice none 0 0) (.slice none 0 0) (.bool false) 53)
                          have hq : w1.heap.size ≤ ww11.heap.size := KK.out.size
                          obtain ⟨q, hqe⟩ : ∃ q, ww11.heap.size = q := ⟨_, rfl⟩
                          have FA := Lib.hid (show ∀ b off sp, aa = some ⟨b, off, sp⟩ → b ≠ q from fun b off sp e => by have := (BA.out b off sp e).2; omega)
                          have FB := Lib.hid (show ∀ b off sp, ab = some ⟨b, off, sp⟩ → b ≠ q from fun b off sp e => by have := (BB.out b off sp e).2; omega)
                          have FC := Lib.hid (show ∀ b off sp, ac = some ⟨b, off, sp⟩ → b ≠ q from fun b off sp e => by have := (BC.out b off sp e).2; omega)
                          have hsz : (ww11.alloc (.cells #[.string ⟨#[]⟩, .slice none 0 0, .slice none 0 0, .slice none 0 0, .bool false] 53)).heap.size = q + 1 := by rw [World.size_alloc, hqe]
                          have KA := Lib.hid (kept_alloc ww11 (.cells #[.string ⟨#[]⟩, .slice none 0 0, .slice none 0 0, .slice none 0 0, .bool false] 53))
                          rw [hqe] at HQ hq ⊢
                          obtain ⟨wq17, hWQ⟩ : ∃ W, ww11.alloc (.cells #[.string ⟨#[]⟩, .slice none 0 0, .slice none 0 0, .slice none 0 0, .bool false] 53) = W := ⟨_, rfl⟩
                          rw [hWQ] at HQ hsz KA ⊢
                          clear hWQ hqe
                          have KK := Lib.hid (KK.out.trans KA.out)
                          have KQ := Lib.hid (Kept.refl wq17)
                          have RA := Lib.hid (RA.out.kept KA.out)
                          have RB := Lib.hid (RB.out.kept KA.out)
                          have RC := Lib.hid (RC.out.kept KA.out)
                          clear KA
                          refine hK9.out _ _ KK.out (fun hHeld18 => ?_)
                          clear hK9 K9
                          try simp only [Act.put, List.setIfInBounds_toArray, List.set_cons_zero, List.set_cons_succ]
                          refine wpAnyH_ready (rs := [24]) (by kernel_rfl) (by simp) (AllReadyH.cons (by rw [List.getElem?_toArray]; exact rfl) (fun K9 hK9 => ?_) AllReadyH.nil)
                          go_simp
                          refine (soundA_ok _ _).mono ?_
                          rintro e19 w19_ ⟨rfl, rfl⟩
                          refine hK9.out _ _ KK.out (fun hHeld20 => ?_)
                          clear hK9 K9
                          try simp only [Act.put, List.setIfInBounds_toArray, List.set_cons_zero, List.set_cons_succ]
                          refine wpAnyH_take (i := 29) (v := ?_) (by rw [List.getElem?_toArray]; exact rfl) (by kernel_rfl) (by kernel_rfl) (by kernel_rfl) (by exact fun _ _ _ h => h) (Or.inl ⟨by rfl, (by intro W hSw; obtain ⟨q0, q1, q2, q3, q4⟩ := HC.out _ hSw; go_simp <;> with_reducible rfl)⟩) (by assumption) ?_
                          try simp only [Act.put, List.setIfInBounds_toArray, List.set_cons_zero, List.set_cons_succ]
                          refine wpAnyH_ready (rs := [31]) (by kernel_rfl) (by simp) (AllReadyH.cons (by rw [List.getElem?_toArray]; exact rfl) (fun K9 hK9 => ?_) AllReadyH.nil)
                          obtain ⟨⟨y0, y1, y2, y3, y4⟩, x0, x1, x2, x3, x4⟩ := HQ.out _ KQ.out
                          go_simp
                          refine hK9.out _ _ (((((KK.out.setCell (p := ⟨q, 0, none⟩) hq _).setCell (p := ⟨q, 1, none⟩) hq _).setCell (p := ⟨q, 2, none⟩) hq _).setCell (p := ⟨q, 3, none⟩) hq _).setCell (p := ⟨q, 4, none⟩) hq _) (fun hHeldS => ?_)
                          clear hK9 K9
                          try simp only [Act.put, List.setIfInBounds_toArray, List.set_cons_zero, List.set_cons_succ]
                          refine wpAnyH_done (by kernel_rfl) ?_ _
                          go_wp2
                          go_meet
                          case rel => exact ⟨q, rfl, laid_at KK.out hq y0 y1 y2 y3 y4 RA.out RB.out RC.out FA.out FB.out FC.out (fun b o sp e => (BA.out b o sp e).1) (fun b o sp e => (BB.out b o sp e).1) (fun b o sp e => (BC.out b o sp e).1)⟩
                      · -- the block
                        go_simp
                        have HQ := Lib.hid (fresh5 ww7 (.string ⟨#[]⟩) (.slice none 0 0) (.slice none 0 0) (.slice none 0 0) (.bool false) 53)
                        have hq : w1.heap.size ≤ ww7.heap.size := KK.out.size
                        obtain ⟨q, hqe⟩ : ∃ q, ww7.heap.size = q := ⟨_, rfl⟩
                        have FA := Lib.hid (show ∀ b off sp, aa = some ⟨b, off, sp⟩ → b ≠ q from fun b off sp e => by have := (BA.out b off sp e).2; omega)
                        have FB := Lib.hid (show ∀ b off sp, ab = some ⟨b, off, sp⟩ → b ≠ q from fun b off sp e => by have := (BB.out b off sp e).2; omega)
                        have hsz : (ww7.alloc (.cells #[.string ⟨#[]⟩, .slice none 0 0, .slice none 0 0, .slice none 0 0, .bool false] 53)).heap.size = q + 1 := by rw [World.size_alloc, hqe]
                        have KA := Lib.hid (kept_alloc ww7 (.cells #[.string ⟨#[]⟩, .slice none 0 0, .slice none 0 0, .slice none 0 0, .bool false] 53))
                        rw [hqe] at HQ hq ⊢
                        obtain ⟨wq21, hWQ⟩ : ∃ W, ww7.alloc (.cells #[.string ⟨#[]⟩, .slice none 0 0, .slice none 0 0, .slice none 0 0, .bool false] 53) = W := ⟨_, rfl⟩
                        rw [hWQ] at HQ hsz KA ⊢
                        clear hWQ hqe
                        have KK := Lib.hid (KK.out.trans KA.out)
                        have KQ := Lib.hid (Kept.refl wq21)
                        have RA := Lib.hid (RA.out.kept KA.out)
                        have RB := Lib.hid (RB.out.kept KA.out)
                        clear KA
                        refine hK9.out _ _ KK.out (fun hHeld22 => ?_)
                        clear hK9 K9
                        try simp only [Act.put, List.setIfInBounds_toArray, List.set_cons_zero, List.set_cons_succ]
                        refine wpAnyH_ready (rs := [21]) (by kernel_rfl) (by simp) (AllReadyH.cons (by rw [List.getElem?_toArray]; exact rfl) (fun K9 hK9 => ?_) AllReadyH.nil)
                        go_simp
                        refine (H3.out _ (K.out.trans KK.out)).mono ?_
                        rintro e23 ww23 ⟨ac, mc, cc, rfl, rr, bb, k⟩
                        have HSZ := Lib.hid KK.out.size
                        have KK := Lib.hid (KK.out.trans k)
                        have RA := Lib.hid (RA.out.kept k)
                        have RB := Lib.hid (RB.out.kept k)
                        have RC := Lib.hid rr
                        have BC := Lib.hid (show ∀ b off sp, ac = some ⟨b, off, sp⟩ → w1.heap.size ≤ b ∧ b < ww23.heap.size from fun b off sp e => ⟨Nat.le_trans HSZ.out (bb b off sp e).1, (bb b off sp e).2⟩)
                        have FC := Lib.hid (show ∀ b off sp, ac = some ⟨b, off, sp⟩ → b ≠ q from fun b off sp e => by have := (bb b off sp e).1; have := KQ.out.size; omega)
                        clear rr bb
                        have KQ := Lib.hid (KQ.out.trans k)
                        clear k
                        refine hK9.out _ _ KK.out (fun hHeld24 => ?_)
                        clear hK9 K9
                        try simp only [Act.put, List.setIfInBounds_toArray, List.set_cons_zero, List.set_cons_succ]
                        refine wpAnyH_take (i := 22) (v := ?_) (by rw [List.getElem?_toArray]; exact rfl) (by kernel_rfl) (by kernel_rfl) (by kernel_rfl) (by exact fun _ _ _ h => h) (Or.inl ⟨by rfl, (by intro W hSw; obtain ⟨q0, q1, q2, q3, q4⟩ := HC.out _ hSw; go_simp <;> with_reducible rfl)⟩) (by assumption) ?_
                        try simp only [Act.put, List.setIfInBounds_toArray, List.set_cons_zero, List.set_cons_succ]
                        refine wpAnyH_take (i := 23) (v := ?_) (by rw [List.getElem?_toArray]; exact rfl) (by kernel_rfl) (by kernel_rfl) (by kernel_rfl) (by exact fun _ _ _ h => h) (Or.inl ⟨by rfl, (by intro W hSw; obtain ⟨q0, q1, q2, q3, q4⟩ := HC.out _ hSw; go_simp <;> with_reducible rfl)⟩) (by assumption) ?_
                        try simp only [Act.put, List.setIfInBounds_toArray, List.set_cons_zero, List.set_cons_succ]
                        refine wpAnyH_ready (rs := [24]) (by kernel_rfl) (by simp) (AllReadyH.cons (by rw [List.getElem?_toArray]; exact rfl) (fun K9 hK9 => ?_) AllReadyH.nil)
                        go_simp
                        refine (soundA_ok _ _).mono ?_
                        rintro e25 w25_ ⟨rfl, rfl⟩
                        refine hK9.out _ _ KK.out (fun hHeld26 => ?_)
                        clear hK9 K9
                        try simp only [Act.put, List.setIfInBounds_toArray, List.set_cons_zero, List.set_cons_succ]
                        refine wpAnyH_take (i := 29) (v := ?_) (by rw [List.getElem?_toArray]; exact rfl) (by kernel_rfl) (by kernel_rfl) (by kernel_rfl) (by exact fun _ _ _ h => h) (Or.inl ⟨by rfl, (by intro W hSw; obtain ⟨q0, q1, q2, q3, q4⟩ := HC.out _ hSw; go_simp <;> with_reducible rfl)⟩) (by assumption) ?_
                        try simp only [Act.put, List.setIfInBounds_toArray, List.set_cons_zero, List.set_cons_succ]
                        refine wpAnyH_ready (rs := [31]) (by kernel_rfl) (by simp) (AllReadyH.cons (by rw [List.getElem?_toArray]; exact rfl) (fun K9 hK9 => ?_) AllReadyH.nil)
                        obtain ⟨⟨y0, y1, y2, y3, y4⟩, x0, x1, x2, x3, x4⟩ := HQ.out _ KQ.out
                        go_simp
                        refine hK9.out _ _ (((((KK.out.setCell (p := ⟨q, 0, none⟩) hq _).setCell (p := ⟨q, 1, none⟩) hq _).setCell (p := ⟨q, 2, none⟩) hq _).setCell (p := ⟨q, 3, none⟩) hq _).setCell (p := ⟨q, 4, none⟩) hq _) (fun hHeldS => ?_)
                        clear hK9 K9
                        try simp only [Act.put, List.setIfInBounds_toArray, List.set_cons_zero, List.set_cons_succ]
                        refine wpAnyH_done (by kernel_rfl) ?_ _
                        go_wp2
                        go_meet
                        case rel => exact ⟨q, rfl, laid_at KK.out hq y0 y1 y2 y3 y4 RA.out RB.out RC.out FA.out FB.out FC.out (fun b o sp e => (BA.out b o sp e).1) (fun b o sp e => (BB.out b o sp e).1) (fun b o sp e => (BC.out b o sp e).1)⟩
                    · -- the block
                      go_simp
                      have HQ := Lib.hid (fresh5 ww7 (.string ⟨#[]⟩) (.slice none 0 0) (.slice none 0 0) (.slice none 0 0) (.bool false) 53)
                      have hq : w1.heap.size ≤ ww7.heap.size := KK.out.size
                      obtain ⟨q, hqe⟩ : ∃ q, ww7.heap.size = q := ⟨_, rfl⟩
                      have FA := Lib.hid (show ∀ b off sp, aa = some ⟨b, off, sp⟩ → b ≠ q from fun b off sp e => by have := (BA.out b off sp e).2; omega)
                      have FB := Lib.hid (show ∀ b off sp, ab = some ⟨b, off, sp⟩ → b ≠ q from fun b off sp e => by have := (BB.out b off sp e).2; omega)
                      have hsz : (ww7.alloc (.cells #[.string ⟨#[]⟩, .slice none 0 0, .slice none 0 0, .slice none 0 0, .bool false] 53)).heap.size = q + 1 := by rw [World.size_alloc, hqe]
                      have KA := Lib.hid (kept_alloc ww7 (.cells #[.string ⟨#[]⟩, .slice none 0 0, .slice none 0 0, .slice none 0 0, .bool false] 53))
                      rw [hqe] at HQ hq ⊢
                      obtain ⟨wq27, hWQ⟩ : ∃ W, ww7.alloc (.cells #[.string ⟨#[]⟩, .slice none 0 0, .slice none 0 0, .slice none 0 0, .bool false] 53) = W := ⟨_, rfl⟩
                      rw [hWQ] at HQ hsz KA ⊢
                      clear hWQ hqe
                      have KK := Lib.hid (KK.out.trans KA.out)
                      have KQ := Lib.hid (Kept.refl wq27)
                      have RA := Lib.hid (RA.out.kept KA.out)
                      have RB := Lib.hid (RB.out.kept KA.out)
                      clear KA
                      refine hK9.out _ _ KK.out (fun hHeld28 => ?_)
                      clear hK9 K9
                      try simp only [Act.put, List.setIfInBounds_toArray, List.set_cons_zero, List.set_cons_succ]
                      refine wpAnyH_ready (rs := [17]) (by kernel_rfl) (by simp) (AllReadyH.cons (by rw [List.getElem?_toArray]; exact rfl) (fun K9 hK9 => ?_) AllReadyH.nil)
                      go_simp
                      refine (soundP_ok _ _).mono ?_
                      rintro e29 w29_ ⟨rfl, rfl⟩
                      refine hK9.out _ _ KK.out (fun hHeld30 => ?_)
                      clear hK9 K9
                      try simp only [Act.put, List.setIfInBounds_toArray, List.set_cons_zero, List.set_cons_succ]
                      refine wpAnyH_ready (rs := [21]) (by kernel_rfl) (by simp) (AllReadyH.cons (by rw [List.getElem?_toArray]; exact rfl) (fun K9 hK9 => ?_) AllReadyH.nil)
                      go_simp
                      refine (H3.out _ (K.out.trans KK.out)).mono ?_
                      rintro e31 ww31 ⟨ac, mc, cc, rfl, rr, bb, k⟩
                      have HSZ := Lib.hid KK.out.size
                      have KK := Lib.hid (KK.out.trans k)
                      have RA := Lib.hid (RA.out.kept k)
                      have RB := Lib.hid (RB.out.kept k)
                      have RC := Lib.hid rr
                      have BC := Lib.hid (show ∀ b off sp, ac = some ⟨b, off, sp⟩ → w1.heap.size ≤ b ∧ b < ww31.heap.size from fun b off sp e => ⟨Nat.le_trans HSZ.out (bb b off sp e).1, (bb b off sp e).2⟩)
                      have FC := Lib.hid (show ∀ b off sp, ac = some ⟨b, off, sp⟩ → b ≠ q from fun b off sp e => by have := (bb b off sp e).1; have := KQ.out.size; omega)
                      clear rr bb
                      have KQ := Lib.hid (KQ.out.trans k)
                      clear k
                      refine hK9.out _ _ KK.out (fun hHeld32 => ?_)
                      clear hK9 K9
                      try simp only [Act.put, List.setIfInBounds_toArray, List.set_cons_zero, List.set_cons_succ]
                      refine wpAnyH_take (i := 22) (v := ?_) (by rw [List.getElem?_toArray]; exact rfl) (by kernel_rfl) (by kernel_rfl) (by kernel_rfl) (by exact fun _ _ _ h => h) (Or.inl ⟨by rfl, (by intro W hSw; obtain ⟨q0, q1, q2, q3, q4⟩ := HC.out _ hSw; go_simp <;> with_reducible rfl)⟩) (by assumption) ?_
                      try simp only [Act.put, List.setIfInBounds_toArray, List.set_cons_zero, List.set_cons_succ]
                      refine wpAnyH_take (i := 23) (v := ?_) (by rw [List.getElem?_toArray]; exact rfl) (by kernel_rfl) (by kernel_rfl) (by kernel_rfl) (by exact fun _ _ _ h => h) (Or.inl ⟨by rfl, (by intro W hSw; obtain ⟨q0, q1, q2, q3, q4⟩ := HC.out _ hSw; go_simp <;> with_reducible rfl)⟩) (by assumption) ?_
                      try simp only [Act.put, List.setIfInBounds_toArray, List.set_cons_zero, List.set_cons_succ]
                      refine wpAnyH_ready (rs := [24]) (by kernel_rfl) (by simp) (AllReadyH.cons (by rw [List.getElem?_toArray]; exact rfl) (fun K9 hK9 => ?_) AllReadyH.nil)
                      go_simp
                      refine (soundA_ok _ _).mono ?_
                      rintro e33 w33_ ⟨rfl, rfl⟩
                      refine hK9.out _ _ KK.out (fun hHeld34 => ?_)
                      clear hK9 K9
                      try simp only [Act.put, List.setIfInBounds_toArray, List.set_cons_zero, List.set_cons_succ]
                      refine wpAnyH_take (i := 29) (v := ?_) (by rw [List.getElem?_toArray]; exact rfl) (by kernel_rfl) (by kernel_rfl) (by kernel_rfl) (by exact fun _ _ _ h => h) (Or.inl ⟨by rfl, (by intro W hSw; obtain ⟨q0, q1, q2, q3, q4⟩ := HC.out _ hSw; go_simp <;> with_reducible rfl)⟩) (by assumption) ?_
                      try simp only [Act.put, List.setIfInBounds_toArray, List.set_cons_zero, List.set_cons_succ]
                      refine wpAnyH_ready (rs := [31]) (by kernel_rfl) (by simp) (AllReadyH.cons (by rw [List.getElem?_toArray]; exact rfl) (fun K9 hK9 => ?_) AllReadyH.nil)
                      obtain ⟨⟨y0, y1, y2, y3, y4⟩, x0, x1, x2, x3, x4⟩ := HQ.out _ KQ.out
                      go_simp
                      refine hK9.out _ _ (((((KK.out.setCell (p := ⟨q, 0, none⟩) hq _).setCell (p := ⟨q, 1, none⟩) hq _).setCell (p := ⟨q, 2, none⟩) hq _).setCell (p := ⟨q, 3, none⟩) hq _).setCell (p := ⟨q, 4, none⟩) hq _) (fun hHeldS => ?_)
                      clear hK9 K9
                      try simp only [Act.put, List.setIfInBounds_toArray, List.set_cons_zero, List.set_cons_succ]
                      refine wpAnyH_done (by kernel_rfl) ?_ _
                      go_wp2
                      go_meet
                      case rel => exact ⟨q, rfl, laid_at KK.out hq y0 y1 y2 y3 y4 RA.out RB.out RC.out FA.out FB.out FC.out (fun b o sp e => (BA.out b o sp e).1) (fun b o sp e => (BB.out b o sp e).1) (fun b o sp e => (BC.out b o sp e).1)⟩
                  · -- the block
                    go_simp
                    have HQ := Lib.hid (fresh5 ww3 (.string ⟨#[]⟩) (.slice none 0 0) (.slice none 0 0) (.slice none 0 0) (.bool false) 53)
                    have hq : w1.heap.size ≤ ww3.heap.size := KK.out.size
                    obtain ⟨q, hqe⟩ : ∃ q, ww3.heap.size = q := ⟨_, rfl⟩
                    have FA := Lib.hid (show ∀ b off sp, aa = some ⟨b, off, sp⟩ → b ≠ q from fun b off sp e => by have := (BA.out b off sp e).2; omega)
                    have hsz : (ww3.alloc (.cells #[.string ⟨#[]⟩, .slice none 0 0, .slice none 0 0, .slice none 0 0, .bool false] 53)).heap.size = q + 1 := by rw [World.size_alloc, hqe]
                    have KA := Lib.hid (kept_alloc ww3 (.cells #[.string ⟨#[]⟩, .slice none 0 0, .slice none 0 0, .slice none 0 0, .bool false] 53))
                    rw [hqe] at HQ hq ⊢
                    obtain ⟨wq35, hWQ⟩ : ∃ W, ww3.alloc (.cells #[.string ⟨#[]⟩, .slice none 0 0, .slice none 0 0, .slice none 0 0, .bool false] 53) = W := ⟨_, rfl⟩
                    rw [hWQ] at HQ hsz KA ⊢
                    clear hWQ hqe
                    have KK := Lib.hid (KK.out.trans KA.out)
                    have KQ := Lib.hid (Kept.refl wq35)
                    have RA := Lib.hid (RA.out.kept KA.out)
                    clear KA
                    refine hK9.out _ _ KK.out (fun hHeld36 => ?_)
                    clear hK9 K9
                    try simp only [Act.put, List.setIfInBounds_toArray, List.set_cons_zero, List.set_cons_succ]
                    refine wpAnyH_ready (rs := [14]) (by kernel_rfl) (by simp) (AllReadyH.cons (by rw [List.getElem?_toArray]; exact rfl) (fun K9 hK9 => ?_) AllReadyH.nil)
                    go_simp
                    refine (H2.out _ (K.out.trans KK.out)).mono ?_
                    rintro e37 ww37 ⟨ab, mb, cb, rfl, rr, bb, k⟩
                    have HSZ := Lib.hid KK.out.size
                    have KK := Lib.hid (KK.out.trans k)
                    have RA := Lib.hid (RA.out.kept k)
                    have RB := Lib.hid rr
                    have BB := Lib.hid (show ∀ b off sp, ab = some ⟨b, off, sp⟩ → w1.heap.size ≤ b ∧ b < ww37.heap.size from fun b off sp e => ⟨Nat.le_trans HSZ.out (bb b off sp e).1, (bb b off sp e).2⟩)
                    have FB := Lib.hid (show ∀ b off sp, ab = some ⟨b, off, sp⟩ → b ≠ q from fun b off sp e => by have := (bb b off sp e).1; have := KQ.out.size; omega)
                    clear rr bb
                    have KQ := Lib.hid (KQ.out.trans k)
                    clear k
                    refine hK9.out _ _ KK.out (fun hHeld38 => ?_)
                    clear hK9 K9
                    try simp only [Act.put, List.setIfInBounds_toArray, List.set_cons_zero, List.set_cons_succ]
                    refine wpAnyH_take (i := 15) (v := ?_) (by rw [List.getElem?_toArray]; exact rfl) (by kernel_rfl) (by kernel_rfl) (by kernel_rfl) (by exact fun _ _ _ h => h) (Or.inl ⟨by rfl, (by intro W hSw; obtain ⟨q0, q1, q2, q3, q4⟩ := HC.out _ hSw; go_simp <;> with_reducible rfl)⟩) (by assumption) ?_
                    try simp only [Act.put, List.setIfInBounds_toArray, List.set_cons_zero, List.set_cons_succ]
                    refine wpAnyH_take (i := 16) (v := ?_) (by rw [List.getElem?_toArray]; exact rfl) (by kernel_rfl) (by kernel_rfl) (by kernel_rfl) (by exact fun _ _ _ h => h) (Or.inl ⟨by rfl, (by intro W hSw; obtain ⟨q0, q1, q2, q3, q4⟩ := HC.out _ hSw; go_simp <;> with_reducible rfl)⟩) (by assumption) ?_
                    try simp only [Act.put, List.setIfInBounds_toArray, List.set_cons_zero, List.set_cons_succ]
                    refine wpAnyH_ready (rs := [17]) (by kernel_rfl) (by simp) (AllReadyH.cons (by rw [List.getElem?_toArray]; exact rfl) (fun K9 hK9 => ?_) AllReadyH.nil)
                    go_simp
                    refine (soundP_ok _ _).mono ?_
                    rintro e39 w39_ ⟨rfl, rfl⟩
                    refine hK9.out _ _ KK.out (fun hHeld40 => ?_)
                    clear hK9 K9
                    try simp only [Act.put, List.setIfInBounds_toArray, List.set_cons_zero, List.set_cons_succ]
                    refine wpAnyH_ready (rs := [21]) (by kernel_rfl) (by simp) (AllReadyH.cons (by rw [List.getElem?_toArray]; exact rfl) (fun K9 hK9 => ?_) AllReadyH.nil)
                    go_simp
                    refine (H3.out _ (K.out.trans KK.out)).mono ?_
                    rintro e41 ww41 ⟨ac, mc, cc, rfl, rr, bb, k⟩
                    have HSZ := Lib.hid KK.out.size
                    have KK := Lib.hid (KK.out.trans k)
                    have RA := Lib.hid (RA.out.kept k)
                    have RB := Lib.hid (RB.out.kept k)
                    have RC := Lib.hid rr
                    have BC := Lib.hid (show ∀ b off sp, ac = some ⟨b, off, sp⟩ → w1.heap.size ≤ b ∧ b < ww41.heap.size from fun b off sp e => ⟨Nat.le_trans HSZ.out (bb b off sp e).1, (bb b off sp e).2⟩)
                    have FC := Lib.hid (show ∀ b off sp, ac = some ⟨b, off, sp⟩ → b ≠ q from fun b off sp e => by have := (bb b off sp e).1; have := KQ.out.size; omega)
                    clear rr bb
                    have KQ := Lib.hid (KQ.out.trans k)
                    clear k
                    refine hK9.out _ _ KK.out (fun hHeld42 => ?_)
                    clear hK9 K9
                    try simp only [Act.put, List.setIfInBounds_toArray, List.set_cons_zero, List.set_cons_succ]
                    refine wpAnyH_take (i := 22) (v := ?_) (by rw [List.getElem?_toArray]; exact rfl) (by kernel_rfl) (by kernel_rfl) (by kernel_rfl) (by exact fun _ _ _ h => h) (Or.inl ⟨by rfl, (by intro W hSw; obtain ⟨q0, q1, q2, q3, q4⟩ := HC.out _ hSw; go_simp <;> with_reducible rfl)⟩) (by assumption) ?_
                    try simp only [Act.put, List.setIfInBounds_toArray, List.set_cons_zero, List.set_cons_succ]
                    refine wpAnyH_take (i := 23) (v := ?_) (by rw [List.getElem?_toArray]; exact rfl) (by kernel_rfl) (by kernel_rfl) (by kernel_rfl) (by exact fun _ _ _ h => h) (Or.inl ⟨by rfl, (by intro W hSw; obtain ⟨q0, q1, q2, q3, q4⟩ := HC.out _ hSw; go_simp <;> with_reducible rfl)⟩) (by assumption) ?_
                    try simp only [Act.put, List.setIfInBounds_toArray, List.set_cons_zero, List.set_cons_succ]
                    refine wpAnyH_ready (rs := [24]) (by kernel_rfl) (by simp) (AllReadyH.cons (by rw [List.getElem?_toArray]; exact rfl) (fun K9 hK9 => ?_) AllReadyH.nil)
                    go_simp
                    refine (soundA_ok _ _).mono ?_
                    rintro e43 w43_ ⟨rfl, rfl⟩
                    refine hK9.out _ _ KK.out (fun hHeld44 => ?_)
                    clear hK9 K9
                    try simp only [Act.put, List.setIfInBounds_toArray, List.set_cons_zero, List.set_cons_succ]
                    refine wpAnyH_take (i := 29) (v := ?_) (by rw [List.getElem?_toArray]; exact rfl) (by kernel_rfl) (by kernel_rfl) (by kernel_rfl) (by exact fun _ _ _ h => h) (Or.inl ⟨by rfl, (by intro W hSw; obtain ⟨q0, q1, q2, q3, q4⟩ := HC.out _ hSw; go_simp <;> with_reducible rfl)⟩) (by assumption) ?_
                    try simp only [Act.put, List.setIfInBounds_toArray, List.set_cons_zero, List.set_cons_succ]
                    refine wpAnyH_ready (rs := [31]) (by kernel_rfl) (by simp) (AllReadyH.cons (by rw [List.getElem?_toArray]; exact rfl) (fun K9 hK9 => ?_) AllReadyH.nil)
                    obtain ⟨⟨y0, y1, y2, y3, y4⟩, x0, x1, x2, x3, x4⟩ := HQ.out _ KQ.out
                    go_simp
                    refine hK9.out _ _ (((((KK.out.setCell (p := ⟨q, 0, none⟩) hq _).setCell (p := ⟨q, 1, none⟩) hq _).setCell (p := ⟨q, 2, none⟩) hq _).setCell (p := ⟨q, 3, none⟩) hq _).setCell (p := ⟨q, 4, none⟩) hq _) (fun hHeldS => ?_)
                    clear hK9 K9
                    try simp only [Act.put, List.setIfInBounds_toArray, List.set_cons_zero, List.set_cons_succ]
                    refine wpAnyH_done (by kernel_rfl) ?_ _
                    go_wp2
                    go_meet
                    case rel => exact ⟨q, rfl, laid_at KK.out hq y0 y1 y2 y3 y4 RA.out RB.out RC.out FA.out FB.out FC.out (fun b o sp e => (BA.out b o sp e).1) (fun b o sp e => (BB.out b o sp e).1) (fun b o sp e => (BC.out b o sp e).1)⟩
                · -- the block
                  go_simp
                  have HQ := Lib.hid (fresh5 ww3 (.string ⟨#[]⟩) (.slice none 0 0) (.slice none 0 0) (.slice none 0 0) (.bool false) 53)
                  have hq : w1.heap.size ≤ ww3.heap.size := KK.out.size
                  obtain ⟨q, hqe⟩ : ∃ q, ww3.heap.size = q := ⟨_, rfl⟩
                  have FA := Lib.hid (show ∀ b off sp, aa = some ⟨b, off, sp⟩ → b ≠ q from fun b off sp e => by have := (BA.out b off sp e).2; omega)
                  have hsz : (ww3.alloc (.cells #[.string ⟨#[]⟩, .slice none 0 0, .slice none 0 0, .slice none 0 0, .bool false] 53)).heap.size = q + 1 := by rw [World.size_alloc, hqe]
                  have KA := Lib.hid (kept_alloc ww3 (.cells #[.string ⟨#[]⟩, .slice none 0 0, .slice none 0 0, .slice none 0 0, .bool false] 53))
                  rw [hqe] at HQ hq ⊢
                  obtain ⟨wq45, hWQ⟩ : ∃ W, ww3.alloc (.cells #[.string ⟨#[]⟩, .slice none 0 0, .slice none 0 0, .slice none 0 0, .bool false] 53) = W := ⟨_, rfl⟩
                  rw [hWQ] at HQ hsz KA ⊢
                  clear hWQ hqe
                  have KK := Lib.hid (KK.out.trans KA.out)
                  have KQ := Lib.hid (Kept.refl wq45)
                  have RA := Lib.hid (RA.out.kept KA.out)
                  clear KA
                  refine hK9.out _ _ KK.out (fun hHeld46 => ?_)
                  clear hK9 K9
                  try simp only [Act.put, List.setIfInBounds_toArray, List.set_cons_zero, List.set_cons_succ]
                  refine wpAnyH_ready (rs := [10]) (by kernel_rfl) (by simp) (AllReadyH.cons (by rw [List.getElem?_toArray]; exact rfl) (fun K9 hK9 => ?_) AllReadyH.nil)
                  go_simp
                  refine (soundV_ok _ _).mono ?_
                  rintro e47 w47_ ⟨rfl, rfl⟩
                  refine hK9.out _ _ KK.out (fun hHeld48 => ?_)
                  clear hK9 K9
                  try simp only [Act.put, List.setIfInBounds_toArray, List.set_cons_zero, List.set_cons_succ]
                  refine wpAnyH_ready (rs := [14]) (by kernel_rfl) (by simp) (AllReadyH.cons (by rw [List.getElem?_toArray]; exact rfl) (fun K9 hK9 => ?_) AllReadyH.nil)
                  go_simp
                  refine (H2.out _ (K.out.trans KK.out)).mono ?_
                  rintro e49 ww49 ⟨ab, mb, cb, rfl, rr, bb, k⟩
                  have HSZ := Lib.hid KK.out.size
                  have KK := Lib.hid (KK.out.trans k)
                  have RA := Lib.hid (RA.out.kept k)
                  have RB := Lib.hid rr
                  have BB := Lib.hid (show ∀ b off sp, ab = some ⟨b, off, sp⟩ → w1.heap.size ≤ b ∧ b < ww49.heap.size from fun b off sp e => ⟨Nat.le_trans HSZ.out (bb b off sp e).1, (bb b off sp e).2⟩)
                  have FB := Lib.hid (show ∀ b off sp, ab = some ⟨b, off, sp⟩ → b ≠ q from fun b off sp e => by have := (bb b off sp e).1; have := KQ.out.size; omega)
                  clear rr bb
                  have KQ := Lib.hid (KQ.out.trans k)
                  clear k
                  refine hK9.out _ _ KK.out (fun hHeld50 => ?_)
                  clear hK9 K9
                  try simp only [Act.put, List.setIfInBounds_toArray, List.set_cons_zero, List.set_cons_succ]
                  refine wpAnyH_take (i := 15) (v := ?_) (by rw [List.getElem?_toArray]; exact rfl) (by kernel_rfl) (by kernel_rfl) (by kernel_rfl) (by exact fun _ _ _ h => h) (Or.inl ⟨by rfl, (by intro W hSw; obtain ⟨q0, q1, q2, q3, q4⟩ := HC.out _ hSw; go_simp <;> with_reducible rfl)⟩) (by assumption) ?_
                  try simp only [Act.put, List.setIfInBounds_toArray, List.set_cons_zero, List.set_cons_succ]
                  refine wpAnyH_take (i := 16) (v := ?_) (by rw [List.getElem?_toArray]; exact rfl) (by kernel_rfl) (by kernel_rfl) (by kernel_rfl) (by exact fun _ _ _ h => h) (Or.inl ⟨by rfl, (by intro W hSw; obtain ⟨q0, q1, q2, q3, q4⟩ := HC.out _ hSw; go_simp <;> with_reducible rfl)⟩) (by assumption) ?_
                  try simp only [Act.put, List.setIfInBounds_toArray, List.set_cons_zero, List.set_cons_succ]
                  refine wpAnyH_ready (rs := [17]) (by kernel_rfl) (by simp) (AllReadyH.cons (by rw [List.getElem?_toArray]; exact rfl) (fun K9 hK9 => ?_) AllReadyH.nil)
                  go_simp
                  refine (soundP_ok _ _).mono ?_
                  rintro e51 w51_ ⟨rfl, rfl⟩
                  refine hK9.out _ _ KK.out (fun hHeld52 => ?_)
                  clear hK9 K9
                  try simp only [Act.put, List.setIfInBounds_toArray, List.set_cons_zero, List.set_cons_succ]
                  refine wpAnyH_ready (rs := [21]) (by kernel_rfl) (by simp) (AllReadyH.cons (by rw [List.getElem?_toArray]; exact rfl) (fun K9 hK9 => ?_) AllReadyH.nil)
                  go_simp
                  refine (H3.out _ (K.out.trans KK.out)).mono ?_
                  rintro e53 ww53 ⟨ac, mc, cc, rfl, rr, bb, k⟩
                  have HSZ := Lib.hid KK.out.size
                  have KK := Lib.hid (KK.out.trans k)
                  have RA := Lib.hid (RA.out.kept k)
                  have RB := Lib.hid (RB.out.kept k)
                  have RC := Lib.hid rr
                  have BC := Lib.hid (show ∀ b off sp, ac = some ⟨b, off, sp⟩ → w1.heap.size ≤ b ∧ b < ww53.heap.size from fun b off sp e => ⟨Nat.le_trans HSZ.out (bb b off sp e).1, (bb b off sp e).2⟩)
                  have FC := Lib.hid (show ∀ b off sp, ac = some ⟨b, off, sp⟩ → b ≠ q from fun b off sp e => by have := (bb b off sp e).1; have := KQ.out.size; omega)
                  clear rr bb
                  have KQ := Lib.hid (KQ.out.trans k)
                  clear k
                  refine hK9.out _ _ KK.out (fun hHeld54 => ?_)
                  clear hK9 K9
                  try simp only [Act.put, List.setIfInBounds_toArray, List.set_cons_zero, List.set_cons_succ]
                  refine wpAnyH_take (i := 22) (v := ?_) (by rw [List.getElem?_toArray]; exact rfl) (by kernel_rfl) (by kernel_rfl) (by kernel_rfl) (by exact fun _ _ _ h => h) (Or.inl ⟨by rfl, (by intro W hSw; obtain ⟨q0, q1, q2, q3, q4⟩ := HC.out _ hSw; go_simp <;> with_reducible rfl)⟩) (by assumption) ?_
                  try simp only [Act.put, List.setIfInBounds_toArray, List.set_cons_zero, List.set_cons_succ]
                  refine wpAnyH_take (i := 23) (v := ?_) (by rw [List.getElem?_toArray]; exact rfl) (by kernel_rfl) (by kernel_rfl) (by kernel_rfl) (by exact fun _ _ _ h => h) (Or.inl ⟨by rfl, (by intro W hSw; obtain ⟨q0, q1, q2, q3, q4⟩ := HC.out _ hSw; go_simp <;> with_reducible rfl)⟩) (by assumption) ?_
                  try simp only [Act.put, List.setIfInBounds_toArray, List.set_cons_zero, List.set_cons_succ]
                  refine wpAnyH_ready (rs := [24]) (by kernel_rfl) (by simp) (AllReadyH.cons (by rw [List.getElem?_toArray]; exact rfl) (fun K9 hK9 => ?_) AllReadyH.nil)
                  go_simp
                  refine (soundA_ok _ _).mono ?_
                  rintro e55 w55_ ⟨rfl, rfl⟩
                  refine hK9.out _ _ KK.out (fun hHeld56 => ?_)
                  clear hK9 K9
                  try simp only [Act.put, List.setIfInBounds_toArray, List.set_cons_zero, List.set_cons_succ]
                  refine wpAnyH_take (i := 29) (v := ?_) (by rw [List.getElem?_toArray]; exact rfl) (by kernel_rfl) (by kernel_rfl) (by kernel_rfl) (by exact fun _ _ _ h => h) (Or.inl ⟨by rfl, (by intro W hSw; obtain ⟨q0, q1, q2, q3, q4⟩ := HC.out _ hSw; go_simp <;> with_reducible rfl)⟩) (by assumption) ?_
                  try simp only [Act.put, List.setIfInBounds_toArray, List.set_cons_zero, List.set_cons_succ]
                  refine wpAnyH_ready (rs := [31]) (by kernel_rfl) (by simp) (AllReadyH.cons (by rw [List.getElem?_toArray]; exact rfl) (fun K9 hK9 => ?_) AllReadyH.nil)
                  obtain ⟨⟨y0, y1, y2, y3, y4⟩, x0, x1, x2, x3, x4⟩ := HQ.out _ KQ.out
                  go_simp
                  refine hK9.out _ _ (((((KK.out.setCell (p := ⟨q, 0, none⟩) hq _).setCell (p := ⟨q, 1, none⟩) hq _).setCell (p := ⟨q, 2, none⟩) hq _).setCell (p := ⟨q, 3, none⟩) hq _).setCell (p := ⟨q, 4, none⟩) hq _) (fun hHeldS => ?_)
                  clear hK9 K9
                  try simp only [Act.put, List.setIfInBounds_toArray, List.set_cons_zero, List.set_cons_succ]
                  refine wpAnyH_done (by kernel_rfl) ?_ _
                  go_wp2
                  go_meet
                  case rel => exact ⟨q, rfl, laid_at KK.out hq y0 y1 y2 y3 y4 RA.out RB.out RC.out FA.out FB.out FC.out (fun b o sp e => (BA.out b o sp e).1) (fun b o sp e => (BB.out b o sp e).1) (fun b o sp e => (BC.out b o sp e).1)⟩
              · -- the block
                go_simp
                have HQ := Lib.hid (fresh5 ww1 (.string ⟨#[]⟩) (.slice none 0 0) (.slice none 0 0) (.slice none 0 0) (.bool false) 53)
                have hq : w1.heap.size ≤ ww1.heap.size := KK.out.size
                obtain ⟨q, hqe⟩ : ∃ q, ww1.heap.size = q := ⟨_, rfl⟩
                have hsz : (ww1.alloc (.cells #[.string ⟨#[]⟩, .slice none 0 0, .slice none 0 0, .slice none 0 0, .bool false] 53)).heap.size = q + 1 := by rw [World.size_alloc, hqe]
                have KA := Lib.hid (kept_alloc ww1 (.cells #[.string ⟨#[]⟩, .slice none 0 0, .slice none 0 0, .slice none 0 0, .bool false] 53))
                rw [hqe] at HQ hq ⊢
                obtain ⟨wq57, hWQ⟩ : ∃ W, ww1.alloc (.cells #[.string ⟨#[]⟩, .slice none 0 0, .slice none 0 0, .slice none 0 0, .bool false] 53) = W := ⟨_, rfl⟩
                rw [hWQ] at HQ hsz KA ⊢
                clear hWQ hqe
                have KK := Lib.hid (KK.out.trans KA.out)
                have KQ := Lib.hid (Kept.refl wq57)
                clear KA
                refine hK9.out _ _ KK.out (fun hHeld58 => ?_)
                clear hK9 K9
                try simp only [Act.put, List.setIfInBounds_toArray, List.set_cons_zero, List.set_cons_succ]
                refine wpAnyH_ready (rs := [7]) (by kernel_rfl) (by simp) (AllReadyH.cons (by rw [List.getElem?_toArray]; exact rfl) (fun K9 hK9 => ?_) AllReadyH.nil)
                go_simp
                refine (H1.out _ (K.out.trans KK.out)).mono ?_
                rintro e59 ww59 ⟨aa, ma, ca, rfl, rr, bb, k⟩
                have HSZ := Lib.hid KK.out.size
                have KK := Lib.hid (KK.out.trans k)
                have RA := Lib.hid rr
                have BA := Lib.hid (show ∀ b off sp, aa = some ⟨b, off, sp⟩ → w1.heap.size ≤ b ∧ b < ww59.heap.size from fun b off sp e => ⟨Nat.le_trans HSZ.out (bb b off sp e).1, (bb b off sp e).2⟩)
                have FA := Lib.hid (show ∀ b off sp, aa = some ⟨b, off, sp⟩ → b ≠ q from fun b off sp e => by have := (bb b off sp e).1; have := KQ.out.size; omega)
                clear rr bb
                have KQ := Lib.hid (KQ.out.trans k)
                clear k
                refine hK9.out _ _ KK.out (fun hHeld60 => ?_)
                clear hK9 K9
                try simp only [Act.put, List.setIfInBounds_toArray, List.set_cons_zero, List.set_cons_succ]
                refine wpAnyH_take (i := 8) (v := ?_) (by rw [List.getElem?_toArray]; exact rfl) (by kernel_rfl) (by kernel_rfl) (by kernel_rfl) (by exact fun _ _ _ h => h) (Or.inl ⟨by rfl, (by intro W hSw; obtain ⟨q0, q1, q2, q3, q4⟩ := HC.out _ hSw; go_simp <;> with_reducible rfl)⟩) (by assumption) ?_
                try simp only [Act.put, List.setIfInBounds_toArray, List.set_cons_zero, List.set_cons_succ]
                refine wpAnyH_take (i := 9) (v := ?_) (by rw [List.getElem?_toArray]; exact rfl) (by kernel_rfl) (by kernel_rfl) (by kernel_rfl) (by exact fun _ _ _ h => h) (Or.inl ⟨by rfl, (by intro W hSw; obtain ⟨q0, q1, q2, q3, q4⟩ := HC.out _ hSw; go_simp <;> with_reducible rfl)⟩) (by assumption) ?_
                try simp only [Act.put, List.setIfInBounds_toArray, List.set_cons_zero, List.set_cons_succ]
                refine wpAnyH_ready (rs := [10]) (by kernel_rfl) (by simp) (AllReadyH.cons (by rw [List.getElem?_toArray]; exact rfl) (fun K9 hK9 => ?_) AllReadyH.nil)
                go_simp
                refine (soundV_ok _ _).mono ?_
                rintro e61 w61_ ⟨rfl, rfl⟩
                refine hK9.out _ _ KK.out (fun hHeld62 => ?_)
                clear hK9 K9
                try simp only [Act.put, List.setIfInBounds_toArray, List.set_cons_zero, List.set_cons_succ]
                refine wpAnyH_ready (rs := [14]) (by kernel_rfl) (by simp) (AllReadyH.cons (by rw [List.getElem?_toArray]; exact rfl) (fun K9 hK9 => ?_) AllReadyH.nil)
                go_simp
                refine (H2.out _ (K.out.trans KK.out)).mono ?_
                rintro e63 ww63 ⟨ab, mb, cb, rfl, rr, bb, k⟩
                have HSZ := Lib.hid KK.out.size
                have KK := Lib.hid (KK.out.trans k)
                have RA := Lib.hid (RA.out.kept k)
                have RB := Lib.hid rr
                have BB := Lib.hid (show ∀ b off sp, ab = some ⟨b, off, sp⟩ → w1.heap.size ≤ b ∧ b < ww63.heap.size from fun b off sp e => ⟨Nat.le_trans HSZ.out (bb b off sp e).1, (bb b off sp e).2⟩)
                have FB := Lib.hid (show ∀ b off sp, ab = some ⟨b, off, sp⟩ → b ≠ q from fun b off sp e => by have := (bb b off sp e).1; have := KQ.out.size; omega)
                clear rr bb
                have KQ := Lib.hid (KQ.out.trans k)
                clear k
                refine hK9.out _ _ KK.out (fun hHeld64 => ?_)
                clear hK9 K9
                try simp only [Act.put, List.setIfInBounds_toArray, List.set_cons_zero, List.set_cons_succ]
                refine wpAnyH_take (i := 15) (v := ?_) (by rw [List.getElem?_toArray]; exact rfl) (by kernel_rfl) (by kernel_rfl) (by kernel_rfl) (by exact fun _ _ _ h => h) (Or.inl ⟨by rfl, (by intro W hSw; obtain ⟨q0, q1, q2, q3, q4⟩ := HC.out _ hSw; go_simp <;> with_reducible rfl)⟩) (by assumption) ?_
                try simp only [Act.put, List.setIfInBounds_toArray, List.set_cons_zero, List.set_cons_succ]
                refine wpAnyH_take (i := 16) (v := ?_) (by rw [List.getElem?_toArray]; exact rfl) (by kernel_rfl) (by kernel_rfl) (by kernel_rfl) (by exact fun _ _ _ h => h) (Or.inl ⟨by rfl, (by intro W hSw; obtain ⟨q0, q1, q2, q3, q4⟩ := HC.out _ hSw; go_simp <;> with_reducible rfl)⟩) (by assumption) ?_
                try simp only [Act.put, List.setIfInBounds_toArray, List.set_cons_zero, List.set_cons_succ]
                refine wpAnyH_ready (rs := [17]) (by kernel_rfl) (by simp) (AllReadyH.cons (by rw [List.getElem?_toArray]; exact rfl) (fun K9 hK9 => ?_) AllReadyH.nil)
                go_simp
                refine (soundP_ok _ _).mono ?_
                rintro e65 w65_ ⟨rfl, rfl⟩
                refine hK9.out _ _ KK.out (fun hHeld66 => ?_)
                clear hK9 K9
                try simp only [Act.put, List.setIfInBounds_toArray, List.set_cons_zero, List.set_cons_succ]
                refine wpAnyH_ready (rs := [21]) (by kernel_rfl) (by simp) (AllReadyH.cons (by rw [List.getElem?_toArray]; exact rfl) (fun K9 hK9 => ?_) AllReadyH.nil)
                go_simp
                refine (H3.out _ (K.out.trans KK.out)).mono ?_
                rintro e67 ww67 ⟨ac, mc, cc, rfl, rr, bb, k⟩
                have HSZ := Lib.hid KK.out.size
                have KK := Lib.hid (KK.out.trans k)
                have RA := Lib.hid (RA.out.kept k)
                have RB := Lib.hid (RB.out.kept k)
                have RC := Lib.hid rr
                have BC := Lib.hid (show ∀ b off sp, ac = some ⟨b, off, sp⟩ → w1.heap.size ≤ b ∧ b < ww67.heap.size from fun b off sp e => ⟨Nat.le_trans HSZ.out (bb b off sp e).1, (bb b off sp e).2⟩)
                have FC := Lib.hid (show ∀ b off sp, ac = some ⟨b, off, sp⟩ → b ≠ q from fun b off sp e => by have := (bb b off sp e).1; have := KQ.out.size; omega)
                clear rr bb
                have KQ := Lib.hid (KQ.out.trans k)
                clear k
                refine hK9.out _ _ KK.out (fun hHeld68 => ?_)
                clear hK9 K9
                try simp only [Act.put, List.setIfInBounds_toArray, List.set_cons_zero, List.set_cons_succ]
                refine wpAnyH_take (i := 22) (v := ?_) (by rw [List.getElem?_toArray]; exact rfl) (by kernel_rfl) (by kernel_rfl) (by kernel_rfl) (by exact fun _ _ _ h => h) (Or.inl ⟨by rfl, (by intro W hSw; obtain ⟨q0, q1, q2, q3, q4⟩ := HC.out _ hSw; go_simp <;> with_reducible rfl)⟩) (by assumption) ?_
                try simp only [Act.put, List.setIfInBounds_toArray, List.set_cons_zero, List.set_cons_succ]
                refine wpAnyH_take (i := 23) (v := ?_) (by rw [List.getElem?_toArray]; exact rfl) (by kernel_rfl) (by kernel_rfl) (by kernel_rfl) (by exact fun _ _ _ h => h) (Or.inl ⟨by rfl, (by intro W hSw; obtain ⟨q0, q1, q2, q3, q4⟩ := HC.out _ hSw; go_simp <;> with_reducible rfl)⟩) (by assumption) ?_
                try simp only [Act.put, List.setIfInBounds_toArray, List.set_cons_zero, List.set_cons_succ]
                refine wpAnyH_ready (rs := [24]) (by kernel_rfl) (by simp) (AllReadyH.cons (by rw [List.getElem?_toArray]; exact rfl) (fun K9 hK9 => ?_) AllReadyH.nil)
                go_simp
                refine (soundA_ok _ _).mono ?_
                rintro e69 w69_ ⟨rfl, rfl⟩
                refine hK9.out _ _ KK.out (fun hHeld70 => ?_)
                clear hK9 K9
                try simp only [Act.put, List.setIfInBounds_toArray, List.set_cons_zero, List.set_cons_succ]
                refine wpAnyH_take (i := 29) (v := ?_) (by rw [List.getElem?_toArray]; exact rfl) (by kernel_rfl) (by kernel_rfl) (by kernel_rfl) (by exact fun _ _ _ h => h) (Or.inl ⟨by rfl, (by intro W hSw; obtain ⟨q0, q1, q2, q3, q4⟩ := HC.out _ hSw; go_simp <;> with_reducible rfl)⟩) (by assumption) ?_
                try simp only [Act.put, List.setIfInBounds_toArray, List.set_cons_zero, List.set_cons_succ]
                refine wpAnyH_ready (rs := [31]) (by kernel_rfl) (by simp) (AllReadyH.cons (by rw [List.getElem?_toArray]; exact rfl) (fun K9 hK9 => ?_) AllReadyH.nil)
                obtain ⟨⟨y0, y1, y2, y3, y4⟩, x0, x1, x2, x3, x4⟩ := HQ.out _ KQ.out
                go_simp
                refine hK9.out _ _ (((((KK.out.setCell (p := ⟨q, 0, none⟩) hq _).setCell (p := ⟨q, 1, none⟩) hq _).setCell (p := ⟨q, 2, none⟩) hq _).setCell (p := ⟨q, 3, none⟩) hq _).setCell (p := ⟨q, 4, none⟩) hq _) (fun hHeldS => ?_)
                clear hK9 K9
                try simp only [Act.put, List.setIfInBounds_toArray, List.set_cons_zero, List.set_cons_succ]
                refine wpAnyH_done (by kernel_rfl) ?_ _
                go_wp2
                go_meet
                case rel => exact ⟨q, rfl, laid_at KK.out hq y0 y1 y2 y3 y4 RA.out RB.out RC.out FA.out FB.out FC.out (fun b o sp e => (BA.out b o sp e).1) (fun b o sp e => (BB.out b o sp e).1) (fun b o sp e => (BC.out b o sp e).1)⟩
            · -- the block
              go_simp
              have HQ := Lib.hid (fresh5 wd (.string ⟨#[]⟩) (.slice none 0 0) (.slice none 0 0) (.slice none 0 0) (.bool false) 53)
              have hq : w1.heap.size ≤ wd.heap.size := KK.out.size
              obtain ⟨q, hqe⟩ : ∃ q, wd.heap.size = q := ⟨_, rfl⟩
              have hsz : (wd.alloc (.cells #[.string ⟨#[]⟩, .slice none 0 0, .slice none 0 0, .slice none 0 0, .bool false] 53)).heap.size = q + 1 := by rw [World.size_alloc, hqe]
              have KA := Lib.hid (kept_alloc wd (.cells #[.string ⟨#[]⟩, .slice none 0 0, .slice none 0 0, .slice none 0 0, .bool false] 53))
              rw [hqe] at HQ hq ⊢
              obtain ⟨wq71, hWQ⟩ : ∃ W, wd.alloc (.cells #[.string ⟨#[]⟩, .slice none 0 0, .slice none 0 0, .slice none 0 0, .bool false] 53) = W := ⟨_, rfl⟩
              rw [hWQ] at HQ hsz KA ⊢
              clear hWQ hqe
              have KK := Lib.hid (KK.out.trans KA.out)
              have KQ := Lib.hid (Kept.refl wq71)
              clear KA
              refine hK9.out _ _ KK.out (fun hHeld72 => ?_)
              clear hK9 K9
              try simp only [Act.put, List.setIfInBounds_toArray, List.set_cons_zero, List.set_cons_succ]
              refine wpAnyH_ready (rs := [3]) (by kernel_rfl) (by simp) (AllReadyH.cons (by rw [List.getElem?_toArray]; exact rfl) (fun K9 hK9 => ?_) AllReadyH.nil)
              go_simp
              refine (HCL.out _).mono ?_
              rintro e73 ww73 ⟨rfl, k⟩
              have HSZ := Lib.hid KK.out.size
              have KK := Lib.hid (KK.out.trans k)
              have KQ := Lib.hid (KQ.out.trans k)
              clear k
              refine hK9.out _ _ KK.out (fun hHeld74 => ?_)
              clear hK9 K9
              try simp only [Act.put, List.setIfInBounds_toArray, List.set_cons_zero, List.set_cons_succ]
              refine wpAnyH_ready (rs := [7]) (by kernel_rfl) (by simp) (AllReadyH.cons (by rw [List.getElem?_toArray]; exact rfl) (fun K9 hK9 => ?_) AllReadyH.nil)
              go_simp
              refine (H1.out _ (K.out.trans KK.out)).mono ?_
              rintro e75 ww75 ⟨aa, ma, ca, rfl, rr, bb, k⟩
              have HSZ := Lib.hid KK.out.size
              have KK := Lib.hid (KK.out.trans k)
              have RA := Lib.hid rr
              have BA := Lib.hid (show ∀ b off sp, aa = some ⟨b, off, sp⟩ → w1.heap.size ≤ b ∧ b < ww75.heap.size from fun b off sp e => ⟨Nat.le_trans HSZ.out (bb b off sp e).1, (bb b off sp e).2⟩)
              have FA := Lib.hid (show ∀ b off sp, aa = some ⟨b, off, sp⟩ → b ≠ q from fun b off sp e => by have := (bb b off sp e).1; have := KQ.out.size; omega)
              clear rr bb
              have KQ := Lib.hid (KQ.out.trans k)
              clear k
              refine hK9.out _ _ KK.out (fun hHeld76 => ?_)
              clear hK9 K9
              try simp only [Act.put, List.setIfInBounds_toArray, List.set_cons_zero, List.set_cons_succ]
              refine wpAnyH_take (i := 8) (v := ?_) (by rw [List.getElem?_toArray]; exact rfl) (by kernel_rfl) (by kernel_rfl) (by kernel_rfl) (by exact fun _ _ _ h => h) (Or.inl ⟨by rfl, (by intro W hSw; obtain ⟨q0, q1, q2, q3, q4⟩ := HC.out _ hSw; go_simp <;> with_reducible rfl)⟩) (by assumption) ?_
              try simp only [Act.put, List.setIfInBounds_toArray, List.set_cons_zero, List.set_cons_succ]
              refine wpAnyH_take (i := 9) (v := ?_) (by rw [List.getElem?_toArray]; exact rfl) (by kernel_rfl) (by kernel_rfl) (by kernel_rfl) (by exact fun _ _ _ h => h) (Or.inl ⟨by rfl, (by intro W hSw; obtain ⟨q0, q1, q2, q3, q4⟩ := HC.out _ hSw; go_simp <;> with_reducible rfl)⟩) (by assumption) ?_
              try simp only [Act.put, List.setIfInBounds_toArray, List.set_cons_zero, List.set_cons_succ]
              refine wpAnyH_ready (rs := [10]) (by kernel_rfl) (by simp) (AllReadyH.cons (by rw [List.getElem?_toArray]; exact rfl) (fun K9 hK9 => ?_) AllReadyH.nil)
              go_simp
              refine (soundV_ok _ _).mono ?_
              rintro e77 w77_ ⟨rfl, rfl⟩
              refine hK9.out _ _ KK.out (fun hHeld78 => ?_)
              clear hK9 K9
              try simp only [Act.put, List.setIfInBounds_toArray, List.set_cons_zero, List.set_cons_succ]
              refine wpAnyH_ready (rs := [14]) (by kernel_rfl) (by simp) (AllReadyH.cons (by rw [List.getElem?_toArray]; exact rfl) (fun K9 hK9 => ?_) AllReadyH.nil)
              go_simp
              refine (H2.out _ (K.out.trans KK.out)).mono ?_
              rintro e79 ww79 ⟨ab, mb, cb, rfl, rr, bb, k⟩
              have HSZ := Lib.hid KK.out.size
              have KK := Lib.hid (KK.out.trans k)
              have RA := Lib.hid (RA.out.kept k)
              have RB := Lib.hid rr
              have BB := Lib.hid (show ∀ b off sp, ab = some ⟨b, off, sp⟩ → w1.heap.size ≤ b ∧ b < ww79.heap.size from fun b off sp e => ⟨Nat.le_trans HSZ.out (bb b off sp e).1, (bb b off sp e).2⟩)
              have FB := Lib.hid (show ∀ b off sp, ab = some ⟨b, off, sp⟩ → b ≠ q from fun b off sp e => by have := (bb b off sp e).1; have := KQ.out.size; omega)
              clear rr bb
              have KQ := Lib.hid (KQ.out.trans k)
              clear k
              refine hK9.out _ _ KK.out (fun hHeld80 => ?_)
              clear hK9 K9
              try simp only [Act.put, List.setIfInBounds_toArray, List.set_cons_zero, List.set_cons_succ]
              refine wpAnyH_take (i := 15) (v := ?_) (by rw [List.getElem?_toArray]; exact rfl) (by kernel_rfl) (by kernel_rfl) (by kernel_rfl) (by exact fun _ _ _ h => h) (Or.inl ⟨by rfl, (by intro W hSw; obtain ⟨q0, q1, q2, q3, q4⟩ := HC.out _ hSw; go_simp <;> with_reducible rfl)⟩) (by assumption) ?_
              try simp only [Act.put, List.setIfInBounds_toArray, List.set_cons_zero, List.set_cons_succ]
              refine wpAnyH_take (i := 16) (v := ?_) (by rw [List.getElem?_toArray]; exact rfl) (by kernel_rfl) (by kernel_rfl) (by kernel_rfl) (by exact fun _ _ _ h => h) (Or.inl ⟨by rfl, (by intro W hSw; obtain ⟨q0, q1, q2, q3, q4⟩ := HC.out _ hSw; go_simp <;> with_reducible rfl)⟩) (by assumption) ?_
              try simp only [Act.put, List.setIfInBounds_toArray, List.set_cons_zero, List.set_cons_succ]
              refine wpAnyH_ready (rs := [17]) (by kernel_rfl) (by simp) (AllReadyH.cons (by rw [List.getElem?_toArray]; exact rfl) (fun K9 hK9 => ?_) AllReadyH.nil)
              go_simp
              refine (soundP_ok _ _).mono ?_
              rintro e81 w81_ ⟨rfl, rfl⟩
              refine hK9.out _ _ KK.out (fun hHeld82 => ?_)
              clear hK9 K9
              try simp only [Act.put, List.setIfInBounds_toArray, List.set_cons_zero, List.set_cons_succ]
              refine wpAnyH_ready (rs := [21]) (by kernel_rfl) (by simp) (AllReadyH.cons (by rw [List.getElem?_toArray]; exact rfl) (fun K9 hK9 => ?_) AllReadyH.nil)
              go_simp
              refine (H3.out _ (K.out.trans KK.out)).mono ?_
              rintro e83 ww83 ⟨ac, mc, cc, rfl, rr, bb, k⟩
              have HSZ := Lib.hid KK.out.size
              have KK := Lib.hid (KK.out.trans k)
              have RA := Lib.hid (RA.out.kept k)
              have RB := Lib.hid (RB.out.kept k)
              have RC := Lib.hid rr
              have BC := Lib.hid (show ∀ b off sp, ac = some ⟨b, off, sp⟩ → w1.heap.size ≤ b ∧ b < ww83.heap.size from fun b off sp e => ⟨Nat.le_trans HSZ.out (bb b off sp e).1, (bb b off sp e).2⟩)
              have FC := Lib.hid (show ∀ b off sp, ac = some ⟨b, off, sp⟩ → b ≠ q from fun b off sp e => by have := (bb b off sp e).1; have := KQ.out.size; omega)
              clear rr bb
              have KQ := Lib.hid (KQ.out.trans k)
              clear k
              refine hK9.out _ _ KK.out (fun hHeld84 => ?_)
              clear hK9 K9
              try simp only [Act.put, List.setIfInBounds_toArray, List.set_cons_zero, List.set_cons_succ]
              refine wpAnyH_take (i := 22) (v := ?_) (by rw [List.getElem?_toArray]; exact rfl) (by kernel_rfl) (by kernel_rfl) (by kernel_rfl) (by exact fun _ _ _ h => h) (Or.inl ⟨by rfl, (by intro W hSw; obtain ⟨q0, q1, q2, q3, q4⟩ := HC.out _ hSw; go_simp <;> with_reducible rfl)⟩) (by assumption) ?_
              try simp only [Act.put, List.setIfInBounds_toArray, List.set_cons_zero, List.set_cons_succ]
              refine wpAnyH_take (i := 23) (v := ?_) (by rw [List.getElem?_toArray]; exact rfl) (by kernel_rfl) (by kernel_rfl) (by kernel_rfl) (by exact fun _ _ _ h => h) (Or.inl ⟨by rfl, (by intro W hSw; obtain ⟨q0, q1, q2, q3, q4⟩ := HC.out _ hSw; go_simp <;> with_reducible rfl)⟩) (by assumption) ?_
              try simp only [Act.put, List.setIfInBounds_toArray, List.set_cons_zero, List.set_cons_succ]
              refine wpAnyH_ready (rs := [24]) (by kernel_rfl) (by simp) (AllReadyH.cons (by rw [List.getElem?_toArray]; exact rfl) (fun K9 hK9 => ?_) AllReadyH.nil)
              go_simp
              refine (soundA_ok _ _).mono ?_
              rintro e85 w85_ ⟨rfl, rfl⟩
              refine hK9.out _ _ KK.out (fun hHeld86 => ?_)
              clear hK9 K9
              try simp only [Act.put, List.setIfInBounds_toArray, List.set_cons_zero, List.set_cons_succ]
              refine wpAnyH_take (i := 29) (v := ?_) (by rw [List.getElem?_toArray]; exact rfl) (by kernel_rfl) (by kernel_rfl) (by kernel_rfl) (by exact fun _ _ _ h => h) (Or.inl ⟨by rfl, (by intro W hSw; obtain ⟨q0, q1, q2, q3, q4⟩ := HC.out _ hSw; go_simp <;> with_reducible rfl)⟩) (by assumption) ?_
              try simp only [Act.put, List.setIfInBounds_toArray, List.set_cons_zero, List.set_cons_succ]
              refine wpAnyH_ready (rs := [31]) (by kernel_rfl) (by simp) (AllReadyH.cons (by rw [List.getElem?_toArray]; exact rfl) (fun K9 hK9 => ?_) AllReadyH.nil)
              obtain ⟨⟨y0, y1, y2, y3, y4⟩, x0, x1, x2, x3, x4⟩ := HQ.out _ KQ.out
              go_simp
              refine hK9.out _ _ (((((KK.out.setCell (p := ⟨q, 0, none⟩) hq _).setCell (p := ⟨q, 1, none⟩) hq _).setCell (p := ⟨q, 2, none⟩) hq _).setCell (p := ⟨q, 3, none⟩) hq _).setCell (p := ⟨q, 4, none⟩) hq _) (fun hHeldS => ?_)
              clear hK9 K9
              try simp only [Act.put, List.setIfInBounds_toArray, List.set_cons_zero, List.set_cons_succ]
              refine wpAnyH_done (by kernel_rfl) ?_ _
              go_wp2
              go_meet
              case rel => exact ⟨q, rfl, laid_at KK.out hq y0 y1 y2 y3 y4 RA.out RB.out RC.out FA.out FB.out FC.out (fun b o sp e => (BA.out b o sp e).1) (fun b o sp e => (BB.out b o sp e).1) (fun b o sp e => (BC.out b o sp e).1)⟩
          case rest =>
            obtain ⟨q, rfl, aa, ma, ca, ab, mb, cb, ac, mc, cc, c0, c1, c2, c3, c4, ra, rb, rc, kk, hq, ga, gb, gc⟩ := hcut
            have LD := Lib.hid (show NodAt wc (.slice aa ma ca) (.slice ab mb cb) (.slice ac mc cc) ⟨bytes a, n1, n2, n3, cd⟩ from ⟨HNM.out, ra, rb, rc⟩)
            have KW := Lib.hid (K.out.trans kk)
            have KK := Lib.hid kk
            have hrw : w.heap.size < w1.heap.size := by have := K1S.out; omega
            have hqr : q ≠ w.heap.size := by omega
            have GA := Lib.hid (show ∀ b off sp, aa = some ⟨b, off, sp⟩ → b ≠ w.heap.size from fun b off sp e => by have := ga b off sp e; omega)
            have GB := Lib.hid (show ∀ b off sp, ab = some ⟨b, off, sp⟩ → b ≠ w.heap.size from fun b off sp e => by have := gb b off sp e; omega)
            have GC := Lib.hid (show ∀ b off sp, ac = some ⟨b, off, sp⟩ → b ≠ w.heap.size from fun b off sp e => by have := gc b off sp e; omega)
            have HCQ := Lib.hid (show ∀ W, Kept wc W → W.cell? ⟨q, 0, none⟩ = some (.string (bytes a)) ∧ W.cell? ⟨q, 1, none⟩ = some (.slice aa ma ca) ∧ W.cell? ⟨q, 2, none⟩ = some (.slice ab mb cb) ∧ W.cell? ⟨q, 3, none⟩ = some (.slice ac mc cc) ∧ W.cell? ⟨q, 4, none⟩ = some (.bool cd) from fun W k => ⟨cell_later k c0, cell_later k c1, cell_later k c2, cell_later k c3, cell_later k c4⟩)
            have HCK := Lib.hid (fun W (k : Kept wc W) => checkN_any ⟨bytes a, n1, n2, n3, cd⟩ (.slice aa ma ca) (.slice ab mb cb) (.slice ac mc cc) W (LD.out.kept k))
            have HGA := Lib.hid (show ∀ b off sp, aa = some ⟨b, off, sp⟩ → w.heap.size ≤ b from fun b off sp e => by have := ga b off sp e; omega)
            have HGB := Lib.hid (show ∀ b off sp, ab = some ⟨b, off, sp⟩ → w.heap.size ≤ b from fun b off sp e => by have := gb b off sp e; omega)
            have HGC := Lib.hid (show ∀ b off sp, ac = some ⟨b, off, sp⟩ → w.heap.size ≤ b from fun b off sp e => by have := gc b off sp e; omega)
            clear ra rb rc kk ga gb gc c0 c1 c2 c3 c4 hq
            obtain ⟨ck, hck⟩ : ∃ x, chkNod ⟨bytes a, n1, n2, n3, cd⟩ = x := ⟨_, rfl⟩
            rw [hck] at HCK HV
            clear hck
            unfold NodV at HCK
            go_wp2
            refine wp_region_held_drew (S := fun W => W.cell? ⟨q, 0, none⟩ = some (.string (bytes a)) ∧ W.cell? ⟨q, 1, none⟩ = some (.slice aa ma ca) ∧ W.cell? ⟨q, 2, none⟩ = some (.slice ab mb cb) ∧ W.cell? ⟨q, 3, none⟩ = some (.slice ac mc cc) ∧ W.cell? ⟨q, 4, none⟩ = some (.bool cd)) (by kernel_rfl) (HCQ.out _ (Kept.drew _)) (fun hHeld => ?_)
            refine wpAnyH_take (i := 0) (v := ?_) (by rw [List.getElem?_toArray]; exact rfl) (by kernel_rfl) (by kernel_rfl) (by kernel_rfl) (by exact fun _ _ _ h => h) (Or.inl ⟨by rfl, (by intro W hSw; obtain ⟨q0, q1, q2, q3, q4⟩ := hSw; go_simp <;> with_reducible rfl)⟩) (by assumption) ?_
            try simp only [Act.put, List.setIfInBounds_toArray, List.set_cons_zero, List.set_cons_succ]
            refine wpAnyH_take (i := 1) (v := ?_) (by rw [List.getElem?_toArray]; exact rfl) (by kernel_rfl) (by kernel_rfl) (by kernel_rfl) (by exact fun _ _ _ h => h) (Or.inl ⟨by rfl, (by intro W hSw; obtain ⟨q0, q1, q2, q3, q4⟩ := hSw; go_simp <;> with_reducible rfl)⟩) (by assumption) ?_
            try simp only [Act.put, List.setIfInBounds_toArray, List.set_cons_zero, List.set_cons_succ]
            refine wpAnyH_ready (rs := [2]) (by kernel_rfl) (by simp) (AllReadyH.cons (by rw [List.getElem?_toArray]; exact rfl) (fun K9 hK9 => ?_) AllReadyH.nil)
            go_simp
            refine (HCK.out _ (Kept.drew _)).mono ?_
            rintro e9 w9 ⟨rfl, k⟩
            have K9W := Lib.hid ((Kept.drew _).trans k)
            clear k
            refine hK9.out _ _ (HCQ.out _ K9W.out) (fun hHeld87 => ?_)
            clear hK9 K9
            try simp only [Act.put, List.setIfInBounds_toArray, List.set_cons_zero, List.set_cons_succ]
            by_cases zc : ck = 0
            · subst zc
              have HVG := Lib.hid (show parseN s = (0, ⟨bytes a, n1, n2, n3, cd⟩) by rw [HV.out, if_neg (by decide)])
              refine wpAnyH_ready (rs := [3]) (by kernel_rfl) (by simp) (AllReadyH.cons (by rw [List.getElem?_toArray]; exact rfl) (fun K9 hK9 => ?_) AllReadyH.nil)
              go_simp
              refine (soundN_ok _ _ _ _ _ _ _ _ _ _ _ _).mono ?_
              rintro e8 w8 ⟨rfl, k⟩
              have K9W := Lib.hid (K9W.out.trans k)
              clear k
              refine hK9.out _ _ (HCQ.out _ K9W.out) (fun hHeld88 => ?_)
              clear hK9 K9
              try simp only [Act.put, List.setIfInBounds_toArray, List.set_cons_zero, List.set_cons_succ]
              obtain ⟨⟨y0, y1, y2, y3, y4⟩, x0, x1, x2, x3, x4⟩ := HR0.out _ (KK.out.trans K9W.out)
              obtain ⟨p0, p1, p2, p3, p4⟩ := HCQ.out _ K9W.out
              have LD9 := LD.out.kept K9W.out
              have KW9 := Lib.hid (KW.out.trans K9W.out)
              have hb := set5_block w8 w.heap.size (.string (bytes a)) (.slice aa ma ca) (.slice ab mb cb) (.slice ac mc cc) (.bool cd)
              have hs := set5_size w8 w.heap.size (.string (bytes a)) (.slice aa ma ca) (.slice ab mb cb) (.slice ac mc cc) (.bool cd)
              have LE := Lib.hid (show NodRB w.heap.size (((((w8.setCell ⟨w.heap.size, 0, none⟩ (.string (bytes a))).setCell ⟨w.heap.size, 1, none⟩ (.slice aa ma ca)).setCell ⟨w.heap.size, 2, none⟩ (.slice ab mb cb)).setCell ⟨w.heap.size, 3, none⟩ (.slice ac mc cc)).setCell ⟨w.heap.size, 4, none⟩ (.bool cd)) (.agg #[.string (bytes a), .slice aa ma ca, .slice ab mb cb, .slice ac mc cc, .bool cd]) ⟨bytes a, n1, n2, n3, cd⟩ from ⟨_, _, _, _, _, _, _, _, _, rfl, LD9.size, LD9.cap.far hs (fun b o sp e => hb b (GA.out b o sp e)), LD9.labels.far hs (fun b o sp e => hb b (GB.out b o sp e)), LD9.taints.far hs (fun b o sp e => hb b (GC.out b o sp e)), HGA.out, HGB.out, HGC.out⟩)
              have KE := Lib.hid (show Kept w (((((w8.setCell ⟨w.heap.size, 0, none⟩ (.string (bytes a))).setCell ⟨w.heap.size, 1, none⟩ (.slice aa ma ca)).setCell ⟨w.heap.size, 2, none⟩ (.slice ab mb cb)).setCell ⟨w.heap.size, 3, none⟩ (.slice ac mc cc)).setCell ⟨w.heap.size, 4, none⟩ (.bool cd)) from ((((KW9.out.setCell (p := ⟨w.heap.size, 0, none⟩) (Nat.le_refl _) _).setCell (p := ⟨w.heap.size, 1, none⟩) (Nat.le_refl _) _).setCell (p := ⟨w.heap.size, 2, none⟩) (Nat.le_refl _) _).setCell (p := ⟨w.heap.size, 3, none⟩) (Nat.le_refl _) _).setCell (p := ⟨w.heap.size, 4, none⟩) (Nat.le_refl _) _)
              have PS := fun j v (h : w8.cell? ⟨q, j, none⟩ = some v) => (World.cell?_of_block (a := ⟨q, j, none⟩) (hb q hqr)).trans h
              obtain ⟨d0, d1, d2, d3, d4⟩ := set5_cells (u0 := .string (bytes a)) (u1 := .slice aa ma ca) (u2 := .slice ab mb cb) (u3 := .slice ac mc cc) (u4 := .bool cd) y0 y1 y2 y3 y4 _ rfl
              have HPS := Lib.hid (And.intro (PS 0 _ p0) (And.intro (PS 1 _ p1) (And.intro (PS 2 _ p2) (And.intro (PS 3 _ p3) (PS 4 _ p4)))))
              obtain ⟨WE, hWE⟩ : ∃ W, (((((w8.setCell ⟨w.heap.size, 0, none⟩ (.string (bytes a))).setCell ⟨w.heap.size, 1, none⟩ (.slice aa ma ca)).setCell ⟨w.heap.size, 2, none⟩ (.slice ab mb cb)).setCell ⟨w.heap.size, 3, none⟩ (.slice ac mc cc)).setCell ⟨w.heap.size, 4, none⟩ (.bool cd)) = W := ⟨_, rfl⟩
              rw [hWE] at LE KE HPS d0 d1 d2 d3 d4
              clear PS hb hs LD9 p0 p1 p2 p3 p4 hHeld
              refine wpAnyH_ready (rs := [4]) (by kernel_rfl) (by simp) (AllReadyH.cons (by rw [List.getElem?_toArray]; exact rfl) (fun K9 hK9 => ?_) AllReadyH.nil)
              go_simp
              try rw [hWE]
              refine hK9.out _ _ HPS.out (fun hHeld89 => ?_)
              clear hK9 K9
              try simp only [Act.put, List.setIfInBounds_toArray, List.set_cons_zero, List.set_cons_succ]
              refine wpAnyH_done (by kernel_rfl) ?_ _
              clear y0 y1 y2 y3 y4 x0 x1 x2 x3 x4 hWE
              go_wp2
              (try simp only [Exit.inBlock, Exit.then])
              refine bodyPost_ret (by simp [results, Tryz.results119, go_sem, d0, d1, d2, d3, d4]; try rfl) rfl ?_
              exact NodRes.good (by rw [HVG.out]) (by rw [HVG.out]; exact LE.out) KE.out
            · have HVG := Lib.hid (show parseN s = (ck, Nod.zero) by rw [HV.out, if_pos zc])
              refine wpAnyH_ready (rs := [3]) (by kernel_rfl) (by simp) (AllReadyH.cons (by rw [List.getElem?_toArray]; exact rfl) (fun K9 hK9 => ?_) AllReadyH.nil)
              go_simp
              refine (soundN_bad _ _ _ _ _ _ _ _ _ _ _ _ _ zc).mono ?_
              rintro e8 w8 ⟨rfl, k⟩
              exact ⟨rfl, NodRes.bad (by rw [HVG.out]) zc (KW.out.trans (K9W.out.trans k))⟩
        · have HV := Lib.hid (show parseN s = (e3, Nod.zero) by rw [HFV.out, if_neg (by decide), if_neg (by decide), if_pos z3])
          have HX := Lib.hid z3
          clear z3
          clear HFV
          go_enter Tryz.func119, Tryz.ntmps119
          go_wp2_with fail
          refine (HWD.out _ (kept_alloc _ _)).mono ?_
          rintro ee w1 ⟨g1, g2, k⟩
          obtain ⟨g, cap, rfl, hcells⟩ := g1 _ HW.out
          have K := Lib.hid ((kept_alloc _ _).trans k)
          have K1S := Lib.hid (show w.heap.size + 1 ≤ w1.heap.size by have := k.size; rw [World.size_alloc] at this; exact this)
          have HR0 := Lib.hid (zero_cells w w1 k)
          have HC := Lib.hid (show ∀ W, Kept w1 W → W.cell? ⟨g, 0, none⟩ = some (.string (bytes a)) ∧ W.cell? ⟨g, 1, none⟩ = some (.string (bytes b)) ∧ W.cell? ⟨g, 2, none⟩ = some (.string (bytes c)) ∧ W.cell? ⟨g, 3, none⟩ = some (.string (bytes d)) ∧ W.cell? ⟨g, 4, none⟩ = some (.string (bytes e)) from fun W k =>
            ⟨cell_later k (hcells 0 a rfl), cell_later k (hcells 1 b rfl), cell_later k (hcells 2 c rfl), cell_later k (hcells 3 d rfl), cell_later k (hcells 4 e rfl)⟩)
          clear g1 g2 k hcells HWD HW
          go_wp2
          refine wp_region_held_drew (S := fun W => Kept w1 W) (by kernel_rfl) (Kept.drew _) (fun hHeld => ?_)
          have KK := Lib.hid hHeld
          obtain ⟨wd, hwd⟩ : ∃ W, w1.drew = W := ⟨_, rfl⟩
          rw [hwd] at KK hHeld ⊢
          clear hwd
          refine wpAnyH_take (i := 0) (v := ?_) (by rw [List.getElem?_toArray]; exact rfl) (by kernel_rfl) (by kernel_rfl) (by kernel_rfl) (by exact fun _ _ _ h => h) (Or.inl ⟨by rfl, (by intro W hSw; obtain ⟨q0, q1, q2, q3, q4⟩ := HC.out _ hSw; go_simp <;> with_reducible rfl)⟩) (by assumption) ?_
          try simp only [Act.put, List.setIfInBounds_toArray, List.set_cons_zero, List.set_cons_succ]
          refine wpAnyH_take (i := 1) (v := ?_) (by rw [List.getElem?_toArray]; exact rfl) (by kernel_rfl) (by kernel_rfl) (by kernel_rfl) (by exact fun _ _ _ h => h) (Or.inl ⟨by rfl, (by intro W hSw; obtain ⟨q0, q1, q2, q3, q4⟩ := HC.out _ hSw; go_simp <;> with_reducible rfl)⟩) (by assumption) ?_
          try simp only [Act.put, List.setIfInBounds_toArray, List.set_cons_zero, List.set_cons_succ]
          refine wpAnyH_take (i := 2) (v := ?_) (by rw [List.getElem?_toArray]; exact rfl) (by kernel_rfl) (by kernel_rfl) (by kernel_rfl) (by exact fun _ _ _ h => h) (Or.inl ⟨by rfl, (by intro W hSw; obtain ⟨q0, q1, q2, q3, q4⟩ := HC.out _ hSw; go_simp <;> with_reducible rfl)⟩) (by assumption) ?_
          try simp only [Act.put, List.setIfInBounds_toArray, List.set_cons_zero, List.set_cons_succ]
          refine wpAnyH_take (i := 4) (v := ?_) (by rw [List.getElem?_toArray]; exact rfl) (by kernel_rfl) (by kernel_rfl) (by kernel_rfl) (by exact fun _ _ _ h => h) (Or.inl ⟨by rfl, (by intro W hSw; obtain ⟨q0, q1, q2, q3, q4⟩ := HC.out _ hSw; go_simp <;> with_reducible rfl)⟩) (by assumption) ?_
          try simp only [Act.put, List.setIfInBounds_toArray, List.set_cons_zero, List.set_cons_succ]
          refine wpAnyH_take (i := 5) (v := ?_) (by rw [List.getElem?_toArray]; exact rfl) (by kernel_rfl) (by kernel_rfl) (by kernel_rfl) (by exact fun _ _ _ h => h) (Or.inl ⟨by rfl, (by intro W hSw; obtain ⟨q0, q1, q2, q3, q4⟩ := HC.out _ hSw; go_simp <;> with_reducible rfl)⟩) (by assumption) ?_
          try simp only [Act.put, List.setIfInBounds_toArray, List.set_cons_zero, List.set_cons_succ]
          refine wpAnyH_take (i := 6) (v := ?_) (by rw [List.getElem?_toArray]; exact rfl) (by kernel_rfl) (by kernel_rfl) (by kernel_rfl) (by exact fun _ _ _ h => h) (Or.inl ⟨by rfl, (by intro W hSw; obtain ⟨q0, q1, q2, q3, q4⟩ := HC.out _ hSw; go_simp <;> with_reducible rfl)⟩) (by assumption) ?_
          try simp only [Act.put, List.setIfInBounds_toArray, List.set_cons_zero, List.set_cons_succ]
          refine wpAnyH_take (i := 11) (v := ?_) (by rw [List.getElem?_toArray]; exact rfl) (by kernel_rfl) (by kernel_rfl) (by kernel_rfl) (by exact fun _ _ _ h => h) (Or.inl ⟨by rfl, (by intro W hSw; obtain ⟨q0, q1, q2, q3, q4⟩ := HC.out _ hSw; go_simp <;> with_reducible rfl)⟩) (by assumption) ?_
          try simp only [Act.put, List.setIfInBounds_toArray, List.set_cons_zero, List.set_cons_succ]
          refine wpAnyH_take (i := 12) (v := ?_) (by rw [List.getElem?_toArray]; exact rfl) (by kernel_rfl) (by kernel_rfl) (by kernel_rfl) (by exact fun _ _ _ h => h) (Or.inl ⟨by rfl, (by intro W hSw; obtain ⟨q0, q1, q2, q3, q4⟩ := HC.out _ hSw; go_simp <;> with_reducible rfl)⟩) (by assumption) ?_
          try simp only [Act.put, List.setIfInBounds_toArray, List.set_cons_zero, List.set_cons_succ]
          refine wpAnyH_take (i := 13) (v := ?_) (by rw [List.getElem?_toArray]; exact rfl) (by kernel_rfl) (by kernel_rfl) (by kernel_rfl) (by exact fun _ _ _ h => h) (Or.inl ⟨by rfl, (by intro W hSw; obtain ⟨q0, q1, q2, q3, q4⟩ := HC.out _ hSw; go_simp <;> with_reducible rfl)⟩) (by assumption) ?_
          try simp only [Act.put, List.setIfInBounds_toArray, List.set_cons_zero, List.set_cons_succ]
          refine wpAnyH_take (i := 18) (v := ?_) (by rw [List.getElem?_toArray]; exact rfl) (by kernel_rfl) (by kernel_rfl) (by kernel_rfl) (by exact fun _ _ _ h => h) (Or.inl ⟨by rfl, (by intro W hSw; obtain ⟨q0, q1, q2, q3, q4⟩ := HC.out _ hSw; go_simp <;> with_reducible rfl)⟩) (by assumption) ?_
          try simp only [Act.put, List.setIfInBounds_toArray, List.set_cons_zero, List.set_cons_succ]
          refine wpAnyH_take (i := 19) (v := ?_) (by rw [List.getElem?_toArray]; exact rfl) (by kernel_rfl) (by kernel_rfl) (by kernel_rfl) (by exact fun _ _ _ h => h) (Or.inl ⟨by rfl, (by intro W hSw; obtain ⟨q0, q1, q2, q3, q4⟩ := HC.out _ hSw; go_simp <;> with_reducible rfl)⟩) (by assumption) ?_
          try simp only [Act.put, List.setIfInBounds_toArray, List.set_cons_zero, List.set_cons_succ]
          refine wpAnyH_take (i := 20) (v := ?_) (by rw [List.getElem?_toArray]; exact rfl) (by kernel_rfl) (by kernel_rfl) (by kernel_rfl) (by exact fun _ _ _ h => h) (Or.inl ⟨by rfl, (by intro W hSw; obtain ⟨q0, q1, q2, q3, q4⟩ := HC.out _ hSw; go_simp <;> with_reducible rfl)⟩) (by assumption) ?_
          try simp only [Act.put, List.setIfInBounds_toArray, List.set_cons_zero, List.set_cons_succ]
          refine wpAnyH_take (i := 25) (v := ?_) (by rw [List.getElem?_toArray]; exact rfl) (by kernel_rfl) (by kernel_rfl) (by kernel_rfl) (by exact fun _ _ _ h => h) (Or.inl ⟨by rfl, (by intro W hSw; obtain ⟨q0, q1, q2, q3, q4⟩ := HC.out _ hSw; go_simp <;> with_reducible rfl)⟩) (by assumption) ?_
          try simp only [Act.put, List.setIfInBounds_toArray, List.set_cons_zero, List.set_cons_succ]
          refine wpAnyH_take (i := 26) (v := ?_) (by rw [List.getElem?_toArray]; exact rfl) (by kernel_rfl) (by kernel_rfl) (by kernel_rfl) (by exact fun _ _ _ h => h) (Or.inl ⟨by rfl, (by intro W hSw; obtain ⟨q0, q1, q2, q3, q4⟩ := HC.out _ hSw; go_simp <;> with_reducible rfl)⟩) (by assumption) ?_
          try simp only [Act.put, List.setIfInBounds_toArray, List.set_cons_zero, List.set_cons_succ]
          refine wpAnyH_take (i := 27) (v := ?_) (by rw [List.getElem?_toArray]; exact rfl) (by kernel_rfl) (by kernel_rfl) (by kernel_rfl) (by exact fun _ _ _ h => h) (Or.inl ⟨by rfl, (by intro W hSw; obtain ⟨q0, q1, q2, q3, q4⟩ := HC.out _ hSw; go_simp <;> with_reducible rfl)⟩) (by assumption) ?_
          try simp only [Act.put, List.setIfInBounds_toArray, List.set_cons_zero, List.set_cons_succ]
          refine wpAnyH_take (i := 28) (v := ?_) (by rw [List.getElem?_toArray]; exact rfl) (by kernel_rfl) (by kernel_rfl) (by kernel_rfl) (by exact fun _ _ _ h => h) (Or.inl ⟨by rfl, (by intro W hSw; obtain ⟨q0, q1, q2, q3, q4⟩ := HC.out _ hSw; go_simp <;> with_reducible rfl)⟩) (by assumption) ?_
          try simp only [Act.put, List.setIfInBounds_toArray, List.set_cons_zero, List.set_cons_succ]
          refine wpAnyH_ready (rs := [3, 30]) (by kernel_rfl) (by simp) (AllReadyH.cons (by rw [List.getElem?_toArray]; exact rfl) (fun K9 hK9 => ?_) (AllReadyH.cons (by rw [List.getElem?_toArray]; exact rfl) (fun K9 hK9 => ?_) AllReadyH.nil))
          · -- the call
            go_simp
            refine (HCL.out _).mono ?_
            rintro e1 ww1 ⟨rfl, k⟩
            have HSZ := Lib.hid KK.out.size
            have KK := Lib.hid (KK.out.trans k)
            clear k
            refine hK9.out _ _ KK.out (fun hHeld2 => ?_)
            clear hK9 K9
            try simp only [Act.put, List.setIfInBounds_toArray, List.set_cons_zero, List.set_cons_succ]
            refine wpAnyH_ready (rs := [7, 30]) (by kernel_rfl) (by simp) (AllReadyH.cons (by rw [List.getElem?_toArray]; exact rfl) (fun K9 hK9 => ?_) (AllReadyH.cons (by rw [List.getElem?_toArray]; exact rfl) (fun K9 hK9 => ?_) AllReadyH.nil))
            · -- the call
              go_simp
              refine (H1.out _ (K.out.trans KK.out)).mono ?_
              rintro e3 ww3 ⟨aa, ma, ca, rfl, rr, bb, k⟩
              have HSZ := Lib.hid KK.out.size
              have KK := Lib.hid (KK.out.trans k)
              have RA := Lib.hid rr
              have BA := Lib.hid (show ∀ b off sp, aa = some ⟨b, off, sp⟩ → w1.heap.size ≤ b ∧ b < ww3.heap.size from fun b off sp e => ⟨Nat.le_trans HSZ.out (bb b off sp e).1, (bb b off sp e).2⟩)
              clear rr bb
              clear k
              refine hK9.out _ _ KK.out (fun hHeld4 => ?_)
              clear hK9 K9
              try simp only [Act.put, List.setIfInBounds_toArray, List.set_cons_zero, List.set_cons_succ]
              refine wpAnyH_take (i := 8) (v := ?_) (by rw [List.getElem?_toArray]; exact rfl) (by kernel_rfl) (by kernel_rfl) (by kernel_rfl) (by exact fun _ _ _ h => h) (Or.inl ⟨by rfl, (by intro W hSw; obtain ⟨q0, q1, q2, q3, q4⟩ := HC.out _ hSw; go_simp <;> with_reducible rfl)⟩) (by assumption) ?_
              try simp only [Act.put, List.setIfInBounds_toArray, List.set_cons_zero, List.set_cons_succ]
              refine wpAnyH_take (i := 9) (v := ?_) (by rw [List.getElem?_toArray]; exact rfl) (by kernel_rfl) (by kernel_rfl) (by kernel_rfl) (by exact fun _ _ _ h => h) (Or.inl ⟨by rfl, (by intro W hSw; obtain ⟨q0, q1, q2, q3, q4⟩ := HC.out _ hSw; go_simp <;> with_reducible rfl)⟩) (by assumption) ?_
              try simp only [Act.put, List.setIfInBounds_toArray, List.set_cons_zero, List.set_cons_succ]
              refine wpAnyH_ready (rs := [10, 30]) (by kernel_rfl) (by simp) (AllReadyH.cons (by rw [List.getElem?_toArray]; exact rfl) (fun K9 hK9 => ?_) (AllReadyH.cons (by rw [List.getElem?_toArray]; exact rfl) (fun K9 hK9 => ?_) AllReadyH.nil))
              · -- the call
                go_simp
                refine (soundV_ok _ _).mono ?_
                rintro e5 w5_ ⟨rfl, rfl⟩
                refine hK9.out _ _ KK.out (fun hHeld6 => ?_)
                clear hK9 K9
                try simp only [Act.put, List.setIfInBounds_toArray, List.set_cons_zero, List.set_cons_succ]
                refine wpAnyH_ready (rs := [14, 30]) (by kernel_rfl) (by simp) (AllReadyH.cons (by rw [List.getElem?_toArray]; exact rfl) (fun K9 hK9 => ?_) (AllReadyH.cons (by rw [List.getElem?_toArray]; exact rfl) (fun K9 hK9 => ?_) AllReadyH.nil))
                · -- the call
                  go_simp
                  refine (H2.out _ (K.out.trans KK.out)).mono ?_
                  rintro e7 ww7 ⟨ab, mb, cb, rfl, rr, bb, k⟩
                  have HSZ := Lib.hid KK.out.size
                  have KK := Lib.hid (KK.out.trans k)
                  have RA := Lib.hid (RA.out.kept k)
                  have RB := Lib.hid rr
                  have BB := Lib.hid (show ∀ b off sp, ab = some ⟨b, off, sp⟩ → w1.heap.size ≤ b ∧ b < ww7.heap.size from fun b off sp e => ⟨Nat.le_trans HSZ.out (bb b off sp e).1, (bb b off sp e).2⟩)
                  clear rr bb
                  have BA := Lib.hid (show ∀ b off sp, aa = some ⟨b, off, sp⟩ → w1.heap.size ≤ b ∧ b < ww7.heap.size from fun b off sp e => ⟨(BA.out b off sp e).1, Nat.lt_of_lt_of_le (BA.out b off sp e).2 k.size⟩)
                  clear k
                  refine hK9.out _ _ KK.out (fun hHeld8 => ?_)
                  clear hK9 K9
                  try simp only [Act.put, List.setIfInBounds_toArray, List.set_cons_zero, List.set_cons_succ]
                  refine wpAnyH_take (i := 15) (v := ?_) (by rw [List.getElem?_toArray]; exact rfl) (by kernel_rfl) (by kernel_rfl) (by kernel_rfl) (by exact fun _ _ _ h => h) (Or.inl ⟨by rfl, (by intro W hSw; obtain ⟨q0, q1, q2, q3, q4⟩ := HC.out _ hSw; go_simp <;> with_reducible rfl)⟩) (by assumption) ?_
                  try simp only [Act.put, List.setIfInBounds_toArray, List.set_cons_zero, List.set_cons_succ]
                  refine wpAnyH_take (i := 16) (v := ?_) (by rw [List.getElem?_toArray]; exact rfl) (by kernel_rfl) (by kernel_rfl) (by kernel_rfl) (by exact fun _ _ _ h => h) (Or.inl ⟨by rfl, (by intro W hSw; obtain ⟨q0, q1, q2, q3, q4⟩ := HC.out _ hSw; go_simp <;> with_reducible rfl)⟩) (by assumption) ?_
                  try simp only [Act.put, List.setIfInBounds_toArray, List.set_cons_zero, List.set_cons_succ]
                  refine wpAnyH_ready (rs := [17, 30]) (by kernel_rfl) (by simp) (AllReadyH.cons (by rw [List.getElem?_toArray]; exact rfl) (fun K9 hK9 => ?_) (AllReadyH.cons (by rw [List.getElem?_toArray]; exact rfl) (fun K9 hK9 => ?_) AllReadyH.nil))
                  · -- the call
                    go_simp
                    refine (soundP_ok _ _).mono ?_
                    rintro e9 w9_ ⟨rfl, rfl⟩
                    refine hK9.out _ _ KK.out (fun hHeld10 => ?_)
                    clear hK9 K9
                    try simp only [Act.put, List.setIfInBounds_toArray, List.set_cons_zero, List.set_cons_succ]
                    refine wpAnyH_ready (rs := [21, 30]) (by kernel_rfl) (by simp) (AllReadyH.cons (by rw [List.getElem?_toArray]; exact rfl) (fun K9 hK9 => ?_) (AllReadyH.cons (by rw [List.getElem?_toArray]; exact rfl) (fun K9 hK9 => ?_) AllReadyH.nil))
                    · -- the call
                      go_simp
                      refine (H3.out _ (K.out.trans KK.out)).mono ?_
                      rintro e11 ww11 ⟨ac, mc, cc, rfl, rr, bb, k⟩
                      have HSZ := Lib.hid KK.out.size
                      have KK := Lib.hid (KK.out.trans k)
                      have RA := Lib.hid (RA.out.kept k)
                      have RB := Lib.hid (RB.out.kept k)
                      have RC := Lib.hid rr
                      have BC := Lib.hid (show ∀ b off sp, ac = some ⟨b, off, sp⟩ → w1.heap.size ≤ b ∧ b < ww11.heap.size from fun b off sp e => ⟨Nat.le_trans HSZ.out (bb b off sp e).1, (bb b off sp e).2⟩)
                      clear rr bb
                      have BA := Lib.hid (show ∀ b off sp, aa = some ⟨b, off, sp⟩ → w1.heap.size ≤ b ∧ b < ww11.heap.size from fun b off sp e => ⟨(BA.out b off sp e).1, Nat.lt_of_lt_of_le (BA.out b off sp e).2 k.size⟩)
                      have BB := Lib.hid (show ∀ b off sp, ab = some ⟨b, off, sp⟩ → w1.heap.size ≤ b ∧ b < ww11.heap.size from fun b off sp e => ⟨(BB.out b off sp e).1, Nat.lt_of_lt_of_le (BB.out b off sp e).2 k.size⟩)
                      clear k
                      refine hK9.out _ _ KK.out (fun hHeld12 => ?_)
                      clear hK9 K9
                      try simp only [Act.put, List.setIfInBounds_toArray, List.set_cons_zero, List.set_cons_succ]
                      refine wpAnyH_take (i := 22) (v := ?_) (by rw [List.getElem?_toArray]; exact rfl) (by kernel_rfl) (by kernel_rfl) (by kernel_rfl) (by exact fun _ _ _ h => h) (Or.inl ⟨by rfl, (by intro W hSw; obtain ⟨q0, q1, q2, q3, q4⟩ := HC.out _ hSw; go_simp <;> with_reducible rfl)⟩) (by assumption) ?_
                      try simp only [Act.put, List.setIfInBounds_toArray, List.set_cons_zero, List.set_cons_succ]
                      refine wpAnyH_take (i := 23) (v := ?_) (by rw [List.getElem?_toArray]; exact rfl) (by kernel_rfl) (by kernel_rfl) (by kernel_rfl) (by exact fun _ _ _ h => h) (Or.inl ⟨by rfl, (by intro W hSw; obtain ⟨q0, q1, q2, q3, q4⟩ := HC.out _ hSw; go_simp <;> with_reducible rfl)⟩) (by assumption) ?_
                      try simp only [Act.put, List.setIfInBounds_toArray, List.set_cons_zero, List.set_cons_succ]
                      refine wpAnyH_ready (rs := [24, 30]) (by kernel_rfl) (by simp) (AllReadyH.cons (by rw [List.getElem?_toArray]; exact rfl) (fun K9 hK9 => ?_) (AllReadyH.cons (by rw [List.getElem?_toArray]; exact rfl) (fun K9 hK9 => ?_) AllReadyH.nil))
                      · -- the call
                        go_simp
                        refine (soundA_bad _ _ _ HX.out).mono ?_
                        rintro e9 w9 ⟨rfl, rfl⟩
                        exact ⟨rfl, NodRes.bad (by rw [HV.out]) HX.out (K.out.trans KK.out)⟩
                      · -- the block
                        go_simp
                        have HQ := Lib.hid (fresh5 ww11 (.string ⟨#[]⟩) (.slice none 0 0) (.slice none 0 0) (.slice none 0 0) (.bool false) 53)
                        have hq : w1.heap.size ≤ ww11.heap.size := KK.out.size
                        obtain ⟨q, hqe⟩ : ∃ q, ww11.heap.size = q := ⟨_, rfl⟩
                        have FA := Lib.hid (show ∀ b off sp, aa = some ⟨b, off, sp⟩ → b ≠ q from fun b off sp e => by have := (BA.out b off sp e).2; omega)
                        have FB := Lib.hid (show ∀ b off sp, ab = some ⟨b, off, sp⟩ → b ≠ q from fun b off sp e => by have := (BB.out b off sp e).2; omega)
                        have FC := Lib.hid (show ∀ b off sp, ac = some ⟨b, off, sp⟩ → b ≠ q from fun b off sp e => by have := (BC.out b off sp e).2; omega)
                        have hsz : (ww11.alloc (.cells #[.string ⟨#[]⟩, .slice none 0 0, .slice none 0 0, .slice none 0 0, .bool false] 53)).heap.size = q + 1 := by rw [World.size_alloc, hqe]
                        have KA := Lib.hid (kept_alloc ww11 (.cells #[.string ⟨#[]⟩, .slice none 0 0, .slice none 0 0, .slice none 0 0, .bool false] 53))
                        rw [hqe] at HQ hq ⊢
                        obtain ⟨wq14, hWQ⟩ : ∃ W, ww11.alloc (.cells #[.string ⟨#[]⟩, .slice none 0 0, .slice none 0 0, .slice none 0 0, .bool false] 53) = W := ⟨_, rfl⟩
                        rw [hWQ] at HQ hsz KA ⊢
                        clear hWQ hqe
                        have KK := Lib.hid (KK.out.trans KA.out)
                        have KQ := Lib.hid (Kept.refl wq14)
                        have RA := Lib.hid (RA.out.kept KA.out)
                        have RB := Lib.hid (RB.out.kept KA.out)
                        have RC := Lib.hid (RC.out.kept KA.out)
                        clear KA
                        refine hK9.out _ _ KK.out (fun hHeld15 => ?_)
                        clear hK9 K9
                        try simp only [Act.put, List.setIfInBounds_toArray, List.set_cons_zero, List.set_cons_succ]
                        refine wpAnyH_ready (rs := [24]) (by kernel_rfl) (by simp) (AllReadyH.cons (by rw [List.getElem?_toArray]; exact rfl) (fun K9 hK9 => ?_) AllReadyH.nil)
                        go_simp
                        refine (soundA_bad _ _ _ HX.out).mono ?_
                        rintro e9 w9 ⟨rfl, rfl⟩
                        exact ⟨rfl, NodRes.bad (by rw [HV.out]) HX.out (K.out.trans KK.out)⟩
                    · -- the block
                      go_simp
                      have HQ := Lib.hid (fresh5 ww7 (.string ⟨#[]⟩) (.slice none 0 0) (.slice none 0 0) (.slice none 0 0) (.bool false) 53)
                      have hq : w1.heap.size ≤ ww7.heap.size := KK.out.size
                      obtain ⟨q, hqe⟩ : ∃ q, ww7.heap.size = q := ⟨_, rfl⟩
                      have FA := Lib.hid (show ∀ b off sp, aa = some ⟨b, off, sp⟩ → b ≠ q from fun b off sp e => by have := (BA.out b off sp e).2; omega)
                      have FB := Lib.hid (show ∀ b off sp, ab = some ⟨b, off, sp⟩ → b ≠ q from fun b off sp e => by have := (BB.out b off sp e).2; omega)
                      have hsz : (ww7.alloc (.cells #[.string ⟨#[]⟩, .slice none 0 0, .slice none 0 0, .slice none 0 0, .bool false] 53)).heap.size = q + 1 := by rw [World.size_alloc, hqe]
                      have KA := Lib.hid (kept_alloc ww7 (.cells #[.string ⟨#[]⟩, .slice none 0 0, .slice none 0 0, .slice none 0 0, .bool false] 53))
                      rw [hqe] at HQ hq ⊢
                      obtain ⟨wq17, hWQ⟩ : ∃ W, ww7.alloc (.cells #[.string ⟨#[]⟩, .slice none 0 0, .slice none 0 0, .slice none 0 0, .bool false] 53) = W := ⟨_, rfl⟩
                      rw [hWQ] at HQ hsz KA ⊢
                      clear hWQ hqe
                      have KK := Lib.hid (KK.out.trans KA.out)
                      have KQ := Lib.hid (Kept.refl wq17)
                      have RA := Lib.hid (RA.out.kept KA.out)
                      have RB := Lib.hid (RB.out.kept KA.out)
                      clear KA
                      refine hK9.out _ _ KK.out (fun hHeld18 => ?_)
                      clear hK9 K9
                      try simp only [Act.put, List.setIfInBounds_toArray, List.set_cons_zero, List.set_cons_succ]
                      refine wpAnyH_ready (rs := [21]) (by kernel_rfl) (by simp) (AllReadyH.cons (by rw [List.getElem?_toArray]; exact rfl) (fun K9 hK9 => ?_) AllReadyH.nil)
                      go_simp
                      refine (H3.out _ (K.out.trans KK.out)).mono ?_
                      rintro e19 ww19 ⟨ac, mc, cc, rfl, rr, bb, k⟩
                      have HSZ := Lib.hid KK.out.size
                      have KK := Lib.hid (KK.out.trans k)
                      have RA := Lib.hid (RA.out.kept k)
                      have RB := Lib.hid (RB.out.kept k)
                      have RC := Lib.hid rr
                      have BC := Lib.hid (show ∀ b off sp, ac = some ⟨b, off, sp⟩ → w1.heap.size ≤ b ∧ b < ww19.heap.size from fun b off sp e => ⟨Nat.le_trans HSZ.out (bb b off sp e).1, (bb b off sp e).2⟩)
                      have FC := Lib.hid (show ∀ b off sp, ac = some ⟨b, off, sp⟩ → b ≠ q from fun b off sp e => by have := (bb b off sp e).1; have := KQ.out.size; omega)
                      clear rr bb
                      have KQ := Lib.hid (KQ.out.trans k)
                      clear k
                      refine hK9.out _ _ KK.out (fun hHeld20 => ?_)
                      clear hK9 K9
                      try simp only [Act.put, List.setIfInBounds_toArray, List.set_cons_zero, List.set_cons_succ]
                      refine wpAnyH_take (i := 22) (v := ?_) (by rw [List.getElem?_toArray]; exact rfl) (by kernel_rfl) (by kernel_rfl) (by kernel_rfl) (by exact fun _ _ _ h => h) (Or.inl ⟨by rfl, (by intro W hSw; obtain ⟨q0, q1, q2, q3, q4⟩ := HC.out _ hSw; go_simp <;> with_reducible rfl)⟩) (by assumption) ?_
                      try simp only [Act.put, List.setIfInBounds_toArray, List.set_cons_zero, List.set_cons_succ]
                      refine wpAnyH_take (i := 23) (v := ?_) (by rw [List.getElem?_toArray]; exact rfl) (by kernel_rfl) (by kernel_rfl) (by kernel_rfl) (by exact fun _ _ _ h => h) (Or.inl ⟨by rfl, (by intro W hSw; obtain ⟨q0, q1, q2, q3, q4⟩ := HC.out _ hSw; go_simp <;> with_reducible rfl)⟩) (by assumption) ?_
                      try simp only [Act.put, List.setIfInBounds_toArray, List.set_cons_zero, List.set_cons_succ]
                      refine wpAnyH_ready (rs := [24]) (by kernel_rfl) (by simp) (AllReadyH.cons (by rw [List.getElem?_toArray]; exact rfl) (fun K9 hK9 => ?_) AllReadyH.nil)
                      go_simp
                      refine (soundA_bad _ _ _ HX.out).mono ?_
                      rintro e9 w9 ⟨rfl, rfl⟩
                      exact ⟨rfl, NodRes.bad (by rw [HV.out]) HX.out (K.out.trans KK.out)⟩
                  · -- the block
                    go_simp
                    have HQ := Lib.hid (fresh5 ww7 (.string ⟨#[]⟩) (.slice none 0 0) (.slice none 0 0) (.slice none 0 0) (.bool false) 53)
                    have hq : w1.heap.size ≤ ww7.heap.size := KK.out.size
                    obtain ⟨q, hqe⟩ : ∃ q, ww7.heap.size = q := ⟨_, rfl⟩
                    have FA := Lib.hid (show ∀ b off sp, aa = some ⟨b, off, sp⟩ → b ≠ q from fun b off sp e => by have := (BA.out b off sp e).2; omega)
                    have FB := Lib.hid (show ∀ b off sp, ab = some ⟨b, off, sp⟩ → b ≠ q from fun b off sp e => by have := (BB.out b off sp e).2; omega)
                    have hsz : (ww7.alloc (.cells #[.string ⟨#[]⟩, .slice none 0 0, .slice none 0 0, .slice none 0 0, .bool false] 53)).heap.size = q + 1 := by rw [World.size_alloc, hqe]
                    have KA := Lib.hid (kept_alloc ww7 (.cells #[.string ⟨#[]⟩, .slice none 0 0, .slice none 0 0, .slice none 0 0, .bool false] 53))
                    rw [hqe] at HQ hq ⊢
                    obtain ⟨wq22, hWQ⟩ : ∃ W, ww7.alloc (.cells #[.string ⟨#[]⟩, .slice none 0 0, .slice none 0 0, .slice none 0 0, .bool false] 53) = W := ⟨_, rfl⟩
                    rw [hWQ] at HQ hsz KA ⊢
                    clear hWQ hqe
                    have KK := Lib.hid (KK.out.trans KA.out)
                    have KQ := Lib.hid (Kept.refl wq22)
                    have RA := Lib.hid (RA.out.kept KA.out)
                    have RB := Lib.hid (RB.out.kept KA.out)
                    clear KA
                    refine hK9.out _ _ KK.out (fun hHeld23 => ?_)
                    clear hK9 K9
                    try simp only [Act.put, List.setIfInBounds_toArray, List.set_cons_zero, List.set_cons_succ]
                    refine wpAnyH_ready (rs := [17]) (by kernel_rfl) (by simp) (AllReadyH.cons (by rw [List.getElem?_toArray]; exact rfl) (fun K9 hK9 => ?_) AllReadyH.nil)
                    go_simp
                    refine (soundP_ok _ _).mono ?_
                    rintro e24 w24_ ⟨rfl, rfl⟩
                    refine hK9.out _ _ KK.out (fun hHeld25 => ?_)
                    clear hK9 K9
                    try simp only [Act.put, List.setIfInBounds_toArray, List.set_cons_zero, List.set_cons_succ]
                    refine wpAnyH_ready (rs := [21]) (by kernel_rfl) (by simp) (AllReadyH.cons (by rw [List.getElem?_toArray]; exact rfl) (fun K9 hK9 => ?_) AllReadyH.nil)
                    go_simp
                    refine (H3.out _ (K.out.trans KK.out)).mono ?_
                    rintro e26 ww26 ⟨ac, mc, cc, rfl, rr, bb, k⟩
                    have HSZ := Lib.hid KK.out.size
                    have KK := Lib.hid (KK.out.trans k)
                    have RA := Lib.hid (RA.out.kept k)
                    have RB := Lib.hid (RB.out.kept k)
                    have RC := Lib.hid rr
                    have BC := Lib.hid (show ∀ b off sp, ac = some ⟨b, off, sp⟩ → w1.heap.size ≤ b ∧ b < ww26.heap.size from fun b off sp e => ⟨Nat.le_trans HSZ.out (bb b off sp e).1, (bb b off sp e).2⟩)
                    have FC := Lib.hid (show ∀ b off sp, ac = some ⟨b, off, sp⟩ → b ≠ q from fun b off sp e => by have := (bb b off sp e).1; have := KQ.out.size; omega)
                    clear rr bb
                    have KQ := Lib.hid (KQ.out.trans k)
                    clear k
                    refine hK9.out _ _ KK.out (fun hHeld27 => ?_)
                    clear hK9 K9
                    try simp only [Act.put, List.setIfInBounds_toArray, List.set_cons_zero, List.set_cons_succ]
                    refine wpAnyH_take (i := 22) (v := ?_) (by rw [List.getElem?_toArray]; exact rfl) (by kernel_rfl) (by kernel_rfl) (by kernel_rfl) (by exact fun _ _ _ h => h) (Or.inl ⟨by rfl, (by intro W hSw; obtain ⟨q0, q1, q2, q3, q4⟩ := HC.out _ hSw; go_simp <;> with_reducible rfl)⟩) (by assumption) ?_
                    try simp only [Act.put, List.setIfInBounds_toArray, List.set_cons_zero, List.set_cons_succ]
                    refine wpAnyH_take (i := 23) (v := ?_) (by rw [List.getElem?_toArray]; exact rfl) (by kernel_rfl) (by kernel_rfl) (by kernel_rfl) (by exact fun _ _ _ h => h) (Or.inl ⟨by rfl, (by intro W hSw; obtain ⟨q0, q1, q2, q3, q4⟩ := HC.out _ hSw; go_simp <;> with_reducible rfl)⟩) (by assumption) ?_
                    try simp only [Act.put, List.setIfInBounds_toArray, List.set_cons_zero, List.set_cons_succ]
                    refine wpAnyH_ready (rs := [24]) (by kernel_rfl) (by simp) (AllReadyH.cons (by rw [List.getElem?_toArray]; exact rfl) (fun K9 hK9 => ?_) AllReadyH.nil)
                    go_simp
                    refine (soundA_bad _ _ _ HX.out).mono ?_
                    rintro e9 w9 ⟨rfl, rfl⟩
                    exact ⟨rfl, NodRes.bad (by rw [HV.out]) HX.out (K.out.trans KK.out)⟩
                · -- the block
                  go_simp
                  have HQ := Lib.hid (fresh5 ww3 (.string ⟨#[]⟩) (.slice none 0 0) (.slice none 0 0) (.slice none 0 0) (.bool false) 53)
                  have hq : w1.heap.size ≤ ww3.heap.size := KK.out.size
                  obtain ⟨q, hqe⟩ : ∃ q, ww3.heap.size = q := ⟨_, rfl⟩
                  have FA := Lib.hid (show ∀ b off sp, aa = some ⟨b, off, sp⟩ → b ≠ q from fun b off sp e => by have := (BA.out b off sp e).2; omega)
                  have hsz : (ww3.alloc (.cells #[.string ⟨#[]⟩, .slice none 0 0, .slice none 0 0, .slice none 0 0, .bool false] 53)).heap.size = q + 1 := by rw [World.size_alloc, hqe]
                  have KA := Lib.hid (kept_alloc ww3 (.cells #[.string ⟨#[]⟩, .slice none 0 0, .slice none 0 0, .slice none 0 0, .bool false] 53))
                  rw [hqe] at HQ hq ⊢
                  obtain ⟨wq29, hWQ⟩ : ∃ W, ww3.alloc (.cells #[.string ⟨#[]⟩, .slice none 0 0, .slice none 0 0, .slice none 0 0, .bool false] 53) = W := ⟨_, rfl⟩
                  rw [hWQ] at HQ hsz KA ⊢
                  clear hWQ hqe
                  have KK := Lib.hid (KK.out.trans KA.out)
                  have KQ := Lib.hid (Kept.refl wq29)
                  have RA := Lib.hid (RA.out.kept KA.out)
                  clear KA
                  refine hK9.out _ _ KK.out (fun hHeld30 => ?_)
                  clear hK9 K9
                  try simp only [Act.put, List.setIfInBounds_toArray, List.set_cons_zero, List.set_cons_succ]
                  refine wpAnyH_ready (rs := [14]) (by kernel_rfl) (by simp) (AllReadyH.cons (by rw [List.getElem?_toArray]; exact rfl) (fun K9 hK9 => ?_) AllReadyH.nil)
                  go_simp
                  refine (H2.out _ (K.out.trans KK.out)).mono ?_
                  rintro e31 ww31 ⟨ab, mb, cb, rfl, rr, bb, k⟩
                  have HSZ := Lib.hid KK.out.size
                  have KK := Lib.hid (KK.out.trans k)
                  have RA := Lib.hid (RA.out.kept k)
                  have RB := Lib.hid rr
                  have BB := Lib.hid (show ∀ b off sp, ab = some ⟨b, off, sp⟩ → w1.heap.size ≤ b ∧ b < ww31.heap.size from fun b off sp e => ⟨Nat.le_trans HSZ.out (bb b off sp e).1, (bb b off sp e).2⟩)
                  have FB := Lib.hid (show ∀ b off sp, ab = some ⟨b, off, sp⟩ → b ≠ q from fun b off sp e => by have := (bb b off sp e).1; have := KQ.out.size; omega)
                  clear rr bb
                  have KQ := Lib.hid (KQ.out.trans k)
                  clear k
                  refine hK9.out _ _ KK.out (fun hHeld32 => ?_)
                  clear hK9 K9
                  try simp only [Act.put, List.setIfInBounds_toArray, List.set_cons_zero, List.set_cons_succ]
                  refine wpAnyH_take (i := 15) (v := ?_) (by rw [List.getElem?_toArray]; exact rfl) (by kernel_rfl) (by kernel_rfl) (by kernel_rfl) (by exact fun _ _ _ h => h) (Or.inl ⟨by rfl, (by intro W hSw; obtain ⟨q0, q1, q2, q3, q4⟩ := HC.out _ hSw; go_simp <;> with_reducible rfl)⟩) (by assumption) ?_
                  try simp only [Act.put, List.setIfInBounds_toArray, List.set_cons_zero, List.set_cons_succ]
                  refine wpAnyH_take (i := 16) (v := ?_) (by rw [List.getElem?_toArray]; exact rfl) (by kernel_rfl) (by kernel_rfl) (by kernel_rfl) (by exact fun _ _ _ h => h) (Or.inl ⟨by rfl, (by intro W hSw; obtain ⟨q0, q1, q2, q3, q4⟩ := HC.out _ hSw; go_simp <;> with_reducible rfl)⟩) (by assumption) ?_
                  try simp only [Act.put, List.setIfInBounds_toArray, List.set_cons_zero, List.set_cons_succ]
                  refine wpAnyH_ready (rs := [17]) (by kernel_rfl) (by simp) (AllReadyH.cons (by rw [List.getElem?_toArray]; exact rfl) (fun K9 hK9 => ?_) AllReadyH.nil)
                  go_simp
                  refine (soundP_ok _ _).mono ?_
                  rintro e33 w33_ ⟨rfl, rfl⟩
                  refine hK9.out _ _ KK.out (fun hHeld34 => ?_)
                  clear hK9 K9
                  try simp only [Act.put, List.setIfInBounds_toArray, List.set_cons_zero, List.set_cons_succ]
                  refine wpAnyH_ready (rs := [21]) (by kernel_rfl) (by simp) (AllReadyH.cons (by rw [List.getElem?_toArray]; exact rfl) (fun K9 hK9 => ?_) AllReadyH.nil)
                  go_simp
                  refine (H3.out _ (K.out.trans KK.out)).mono ?_
                  rintro e35 ww35 ⟨ac, mc, cc, rfl, rr, bb, k⟩
                  have HSZ := Lib.hid KK.out.size
                  have KK := Lib.hid (KK.out.trans k)
                  have RA := Lib.hid (RA.out.kept k)
                  have RB := Lib.hid (RB.out.kept k)
                  have RC := Lib.hid rr
                  have BC := Lib.hid (show ∀ b off sp, ac = some ⟨b, off, sp⟩ → w1.heap.size ≤ b ∧ b < ww35.heap.size from fun b off sp e => ⟨Nat.le_trans HSZ.out (bb b off sp e).1, (bb b off sp e).2⟩)
                  have FC := Lib.hid (show ∀ b off sp, ac = some ⟨b, off, sp⟩ → b ≠ q from fun b off sp e => by have := (bb b off sp e).1; have := KQ.out.size; omega)
                  clear rr bb
                  have KQ := Lib.hid (KQ.out.trans k)
                  clear k
                  refine hK9.out _ _ KK.out (fun hHeld36 => ?_)
                  clear hK9 K9
                  try simp only [Act.put, List.setIfInBounds_toArray, List.set_cons_zero, List.set_cons_succ]
                  refine wpAnyH_take (i := 22) (v := ?_) (by rw [List.getElem?_toArray]; exact rfl) (by kernel_rfl) (by kernel_rfl) (by kernel_rfl) (by exact fun _ _ _ h => h) (Or.inl ⟨by rfl, (by intro W hSw; obtain ⟨q0, q1, q2, q3, q4⟩ := HC.out _ hSw; go_simp <;> with_reducible rfl)⟩) (by assumption) ?_
                  try simp only [Act.put, List.setIfInBounds_toArray, List.set_cons_zero, List.set_cons_succ]
                  refine wpAnyH_take (i := 23) (v := ?_) (by rw [List.getElem?_toArray]; exact rfl) (by kernel_rfl) (by kernel_rfl) (by kernel_rfl) (by exact fun _ _ _ h => h) (Or.inl ⟨by rfl, (by intro W hSw; obtain ⟨q0, q1, q2, q3, q4⟩ := HC.out _ hSw; go_simp <;> with_reducible rfl)⟩) (by assumption) ?_
                  try simp only [Act.put, List.setIfInBounds_toArray, List.set_cons_zero, List.set_cons_succ]
                  refine wpAnyH_ready (rs := [24]) (by kernel_rfl) (by simp) (AllReadyH.cons (by rw [List.getElem?_toArray]; exact rfl) (fun K9 hK9 => ?_) AllReadyH.nil)
                  go_simp
                  refine (soundA_bad _ _ _ HX.out).mono ?_
                  rintro e9 w9 ⟨rfl, rfl⟩
                  exact ⟨rfl, NodRes.bad (by rw [HV.out]) HX.out (K.out.trans KK.out)⟩
              · -- the block
                go_simp
                have HQ := Lib.hid (fresh5 ww3 (.string ⟨#[]⟩) (.slice none 0 0) (.slice none 0 0) (.slice none 0 0) (.bool false) 53)
                have hq : w1.heap.size ≤ ww3.heap.size := KK.out.size
                obtain ⟨q, hqe⟩ : ∃ q, ww3.heap.size = q := ⟨_, rfl⟩
                have FA := Lib.hid (show ∀ b off sp, aa = some ⟨b, off, sp⟩ → b ≠ q from fun b off sp e => by have := (BA.out b off sp e).2; omega)
                have hsz : (ww3.alloc (.cells #[.string ⟨#[]⟩, .slice none 0 0, .slice none 0 0, .slice none 0 0, .bool false] 53)).heap.size = q + 1 := by rw [World.size_alloc, hqe]
                have KA := Lib.hid (kept_alloc ww3 (.cells #[.string ⟨#[]⟩, .slice none 0 0, .slice none 0 0, .slice none 0 0, .bool false] 53))
                rw [hqe] at HQ hq ⊢
                obtain ⟨wq38, hWQ⟩ : ∃ W, ww3.alloc (.cells #[.string ⟨#[]⟩, .slice none 0 0, .slice none 0 0, .slice none 0 0, .bool false] 53) = W := ⟨_, rfl⟩
                rw [hWQ] at HQ hsz KA ⊢
                clear hWQ hqe
                have KK := Lib.hid (KK.out.trans KA.out)
                have KQ := Lib.hid (Kept.refl wq38)
                have RA := Lib.hid (RA.out.kept KA.out)
                clear KA
                refine hK9.out _ _ KK.out (fun hHeld39 => ?_)
                clear hK9 K9
                try simp only [Act.put, List.setIfInBounds_toArray, List.set_cons_zero, List.set_cons_succ]
                refine wpAnyH_ready (rs := [10]) (by kernel_rfl) (by simp) (AllReadyH.cons (by rw [List.getElem?_toArray]; exact rfl) (fun K9 hK9 => ?_) AllReadyH.nil)
                go_simp
                refine (soundV_ok _ _).mono ?_
                rintro e40 w40_ ⟨rfl, rfl⟩
                refine hK9.out _ _ KK.out (fun hHeld41 => ?_)
                clear hK9 K9
                try simp only [Act.put, List.setIfInBounds_toArray, List.set_cons_zero, List.set_cons_succ]
                refine wpAnyH_ready (rs := [14]) (by kernel_rfl) (by simp) (AllReadyH.cons (by rw [List.getElem?_toArray]; exact rfl) (fun K9 hK9 => ?_) AllReadyH.nil)
                go_simp
                refine (H2.out _ (K.out.trans KK.out)).mono ?_
                rintro e42 ww42 ⟨ab, mb, cb, rfl, rr, bb, k⟩
                have HSZ := Lib.hid KK.out.size
                have KK := Lib.hid (KK.out.trans k)
                have RA := Lib.hid (RA.out.kept k)
                have RB := Lib.hid rr
                have BB := Lib.hid (show ∀ b off sp, ab = some ⟨b, off, sp⟩ → w1.heap.size ≤ b ∧ b < ww42.heap.size from fun b off sp e => ⟨Nat.le_trans HSZ.out (bb b off sp e).1, (bb b off sp e).2⟩)
                have FB := Lib.hid (show ∀ b off sp, ab = some ⟨b, off, sp⟩ → b ≠ q from fun b off sp e => by have := (bb b off sp e).1; have := KQ.out.size; omega)
                clear rr bb
                have KQ := Lib.hid (KQ.out.trans k)
                clear k
                refine hK9.out _ _ KK.out (fun hHeld43 => ?_)
                clear hK9 K9
                try simp only [Act.put, List.setIfInBounds_toArray, List.set_cons_zero, List.set_cons_succ]
                refine wpAnyH_take (i := 15) (v := ?_) (by rw [List.getElem?_toArray]; exact rfl) (by kernel_rfl) (by kernel_rfl) (by kernel_rfl) (by exact fun _ _ _ h => h) (Or.inl ⟨by rfl, (by intro W hSw; obtain ⟨q0, q1, q2, q3, q4⟩ := HC.out _ hSw; go_simp <;> with_reducible rfl)⟩) (by assumption) ?_
                try simp only [Act.put, List.setIfInBounds_toArray, List.set_cons_zero, List.set_cons_succ]
                refine wpAnyH_take (i := 16) (v := ?_) (by rw [List.getElem?_toArray]; exact rfl) (by kernel_rfl) (by kernel_rfl) (by kernel_rfl) (by exact fun _ _ _ h => h) (Or.inl ⟨by rfl, (by intro W hSw; obtain ⟨q0, q1, q2, q3, q4⟩ := HC.out _ hSw; go_simp <;> with_reducible rfl)⟩) (by assumption) ?_
                try simp only [Act.put, List.setIfInBounds_toArray, List.set_cons_zero, List.set_cons_succ]
                refine wpAnyH_ready (rs := [17]) (by kernel_rfl) (by simp) (AllReadyH.cons (by rw [List.getElem?_toArray]; exact rfl) (fun K9 hK9 => ?_) AllReadyH.nil)
                go_simp
                refine (soundP_ok _ _).mono ?_
                rintro e44 w44_ ⟨rfl, rfl⟩
                refine hK9.out _ _ KK.out (fun hHeld45 => ?_)
                clear hK9 K9
                try simp only [Act.put, List.setIfInBounds_toArray, List.set_cons_zero, List.set_cons_succ]
                refine wpAnyH_ready (rs := [21]) (by kernel_rfl) (by simp) (AllReadyH.cons (by rw [List.getElem?_toArray]; exact rfl) (fun K9 hK9 => ?_) AllReadyH.nil)
                go_simp
                refine (H3.out _ (K.out.trans KK.out)).mono ?_
                rintro e46 ww46 ⟨ac, mc, cc, rfl, rr, bb, k⟩
                have HSZ := Lib.hid KK.out.size
                have KK := Lib.hid (KK.out.trans k)
                have RA := Lib.hid (RA.out.kept k)
                have RB := Lib.hid (RB.out.kept k)
                have RC := Lib.hid rr
                have BC := Lib.hid (show ∀ b off sp, ac = some ⟨b, off, sp⟩ → w1.heap.size ≤ b ∧ b < ww46.heap.size from fun b off sp e => ⟨Nat.le_trans HSZ.out (bb b off sp e).1, (bb b off sp e).2⟩)
                have FC := Lib.hid (show ∀ b off sp, ac = some ⟨b, off, sp⟩ → b ≠ q from fun b off sp e => by have := (bb b off sp e).1; have := KQ.out.size; omega)
                clear rr bb
                have KQ := Lib.hid (KQ.out.trans k)
                clear k
                refine hK9.out _ _ KK.out (fun hHeld47 => ?_)
                clear hK9 K9
                try simp only [Act.put, List.setIfInBounds_toArray, List.set_cons_zero, List.set_cons_succ]
                refine wpAnyH_take (i := 22) (v := ?_) (by rw [List.getElem?_toArray]; exact rfl) (by kernel_rfl) (by kernel_rfl) (by kernel_rfl) (by exact fun _ _ _ h => h) (Or.inl ⟨by rfl, (by intro W hSw; obtain ⟨q0, q1, q2, q3, q4⟩ := HC.out _ hSw; go_simp <;> with_reducible rfl)⟩) (by assumption) ?_
                try simp only [Act.put, List.setIfInBounds_toArray, List.set_cons_zero, List.set_cons_succ]
                refine wpAnyH_take (i := 23) (v := ?_) (by rw [List.getElem?_toArray]; exact rfl) (by kernel_rfl) (by kernel_rfl) (by kernel_rfl) (by exact fun _ _ _ h => h) (Or.inl ⟨by rfl, (by intro W hSw; obtain ⟨q0, q1, q2, q3, q4⟩ := HC.out _ hSw; go_simp <;> with_reducible rfl)⟩) (by assumption) ?_
                try simp only [Act.put, List.setIfInBounds_toArray, List.set_cons_zero, List.set_cons_succ]
                refine wpAnyH_ready (rs := [24]) (by kernel_rfl) (by simp) (AllReadyH.cons (by rw [List.getElem?_toArray]; exact rfl) (fun K9 hK9 => ?_) AllReadyH.nil)
                go_simp
                refine (soundA_bad _ _ _ HX.out).mono ?_
                rintro e9 w9 ⟨rfl, rfl⟩
                exact ⟨rfl, NodRes.bad (by rw [HV.out]) HX.out (K.out.trans KK.out)⟩
            · -- the block
              go_simp
              have HQ := Lib.hid (fresh5 ww1 (.string ⟨#[]⟩) (.slice none 0 0) (.slice none 0 0) (.slice none 0 0) (.bool false) 53)
              have hq : w1.heap.size ≤ ww1.heap.size := KK.out.size
              obtain ⟨q, hqe⟩ : ∃ q, ww1.heap.size = q := ⟨_, rfl⟩
              have hsz : (ww1.alloc (.cells #[.string ⟨#[]⟩, .slice none 0 0, .slice none 0 0, .slice none 0 0, .bool false] 53)).heap.size = q + 1 := by rw [World.size_alloc, hqe]
              have KA := Lib.hid (kept_alloc ww1 (.cells #[.string ⟨#[]⟩, .slice none 0 0, .slice none 0 0, .slice none 0 0, .bool false] 53))
              rw [hqe] at HQ hq ⊢
              obtain ⟨wq49, hWQ⟩ : ∃ W, ww1.alloc (.cells #[.string ⟨#[]⟩, .slice none 0 0, .slice none 0 0, .slice none 0 0, .bool false] 53) = W := ⟨_, rfl⟩
              rw [hWQ] at HQ hsz KA ⊢
              clear hWQ hqe
              have KK := Lib.hid (KK.out.trans KA.out)
              have KQ := Lib.hid (Kept.refl wq49)
              clear KA
              refine hK9.out _ _ KK.out (fun hHeld50 => ?_)
              clear hK9 K9
              try simp only [Act.put, List.setIfInBounds_toArray, List.set_cons_zero, List.set_cons_succ]
              refine wpAnyH_ready (rs := [7]) (by kernel_rfl) (by simp) (AllReadyH.cons (by rw [List.getElem?_toArray]; exact rfl) (fun K9 hK9 => ?_) AllReadyH.nil)
              go_simp
              refine (H1.out _ (K.out.trans KK.out)).mono ?_
              rintro e51 ww51 ⟨aa, ma, ca, rfl, rr, bb, k⟩
              have HSZ := Lib.hid KK.out.size
              have KK := Lib.hid (KK.out.trans k)
              have RA := Lib.hid rr
              have BA := Lib.hid (show ∀ b off sp, aa = some ⟨b, off, sp⟩ → w1.heap.size ≤ b ∧ b < ww51.heap.size from fun b off sp e => ⟨Nat.le_trans HSZ.out (bb b off sp e).1, (bb b off sp e).2⟩)
              have FA := Lib.hid (show ∀ b off sp, aa = some ⟨b, off, sp⟩ → b ≠ q from fun b off sp e => by have := (bb b off sp e).1; have := KQ.out.size; omega)
              clear rr bb
              have KQ := Lib.hid (KQ.out.trans k)
              clear k
              refine hK9.out _ _ KK.out (fun hHeld52 => ?_)
              clear hK9 K9
              try simp only [Act.put, List.setIfInBounds_toArray, List.set_cons_zero, List.set_cons_succ]
              refine wpAnyH_take (i := 8) (v := ?_) (by rw [List.getElem?_toArray]; exact rfl) (by kernel_rfl) (by kernel_rfl) (by kernel_rfl) (by exact fun _ _ _ h => h) (Or.inl ⟨by rfl, (by intro W hSw; obtain ⟨q0, q1, q2, q3, q4⟩ := HC.out _ hSw; go_simp <;> with_reducible rfl)⟩) (by assumption) ?_
              try simp only [Act.put, List.setIfInBounds_toArray, List.set_cons_zero, List.set_cons_succ]
              refine wpAnyH_take (i := 9) (v := ?_) (by rw [List.getElem?_toArray]; exact rfl) (by kernel_rfl) (by kernel_rfl) (by kernel_rfl) (by exact fun _ _ _ h => h) (Or.inl ⟨by rfl, (by intro W hSw; obtain ⟨q0, q1, q2, q3, q4⟩ := HC.out _ hSw; go_simp <;> with_reducible rfl)⟩) (by assumption) ?_
              try simp only [Act.put, List.setIfInBounds_toArray, List.set_cons_zero, List.set_cons_succ]
              refine wpAnyH_ready (rs := [10]) (by kernel_rfl) (by simp) (AllReadyH.cons (by rw [List.getElem?_toArray]; exact rfl) (fun K9 hK9 => ?_) AllReadyH.nil)
              go_simp
              refine (soundV_ok _ _).mono ?_
              rintro e53 w53_ ⟨rfl, rfl⟩
              refine hK9.out _ _ KK.out (fun hHeld54 => ?_)
              clear hK9 K9
              try simp only [Act.put, List.setIfInBounds_toArray, List.set_cons_zero, List.set_cons_succ]
              refine wpAnyH_ready (rs := [14]) (by kernel_rfl) (by simp) (AllReadyH.cons (by rw [List.getElem?_toArray]; exact rfl) (fun K9 hK9 => ?_) AllReadyH.nil)
              go_simp
              refine (H2.out _ (K.out.trans KK.out)).mono ?_
              rintro e55 ww55 ⟨ab, mb, cb, rfl, rr, bb, k⟩
              have HSZ := Lib.hid KK.out.size
              have KK := Lib.hid (KK.out.trans k)
              have RA := Lib.hid (RA.out.kept k)
              have RB := Lib.hid rr
              have BB := Lib.hid (show ∀ b off sp, ab = some ⟨b, off, sp⟩ → w1.heap.size ≤ b ∧ b < ww55.heap.size from fun b off sp e => ⟨Nat.le_trans HSZ.out (bb b off sp e).1, (bb b off sp e).2⟩)
              have FB := Lib.hid (show ∀ b off sp, ab = some ⟨b, off, sp⟩ → b ≠ q from fun b off sp e => by have := (bb b off sp e).1; have := KQ.out.size; omega)
              clear rr bb
              have KQ := Lib.hid (KQ.out.trans k)
              clear k
              refine hK9.out _ _ KK.out (fun hHeld56 => ?_)
              clear hK9 K9
              try simp only [Act.put, List.setIfInBounds_toArray, List.set_cons_zero, List.set_cons_succ]
              refine wpAnyH_take (i := 15) (v := ?_) (by rw [List.getElem?_toArray]; exact rfl) (by kernel_rfl) (by kernel_rfl) (by kernel_rfl) (by exact fun _ _ _ h => h) (Or.inl ⟨by rfl, (by intro W hSw; obtain ⟨q0, q1, q2, q3, q4⟩ := HC.out _ hSw; go_simp <;> with_reducible rfl)⟩) (by assumption) ?_
              try simp only [Act.put, List.setIfInBounds_toArray, List.set_cons_zero, List.set_cons_succ]
              refine wpAnyH_take (i := 16) (v := ?_) (by rw [List.getElem?_toArray]; exact rfl) (by kernel_rfl) (by kernel_rfl) (by kernel_rfl) (by exact fun _ _ _ h => h) (Or.inl ⟨by rfl, (by intro W hSw; obtain ⟨q0, q1, q2, q3, q4⟩ := HC.out _ hSw; go_simp <;> with_reducible rfl)⟩) (by assumption) ?_
              try simp only [Act.put, List.setIfInBounds_toArray, List.set_cons_zero, List.set_cons_succ]
              refine wpAnyH_ready (rs := [17]) (by kernel_rfl) (by simp) (AllReadyH.cons (by rw [List.getElem?_toArray]; exact rfl) (fun K9 hK9 => ?_) AllReadyH.nil)
              go_simp
              refine (soundP_ok _ _).mono ?_
              rintro e57 w57_ ⟨rfl, rfl⟩
              refine hK9.out _ _ KK.out (fun hHeld58 => ?_)
              clear hK9 K9
              try simp only [Act.put, List.setIfInBounds_toArray, List.set_cons_zero, List.set_cons_succ]
              refine wpAnyH_ready (rs := [21]) (by kernel_rfl) (by simp) (AllReadyH.cons (by rw [List.getElem?_toArray]; exact rfl) (fun K9 hK9 => ?_) AllReadyH.nil)
              go_simp
              refine (H3.out _ (K.out.trans KK.out)).mono ?_
              rintro e59 ww59 ⟨ac, mc, cc, rfl, rr, bb, k⟩
              have HSZ := Lib.hid KK.out.size
              have KK := Lib.hid (KK.out.trans k)
              have RA := Lib.hid (RA.out.kept k)
              have RB := Lib.hid (RB.out.kept k)
              have RC := Lib.hid rr
              have BC := Lib.hid (show ∀ b off sp, ac = some ⟨b, off, sp⟩ → w1.heap.size ≤ b ∧ b < ww59.heap.size from fun b off sp e => ⟨Nat.le_trans HSZ.out (bb b off sp e).1, (bb b off sp e).2⟩)
              have FC := Lib.hid (show ∀ b off sp, ac = some ⟨b, off, sp⟩ → b ≠ q from fun b off sp e => by have := (bb b off sp e).1; have := KQ.out.size; omega)
              clear rr bb
              have KQ := Lib.hid (KQ.out.trans k)
              clear k
              refine hK9.out _ _ KK.out (fun hHeld60 => ?_)
              clear hK9 K9
              try simp only [Act.put, List.setIfInBounds_toArray, List.set_cons_zero, List.set_cons_succ]
              refine wpAnyH_take (i := 22) (v := ?_) (by rw [List.getElem?_toArray]; exact rfl) (by kernel_rfl) (by kernel_rfl) (by kernel_rfl) (by exact fun _ _ _ h => h) (Or.inl ⟨by rfl, (by intro W hSw; obtain ⟨q0, q1, q2, q3, q4⟩ := HC.out _ hSw; go_simp <;> with_reducible rfl)⟩) (by assumption) ?_
              try simp only [Act.put, List.setIfInBounds_toArray, List.set_cons_zero, List.set_cons_succ]
              refine wpAnyH_take (i := 23) (v := ?_) (by rw [List.getElem?_toArray]; exact rfl) (by kernel_rfl) (by kernel_rfl) (by kernel_rfl) (by exact fun _ _ _ h => h) (Or.inl ⟨by rfl, (by intro W hSw; obtain ⟨q0, q1, q2, q3, q4⟩ := HC.out _ hSw; go_simp <;> with_reducible rfl)⟩) (by assumption) ?_
              try simp only [Act.put, List.setIfInBounds_toArray, List.set_cons_zero, List.set_cons_succ]
              refine wpAnyH_ready (rs := [24]) (by kernel_rfl) (by simp) (AllReadyH.cons (by rw [List.getElem?_toArray]; exact rfl) (fun K9 hK9 => ?_) AllReadyH.nil)
              go_simp
              refine (soundA_bad _ _ _ HX.out).mono ?_
              rintro e9 w9 ⟨rfl, rfl⟩
              exact ⟨rfl, NodRes.bad (by rw [HV.out]) HX.out (K.out.trans KK.out)⟩
          · -- the block
            go_simp
            have HQ := Lib.hid (fresh5 wd (.string ⟨#[]⟩) (.slice none 0 0) (.slice none 0 0) (.slice none 0 0) (.bool false) 53)
            have hq : w1.heap.size ≤ wd.heap.size := KK.out.size
            obtain ⟨q, hqe⟩ : ∃ q, wd.heap.size = q := ⟨_, rfl⟩
            have hsz : (wd.alloc (.cells #[.string ⟨#[]⟩, .slice none 0 0, .slice none 0 0, .slice none 0 0, .bool false] 53)).heap.size = q + 1 := by rw [World.size_alloc, hqe]
            have KA := Lib.hid (kept_alloc wd (.cells #[.string ⟨#[]⟩, .slice none 0 0, .slice none 0 0, .slice none 0 0, .bool false] 53))
            rw [hqe] at HQ hq ⊢
            obtain ⟨wq62, hWQ⟩ : ∃ W, wd.alloc (.cells #[.string ⟨#[]⟩, .slice none 0 0, .slice none 0 0, .slice none 0 0, .bool false] 53) = W := ⟨_, rfl⟩
            rw [hWQ] at HQ hsz KA ⊢
            clear hWQ hqe
            have KK := Lib.hid (KK.out.trans KA.out)
            have KQ := Lib.hid (Kept.refl wq62)
            clear KA
            refine hK9.out _ _ KK.out (fun hHeld63 => ?_)
            clear hK9 K9
            try simp only [Act.put, List.setIfInBounds_toArray, List.set_cons_zero, List.set_cons_succ]
            refine wpAnyH_ready (rs := [3]) (by kernel_rfl) (by simp) (AllReadyH.cons (by rw [List.getElem?_toArray]; exact rfl) (fun K9 hK9 => ?_) AllReadyH.nil)
            go_simp
            refine (HCL.out _).mono ?_
            rintro e64 ww64 ⟨rfl, k⟩
            have HSZ := Lib.hid KK.out.size
            have KK := Lib.hid (KK.out.trans k)
            have KQ := Lib.hid (KQ.out.trans k)
            clear k
            refine hK9.out _ _ KK.out (fun hHeld65 => ?_)
            clear hK9 K9
            try simp only [Act.put, List.setIfInBounds_toArray, List.set_cons_zero, List.set_cons_succ]
            refine wpAnyH_ready (rs := [7]) (by kernel_rfl) (by simp) (AllReadyH.cons (by rw [List.getElem?_toArray]; exact rfl) (fun K9 hK9 => ?_) AllReadyH.nil)
            go_simp
            refine (H1.out _ (K.out.trans KK.out)).mono ?_
            rintro e66 ww66 ⟨aa, ma, ca, rfl, rr, bb, k⟩
            have HSZ := Lib.hid KK.out.size
            have KK := Lib.hid (KK.out.trans k)
            have RA := Lib.hid rr
            have BA := Lib.hid (show ∀ b off sp, aa = some ⟨b, off, sp⟩ → w1.heap.size ≤ b ∧ b < ww66.heap.size from fun b off sp e => ⟨Nat.le_trans HSZ.out (bb b off sp e).1, (bb b off sp e).2⟩)
            have FA := Lib.hid (show ∀ b off sp, aa = some ⟨b, off, sp⟩ → b ≠ q from fun b off sp e => by have := (bb b off sp e).1; have := KQ.out.size; omega)
            clear rr bb
            have KQ := Lib.hid (KQ.out.trans k)
            clear k
            refine hK9.out _ _ KK.out (fun hHeld67 => ?_)
            clear hK9 K9
            try simp only [Act.put, List.setIfInBounds_toArray, List.set_cons_zero, List.set_cons_succ]
            refine wpAnyH_take (i := 8) (v := ?_) (by rw [List.getElem?_toArray]; exact rfl) (by kernel_rfl) (by kernel_rfl) (by kernel_rfl) (by exact fun _ _ _ h => h) (Or.inl ⟨by rfl, (by intro W hSw; obtain ⟨q0, q1, q2, q3, q4⟩ := HC.out _ hSw; go_simp <;> with_reducible rfl)⟩) (by assumption) ?_
            try simp only [Act.put, List.setIfInBounds_toArray, List.set_cons_zero, List.set_cons_succ]
            refine wpAnyH_take (i := 9) (v := ?_) (by rw [List.getElem?_toArray]; exact rfl) (by kernel_rfl) (by kernel_rfl) (by kernel_rfl) (by exact fun _ _ _ h => h) (Or.inl ⟨by rfl, (by intro W hSw; obtain ⟨q0, q1, q2, q3, q4⟩ := HC.out _ hSw; go_simp <;> with_reducible rfl)⟩) (by assumption) ?_
            try simp only [Act.put, List.setIfInBounds_toArray, List.set_cons_zero, List.set_cons_succ]
            refine wpAnyH_ready (rs := [10]) (by kernel_rfl) (by simp) (AllReadyH.cons (by rw [List.getElem?_toArray]; exact rfl) (fun K9 hK9 => ?_) AllReadyH.nil)
            go_simp
            refine (soundV_ok _ _).mono ?_
            rintro e68 w68_ ⟨rfl, rfl⟩
            refine hK9.out _ _ KK.out (fun hHeld69 => ?_)
            clear hK9 K9
            try simp only [Act.put, List.setIfInBounds_toArray, List.set_cons_zero, List.set_cons_succ]
            refine wpAnyH_ready (rs := [14]) (by kernel_rfl) (by simp) (AllReadyH.cons (by rw [List.getElem?_toArray]; exact rfl) (fun K9 hK9 => ?_) AllReadyH.nil)
            go_simp
            refine (H2.out _ (K.out.trans KK.out)).mono ?_
            rintro e70 ww70 ⟨ab, mb, cb, rfl, rr, bb, k⟩
            have HSZ := Lib.hid KK.out.size
            have KK := Lib.hid (KK.out.trans k)
            have RA := Lib.hid (RA.out.kept k)
            have RB := Lib.hid rr
            have BB := Lib.hid (show ∀ b off sp, ab = some ⟨b, off, sp⟩ → w1.heap.size ≤ b ∧ b < ww70.heap.size from fun b off sp e => ⟨Nat.le_trans HSZ.out (bb b off sp e).1, (bb b off sp e).2⟩)
            have FB := Lib.hid (show ∀ b off sp, ab = some ⟨b, off, sp⟩ → b ≠ q from fun b off sp e => by have := (bb b off sp e).1; have := KQ.out.size; omega)
            clear rr bb
            have KQ := Lib.hid (KQ.out.trans k)
            clear k
            refine hK9.out _ _ KK.out (fun hHeld71 => ?_)
            clear hK9 K9
            try simp only [Act.put, List.setIfInBounds_toArray, List.set_cons_zero, List.set_cons_succ]
            refine wpAnyH_take (i := 15) (v := ?_) (by rw [List.getElem?_toArray]; exact rfl) (by kernel_rfl) (by kernel_rfl) (by kernel_rfl) (by exact fun _ _ _ h => h) (Or.inl ⟨by rfl, (by intro W hSw; obtain ⟨q0, q1, q2, q3, q4⟩ := HC.out _ hSw; go_simp <;> with_reducible rfl)⟩) (by assumption) ?_
            try simp only [Act.put, List.setIfInBounds_toArray, List.set_cons_zero, List.set_cons_succ]
            refine wpAnyH_take (i := 16) (v := ?_) (by rw [List.getElem?_toArray]; exact rfl) (by kernel_rfl) (by kernel_rfl) (by kernel_rfl) (by exact fun _ _ _ h => h) (Or.inl ⟨by rfl, (by intro W hSw; obtain ⟨q0, q1, q2, q3, q4⟩ := HC.out _ hSw; go_simp <;> with_reducible rfl)⟩) (by assumption) ?_
            try simp only [Act.put, List.setIfInBounds_toArray, List.set_cons_zero, List.set_cons_succ]
            refine wpAnyH_ready (rs := [17]) (by kernel_rfl) (by simp) (AllReadyH.cons (by rw [List.getElem?_toArray]; exact rfl) (fun K9 hK9 => ?_) AllReadyH.nil)
            go_simp
            refine (soundP_ok _ _).mono ?_
            rintro e72 w72_ ⟨rfl, rfl⟩
            refine hK9.out _ _ KK.out (fun hHeld73 => ?_)
            clear hK9 K9
            try simp only [Act.put, List.setIfInBounds_toArray, List.set_cons_zero, List.set_cons_succ]
            refine wpAnyH_ready (rs := [21]) (by kernel_rfl) (by simp) (AllReadyH.cons (by rw [List.getElem?_toArray]; exact rfl) (fun K9 hK9 => ?_) AllReadyH.nil)
            go_simp
            refine (H3.out _ (K.out.trans KK.out)).mono ?_
            rintro e74 ww74 ⟨ac, mc, cc, rfl, rr, bb, k⟩
            have HSZ := Lib.hid KK.out.size
            have KK := Lib.hid (KK.out.trans k)
            have RA := Lib.hid (RA.out.kept k)
            have RB := Lib.hid (RB.out.kept k)
            have RC := Lib.hid rr
            have BC := Lib.hid (show ∀ b off sp, ac = some ⟨b, off, sp⟩ → w1.heap.size ≤ b ∧ b < ww74.heap.size from fun b off sp e => ⟨Nat.le_trans HSZ.out (bb b off sp e).1, (bb b off sp e).2⟩)
            have FC := Lib.hid (show ∀ b off sp, ac = some ⟨b, off, sp⟩ → b ≠ q from fun b off sp e => by have := (bb b off sp e).1; have := KQ.out.size; omega)
            clear rr bb
            have KQ := Lib.hid (KQ.out.trans k)
            clear k
            refine hK9.out _ _ KK.out (fun hHeld75 => ?_)
            clear hK9 K9
            try simp only [Act.put, List.setIfInBounds_toArray, List.set_cons_zero, List.set_cons_succ]
            refine wpAnyH_take (i := 22) (v := ?_) (by rw [List.getElem?_toArray]; exact rfl) (by kernel_rfl) (by kernel_rfl) (by kernel_rfl) (by exact fun _ _ _ h => h) (Or.inl ⟨by rfl, (by intro W hSw; obtain ⟨q0, q1, q2, q3, q4⟩ := HC.out _ hSw; go_simp <;> with_reducible rfl)⟩) (by assumption) ?_
            try simp only [Act.put, List.setIfInBounds_toArray, List.set_cons_zero, List.set_cons_succ]
            refine wpAnyH_take (i := 23) (v := ?_) (by rw [List.getElem?_toArray]; exact rfl) (by kernel_rfl) (by kernel_rfl) (by kernel_rfl) (by exact fun _ _ _ h => h) (Or.inl ⟨by rfl, (by intro W hSw; obtain ⟨q0, q1, q2, q3, q4⟩ := HC.out _ hSw; go_simp <;> with_reducible rfl)⟩) (by assumption) ?_
            try simp only [Act.put, List.setIfInBounds_toArray, List.set_cons_zero, List.set_cons_succ]
            refine wpAnyH_ready (rs := [24]) (by kernel_rfl) (by simp) (AllReadyH.cons (by rw [List.getElem?_toArray]; exact rfl) (fun K9 hK9 => ?_) AllReadyH.nil)
            go_simp
            refine (soundA_bad _ _ _ HX.out).mono ?_
            rintro e9 w9 ⟨rfl, rfl⟩
            exact ⟨rfl, NodRes.bad (by rw [HV.out]) HX.out (K.out.trans KK.out)⟩
      · have HV := Lib.hid (show parseN s = (e2, Nod.zero) by rw [HFV.out, if_neg (by decide), if_pos z2])
        have HX := Lib.hid z2
        clear z2
        clear HFV
        go_enter Tryz.func119, Tryz.ntmps119
        go_wp2_with fail
        refine (HWD.out _ (kept_alloc _ _)).mono ?_
        rintro ee w1 ⟨g1, g2, k⟩
        obtain ⟨g, cap, rfl, hcells⟩ := g1 _ HW.out
        have K := Lib.hid ((kept_alloc _ _).trans k)
        have K1S := Lib.hid (show w.heap.size + 1 ≤ w1.heap.size by have := k.size; rw [World.size_alloc] at this; exact this)
        have HR0 := Lib.hid (zero_cells w w1 k)
        have HC := Lib.hid (show ∀ W, Kept w1 W → W.cell? ⟨g, 0, none⟩ = some (.string (bytes a)) ∧ W.cell? ⟨g, 1, none⟩ = some (.string (bytes b)) ∧ W.cell? ⟨g, 2, none⟩ = some (.string (bytes c)) ∧ W.cell? ⟨g, 3, none⟩ = some (.string (bytes d)) ∧ W.cell? ⟨g, 4, none⟩ = some (.string (bytes e)) from fun W k =>
          ⟨cell_later k (hcells 0 a rfl), cell_later k (hcells 1 b rfl), cell_later k (hcells 2 c rfl), cell_later k (hcells 3 d rfl), cell_later k (hcells 4 e rfl)⟩)
        clear g1 g2 k hcells HWD HW
        go_wp2
        refine wp_region_held_drew (S := fun W => Kept w1 W) (by kernel_rfl) (Kept.drew _) (fun hHeld => ?_)
        have KK := Lib.hid hHeld
        obtain ⟨wd, hwd⟩ : ∃ W, w1.drew = W := ⟨_, rfl⟩
        rw [hwd] at KK hHeld ⊢
        clear hwd
        refine wpAnyH_take (i := 0) (v := ?_) (by rw [List.getElem?_toArray]; exact rfl) (by kernel_rfl) (by kernel_rfl) (by kernel_rfl) (by exact fun _ _ _ h => h) (Or.inl ⟨by rfl, (by intro W hSw; obtain ⟨q0, q1, q2, q3, q4⟩ := HC.out _ hSw; go_simp <;> with_reducible rfl)⟩) (by assumption) ?_
        try simp only [Act.put, List.setIfInBounds_toArray, List.set_cons_zero, List.set_cons_succ]
        refine wpAnyH_take (i := 1) (v := ?_) (by rw [List.getElem?_toArray]; exact rfl) (by kernel_rfl) (by kernel_rfl) (by kernel_rfl) (by exact fun _ _ _ h => h) (Or.inl ⟨by rfl, (by intro W hSw; obtain ⟨q0, q1, q2, q3, q4⟩ := HC.out _ hSw; go_simp <;> with_reducible rfl)⟩) (by assumption) ?_
        try simp only [Act.put, List.setIfInBounds_toArray, List.set_cons_zero, List.set_cons_succ]
        refine wpAnyH_take (i := 2) (v := ?_) (by rw [List.getElem?_toArray]; exact rfl) (by kernel_rfl) (by kernel_rfl) (by kernel_rfl) (by exact fun _ _ _ h => h) (Or.inl ⟨by rfl, (by intro W hSw; obtain ⟨q0, q1, q2, q3, q4⟩ := HC.out _ hSw; go_simp <;> with_reducible rfl)⟩) (by assumption) ?_
        try simp only [Act.put, List.setIfInBounds_toArray, List.set_cons_zero, List.set_cons_succ]
        refine wpAnyH_take (i := 4) (v := ?_) (by rw [List.getElem?_toArray]; exact rfl) (by kernel_rfl) (by kernel_rfl) (by kernel_rfl) (by exact fun _ _ _ h => h) (Or.inl ⟨by rfl, (by intro W hSw; obtain ⟨q0, q1, q2, q3, q4⟩ := HC.out _ hSw; go_simp <;> with_reducible rfl)⟩) (by assumption) ?_
        try simp only [Act.put, List.setIfInBounds_toArray, List.set_cons_zero, List.set_cons_succ]
        refine wpAnyH_take (i := 5) (v := ?_) (by rw [List.getElem?_toArray]; exact rfl) (by kernel_rfl) (by kernel_rfl) (by kernel_rfl) (by exact fun _ _ _ h => h) (Or.inl ⟨by rfl, (by intro W hSw; obtain ⟨q0, q1, q2, q3, q4⟩ := HC.out _ hSw; go_simp <;> with_reducible rfl)⟩) (by assumption) ?_
        try simp only [Act.put, List.setIfInBounds_toArray, List.set_cons_zero, List.set_cons_succ]
        refine wpAnyH_take (i := 6) (v := ?_) (by rw [List.getElem?_toArray]; exact rfl) (by kernel_rfl) (by kernel_rfl) (by kernel_rfl) (by exact fun _ _ _ h => h) (Or.inl ⟨by rfl, (by intro W hSw; obtain ⟨q0, q1, q2, q3, q4⟩ := HC.out _ hSw; go_simp <;> with_reducible rfl)⟩) (by assumption) ?_
        try simp only [Act.put, List.setIfInBounds_toArray, List.set_cons_zero, List.set_cons_succ]
        refine wpAnyH_take (i := 11) (v := ?_) (by rw [List.getElem?_toArray]; exact rfl) (by kernel_rfl) (by kernel_rfl) (by kernel_rfl) (by exact fun _ _ _ h => h) (Or.inl ⟨by rfl, (by intro W hSw; obtain ⟨q0, q1, q2, q3, q4⟩ := HC.out _ hSw; go_simp <;> with_reducible rfl)⟩) (by assumption) ?_
        try simp only [Act.put, List.setIfInBounds_toArray, List.set_cons_zero, List.set_cons_succ]
        refine wpAnyH_take (i := 12) (v := ?_) (by rw [List.getElem?_toArray]; exact rfl) (by kernel_rfl) (by kernel_rfl) (by kernel_rfl) (by exact fun _ _ _ h => h) (Or.inl ⟨by rfl, (by intro W hSw; obtain ⟨q0, q1, q2, q3, q4⟩ := HC.out _ hSw; go_simp <;> with_reducible rfl)⟩) (by assumption) ?_
        try simp only [Act.put, List.setIfInBounds_toArray, List.set_cons_zero, List.set_cons_succ]
        refine wpAnyH_take (i := 13) (v := ?_) (by rw [List.getElem?_toArray]; exact rfl) (by kernel_rfl) (by kernel_rfl) (by kernel_rfl) (by exact fun _ _ _ h => h) (Or.inl ⟨by rfl, (by intro W hSw; obtain ⟨q0, q1, q2, q3, q4⟩ := HC.out _ hSw; go_simp <;> with_reducible rfl)⟩) (by assumption) ?_
        try simp only [Act.put, List.setIfInBounds_toArray, List.set_cons_zero, List.set_cons_succ]
        refine wpAnyH_take (i := 18) (v := ?_) (by rw [List.getElem?_toArray]; exact rfl) (by kernel_rfl) (by kernel_rfl) (by kernel_rfl) (by exact fun _ _ _ h => h) (Or.inl ⟨by rfl, (by intro W hSw; obtain ⟨q0, q1, q2, q3, q4⟩ := HC.out _ hSw; go_simp <;> with_reducible rfl)⟩) (by assumption) ?_
        try simp only [Act.put, List.setIfInBounds_toArray, List.set_cons_zero, List.set_cons_succ]
        refine wpAnyH_take (i := 19) (v := ?_) (by rw [List.getElem?_toArray]; exact rfl) (by kernel_rfl) (by kernel_rfl) (by kernel_rfl) (by exact fun _ _ _ h => h) (Or.inl ⟨by rfl, (by intro W hSw; obtain ⟨q0, q1, q2, q3, q4⟩ := HC.out _ hSw; go_simp <;> with_reducible rfl)⟩) (by assumption) ?_
        try simp only [Act.put, List.setIfInBounds_toArray, List.set_cons_zero, List.set_cons_succ]
        refine wpAnyH_take (i := 20) (v := ?_) (by rw [List.getElem?_toArray]; exact rfl) (by kernel_rfl) (by kernel_rfl) (by kernel_rfl) (by exact fun _ _ _ h => h) (Or.inl ⟨by rfl, (by intro W hSw; obtain ⟨q0, q1, q2, q3, q4⟩ := HC.out _ hSw; go_simp <;> with_reducible rfl)⟩) (by assumption) ?_
        try simp only [Act.put, List.setIfInBounds_toArray, List.set_cons_zero, List.set_cons_succ]
        refine wpAnyH_take (i := 25) (v := ?_) (by rw [List.getElem?_toArray]; exact rfl) (by kernel_rfl) (by kernel_rfl) (by kernel_rfl) (by exact fun _ _ _ h => h) (Or.inl ⟨by rfl, (by intro W hSw; obtain ⟨q0, q1, q2, q3, q4⟩ := HC.out _ hSw; go_simp <;> with_reducible rfl)⟩) (by assumption) ?_
        try simp only [Act.put, List.setIfInBounds_toArray, List.set_cons_zero, List.set_cons_succ]
        refine wpAnyH_take (i := 26) (v := ?_) (by rw [List.getElem?_toArray]; exact rfl) (by kernel_rfl) (by kernel_rfl) (by kernel_rfl) (by exact fun _ _ _ h => h) (Or.inl ⟨by rfl, (by intro W hSw; obtain ⟨q0, q1, q2, q3, q4⟩ := HC.out _ hSw; go_simp <;> with_reducible rfl)⟩) (by assumption) ?_
        try simp only [Act.put, List.setIfInBounds_toArray, List.set_cons_zero, List.set_cons_succ]
        refine wpAnyH_take (i := 27) (v := ?_) (by rw [List.getElem?_toArray]; exact rfl) (by kernel_rfl) (by kernel_rfl) (by kernel_rfl) (by exact fun _ _ _ h => h) (Or.inl ⟨by rfl, (by intro W hSw; obtain ⟨q0, q1, q2, q3, q4⟩ := HC.out _ hSw; go_simp <;> with_reducible rfl)⟩) (by assumption) ?_
        try simp only [Act.put, List.setIfInBounds_toArray, List.set_cons_zero, List.set_cons_succ]
        refine wpAnyH_take (i := 28) (v := ?_) (by rw [List.getElem?_toArray]; exact rfl) (by kernel_rfl) (by kernel_rfl) (by kernel_rfl) (by exact fun _ _ _ h => h) (Or.inl ⟨by rfl, (by intro W hSw; obtain ⟨q0, q1, q2, q3, q4⟩ := HC.out _ hSw; go_simp <;> with_reducible rfl)⟩) (by assumption) ?_
        try simp only [Act.put, List.setIfInBounds_toArray, List.set_cons_zero, List.set_cons_succ]
        refine wpAnyH_ready (rs := [3, 30]) (by kernel_rfl) (by simp) (AllReadyH.cons (by rw [List.getElem?_toArray]; exact rfl) (fun K9 hK9 => ?_) (AllReadyH.cons (by rw [List.getElem?_toArray]; exact rfl) (fun K9 hK9 => ?_) AllReadyH.nil))
        · -- the call
          go_simp
          refine (HCL.out _).mono ?_
          rintro e1 ww1 ⟨rfl, k⟩
          have HSZ := Lib.hid KK.out.size
          have KK := Lib.hid (KK.out.trans k)
          clear k
          refine hK9.out _ _ KK.out (fun hHeld2 => ?_)
          clear hK9 K9
          try simp only [Act.put, List.setIfInBounds_toArray, List.set_cons_zero, List.set_cons_succ]
          refine wpAnyH_ready (rs := [7, 30]) (by kernel_rfl) (by simp) (AllReadyH.cons (by rw [List.getElem?_toArray]; exact rfl) (fun K9 hK9 => ?_) (AllReadyH.cons (by rw [List.getElem?_toArray]; exact rfl) (fun K9 hK9 => ?_) AllReadyH.nil))
          · -- the call
            go_simp
            refine (H1.out _ (K.out.trans KK.out)).mono ?_
            rintro e3 ww3 ⟨aa, ma, ca, rfl, rr, bb, k⟩
            have HSZ := Lib.hid KK.out.size
            have KK := Lib.hid (KK.out.trans k)
            have RA := Lib.hid rr
            have BA := Lib.hid (show ∀ b off sp, aa = some ⟨b, off, sp⟩ → w1.heap.size ≤ b ∧ b < ww3.heap.size from fun b off sp e => ⟨Nat.le_trans HSZ.out (bb b off sp e).1, (bb b off sp e).2⟩)
            clear rr bb
            clear k
            refine hK9.out _ _ KK.out (fun hHeld4 => ?_)
            clear hK9 K9
            try simp only [Act.put, List.setIfInBounds_toArray, List.set_cons_zero, List.set_cons_succ]
            refine wpAnyH_take (i := 8) (v := ?_) (by rw [List.getElem?_toArray]; exact rfl) (by kernel_rfl) (by kernel_rfl) (by kernel_rfl) (by exact fun _ _ _ h => h) (Or.inl ⟨by rfl, (by intro W hSw; obtain ⟨q0, q1, q2, q3, q4⟩ := HC.out _ hSw; go_simp <;> with_reducible rfl)⟩) (by assumption) ?_
            try simp only [Act.put, List.setIfInBounds_toArray, List.set_cons_zero, List.set_cons_succ]
            refine wpAnyH_take (i := 9) (v := ?_) (by rw [List.getElem?_toArray]; exact rfl) (by kernel_rfl) (by kernel_rfl) (by kernel_rfl) (by exact fun _ _ _ h => h) (Or.inl ⟨by rfl, (by intro W hSw; obtain ⟨q0, q1, q2, q3, q4⟩ := HC.out _ hSw; go_simp <;> with_reducible rfl)⟩) (by assumption) ?_
            try simp only [Act.put, List.setIfInBounds_toArray, List.set_cons_zero, List.set_cons_succ]
            refine wpAnyH_ready (rs := [10, 30]) (by kernel_rfl) (by simp) (AllReadyH.cons (by rw [List.getElem?_toArray]; exact rfl) (fun K9 hK9 => ?_) (AllReadyH.cons (by rw [List.getElem?_toArray]; exact rfl) (fun K9 hK9 => ?_) AllReadyH.nil))
            · -- the call
              go_simp
              refine (soundV_ok _ _).mono ?_
              rintro e5 w5_ ⟨rfl, rfl⟩
              refine hK9.out _ _ KK.out (fun hHeld6 => ?_)
              clear hK9 K9
              try simp only [Act.put, List.setIfInBounds_toArray, List.set_cons_zero, List.set_cons_succ]
              refine wpAnyH_ready (rs := [14, 30]) (by kernel_rfl) (by simp) (AllReadyH.cons (by rw [List.getElem?_toArray]; exact rfl) (fun K9 hK9 => ?_) (AllReadyH.cons (by rw [List.getElem?_toArray]; exact rfl) (fun K9 hK9 => ?_) AllReadyH.nil))
              · -- the call
                go_simp
                refine (H2.out _ (K.out.trans KK.out)).mono ?_
                rintro e7 ww7 ⟨ab, mb, cb, rfl, rr, bb, k⟩
                have HSZ := Lib.hid KK.out.size
                have KK := Lib.hid (KK.out.trans k)
                have RA := Lib.hid (RA.out.kept k)
                have RB := Lib.hid rr
                have BB := Lib.hid (show ∀ b off sp, ab = some ⟨b, off, sp⟩ → w1.heap.size ≤ b ∧ b < ww7.heap.size from fun b off sp e => ⟨Nat.le_trans HSZ.out (bb b off sp e).1, (bb b off sp e).2⟩)
                clear rr bb
                have BA := Lib.hid (show ∀ b off sp, aa = some ⟨b, off, sp⟩ → w1.heap.size ≤ b ∧ b < ww7.heap.size from fun b off sp e => ⟨(BA.out b off sp e).1, Nat.lt_of_lt_of_le (BA.out b off sp e).2 k.size⟩)
                clear k
                refine hK9.out _ _ KK.out (fun hHeld8 => ?_)
                clear hK9 K9
                try simp only [Act.put, List.setIfInBounds_toArray, List.set_cons_zero, List.set_cons_succ]
                refine wpAnyH_take (i := 15) (v := ?_) (by rw [List.getElem?_toArray]; exact rfl) (by kernel_rfl) (by kernel_rfl) (by kernel_rfl) (by exact fun _ _ _ h => h) (Or.inl ⟨by rfl, (by intro W hSw; obtain ⟨q0, q1, q2, q3, q4⟩ := HC.out _ hSw; go_simp <;> with_reducible rfl)⟩) (by assumption) ?_
                try simp only [Act.put, List.setIfInBounds_toArray, List.set_cons_zero, List.set_cons_succ]
                refine wpAnyH_take (i := 16) (v := ?_) (by rw [List.getElem?_toArray]; exact rfl) (by kernel_rfl) (by kernel_rfl) (by kernel_rfl) (by exact fun _ _ _ h => h) (Or.inl ⟨by rfl, (by intro W hSw; obtain ⟨q0, q1, q2, q3, q4⟩ := HC.out _ hSw; go_simp <;> with_reducible rfl)⟩) (by assumption) ?_
                try simp only [Act.put, List.setIfInBounds_toArray, List.set_cons_zero, List.set_cons_succ]
                refine wpAnyH_ready (rs := [17, 30]) (by kernel_rfl) (by simp) (AllReadyH.cons (by rw [List.getElem?_toArray]; exact rfl) (fun K9 hK9 => ?_) (AllReadyH.cons (by rw [List.getElem?_toArray]; exact rfl) (fun K9 hK9 => ?_) AllReadyH.nil))
                · -- the call
                  go_simp
                  refine (soundP_bad _ _ _ HX.out).mono ?_
                  rintro e9 w9 ⟨rfl, rfl⟩
                  exact ⟨rfl, NodRes.bad (by rw [HV.out]) HX.out (K.out.trans KK.out)⟩
                · -- the block
                  go_simp
                  have HQ := Lib.hid (fresh5 ww7 (.string ⟨#[]⟩) (.slice none 0 0) (.slice none 0 0) (.slice none 0 0) (.bool false) 53)
                  have hq : w1.heap.size ≤ ww7.heap.size := KK.out.size
                  obtain ⟨q, hqe⟩ : ∃ q, ww7.heap.size = q := ⟨_, rfl⟩
                  have FA := Lib.hid (show ∀ b off sp, aa = some ⟨b, off, sp⟩ → b ≠ q from fun b off sp e => by have := (BA.out b off sp e).2; omega)
                  have FB := Lib.hid (show ∀ b off sp, ab = some ⟨b, off, sp⟩ → b ≠ q from fun b off sp e => by have := (BB.out b off sp e).2; omega)
                  have hsz : (ww7.alloc (.cells #[.string ⟨#[]⟩, .slice none 0 0, .slice none 0 0, .slice none 0 0, .bool false] 53)).heap.size = q + 1 := by rw [World.size_alloc, hqe]
                  have KA := Lib.hid (kept_alloc ww7 (.cells #[.string ⟨#[]⟩, .slice none 0 0, .slice none 0 0, .slice none 0 0, .bool false] 53))
                  rw [hqe] at HQ hq ⊢
                  obtain ⟨wq10, hWQ⟩ : ∃ W, ww7.alloc (.cells #[.string ⟨#[]⟩, .slice none 0 0, .slice none 0 0, .slice none 0 0, .bool false] 53) = W := ⟨_, rfl⟩
                  rw [hWQ] at HQ hsz KA ⊢
                  clear hWQ hqe
                  have KK := Lib.hid (KK.out.trans KA.out)
                  have KQ := Lib.hid (Kept.refl wq10)
                  have RA := Lib.hid (RA.out.kept KA.out)
                  have RB := Lib.hid (RB.out.kept KA.out)
                  clear KA
                  refine hK9.out _ _ KK.out (fun hHeld11 => ?_)
                  clear hK9 K9
                  try simp only [Act.put, List.setIfInBounds_toArray, List.set_cons_zero, List.set_cons_succ]
                  refine wpAnyH_ready (rs := [17]) (by kernel_rfl) (by simp) (AllReadyH.cons (by rw [List.getElem?_toArray]; exact rfl) (fun K9 hK9 => ?_) AllReadyH.nil)
                  go_simp
                  refine (soundP_bad _ _ _ HX.out).mono ?_
                  rintro e9 w9 ⟨rfl, rfl⟩
                  exact ⟨rfl, NodRes.bad (by rw [HV.out]) HX.out (K.out.trans KK.out)⟩
              · -- the block
                go_simp
                have HQ := Lib.hid (fresh5 ww3 (.string ⟨#[]⟩) (.slice none 0 0) (.slice none 0 0) (.slice none 0 0) (.bool false) 53)
                have hq : w1.heap.size ≤ ww3.heap.size := KK.out.size
                obtain ⟨q, hqe⟩ : ∃ q, ww3.heap.size = q := ⟨_, rfl⟩
                have FA := Lib.hid (show ∀ b off sp, aa = some ⟨b, off, sp⟩ → b ≠ q from fun b off sp e => by have := (BA.out b off sp e).2; omega)
                have hsz : (ww3.alloc (.cells #[.string ⟨#[]⟩, .slice none 0 0, .slice none 0 0, .slice none 0 0, .bool false] 53)).heap.size = q + 1 := by rw [World.size_alloc, hqe]
                have KA := Lib.hid (kept_alloc ww3 (.cells #[.string ⟨#[]⟩, .slice none 0 0, .slice none 0 0, .slice none 0 0, .bool false] 53))
                rw [hqe] at HQ hq ⊢
                obtain ⟨wq13, hWQ⟩ : ∃ W, ww3.alloc (.cells #[.string ⟨#[]⟩, .slice none 0 0, .slice none 0 0, .slice none 0 0, .bool false] 53) = W := ⟨_, rfl⟩
                rw [hWQ] at HQ hsz KA ⊢
                clear hWQ hqe
                have KK := Lib.hid (KK.out.trans KA.out)
                have KQ := Lib.hid (Kept.refl wq13)
                have RA := Lib.hid (RA.out.kept KA.out)
                clear KA
                refine hK9.out _ _ KK.out (fun hHeld14 => ?_)
                clear hK9 K9
                try simp only [Act.put, List.setIfInBounds_toArray, List.set_cons_zero, List.set_cons_succ]
                refine wpAnyH_ready (rs := [14]) (by kernel_rfl) (by simp) (AllReadyH.cons (by rw [List.getElem?_toArray]; exact rfl) (fun K9 hK9 => ?_) AllReadyH.nil)
                go_simp
                refine (H2.out _ (K.out.trans KK.out)).mono ?_
                rintro e15 ww15 ⟨ab, mb, cb, rfl, rr, bb, k⟩
                have HSZ := Lib.hid KK.out.size
                have KK := Lib.hid (KK.out.trans k)
                have RA := Lib.hid (RA.out.kept k)
                have RB := Lib.hid rr
                have BB := Lib.hid (show ∀ b off sp, ab = some ⟨b, off, sp⟩ → w1.heap.size ≤ b ∧ b < ww15.heap.size from fun b off sp e => ⟨Nat.le_trans HSZ.out (bb b off sp e).1, (bb b off sp e).2⟩)
                have FB := Lib.hid (show ∀ b off sp, ab = some ⟨b, off, sp⟩ → b ≠ q from fun b off sp e => by have := (bb b off sp e).1; have := KQ.out.size; omega)
                clear rr bb
                have KQ := Lib.hid (KQ.out.trans k)
                clear k
                refine hK9.out _ _ KK.out (fun hHeld16 => ?_)
                clear hK9 K9
                try simp only [Act.put, List.setIfInBounds_toArray, List.set_cons_zero, List.set_cons_succ]
                refine wpAnyH_take (i := 15) (v := ?_) (by rw [List.getElem?_toArray]; exact rfl) (by kernel_rfl) (by kernel_rfl) (by kernel_rfl) (by exact fun _ _ _ h => h) (Or.inl ⟨by rfl, (by intro W hSw; obtain ⟨q0, q1, q2, q3, q4⟩ := HC.out _ hSw; go_simp <;> with_reducible rfl)⟩) (by assumption) ?_
                try simp only [Act.put, List.setIfInBounds_toArray, List.set_cons_zero, List.set_cons_succ]
                refine wpAnyH_take (i := 16) (v := ?_) (by rw [List.getElem?_toArray]; exact rfl) (by kernel_rfl) (by kernel_rfl) (by kernel_rfl) (by exact fun _ _ _ h => h) (Or.inl ⟨by rfl, (by intro W hSw; obtain ⟨q0, q1, q2, q3, q4⟩ := HC.out _ hSw; go_simp <;> with_reducible rfl)⟩) (by assumption) ?_
                try simp only [Act.put, List.setIfInBounds_toArray, List.set_cons_zero, List.set_cons_succ]
                refine wpAnyH_ready (rs := [17]) (by kernel_rfl) (by simp) (AllReadyH.cons (by rw [List.getElem?_toArray]; exact rfl) (fun K9 hK9 => ?_) AllReadyH.nil)
                go_simp
                refine (soundP_bad _ _ _ HX.out).mono ?_
                rintro e9 w9 ⟨rfl, rfl⟩
                exact ⟨rfl, NodRes.bad (by rw [HV.out]) HX.out (K.out.trans KK.out)⟩
            · -- the block
              go_simp
              have HQ := Lib.hid (fresh5 ww3 (.string ⟨#[]⟩) (.slice none 0 0) (.slice none 0 0) (.slice none 0 0) (.bool false) 53)
              have hq : w1.heap.size ≤ ww3.heap.size := KK.out.size
              obtain ⟨q, hqe⟩ : ∃ q, ww3.heap.size = q := ⟨_, rfl⟩
              have FA := Lib.hid (show ∀ b off sp, aa = some ⟨b, off, sp⟩ → b ≠ q from fun b off sp e => by have := (BA.out b off sp e).2; omega)
              have hsz : (ww3.alloc (.cells #[.string ⟨#[]⟩, .slice none 0 0, .slice none 0 0, .slice none 0 0, .bool false] 53)).heap.size = q + 1 := by rw [World.size_alloc, hqe]
              have KA := Lib.hid (kept_alloc ww3 (.cells #[.string ⟨#[]⟩, .slice none 0 0, .slice none 0 0, .slice none 0 0, .bool false] 53))
              rw [hqe] at HQ hq ⊢
              obtain ⟨wq18, hWQ⟩ : ∃ W, ww3.alloc (.cells #[.string ⟨#[]⟩, .slice none 0 0, .slice none 0 0, .slice none 0 0, .bool false] 53) = W := ⟨_, rfl⟩
              rw [hWQ] at HQ hsz KA ⊢
              clear hWQ hqe
              have KK := Lib.hid (KK.out.trans KA.out)
              have KQ := Lib.hid (Kept.refl wq18)
              have RA := Lib.hid (RA.out.kept KA.out)
              clear KA
              refine hK9.out _ _ KK.out (fun hHeld19 => ?_)
              clear hK9 K9
              try simp only [Act.put, List.setIfInBounds_toArray, List.set_cons_zero, List.set_cons_succ]
              refine wpAnyH_ready (rs := [10]) (by kernel_rfl) (by simp) (AllReadyH.cons (by rw [List.getElem?_toArray]; exact rfl) (fun K9 hK9 => ?_) AllReadyH.nil)
              go_simp
              refine (soundV_ok _ _).mono ?_
              rintro e20 w20_ ⟨rfl, rfl⟩
              refine hK9.out _ _ KK.out (fun hHeld21 => ?_)
              clear hK9 K9
              try simp only [Act.put, List.setIfInBounds_toArray, List.set_cons_zero, List.set_cons_succ]
              refine wpAnyH_ready (rs := [14]) (by kernel_rfl) (by simp) (AllReadyH.cons (by rw [List.getElem?_toArray]; exact rfl) (fun K9 hK9 => ?_) AllReadyH.nil)
              go_simp
              refine (H2.out _ (K.out.trans KK.out)).mono ?_
              rintro e22 ww22 ⟨ab, mb, cb, rfl, rr, bb, k⟩
              have HSZ := Lib.hid KK.out.size
              have KK := Lib.hid (KK.out.trans k)
              have RA := Lib.hid (RA.out.kept k)
              have RB := Lib.hid rr
              have BB := Lib.hid (show ∀ b off sp, ab = some ⟨b, off, sp⟩ → w1.heap.size ≤ b ∧ b < ww22.heap.size from fun b off sp e => ⟨Nat.le_trans HSZ.out (bb b off sp e).1, (bb b off sp e).2⟩)
              have FB := Lib.hid (show ∀ b off sp, ab = some ⟨b, off, sp⟩ → b ≠ q from fun b off sp e => by have := (bb b off sp e).1; have := KQ.out.size; omega)
              clear rr bb
              have KQ := Lib.hid (KQ.out.trans k)
              clear k
              refine hK9.out _ _ KK.out (fun hHeld23 => ?_)
              clear hK9 K9
              try simp only [Act.put, List.setIfInBounds_toArray, List.set_cons_zero, List.set_cons_succ]
              refine wpAnyH_take (i := 15) (v := ?_) (by rw [List.getElem?_toArray]; exact rfl) (by kernel_rfl) (by kernel_rfl) (by kernel_rfl) (by exact fun _ _ _ h => h) (Or.inl ⟨by rfl, (by intro W hSw; obtain ⟨q0, q1, q2, q3, q4⟩ := HC.out _ hSw; go_simp <;> with_reducible rfl)⟩) (by assumption) ?_
              try simp only [Act.put, List.setIfInBounds_toArray, List.set_cons_zero, List.set_cons_succ]
              refine wpAnyH_take (i := 16) (v := ?_) (by rw [List.getElem?_toArray]; exact rfl) (by kernel_rfl) (by kernel_rfl) (by kernel_rfl) (by exact fun _ _ _ h => h) (Or.inl ⟨by rfl, (by intro W hSw; obtain ⟨q0, q1, q2, q3, q4⟩ := HC.out _ hSw; go_simp <;> with_reducible rfl)⟩) (by assumption) ?_
              try simp only [Act.put, List.setIfInBounds_toArray, List.set_cons_zero, List.set_cons_succ]
              refine wpAnyH_ready (rs := [17]) (by kernel_rfl) (by simp) (AllReadyH.cons (by rw [List.getElem?_toArray]; exact rfl) (fun K9 hK9 => ?_) AllReadyH.nil)
              go_simp
              refine (soundP_bad _ _ _ HX.out).mono ?_
              rintro e9 w9 ⟨rfl, rfl⟩
              exact ⟨rfl, NodRes.bad (by rw [HV.out]) HX.out (K.out.trans KK.out)⟩
          · -- the block
            go_simp
            have HQ := Lib.hid (fresh5 ww1 (.string ⟨#[]⟩) (.slice none 0 0) (.slice none 0 0) (.slice none 0 0) (.bool false) 53)
            have hq : w1.heap.size ≤ ww1.heap.size := KK.out.size
            obtain ⟨q, hqe⟩ : ∃ q, ww1.heap.size = q := ⟨_, rfl⟩
            have hsz : (ww1.alloc (.cells #[.string ⟨#[]⟩, .slice none 0 0, .slice none 0 0, .slice none 0 0, .bool false] 53)).heap.size = q + 1 := by rw [World.size_alloc, hqe]
            have KA := Lib.hid (kept_alloc ww1 (.cells #[.string ⟨#[]⟩, .slice none 0 0, .slice none 0 0, .slice none 0 0, .bool false] 53))
            rw [hqe] at HQ hq ⊢
            obtain ⟨wq25, hWQ⟩ : ∃ W, ww1.alloc (.cells #[.string ⟨#[]⟩, .slice none 0 0, .slice none 0 0, .slice none 0 0, .bool false] 53) = W := ⟨_, rfl⟩
            rw [hWQ] at HQ hsz KA ⊢
            clear hWQ hqe
            have KK := Lib.hid (KK.out.trans KA.out)
            have KQ := Lib.hid (Kept.refl wq25)
            clear KA
            refine hK9.out _ _ KK.out (fun hHeld26 => ?_)
            clear hK9 K9
            try simp only [Act.put, List.setIfInBounds_toArray, List.set_cons_zero, List.set_cons_succ]
            refine wpAnyH_ready (rs := [7]) (by kernel_rfl) (by simp) (AllReadyH.cons (by rw [List.getElem?_toArray]; exact rfl) (fun K9 hK9 => ?_) AllReadyH.nil)
            go_simp
            refine (H1.out _ (K.out.trans KK.out)).mono ?_
            rintro e27 ww27 ⟨aa, ma, ca, rfl, rr, bb, k⟩
            have HSZ := Lib.hid KK.out.size
            have KK := Lib.hid (KK.out.trans k)
            have RA := Lib.hid rr
            have BA := Lib.hid (show ∀ b off sp, aa = some ⟨b, off, sp⟩ → w1.heap.size ≤ b ∧ b < ww27.heap.size from fun b off sp e => ⟨Nat.le_trans HSZ.out (bb b off sp e).1, (bb b off sp e).2⟩)
            have FA := Lib.hid (show ∀ b off sp, aa = some ⟨b, off, sp⟩ → b ≠ q from fun b off sp e => by have := (bb b off sp e).1; have := KQ.out.size; omega)
            clear rr bb
            have KQ := Lib.hid (KQ.out.trans k)
            clear k
            refine hK9.out _ _ KK.out (fun hHeld28 => ?_)
            clear hK9 K9
            try simp only [Act.put, List.setIfInBounds_toArray, List.set_cons_zero, List.set_cons_succ]
            refine wpAnyH_take (i := 8) (v := ?_) (by rw [List.getElem?_toArray]; exact rfl) (by kernel_rfl) (by kernel_rfl) (by kernel_rfl) (by exact fun _ _ _ h => h) (Or.inl ⟨by rfl, (by intro W hSw; obtain ⟨q0, q1, q2, q3, q4⟩ := HC.out _ hSw; go_simp <;> with_reducible rfl)⟩) (by assumption) ?_
            try simp only [Act.put, List.setIfInBounds_toArray, List.set_cons_zero, List.set_cons_succ]
            refine wpAnyH_take (i := 9) (v := ?_) (by rw [List.getElem?_toArray]; exact rfl) (by kernel_rfl) (by kernel_rfl) (by kernel_rfl) (by exact fun _ _ _ h => h) (Or.inl ⟨by rfl, (by intro W hSw; obtain ⟨q0, q1, q2, q3, q4⟩ := HC.out _ hSw; go_simp <;> with_reducible rfl)⟩) (by assumption) ?_
            try simp only [Act.put, List.setIfInBounds_toArray, List.set_cons_zero, List.set_cons_succ]
            refine wpAnyH_ready (rs := [10]) (by kernel_rfl) (by simp) (AllReadyH.cons (by rw [List.getElem?_toArray]; exact rfl) (fun K9 hK9 => ?_) AllReadyH.nil)
            go_simp
            refine (soundV_ok _ _).mono ?_
            rintro e29 w29_ ⟨rfl, rfl⟩
            refine hK9.out _ _ KK.out (fun hHeld30 => ?_)
            clear hK9 K9
            try simp only [Act.put, List.setIfInBounds_toArray, List.set_cons_zero, List.set_cons_succ]
            refine wpAnyH_ready (rs := [14]) (by kernel_rfl) (by simp) (AllReadyH.cons (by rw [List.getElem?_toArray]; exact rfl) (fun K9 hK9 => ?_) AllReadyH.nil)
            go_simp
            refine (H2.out _ (K.out.trans KK.out)).mono ?_
            rintro e31 ww31 ⟨ab, mb, cb, rfl, rr, bb, k⟩
            have HSZ := Lib.hid KK.out.size
            have KK := Lib.hid (KK.out.trans k)
            have RA := Lib.hid (RA.out.kept k)
            have RB := Lib.hid rr
            have BB := Lib.hid (show ∀ b off sp, ab = some ⟨b, off, sp⟩ → w1.heap.size ≤ b ∧ b < ww31.heap.size from fun b off sp e => ⟨Nat.le_trans HSZ.out (bb b off sp e).1, (bb b off sp e).2⟩)
            have FB := Lib.hid (show ∀ b off sp, ab = some ⟨b, off, sp⟩ → b ≠ q from fun b off sp e => by have := (bb b off sp e).1; have := KQ.out.size; omega)
            clear rr bb
            have KQ := Lib.hid (KQ.out.trans k)
            clear k
            refine hK9.out _ _ KK.out (fun hHeld32 => ?_)
            clear hK9 K9
            try simp only [Act.put, List.setIfInBounds_toArray, List.set_cons_zero, List.set_cons_succ]
            refine wpAnyH_take (i := 15) (v := ?_) (by rw [List.getElem?_toArray]; exact rfl) (by kernel_rfl) (by kernel_rfl) (by kernel_rfl) (by exact fun _ _ _ h => h) (Or.inl ⟨by rfl, (by intro W hSw; obtain ⟨q0, q1, q2, q3, q4⟩ := HC.out _ hSw; go_simp <;> with_reducible rfl)⟩) (by assumption) ?_
            try simp only [Act.put, List.setIfInBounds_toArray, List.set_cons_zero, List.set_cons_succ]
            refine wpAnyH_take (i := 16) (v := ?_) (by rw [List.getElem?_toArray]; exact rfl) (by kernel_rfl) (by kernel_rfl) (by kernel_rfl) (by exact fun _ _ _ h => h) (Or.inl ⟨by rfl, (by intro W hSw; obtain ⟨q0, q1, q2, q3, q4⟩ := HC.out _ hSw; go_simp <;> with_reducible rfl)⟩) (by assumption) ?_
            try simp only [Act.put, List.setIfInBounds_toArray, List.set_cons_zero, List.set_cons_succ]
            refine wpAnyH_ready (rs := [17]) (by kernel_rfl) (by simp) (AllReadyH.cons (by rw [List.getElem?_toArray]; exact rfl) (fun K9 hK9 => ?_) AllReadyH.nil)
            go_simp
            refine (soundP_bad _ _ _ HX.out).mono ?_
            rintro e9 w9 ⟨rfl, rfl⟩
            exact ⟨rfl, NodRes.bad (by rw [HV.out]) HX.out (K.out.trans KK.out)⟩
        · -- the block
          go_simp
          have HQ := Lib.hid (fresh5 wd (.string ⟨#[]⟩) (.slice none 0 0) (.slice none 0 0) (.slice none 0 0) (.bool false) 53)
          have hq : w1.heap.size ≤ wd.heap.size := KK.out.size
          obtain ⟨q, hqe⟩ : ∃ q, wd.heap.size = q := ⟨_, rfl⟩
          have hsz : (wd.alloc (.cells #[.string ⟨#[]⟩, .slice none 0 0, .slice none 0 0, .slice none 0 0, .bool false] 53)).heap.size = q + 1 := by rw [World.size_alloc, hqe]
          have KA := Lib.hid (kept_alloc wd (.cells #[.string ⟨#[]⟩, .slice none 0 0, .slice none 0 0, .slice none 0 0, .bool false] 53))
          rw [hqe] at HQ hq ⊢
          obtain ⟨wq34, hWQ⟩ : ∃ W, wd.alloc (.cells #[.string ⟨#[]⟩, .slice none 0 0, .slice none 0 0, .slice none 0 0, .bool false] 53) = W := ⟨_, rfl⟩
          rw [hWQ] at HQ hsz KA ⊢
          clear hWQ hqe
          have KK := Lib.hid (KK.out.trans KA.out)
          have KQ := Lib.hid (Kept.refl wq34)
          clear KA
          refine hK9.out _ _ KK.out (fun hHeld35 => ?_)
          clear hK9 K9
          try simp only [Act.put, List.setIfInBounds_toArray, List.set_cons_zero, List.set_cons_succ]
          refine wpAnyH_ready (rs := [3]) (by kernel_rfl) (by simp) (AllReadyH.cons (by rw [List.getElem?_toArray]; exact rfl) (fun K9 hK9 => ?_) AllReadyH.nil)
          go_simp
          refine (HCL.out _).mono ?_
          rintro e36 ww36 ⟨rfl, k⟩
          have HSZ := Lib.hid KK.out.size
          have KK := Lib.hid (KK.out.trans k)
          have KQ := Lib.hid (KQ.out.trans k)
          clear k
          refine hK9.out _ _ KK.out (fun hHeld37 => ?_)
          clear hK9 K9
          try simp only [Act.put, List.setIfInBounds_toArray, List.set_cons_zero, List.set_cons_succ]
          refine wpAnyH_ready (rs := [7]) (by kernel_rfl) (by simp) (AllReadyH.cons (by rw [List.getElem?_toArray]; exact rfl) (fun K9 hK9 => ?_) AllReadyH.nil)
          go_simp
          refine (H1.out _ (K.out.trans KK.out)).mono ?_
          rintro e38 ww38 ⟨aa, ma, ca, rfl, rr, bb, k⟩
          have HSZ := Lib.hid KK.out.size
          have KK := Lib.hid (KK.out.trans k)
          have RA := Lib.hid rr
          have BA := Lib.hid (show ∀ b off sp, aa = some ⟨b, off, sp⟩ → w1.heap.size ≤ b ∧ b < ww38.heap.size from fun b off sp e => ⟨Nat.le_trans HSZ.out (bb b off sp e).1, (bb b off sp e).2⟩)
          have FA := Lib.hid (show ∀ b off sp, aa = some ⟨b, off, sp⟩ → b ≠ q from fun b off sp e => by have := (bb b off sp e).1; have := KQ.out.size; omega)
          clear rr bb
          have KQ := Lib.hid (KQ.out.trans k)
          clear k
          refine hK9.out _ _ KK.out (fun hHeld39 => ?_)
          clear hK9 K9
          try simp only [Act.put, List.setIfInBounds_toArray, List.set_cons_zero, List.set_cons_succ]
          refine wpAnyH_take (i := 8) (v := ?_) (by rw [List.getElem?_toArray]; exact rfl) (by kernel_rfl) (by kernel_rfl) (by kernel_rfl) (by exact fun _ _ _ h => h) (Or.inl ⟨by rfl, (by intro W hSw; obtain ⟨q0, q1, q2, q3, q4⟩ := HC.out _ hSw; go_simp <;> with_reducible rfl)⟩) (by assumption) ?_
          try simp only [Act.put, List.setIfInBounds_toArray, List.set_cons_zero, List.set_cons_succ]
          refine wpAnyH_take (i := 9) (v := ?_) (by rw [List.getElem?_toArray]; exact rfl) (by kernel_rfl) (by kernel_rfl) (by kernel_rfl) (by exact fun _ _ _ h => h) (Or.inl ⟨by rfl, (by intro W hSw; obtain ⟨q0, q1, q2, q3, q4⟩ := HC.out _ hSw; go_simp <;> with_reducible rfl)⟩) (by assumption) ?_
          try simp only [Act.put, List.setIfInBounds_toArray, List.set_cons_zero, List.set_cons_succ]
          refine wpAnyH_ready (rs := [10]) (by kernel_rfl) (by simp) (AllReadyH.cons (by rw [List.getElem?_toArray]; exact rfl) (fun K9 hK9 => ?_) AllReadyH.nil)
          go_simp
          refine (soundV_ok _ _).mono ?_
          rintro e40 w40_ ⟨rfl, rfl⟩
          refine hK9.out _ _ KK.out (fun hHeld41 => ?_)
          clear hK9 K9
          try simp only [Act.put, List.setIfInBounds_toArray, List.set_cons_zero, List.set_cons_succ]
          refine wpAnyH_ready (rs := [14]) (by kernel_rfl) (by simp) (AllReadyH.cons (by rw [List.getElem?_toArray]; exact rfl) (fun K9 hK9 => ?_) AllReadyH.nil)
          go_simp
          refine (H2.out _ (K.out.trans KK.out)).mono ?_
          rintro e42 ww42 ⟨ab, mb, cb, rfl, rr, bb, k⟩
          have HSZ := Lib.hid KK.out.size
          have KK := Lib.hid (KK.out.trans k)
          have RA := Lib.hid (RA.out.kept k)
          have RB := Lib.hid rr
          have BB := Lib.hid (show ∀ b off sp, ab = some ⟨b, off, sp⟩ → w1.heap.size ≤ b ∧ b < ww42.heap.size from fun b off sp e => ⟨Nat.le_trans HSZ.out (bb b off sp e).1, (bb b off sp e).2⟩)
          have FB := Lib.hid (show ∀ b off sp, ab = some ⟨b, off, sp⟩ → b ≠ q from fun b off sp e => by have := (bb b off sp e).1; have := KQ.out.size; omega)
          clear rr bb
          have KQ := Lib.hid (KQ.out.trans k)
          clear k
          refine hK9.out _ _ KK.out (fun hHeld43 => ?_)
          clear hK9 K9
          try simp only [Act.put, List.setIfInBounds_toArray, List.set_cons_zero, List.set_cons_succ]
          refine wpAnyH_take (i := 15) (v := ?_) (by rw [List.getElem?_toArray]; exact rfl) (by kernel_rfl) (by kernel_rfl) (by kernel_rfl) (by exact fun _ _ _ h => h) (Or.inl ⟨by rfl, (by intro W hSw; obtain ⟨q0, q1, q2, q3, q4⟩ := HC.out _ hSw; go_simp <;> with_reducible rfl)⟩) (by assumption) ?_
          try simp only [Act.put, List.setIfInBounds_toArray, List.set_cons_zero, List.set_cons_succ]
          refine wpAnyH_take (i := 16) (v := ?_) (by rw [List.getElem?_toArray]; exact rfl) (by kernel_rfl) (by kernel_rfl) (by kernel_rfl) (by exact fun _ _ _ h => h) (Or.inl ⟨by rfl, (by intro W hSw; obtain ⟨q0, q1, q2, q3, q4⟩ := HC.out _ hSw; go_simp <;> with_reducible rfl)⟩) (by assumption) ?_
          try simp only [Act.put, List.setIfInBounds_toArray, List.set_cons_zero, List.set_cons_succ]
          refine wpAnyH_ready (rs := [17]) (by kernel_rfl) (by simp) (AllReadyH.cons (by rw [List.getElem?_toArray]; exact rfl) (fun K9 hK9 => ?_) AllReadyH.nil)
          go_simp
          refine (soundP_bad _ _ _ HX.out).mono ?_
          rintro e9 w9 ⟨rfl, rfl⟩
          exact ⟨rfl, NodRes.bad (by rw [HV.out]) HX.out (K.out.trans KK.out)⟩
    · have HV := Lib.hid (show parseN s = (e1, Nod.zero) by rw [HFV.out, if_pos z1])
      have HX := Lib.hid z1
      clear z1
      clear HFV
      go_enter Tryz.func119, Tryz.ntmps119
      go_wp2_with fail
      refine (HWD.out _ (kept_alloc _ _)).mono ?_
      rintro ee w1 ⟨g1, g2, k⟩
      obtain ⟨g, cap, rfl, hcells⟩ := g1 _ HW.out
      have K := Lib.hid ((kept_alloc _ _).trans k)
      have K1S := Lib.hid (show w.heap.size + 1 ≤ w1.heap.size by have := k.size; rw [World.size_alloc] at this; exact this)
      have HR0 := Lib.hid (zero_cells w w1 k)
      have HC := Lib.hid (show ∀ W, Kept w1 W → W.cell? ⟨g, 0, none⟩ = some (.string (bytes a)) ∧ W.cell? ⟨g, 1, none⟩ = some (.string (bytes b)) ∧ W.cell? ⟨g, 2, none⟩ = some (.string (bytes c)) ∧ W.cell? ⟨g, 3, none⟩ = some (.string (bytes d)) ∧ W.cell? ⟨g, 4, none⟩ = some (.string (bytes e)) from fun W k =>
        ⟨cell_later k (hcells 0 a rfl), cell_later k (hcells 1 b rfl), cell_later k (hcells 2 c rfl), cell_later k (hcells 3 d rfl), cell_later k (hcells 4 e rfl)⟩)
      clear g1 g2 k hcells HWD HW
      go_wp2
      refine wp_region_held_drew (S := fun W => Kept w1 W) (by kernel_rfl) (Kept.drew _) (fun hHeld => ?_)
      have KK := Lib.hid hHeld
      obtain ⟨wd, hwd⟩ : ∃ W, w1.drew = W := ⟨_, rfl⟩
      rw [hwd] at KK hHeld ⊢
      clear hwd
      refine wpAnyH_take (i := 0) (v := ?_) (by rw [List.getElem?_toArray]; exact rfl) (by kernel_rfl) (by kernel_rfl) (by kernel_rfl) (by exact fun _ _ _ h => h) (Or.inl ⟨by rfl, (by intro W hSw; obtain ⟨q0, q1, q2, q3, q4⟩ := HC.out _ hSw; go_simp <;> with_reducible rfl)⟩) (by assumption) ?_
      try simp only [Act.put, List.setIfInBounds_toArray, List.set_cons_zero, List.set_cons_succ]
      refine wpAnyH_take (i := 1) (v := ?_) (by rw [List.getElem?_toArray]; exact rfl) (by kernel_rfl) (by kernel_rfl) (by kernel_rfl) (by exact fun _ _ _ h => h) (Or.inl ⟨by rfl, (by intro W hSw; obtain ⟨q0, q1, q2, q3, q4⟩ := HC.out _ hSw; go_simp <;> with_reducible rfl)⟩) (by assumption) ?_
      try simp only [Act.put, List.setIfInBounds_toArray, List.set_cons_zero, List.set_cons_succ]
      refine wpAnyH_take (i := 2) (v := ?_) (by rw [List.getElem?_toArray]; exact rfl) (by kernel_rfl) (by kernel_rfl) (by kernel_rfl) (by exact fun _ _ _ h => h) (Or.inl ⟨by rfl, (by intro W hSw; obtain ⟨q0, q1, q2, q3, q4⟩ := HC.out _ hSw; go_simp <;> with_reducible rfl)⟩) (by assumption) ?_
      try simp only [Act.put, List.setIfInBounds_toArray, List.set_cons_zero, List.set_cons_succ]
      refine wpAnyH_take (i := 4) (v := ?_) (by rw [List.getElem?_toArray]; exact rfl) (by kernel_rfl) (by kernel_rfl) (by kernel_rfl) (by exact fun _ _ _ h => h) (Or.inl ⟨by rfl, (by intro W hSw; obtain ⟨q0, q1, q2, q3, q4⟩ := HC.out _ hSw; go_simp <;> with_reducible rfl)⟩) (by assumption) ?_
      try simp only [Act.put, List.setIfInBounds_toArray, List.set_cons_zero, List.set_cons_succ]
      refine wpAnyH_take (i := 5) (v := ?_) (by rw [List.getElem?_toArray]; exact rfl) (by kernel_rfl) (by kernel_rfl) (by kernel_rfl) (by exact fun _ _ _ h => h) (Or.inl ⟨by rfl, (by intro W hSw; obtain ⟨q0, q1, q2, q3, q4⟩ := HC.out _ hSw; go_simp <;> with_reducible rfl)⟩) (by assumption) ?_
      try simp only [Act.put, List.setIfInBounds_toArray, List.set_cons_zero, List.set_cons_succ]
      refine wpAnyH_take (i := 6) (v := ?_) (by rw [List.getElem?_toArray]; exact rfl) (by kernel_rfl) (by kernel_rfl) (by kernel_rfl) (by exact fun _ _ _ h => h) (Or.inl ⟨by rfl, (by intro W hSw; obtain ⟨q0, q1, q2, q3, q4⟩ := HC.out _ hSw; go_simp <;> with_reducible rfl)⟩) (by assumption) ?_
      try simp only [Act.put, List.setIfInBounds_toArray, List.set_cons_zero, List.set_cons_succ]
      refine wpAnyH_take (i := 11) (v := ?_) (by rw [List.getElem?_toArray]; exact rfl) (by kernel_rfl) (by kernel_rfl) (by kernel_rfl) (by exact fun _ _ _ h => h) (Or.inl ⟨by rfl, (by intro W hSw; obtain ⟨q0, q1, q2, q3, q4⟩ := HC.out _ hSw; go_simp <;> with_reducible rfl)⟩) (by assumption) ?_
      try simp only [Act.put, List.setIfInBounds_toArray, List.set_cons_zero, List.set_cons_succ]
      refine wpAnyH_take (i := 12) (v := ?_) (by rw [List.getElem?_toArray]; exact rfl) (by kernel_rfl) (by kernel_rfl) (by kernel_rfl) (by exact fun _ _ _ h => h) (Or.inl ⟨by rfl, (by intro W hSw; obtain ⟨q0, q1, q2, q3, q4⟩ := HC.out _ hSw; go_simp <;> with_reducible rfl)⟩) (by assumption) ?_
      try simp only [Act.put, List.setIfInBounds_toArray, List.set_cons_zero, List.set_cons_succ]
      refine wpAnyH_take (i := 13) (v := ?_) (by rw [List.getElem?_toArray]; exact rfl) (by kernel_rfl) (by kernel_rfl) (by kernel_rfl) (by exact fun _ _ _ h => h) (Or.inl ⟨by rfl, (by intro W hSw; obtain ⟨q0, q1, q2, q3, q4⟩ := HC.out _ hSw; go_simp <;> with_reducible rfl)⟩) (by assumption) ?_
      try simp only [Act.put, List.setIfInBounds_toArray, List.set_cons_zero, List.set_cons_succ]
      refine wpAnyH_take (i := 18) (v := ?_) (by rw [List.getElem?_toArray]; exact rfl) (by kernel_rfl) (by kernel_rfl) (by kernel_rfl) (by exact fun _ _ _ h => h) (Or.inl ⟨by rfl, (by intro W hSw; obtain ⟨q0, q1, q2, q3, q4⟩ := HC.out _ hSw; go_simp <;> with_reducible rfl)⟩) (by assumption) ?_
      try simp only [Act.put, List.setIfInBounds_toArray, List.set_cons_zero, List.set_cons_succ]
      refine wpAnyH_take (i := 19) (v := ?_) (by rw [List.getElem?_toArray]; exact rfl) (by kernel_rfl) (by kernel_rfl) (by kernel_rfl) (by exact fun _ _ _ h => h) (Or.inl ⟨by rfl, (by intro W hSw; obtain ⟨q0, q1, q2, q3, q4⟩ := HC.out _ hSw; go_simp <;> with_reducible rfl)⟩) (by assumption) ?_
      try simp only [Act.put, List.setIfInBounds_toArray, List.set_cons_zero, List.set_cons_succ]
      refine wpAnyH_take (i := 20) (v := ?_) (by rw [List.getElem?_toArray]; exact rfl) (by kernel_rfl) (by kernel_rfl) (by kernel_rfl) (by exact fun _ _ _ h => h) (Or.inl ⟨by rfl, (by intro W hSw; obtain ⟨q0, q1, q2, q3, q4⟩ := HC.out _ hSw; go_simp <;> with_reducible rfl)⟩) (by assumption) ?_
      try simp only [Act.put, List.setIfInBounds_toArray, List.set_cons_zero, List.set_cons_succ]
      refine wpAnyH_take (i := 25) (v := ?_) (by rw [List.getElem?_toArray]; exact rfl) (by kernel_rfl) (by kernel_rfl) (by kernel_rfl) (by exact fun _ _ _ h => h) (Or.inl ⟨by rfl, (by intro W hSw; obtain ⟨q0, q1, q2, q3, q4⟩ := HC.out _ hSw; go_simp <;> with_reducible rfl)⟩) (by assumption) ?_
      try simp only [Act.put, List.setIfInBounds_toArray, List.set_cons_zero, List.set_cons_succ]
      refine wpAnyH_take (i := 26) (v := ?_) (by rw [List.getElem?_toArray]; exact rfl) (by kernel_rfl) (by kernel_rfl) (by kernel_rfl) (by exact fun _ _ _ h => h) (Or.inl ⟨by rfl, (by intro W hSw; obtain ⟨q0, q1, q2, q3, q4⟩ := HC.out _ hSw; go_simp <;> with_reducible rfl)⟩) (by assumption) ?_
      try simp only [Act.put, List.setIfInBounds_toArray, List.set_cons_zero, List.set_cons_succ]
      refine wpAnyH_take (i := 27) (v := ?_) (by rw [List.getElem?_toArray]; exact rfl) (by kernel_rfl) (by kernel_rfl) (by kernel_rfl) (by exact fun _ _ _ h => h) (Or.inl ⟨by rfl, (by intro W hSw; obtain ⟨q0, q1, q2, q3, q4⟩ := HC.out _ hSw; go_simp <;> with_reducible rfl)⟩) (by assumption) ?_
      try simp only [Act.put, List.setIfInBounds_toArray, List.set_cons_zero, List.set_cons_succ]
      refine wpAnyH_take (i := 28) (v := ?_) (by rw [List.getElem?_toArray]; exact rfl) (by kernel_rfl) (by kernel_rfl) (by kernel_rfl) (by exact fun _ _ _ h => h) (Or.inl ⟨by rfl, (by intro W hSw; obtain ⟨q0, q1, q2, q3, q4⟩ := HC.out _ hSw; go_simp <;> with_reducible rfl)⟩) (by assumption) ?_
      try simp only [Act.put, List.setIfInBounds_toArray, List.set_cons_zero, List.set_cons_succ]
      refine wpAnyH_ready (rs := [3, 30]) (by kernel_rfl) (by simp) (AllReadyH.cons (by rw [List.getElem?_toArray]; exact rfl) (fun K9 hK9 => ?_) (AllReadyH.cons (by rw [List.getElem?_toArray]; exact rfl) (fun K9 hK9 => ?_) AllReadyH.nil))
      · -- the call
        go_simp
        refine (HCL.out _).mono ?_
        rintro e1 ww1 ⟨rfl, k⟩
        have HSZ := Lib.hid KK.out.size
        have KK := Lib.hid (KK.out.trans k)
        clear k
        refine hK9.out _ _ KK.out (fun hHeld2 => ?_)
        clear hK9 K9
        try simp only [Act.put, List.setIfInBounds_toArray, List.set_cons_zero, List.set_cons_succ]
        refine wpAnyH_ready (rs := [7, 30]) (by kernel_rfl) (by simp) (AllReadyH.cons (by rw [List.getElem?_toArray]; exact rfl) (fun K9 hK9 => ?_) (AllReadyH.cons (by rw [List.getElem?_toArray]; exact rfl) (fun K9 hK9 => ?_) AllReadyH.nil))
        · -- the call
          go_simp
          refine (H1.out _ (K.out.trans KK.out)).mono ?_
          rintro e3 ww3 ⟨aa, ma, ca, rfl, rr, bb, k⟩
          have HSZ := Lib.hid KK.out.size
          have KK := Lib.hid (KK.out.trans k)
          have RA := Lib.hid rr
          have BA := Lib.hid (show ∀ b off sp, aa = some ⟨b, off, sp⟩ → w1.heap.size ≤ b ∧ b < ww3.heap.size from fun b off sp e => ⟨Nat.le_trans HSZ.out (bb b off sp e).1, (bb b off sp e).2⟩)
          clear rr bb
          clear k
          refine hK9.out _ _ KK.out (fun hHeld4 => ?_)
          clear hK9 K9
          try simp only [Act.put, List.setIfInBounds_toArray, List.set_cons_zero, List.set_cons_succ]
          refine wpAnyH_take (i := 8) (v := ?_) (by rw [List.getElem?_toArray]; exact rfl) (by kernel_rfl) (by kernel_rfl) (by kernel_rfl) (by exact fun _ _ _ h => h) (Or.inl ⟨by rfl, (by intro W hSw; obtain ⟨q0, q1, q2, q3, q4⟩ := HC.out _ hSw; go_simp <;> with_reducible rfl)⟩) (by assumption) ?_
          try simp only [Act.put, List.setIfInBounds_toArray, List.set_cons_zero, List.set_cons_succ]
          refine wpAnyH_take (i := 9) (v := ?_) (by rw [List.getElem?_toArray]; exact rfl) (by kernel_rfl) (by kernel_rfl) (by kernel_rfl) (by exact fun _ _ _ h => h) (Or.inl ⟨by rfl, (by intro W hSw; obtain ⟨q0, q1, q2, q3, q4⟩ := HC.out _ hSw; go_simp <;> with_reducible rfl)⟩) (by assumption) ?_
          try simp only [Act.put, List.setIfInBounds_toArray, List.set_cons_zero, List.set_cons_succ]
          refine wpAnyH_ready (rs := [10, 30]) (by kernel_rfl) (by simp) (AllReadyH.cons (by rw [List.getElem?_toArray]; exact rfl) (fun K9 hK9 => ?_) (AllReadyH.cons (by rw [List.getElem?_toArray]; exact rfl) (fun K9 hK9 => ?_) AllReadyH.nil))
          · -- the call
            go_simp
            refine (soundV_bad _ _ _ HX.out).mono ?_
            rintro e9 w9 ⟨rfl, rfl⟩
            exact ⟨rfl, NodRes.bad (by rw [HV.out]) HX.out (K.out.trans KK.out)⟩
          · -- the block
            go_simp
            have HQ := Lib.hid (fresh5 ww3 (.string ⟨#[]⟩) (.slice none 0 0) (.slice none 0 0) (.slice none 0 0) (.bool false) 53)
            have hq : w1.heap.size ≤ ww3.heap.size := KK.out.size
            obtain ⟨q, hqe⟩ : ∃ q, ww3.heap.size = q := ⟨_, rfl⟩
            have FA := Lib.hid (show ∀ b off sp, aa = some ⟨b, off, sp⟩ → b ≠ q from fun b off sp e => by have := (BA.out b off sp e).2; omega)
            have hsz : (ww3.alloc (.cells #[.string ⟨#[]⟩, .slice none 0 0, .slice none 0 0, .slice none 0 0, .bool false] 53)).heap.size = q + 1 := by rw [World.size_alloc, hqe]
            have KA := Lib.hid (kept_alloc ww3 (.cells #[.string ⟨#[]⟩, .slice none 0 0, .slice none 0 0, .slice none 0 0, .bool false] 53))
            rw [hqe] at HQ hq ⊢
            obtain ⟨wq6, hWQ⟩ : ∃ W, ww3.alloc (.cells #[.string ⟨#[]⟩, .slice none 0 0, .slice none 0 0, .slice none 0 0, .bool false] 53) = W := ⟨_, rfl⟩
            rw [hWQ] at HQ hsz KA ⊢
            clear hWQ hqe
            have KK := Lib.hid (KK.out.trans KA.out)
            have KQ := Lib.hid (Kept.refl wq6)
            have RA := Lib.hid (RA.out.kept KA.out)
            clear KA
            refine hK9.out _ _ KK.out (fun hHeld7 => ?_)
            clear hK9 K9
            try simp only [Act.put, List.setIfInBounds_toArray, List.set_cons_zero, List.set_cons_succ]
            refine wpAnyH_ready (rs := [10]) (by kernel_rfl) (by simp) (AllReadyH.cons (by rw [List.getElem?_toArray]; exact rfl) (fun K9 hK9 => ?_) AllReadyH.nil)
            go_simp
            refine (soundV_bad _ _ _ HX.out).mono ?_
            rintro e9 w9 ⟨rfl, rfl⟩
            exact ⟨rfl, NodRes.bad (by rw [HV.out]) HX.out (K.out.trans KK.out)⟩
        · -- the block
          go_simp
          have HQ := Lib.hid (fresh5 ww1 (.string ⟨#[]⟩) (.slice none 0 0) (.slice none 0 0) (.slice none 0 0) (.bool false) 53)
          have hq : w1.heap.size ≤ ww1.heap.size := KK.out.size
          obtain ⟨q, hqe⟩ : ∃ q, ww1.heap.size = q := ⟨_, rfl⟩
          have hsz : (ww1.alloc (.cells #[.string ⟨#[]⟩, .slice none 0 0, .slice none 0 0, .slice none 0 0, .bool false] 53)).heap.size = q + 1 := by rw [World.size_alloc, hqe]
          have KA := Lib.hid (kept_alloc ww1 (.cells #[.string ⟨#[]⟩, .slice none 0 0, .slice none 0 0, .slice none 0 0, .bool false] 53))
          rw [hqe] at HQ hq ⊢
          obtain ⟨wq9, hWQ⟩ : ∃ W, ww1.alloc (.cells #[.string ⟨#[]⟩, .slice none 0 0, .slice none 0 0, .slice none 0 0, .bool false] 53) = W := ⟨_, rfl⟩
          rw [hWQ] at HQ hsz KA ⊢
          clear hWQ hqe
          have KK := Lib.hid (KK.out.trans KA.out)
          have KQ := Lib.hid (Kept.refl wq9)
          clear KA
          refine hK9.out _ _ KK.out (fun hHeld10 => ?_)
          clear hK9 K9
          try simp only [Act.put, List.setIfInBounds_toArray, List.set_cons_zero, List.set_cons_succ]
          refine wpAnyH_ready (rs := [7]) (by kernel_rfl) (by simp) (AllReadyH.cons (by rw [List.getElem?_toArray]; exact rfl) (fun K9 hK9 => ?_) AllReadyH.nil)
          go_simp
          refine (H1.out _ (K.out.trans KK.out)).mono ?_
          rintro e11 ww11 ⟨aa, ma, ca, rfl, rr, bb, k⟩
          have HSZ := Lib.hid KK.out.size
          have KK := Lib.hid (KK.out.trans k)
          have RA := Lib.hid rr
          have BA := Lib.hid (show ∀ b off sp, aa = some ⟨b, off, sp⟩ → w1.heap.size ≤ b ∧ b < ww11.heap.size from fun b off sp e => ⟨Nat.le_trans HSZ.out (bb b off sp e).1, (bb b off sp e).2⟩)
          have FA := Lib.hid (show ∀ b off sp, aa = some ⟨b, off, sp⟩ → b ≠ q from fun b off sp e => by have := (bb b off sp e).1; have := KQ.out.size; omega)
          clear rr bb
          have KQ := Lib.hid (KQ.out.trans k)
          clear k
          refine hK9.out _ _ KK.out (fun hHeld12 => ?_)
          clear hK9 K9
          try simp only [Act.put, List.setIfInBounds_toArray, List.set_cons_zero, List.set_cons_succ]
          refine wpAnyH_take (i := 8) (v := ?_) (by rw [List.getElem?_toArray]; exact rfl) (by kernel_rfl) (by kernel_rfl) (by kernel_rfl) (by exact fun _ _ _ h => h) (Or.inl ⟨by rfl, (by intro W hSw; obtain ⟨q0, q1, q2, q3, q4⟩ := HC.out _ hSw; go_simp <;> with_reducible rfl)⟩) (by assumption) ?_
          try simp only [Act.put, List.setIfInBounds_toArray, List.set_cons_zero, List.set_cons_succ]
          refine wpAnyH_take (i := 9) (v := ?_) (by rw [List.getElem?_toArray]; exact rfl) (by kernel_rfl) (by kernel_rfl) (by kernel_rfl) (by exact fun _ _ _ h => h) (Or.inl ⟨by rfl, (by intro W hSw; obtain ⟨q0, q1, q2, q3, q4⟩ := HC.out _ hSw; go_simp <;> with_reducible rfl)⟩) (by assumption) ?_
          try simp only [Act.put, List.setIfInBounds_toArray, List.set_cons_zero, List.set_cons_succ]
          refine wpAnyH_ready (rs := [10]) (by kernel_rfl) (by simp) (AllReadyH.cons (by rw [List.getElem?_toArray]; exact rfl) (fun K9 hK9 => ?_) AllReadyH.nil)
          go_simp
          refine (soundV_bad _ _ _ HX.out).mono ?_
          rintro e9 w9 ⟨rfl, rfl⟩
          exact ⟨rfl, NodRes.bad (by rw [HV.out]) HX.out (K.out.trans KK.out)⟩
      · -- the block
        go_simp
        have HQ := Lib.hid (fresh5 wd (.string ⟨#[]⟩) (.slice none 0 0) (.slice none 0 0) (.slice none 0 0) (.bool false) 53)
        have hq : w1.heap.size ≤ wd.heap.size := KK.out.size
        obtain ⟨q, hqe⟩ : ∃ q, wd.heap.size = q := ⟨_, rfl⟩
        have hsz : (wd.alloc (.cells #[.string ⟨#[]⟩, .slice none 0 0, .slice none 0 0, .slice none 0 0, .bool false] 53)).heap.size = q + 1 := by rw [World.size_alloc, hqe]
        have KA := Lib.hid (kept_alloc wd (.cells #[.string ⟨#[]⟩, .slice none 0 0, .slice none 0 0, .slice none 0 0, .bool false] 53))
        rw [hqe] at HQ hq ⊢
        obtain ⟨wq14, hWQ⟩ : ∃ W, wd.alloc (.cells #[.string ⟨#[]⟩, .slice none 0 0, .slice none 0 0, .slice none 0 0, .bool false] 53) = W := ⟨_, rfl⟩
        rw [hWQ] at HQ hsz KA ⊢
        clear hWQ hqe
        have KK := Lib.hid (KK.out.trans KA.out)
        have KQ := Lib.hid (Kept.refl wq14)
        clear KA
        refine hK9.out _ _ KK.out (fun hHeld15 => ?_)
        clear hK9 K9
        try simp only [Act.put, List.setIfInBounds_toArray, List.set_cons_zero, List.set_cons_succ]
        refine wpAnyH_ready (rs := [3]) (by kernel_rfl) (by simp) (AllReadyH.cons (by rw [List.getElem?_toArray]; exact rfl) (fun K9 hK9 => ?_) AllReadyH.nil)
        go_simp
        refine (HCL.out _).mono ?_
        rintro e16 ww16 ⟨rfl, k⟩
        have HSZ := Lib.hid KK.out.size
        have KK := Lib.hid (KK.out.trans k)
        have KQ := Lib.hid (KQ.out.trans k)
        clear k
        refine hK9.out _ _ KK.out (fun hHeld17 => ?_)
        clear hK9 K9
        try simp only [Act.put, List.setIfInBounds_toArray, List.set_cons_zero, List.set_cons_succ]
        refine wpAnyH_ready (rs := [7]) (by kernel_rfl) (by simp) (AllReadyH.cons (by rw [List.getElem?_toArray]; exact rfl) (fun K9 hK9 => ?_) AllReadyH.nil)
        go_simp
        refine (H1.out _ (K.out.trans KK.out)).mono ?_
        rintro e18 ww18 ⟨aa, ma, ca, rfl, rr, bb, k⟩
        have HSZ := Lib.hid KK.out.size
        have KK := Lib.hid (KK.out.trans k)
        have RA := Lib.hid rr
        have BA := Lib.hid (show ∀ b off sp, aa = some ⟨b, off, sp⟩ → w1.heap.size ≤ b ∧ b < ww18.heap.size from fun b off sp e => ⟨Nat.le_trans HSZ.out (bb b off sp e).1, (bb b off sp e).2⟩)
        have FA := Lib.hid (show ∀ b off sp, aa = some ⟨b, off, sp⟩ → b ≠ q from fun b off sp e => by have := (bb b off sp e).1; have := KQ.out.size; omega)
        clear rr bb
        have KQ := Lib.hid (KQ.out.trans k)
        clear k
        refine hK9.out _ _ KK.out (fun hHeld19 => ?_)
        clear hK9 K9
        try simp only [Act.put, List.setIfInBounds_toArray, List.set_cons_zero, List.set_cons_succ]
        refine wpAnyH_take (i := 8) (v := ?_) (by rw [List.getElem?_toArray]; exact rfl) (by kernel_rfl) (by kernel_rfl) (by kernel_rfl) (by exact fun _ _ _ h => h) (Or.inl ⟨by rfl, (by intro W hSw; obtain ⟨q0, q1, q2, q3, q4⟩ := HC.out _ hSw; go_simp <;> with_reducible rfl)⟩) (by assumption) ?_
        try simp only [Act.put, List.setIfInBounds_toArray, List.set_cons_zero, List.set_cons_succ]
        refine wpAnyH_take (i := 9) (v := ?_) (by rw [List.getElem?_toArray]; exact rfl) (by kernel_rfl) (by kernel_rfl) (by kernel_rfl) (by exact fun _ _ _ h => h) (Or.inl ⟨by rfl, (by intro W hSw; obtain ⟨q0, q1, q2, q3, q4⟩ := HC.out _ hSw; go_simp <;> with_reducible rfl)⟩) (by assumption) ?_
        try simp only [Act.put, List.setIfInBounds_toArray, List.set_cons_zero, List.set_cons_succ]
        refine wpAnyH_ready (rs := [10]) (by kernel_rfl) (by simp) (AllReadyH.cons (by rw [List.getElem?_toArray]; exact rfl) (fun K9 hK9 => ?_) AllReadyH.nil)
        go_simp
        refine (soundV_bad _ _ _ HX.out).mono ?_
        rintro e9 w9 ⟨rfl, rfl⟩
        exact ⟨rfl, NodRes.bad (by rw [HV.out]) HX.out (K.out.trans KK.out)⟩

end Go.Proofs.YtppbbgppooblfaaGreatDoor
