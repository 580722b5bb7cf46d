/- BudgetCounts: the walk. -/
import Derived.Test.YtflllkpnkcmegaaGreatDoorBudA
import Derived.Test.YtflllkpnkcmegaaGreatDoorPodsRow
import Derived.Test.YtflllkpnkcmegaaGreatDoorLimSw
import Derived.OpenShut
namespace Go.Proofs.YtflllkpnkcmegaaGreatDoor.Bc
open Go.RowKit
set_option linter.unusedVariables false

def nmC (j : Nat) : List UInt8 := [112, UInt8.ofNat (97 + j)]
def ndC (b : Bool) : ByteArray := if b = true then ⟨#[110]⟩ else ⟨#[]⟩
def pdC (j : Nat) (b : Bool) : Pd := ⟨bytes (nmC j), ⟨#[]⟩, 0, [], Bk.lw, [], [], ⟨#[]⟩, 0, ndC b, false⟩
/-- A pod's number, the block of its label, whether it is anywhere. -/
abbrev CX := Nat × Nat × Bool
theorem one_cnt (x y : ByteArray) (b : Nat) (u : Value) (h : u ∈ [Value.string x, .string ⟨#[]⟩, .int .i64 0, .slice none 0 0, .slice (some ⟨b, 0, none⟩) 1 1, .slice none 0 0, .slice none 0 0, .string ⟨#[]⟩, .int .i64 0, .string y, .bool false]) : u.oneCell' = true := by
  simp only [List.mem_cons, List.not_mem_nil, or_false] at h
  rcases h with rfl | rfl | rfl | rfl | rfl | rfl | rfl | rfl | rfl | rfl | rfl <;> rfl
def CntLay : Lay CX := { m := 11, cs := fun x => [.string (bytes (nmC x.1)), .string ⟨#[]⟩, .int .i64 0, .slice none 0 0, .slice (some ⟨x.2.1, 0, none⟩) 1 1, .slice none 0 0, .slice none 0 0, .string ⟨#[]⟩, .int .i64 0, .string (ndC x.2.2), .bool false], fine := fun _ => True, len := fun _ => rfl, one := fun x => one_cnt (bytes (nmC x.1)) (ndC x.2.2) x.2.1, pos := by decide }
/-- The labels lie elsewhere than in block g. -/
def CntVec (w : World) (v : Value) (l : List CX) : Prop := ∀ x ∈ l, w.cell? ⟨x.2.1, 0, none⟩ = some (.string ⟨#[97, 112, 112]⟩) ∧ w.cell? ⟨x.2.1, 1, none⟩ = some (.string ⟨#[119, 101, 98]⟩) ∧ x.2.1 < w.heap.size ∧ v.ownBlock ≠ some x.2.1
theorem cnt_lab {w : World} {b : Nat} (h0 : w.cell? ⟨b, 0, none⟩ = some (.string ⟨#[97, 112, 112]⟩)) (h1 : w.cell? ⟨b, 1, none⟩ = some (.string ⟨#[119, 101, 98]⟩)) (hb : b < w.heap.size) : Reads PairLay w (.slice (some ⟨b, 0, none⟩) 1 1) Bk.lw := by
  refine ⟨_, 1, rfl, Nat.le_refl _, by decide, rfl, (by decide : 1 ≤ maxLen), fun z hz => ?_, .inr ⟨b, 0, rfl, hb, fun i z j u hi hj => ?_⟩⟩
  · have : z = (Bk.bApp, Bk.bWeb) := by simpa using hz
    subst this; exact ⟨by decide, by decide⟩
  · match i, hi with
    | 0, hi =>
      have hz : (Bk.bApp, Bk.bWeb) = z := by simpa using hi
      subst hz
      match j, hj with
      | 0, hj => have : Value.string Bk.bApp = u := by simpa [PairLay] using hj
                 subst this; exact h0
      | 1, hj => have : Value.string Bk.bWeb = u := by simpa [PairLay] using hj
                 subst this; exact h1
      | j + 2, hj => simp [PairLay] at hj
    | i + 1, hi => simp at hi
theorem pods_cnt {w : World} {g k : Nat} {l : List CX} (h : RowAt CntLay w (some ⟨g, 0, none⟩) k l) (hv : ∀ x ∈ l, w.cell? ⟨x.2.1, 0, none⟩ = some (.string ⟨#[97, 112, 112]⟩) ∧ w.cell? ⟨x.2.1, 1, none⟩ = some (.string ⟨#[119, 101, 98]⟩) ∧ x.2.1 < w.heap.size) :
    PodsAt w (some ⟨g, 0, none⟩) k (l.map fun x => pdC x.1 x.2.2) := by
  obtain ⟨h0, h1, h2, h3⟩ := h
  refine ⟨by rw [List.length_map, h0], h1, ?_⟩
  rcases h3 with h3 | ⟨b, off, e, hb, hc⟩
  · exact .inl h3
  · cases e
    refine .inr ⟨g, 0, rfl, hb, fun i n hi => ?_⟩
    rw [List.getElem?_map] at hi
    obtain ⟨x, hx, rfl⟩ := Option.map_eq_some_iff.1 hi
    obtain ⟨v0, v1, v2⟩ := hv x (List.mem_of_getElem? hx)
    exact ⟨_, _, _, _, hc i x 0 _ hx rfl, hc i x 1 _ hx rfl, hc i x 2 _ hx rfl, hc i x 3 _ hx rfl, hc i x 4 _ hx rfl, hc i x 5 _ hx rfl, hc i x 6 _ hx rfl, hc i x 7 _ hx rfl, hc i x 8 _ hx rfl, hc i x 9 _ hx rfl, hc i x 10 _ hx rfl,
      ⟨by simp [pdC, nmC, bytes, ByteArray.size]; decide, (by decide : (0 : Nat) ≤ maxLen), (by decide : (0 : Nat) ≤ maxLen), by unfold pdC ndC; dsimp only; split <;> decide, by unfold pdC; dsimp only; omega, by unfold pdC; dsimp only; omega, Vec.Reads.nil _, cnt_lab v0 v1 v2, Reads.nil w, Reads.nil w⟩⟩
/-- How many are somewhere. -/
def onC : List CX → Nat
  | [] => 0
  | x :: t => (if x.2.2 = true then 1 else 0) + onC t
def kf (f : Int) : Bd := ⟨⟨#[98]⟩, Bk.sw, f⟩
theorem cov_c (f : Int) (j : Nat) (b : Bool) : covB (kf f) (pdC j b) = b := by
  show (!isNo (ndC b) && (!false && matchT Bk.sw Bk.lw)) = b
  rw [Bk.m_w]
  cases b
  · rw [show isNo (ndC false) = true by rw [Pk.no_list]; rfl]; rfl
  · rw [show isNo (ndC true) = false by rw [Pk.no_list]; rfl]; rfl
theorem cnt_c (f : Int) : ∀ l : List CX, cntB (kf f) (l.map fun x => pdC x.1 x.2.2) = onC l
  | [] => rfl
  | x :: t => by rw [List.map_cons, cntB, cnt_c f t, cov_c]; rfl
theorem nm_less {a b : Nat} (ha : a < 20) (hb : b < 20) : eqS (bytes (nmC a)) (bytes (nmC b)) = decide (a = b) := by
  rw [Pk.eq_list]
  have : ∀ a, a < 20 → ∀ b, b < 20 → (nmC a == nmC b) = decide (a = b) := by decide +kernel
  rw [← this a ha b hb]
  simp [bytes]
theorem low_c (l : List CX) : ∀ n ∈ l.map (fun x => pdC x.1 x.2.2), LowPd n := by
  intro n hn
  obtain ⟨x, _, rfl⟩ := List.mem_map.1 hn
  exact ⟨(by decide : (0 : Nat) ≤ 1000000), (by decide : (1 : Nat) ≤ 1000000), (by decide : (0 : Nat) ≤ 1000000), (by decide : (0 : Nat) ≤ 1000000)⟩
/-- The one of a name among them. -/
theorem find_c {l : List CX} {k i : Nat} {x : CX} (h : l.map (fun x => x.1) = List.range k) (hk : k ≤ 20) (hx : l[i]? = some x) : findP (l.map fun x => pdC x.1 x.2.2) (bytes (nmC x.1)) = some (pdC x.1 x.2.2) := by
  have hnum : ∀ (j : Nat) (y : CX), l[j]? = some y → y.1 = j ∧ j < k := fun j y hy => by
    have h1 := congrArg (fun z => z[j]?) h
    simp only [List.getElem?_map, hy, Option.map_some] at h1
    have hl : l.length = k := by have := congrArg List.length h; simpa using this
    have hjl := (List.getElem?_eq_some_iff.1 hy).1
    rw [List.getElem?_range (by omega)] at h1
    exact ⟨Option.some.inj h1, by omega⟩
  obtain ⟨hxi, hik⟩ := hnum i x hx
  unfold findP
  rw [List.find?_eq_some_iff_getElem]
  refine ⟨eqS_self _, i, by rw [List.length_map]; exact (List.getElem?_eq_some_iff.1 hx).1, ?_, ?_⟩
  · obtain ⟨hh, he⟩ := List.getElem?_eq_some_iff.1 hx
    rw [List.getElem_map, he]
  · intro j hj
    have hjl : j < l.length := by have := (List.getElem?_eq_some_iff.1 hx).1; omega
    rw [List.getElem_map]
    obtain ⟨hyj, hjk⟩ := hnum j l[j] (List.getElem?_eq_getElem hjl)
    have : eqS (bytes (nmC l[j].1)) (bytes (nmC x.1)) = false := by
      rw [nm_less (by omega) (by omega)]; simp; omega
    simpa [pdC] using this
theorem alw_c {l : List CX} {k i : Nat} {x : CX} {f : Int} (h : l.map (fun x => x.1) = List.range k) (hk : k ≤ 20) (hx : l[i]? = some x) (ho : x.2.2 = true) : ∃ y, alwB [kf f] (l.map fun x => pdC x.1 x.2.2) (bytes (nmC x.1)) = (y, decide (f < (onC l : Int))) := by
  have hf := find_c h hk hx
  by_cases z : f < (onC l : Int)
  · exact ⟨_, (alw_free hf (by rw [for_cnt (by rw [cnt_c]; show ¬ (onC l : Int) ≤ f; omega)]; rfl)).trans (by rw [decide_eq_true z])⟩
  · exact ⟨_, (alw_hit (b := kf f) hf (for_hit (by rw [cov_c]; exact ho) (by rw [cnt_c]; show (onC l : Int) ≤ f; omega))).trans (by rw [decide_eq_false z])⟩
/-- One goes nowhere. -/
theorem off_map {l : List CX} {i : Nat} {x : CX} (hx : l[i]? = some x) : (l.set i (x.1, x.2.1, false)).map (fun x => x.1) = l.map (fun x => x.1) := by
  apply List.ext_getElem?
  intro j
  rw [List.getElem?_map, List.getElem?_map, List.getElem?_set]
  by_cases e : i = j
  · subst e
    rw [if_pos rfl, if_pos (List.getElem?_eq_some_iff.1 hx).1, hx]; rfl
  · rw [if_neg e]
theorem off_on : ∀ {l : List CX} {i : Nat} {x : CX}, l[i]? = some x → x.2.2 = true → onC (l.set i (x.1, x.2.1, false)) + 1 = onC l
  | [], i, x, h, _ => by simp at h
  | y :: t, 0, x, h, ho => by
    obtain rfl : y = x := by simpa using h
    show (0 + onC t) + 1 = (if y.2.2 = true then 1 else 0) + onC t
    rw [if_pos ho]; omega
  | y :: t, i + 1, x, h, ho => by
    have := off_on (l := t) (i := i) (by simpa using h) ho
    show ((if y.2.2 = true then 1 else 0) + onC (t.set i _)) + 1 = (if y.2.2 = true then 1 else 0) + onC t
    omega
theorem on_start (d : Nat) : ∀ (l : List CX) (s : Nat), (∀ j x, l[j]? = some x → x.2.2 = !decide (s + j < d)) → onC l = l.length - (min (s + l.length) d - min s d)
  | [], s, _ => by simp [onC]
  | y :: t, s, h => by
    have h0 := h 0 y rfl
    have ih := on_start d t (s + 1) (fun j x hx => by have := h (j + 1) x (by simpa using hx); rw [this]; congr 2; simp; omega)
    rw [onC, ih, h0, List.length_cons]
    by_cases z : s + 0 < d
    · rw [decide_eq_true z]; simp; omega
    · rw [decide_eq_false z]; simp; omega

theorem cnt_grow {wr W2 w2 : World} {c : Obj} {E : TypeId} {v : Value} {l : List CX} {xs : List Value} {gg n cap B sz len b : Nat} (j : Nat) (on : Bool) (hv : CntVec wr v l) (hown : wr.ownsRow B E sz v len xs) (kk : Kept wr W2) (hb : wr.heap.size ≤ b) (hb2 : b < W2.heap.size)
    (h0 : W2.cell? ⟨b, 0, none⟩ = some (.string ⟨#[97, 112, 112]⟩)) (h1 : W2.cell? ⟨b, 1, none⟩ = some (.string ⟨#[119, 101, 98]⟩))
    (hgrow : (W2.alloc c).grownBy w2 v.ownBlock) (hat : v.ownBlock = some gg ∨ gg = W2.heap.size + 1) : CntVec w2 (.slice (some ⟨gg, 0, none⟩) n cap) (l ++ [(j, b, on)]) := by
  have hs := hgrow.size
  have hk := kk.size
  simp only [World.size_alloc] at hs
  intro x hx
  rcases List.mem_append.1 hx with hx | hx
  · obtain ⟨g0, g1, g2, g3⟩ := hv x hx
    refine ⟨(hgrow.cell_far ⟨x.2.1, 0, none⟩ (by simp; omega) (Ne.symm g3)).trans (cell_later (kk.trans (kept_alloc _ _)) g0), (hgrow.cell_far ⟨x.2.1, 1, none⟩ (by simp; omega) (Ne.symm g3)).trans (cell_later (kk.trans (kept_alloc _ _)) g1), by omega, ?_⟩
    intro e
    rcases hat with hat | hat
    · exact g3 (hat.trans e)
    · have : gg = x.2.1 := by simpa [Value.ownBlock] using e
      omega
  · obtain rfl : x = (j, b, on) := by simpa using hx
    have hne : some b ≠ v.ownBlock := fun e => by have := (hown.lt _ e.symm).2; omega
    refine ⟨(hgrow.cell_far ⟨b, 0, none⟩ (by simp; omega) hne).trans (cell_later (kept_alloc _ _) h0), (hgrow.cell_far ⟨b, 1, none⟩ (by simp; omega) hne).trans (cell_later (kept_alloc _ _) h1), by dsimp only; omega, ?_⟩
    intro e
    have e2 : gg = b := by simpa [Value.ownBlock] using e
    rcases hat with hat | hat
    · exact hne (by rw [hat, e2])
    · omega
/-- The first d are nowhere. -/
def OnAs (d : Nat) (l : List CX) : Prop := ∀ q x, l[q]? = some x → x.2.2 = !decide (q < d)
theorem on_next {l : List CX} {j b d : Nat} (h : OnAs d l) (hl : l.length = j) : OnAs d (l ++ [(j, b, !decide (j < d))]) := by
  intro q x hx
  rcases Nat.lt_trichotomy q j with g | g | g
  · rw [List.getElem?_append_left (by omega)] at hx; exact h q x hx
  · subst g
    rw [List.getElem?_append_right (by omega), hl, Nat.sub_self] at hx
    obtain rfl : (q, b, !decide (q < d)) = x := by simpa using hx
    rfl
  · rw [List.getElem?_eq_none (by simp; omega)] at hx; cases hx

/-- The one budget that the law asks of. -/
structure BEnv (w : World) (s t : Nat) (f : Int) : Prop where
  c0 : w.cell? ⟨s, 0, none⟩ = some (.int .i64 1)
  c1 : w.cell? ⟨s, 1, none⟩ = some (.string ⟨#[97, 112, 112]⟩)
  c2 : w.cell? ⟨s, 2, none⟩ = some (.string ⟨#[119, 101, 98]⟩)
  d0 : w.cell? ⟨t, 0, none⟩ = some (.string ⟨#[98]⟩)
  d1 : w.cell? ⟨t, 1, none⟩ = some (.slice (some ⟨s, 0, none⟩) 1 1)
  d2 : w.cell? ⟨t, 2, none⟩ = some (.int .i64 f)
theorem BEnv.kept {w w' : World} {s t : Nat} {f : Int} (h : BEnv w s t f) (k : Kept w w') : BEnv w' s t f := ⟨cell_later k h.c0, cell_later k h.c1, cell_later k h.c2, cell_later k h.d0, cell_later k h.d1, cell_later k h.d2⟩
theorem BEnv.far {w : World} {s t g o : Nat} {f : Int} {u : Value} (h : BEnv w s t f) (hs : s ≠ g) (ht : t ≠ g) : BEnv (w.setCell ⟨g, o, none⟩ u) s t f := by
  have e : ∀ b q, b ≠ g → (w.setCell ⟨g, o, none⟩ u).cell? ⟨b, q, none⟩ = w.cell? ⟨b, q, none⟩ := fun b q hb => World.cell?_setCell_other _ _ _ _ (by simp [hb])
  exact ⟨(e s 0 hs).trans h.c0, (e s 1 hs).trans h.c1, (e s 2 hs).trans h.c2, (e t 0 ht).trans h.d0, (e t 1 ht).trans h.d1, (e t 2 ht).trans h.d2⟩
theorem BEnv.sel {w : World} {s t : Nat} {f : Int} (h : BEnv w s t f) : Reads TermLay w (.slice (some ⟨s, 0, none⟩) 1 1) Bk.sw := by
  refine ⟨_, 1, rfl, Nat.le_refl _, by decide, rfl, (by decide : 1 ≤ maxLen), fun z hz => ?_, .inr ⟨s, 0, rfl, World.block_lt_of_cell? _ _ h.c0, fun i z j u hi hj => ?_⟩⟩
  · have : z = (1, Bk.bApp, Bk.bWeb) := by simpa using hz
    subst this; exact ⟨by decide, by decide, by decide⟩
  · match i, hi with
    | 0, hi =>
      have hz : (1, Bk.bApp, Bk.bWeb) = z := by simpa using hi
      subst hz
      match j, hj with
      | 0, hj => have : Value.int .i64 1 = u := by simpa [TermLay] using hj
                 subst this; exact h.c0
      | 1, hj => have : Value.string Bk.bApp = u := by simpa [TermLay] using hj
                 subst this; exact h.c1
      | 2, hj => have : Value.string Bk.bWeb = u := by simpa [TermLay] using hj
                 subst this; exact h.c2
      | j + 3, hj => simp [TermLay] at hj
    | i + 1, hi => simp at hi
theorem BEnv.bud {w : World} {s t : Nat} {f : Nat} (h : BEnv w s t f) (hf : f < 24) : BudAt w (.slice (some ⟨s, 0, none⟩) 1 1) (kf f) :=
  ⟨(by decide : (1 : Nat) ≤ maxLen), by unfold kf; dsimp only; omega, h.sel⟩
theorem BEnv.buds {w : World} {s t : Nat} {f : Nat} (h : BEnv w s t f) (hf : f < 24) : BudsAt w (some ⟨t, 0, none⟩) 1 [kf f] := by
  refine ⟨rfl, by decide, .inr ⟨t, 0, rfl, World.block_lt_of_cell? _ _ h.d0, fun i n hi => ?_⟩⟩
  match i, hi with
  | 0, hi =>
    simp at hi; subst hi
    exact ⟨_, h.d0, h.d1, h.d2, h.bud hf⟩
  | i + 1, hi => simp at hi
theorem row_lt {w : World} {g k i : Nat} {l : List CX} {x : CX} (h : RowAt CntLay w (some ⟨g, 0, none⟩) k l) (hx : l[i]? = some x) : i < k := by have := (List.getElem?_eq_some_iff.1 hx).1; have := h.1; omega
theorem cnt_at {w : World} {g k i : Nat} {l : List CX} {x : CX} (h : RowAt CntLay w (some ⟨g, 0, none⟩) k l) (hx : l[i]? = some x) : w.cell? ⟨g, i * 11, none⟩ = some (.string (bytes (nmC x.1))) ∧ w.cell? ⟨g, i * 11 + 9, none⟩ = some (.string (ndC x.2.2)) := by
  have hi := row_lt h hx
  obtain ⟨y, h1, _, _, _, c⟩ := h.cells hi
  obtain rfl : y = x := by rw [hx] at h1; exact (Option.some.inj h1).symm
  have c0 := c 0 _ rfl
  have c9 := c 9 _ rfl
  rw [Nat.zero_add] at c0 c9
  exact ⟨c0, c9⟩
theorem row_set {w : World} {g k i : Nat} {l : List CX} {x : CX} (h : RowAt CntLay w (some ⟨g, 0, none⟩) k l) (hx : l[i]? = some x) : RowAt CntLay (w.setCell ⟨g, i * 11 + 9, none⟩ (.string ⟨#[]⟩)) (some ⟨g, 0, none⟩) k (l.set i (x.1, x.2.1, false)) := by
  have hik := row_lt h hx
  have h9 := (cnt_at h hx).2
  obtain ⟨h0, h1, _, h3⟩ := h
  refine ⟨by rw [List.length_set]; exact h0, h1, fun _ _ => trivial, .inr ?_⟩
  rcases h3 with h3 | ⟨b, off, e, hb, hc⟩
  · omega
  · injection e with e; injection e with e1 e2 e3; subst e1; subst e2
    refine ⟨g, 0, rfl, by simpa [World.setCell] using hb, fun i' y j u hy hu => ?_⟩
    have hj : j < 11 := by
      have := (List.getElem?_eq_some_iff.1 hu).1
      rw [CntLay.len] at this
      exact this
    show World.cell? _ ⟨g, 0 + i' * 11 + j, none⟩ = some u
    rw [Nat.zero_add]
    rw [List.getElem?_set] at hy
    by_cases e : i = i'
    · subst e
      rw [if_pos rfl, if_pos (by omega)] at hy
      obtain rfl := Option.some.inj hy
      by_cases ej : j = 9
      · subst ej
        have : Value.string ⟨#[]⟩ = u := Option.some.inj hu
        subst this
        exact World.cell?_setCell_same _ _ _ h9
      · rw [World.cell?_setCell_other _ _ _ _ (by first | (simp; done) | (simp; omega))]
        have hu' : (CntLay.cs x)[j]? = some u := by
          match j, hj, ej, hu with
          | 0, _, _, hu => exact hu
          | 1, _, _, hu => exact hu
          | 2, _, _, hu => exact hu
          | 3, _, _, hu => exact hu
          | 4, _, _, hu => exact hu
          | 5, _, _, hu => exact hu
          | 6, _, _, hu => exact hu
          | 7, _, _, hu => exact hu
          | 8, _, _, hu => exact hu
          | 10, _, _, hu => exact hu
        have := hc i x j u hx hu'
        rw [Nat.zero_add] at this
        exact this
    · rw [if_neg e] at hy
      rw [World.cell?_setCell_other _ _ _ _ (by first | (simp; done) | (simp; omega))]
      have := hc i' y j u hy hu
      rw [Nat.zero_add] at this
      exact this
theorem vec_set {w : World} {g k i cap o : Nat} {u : Value} {l : List CX} {x : CX} (h : CntVec w (.slice (some ⟨g, 0, none⟩) k cap) l) (hx : l[i]? = some x) : CntVec (w.setCell ⟨g, o, none⟩ u) (.slice (some ⟨g, 0, none⟩) k cap) (l.set i (x.1, x.2.1, false)) := by
  have key : ∀ y ∈ l, (w.setCell ⟨g, o, none⟩ u).cell? ⟨y.2.1, 0, none⟩ = some (.string ⟨#[97, 112, 112]⟩) ∧ (w.setCell ⟨g, o, none⟩ u).cell? ⟨y.2.1, 1, none⟩ = some (.string ⟨#[119, 101, 98]⟩) ∧ y.2.1 < (w.setCell ⟨g, o, none⟩ u).heap.size ∧ (Value.slice (some ⟨g, 0, none⟩) k cap).ownBlock ≠ some y.2.1 := fun y hy => by
    obtain ⟨a0, a1, a2, a3⟩ := h y hy
    have hne : y.2.1 ≠ g := fun e => a3 (by rw [e]; rfl)
    exact ⟨(World.cell?_setCell_other _ _ _ _ (by simp [hne])).trans a0, (World.cell?_setCell_other _ _ _ _ (by simp [hne])).trans a1, by simpa [World.setCell] using a2, a3⟩
  intro y hy
  rcases List.mem_or_eq_of_mem_set hy with hy | rfl
  · exact key y hy
  · exact key x (List.mem_of_getElem? hx)
theorem brk_c (f : Int) (l : List CX) : brkB [kf f] (l.map fun x => pdC x.1 x.2.2) = if (onC l : Int) < f then [⟨#[98]⟩] else [] := by
  unfold brkB
  by_cases z : (onC l : Int) < f
  · rw [if_pos z, List.filter_cons_of_pos (by rw [cnt_c]; exact decide_eq_true z)]; rfl
  · rw [if_neg z, List.filter_cons_of_neg (by rw [cnt_c]; show ¬ decide ((onC l : Int) < f) = true; rw [decide_eq_false z]; decide)]; rfl
theorem brk_l {a a9 : Option Addr} {len cap len9 cap9 : Nat} {bs : List Bd} {l : List Pd} {x : List ByteArray} {m : Nat} {w : World} (hb : BudsAt w a len bs) (hr : PodsAt w a9 len9 l) (hn : len ≤ 1000) (hx : brkB bs l = x) (hm : x.length = m) :
    Calls Tryz.prog 39 #[.slice a len cap, .slice a9 len9 cap9] w fun e w' => ∃ a c, e = .returned (.slice a m c) ∧ Kept w w' := by
  subst hm
  refine (Bk.brk_k hb hr hn hx).mono ?_
  rintro e w' ⟨a, m, c, rfl, ⟨a', c', e, -⟩, k⟩
  injection e with e1 e2 e3
  subst e2
  exact ⟨a, c, rfl, k⟩
/-- What the second loop keeps. -/
structure CInv (d k f on g s t cap B : Nat) (w1 : World) (z : Int) (gN : Nat) (xs : List CX) (wr : World) : Prop where
  onk : on = k - min k d
  nums : xs.map (fun x => x.1) = List.range k
  lo : -1 ≤ z
  hi : z < k
  left : ∀ (q : Nat) (x : CX), (q : Int) ≤ z → xs[q]? = some x → x.2.2 = !decide (q < d)
  sum : onC xs + gN = on
  gone : gN = min (on - ((z + 1).toNat - min (z + 1).toNat d)) (on - f)
  row : RowAt CntLay wr (some ⟨g, 0, none⟩) k xs
  vec : CntVec wr (.slice (some ⟨g, 0, none⟩) k cap) xs
  env : BEnv wr s t f
  free : ∀ o, wr.frozen? ⟨g, o, none⟩ = false
  glt : g < wr.heap.size
  below : Below B w1 wr
theorem CInv.kept {d k f on g s t cap B : Nat} {w1 wr w2 : World} {z : Int} {gN : Nat} {xs : List CX} (h : CInv d k f on g s t cap B w1 z gN xs wr) (kk : Kept wr w2) (hB : B ≤ wr.heap.size) : CInv d k f on g s t cap B w1 z gN xs w2 :=
  ⟨h.onk, h.nums, h.lo, h.hi, h.left, h.sum, h.gone, h.row.kept kk, fun x hx => by
    obtain ⟨a0, a1, a2, a3⟩ := h.vec x hx
    exact ⟨cell_later kk a0, cell_later kk a1, Nat.lt_of_lt_of_le a2 kk.size, a3⟩, h.env.kept kk, fun o => (kk.frozen (p := ⟨g, o, none⟩) h.glt).trans (h.free o), Nat.lt_of_lt_of_le h.glt kk.size, h.below.trans (Below.mono kk hB)⟩
/-- One that is nowhere already, or may not go, is passed over. -/
theorem CInv.pass {d k f on g s t cap B i : Nat} {w1 wr : World} {gN : Nat} {xs : List CX} {x : CX} (h : CInv d k f on g s t cap B w1 (i : Int) gN xs wr) (hx : xs[i]? = some x) (hg : x.2.2 = false ∨ ¬ (f : Int) < (onC xs : Int)) : CInv d k f on g s t cap B w1 ((i : Int) - 1) gN xs wr := by
  refine ⟨h.onk, h.nums, by omega, by have := h.hi; omega, fun q y hq hy => h.left q y (by omega) hy, h.sum, ?_, h.row, h.vec, h.env, h.free, h.glt, h.below⟩
  have h1 := h.gone
  have h2 := h.sum
  have h3 := h.left i x (Int.le_refl _) hx
  have e1 : ((i : Int) + 1).toNat = i + 1 := by omega
  have e2 : ((i : Int) - 1 + 1).toNat = i := by omega
  rw [e1] at h1
  rw [e2]
  rcases hg with hg | hg
  · rw [hg] at h3
    have : i < d := by simpa using h3.symm
    omega
  · omega
theorem CInv.go {d k f on g s t cap B i : Nat} {w1 wr : World} {gN : Nat} {xs : List CX} {x : CX} (h : CInv d k f on g s t cap B w1 (i : Int) gN xs wr) (hx : xs[i]? = some x) (ho : x.2.2 = true) (hg : (f : Int) < (onC xs : Int)) (hs : s ≠ g) (ht : t ≠ g) (hB : B ≤ g) :
    CInv d k f on g s t cap B w1 ((i : Int) - 1) (gN + 1) (xs.set i (x.1, x.2.1, false)) (wr.setCell ⟨g, i * 11 + 9, none⟩ (.string ⟨#[]⟩)) := by
  have h1 := h.gone
  have h2 := h.sum
  have h3 := h.left i x (Int.le_refl _) hx
  have h4 := off_on hx ho
  have e1 : ((i : Int) + 1).toNat = i + 1 := by omega
  have e2 : ((i : Int) - 1 + 1).toNat = i := by omega
  rw [ho] at h3
  have hd : ¬ i < d := by simpa using h3.symm
  rw [e1, Nat.min_eq_right (show d ≤ i + 1 by omega)] at h1
  have h5 := h.onk
  have h6 := h.hi
  rw [Nat.min_eq_right (show d ≤ k by omega)] at h5
  refine ⟨h.onk, by rw [off_map hx]; exact h.nums, by omega, by have := h.hi; omega, fun q y hq hy => ?_, by omega, by rw [e2, Nat.min_eq_right (show d ≤ i by omega)]; omega, row_set h.row hx, vec_set h.vec hx, h.env.far hs ht, fun o => by rw [World.frozen?_setCell]; exact h.free o, by simpa [World.setCell] using h.glt, h.below.setCell (p := ⟨g, i * 11 + 9, none⟩) hB _⟩
  rw [List.getElem?_set, if_neg (by omega)] at hy
  exact h.left q y (by omega) hy

end Go.Proofs.YtflllkpnkcmegaaGreatDoor.Bc
