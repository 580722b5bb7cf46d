/- append onto a row of the call's own, from any slice, whatever the elements. -/
import Derived.Test.YtmmjcomoabfmnaaDoorGJoin
import Derived.Deep.AppendLies
import Derived.Deep.AppendSrc
import Derived.Deep.DeepAppendWide
namespace Go.Proofs.YtmmjcomoabfmnaaDoor
open Go.RowKit
set_option linter.unusedVariables false

/-- A slice's type: its elements, how many cells, how many bytes each. -/
def Kind (t e : TypeId) (size bytes : Nat) : Prop := ∃ i z, Tryd.prog.underlying t = some (.slice e) ∧ Tryd.prog.info? e = some i ∧ i.zero = some z ∧ i.size = size ∧ i.bytes = bytes ∧ z.cells.size = size ∧ 0 < size
/-- What is appended: the first cells behind an address, or nothing at all. -/
def AppSrc (w : World) (y : Value) (m : Nat) (news : List Value) : Prop :=
  (∃ ad c, y = .slice (some ad) m c ∧ ∀ j u, news[j]? = some u → w.cell? (ad.add j) = some u) ∨ (∃ c, y = .slice none 0 c ∧ m = 0)
theorem run_app_own {t e : TypeId} {size bytes : Nat} (K : Kind t e size bytes) (w : World) (B : Nat) (hB : B ≤ w.heap.size) (g n cap : Nat) (xs : List Value) (hown : w.ownsRow B e size (.slice (some ⟨g, 0, none⟩) n cap) n xs) (y : Value) (m : Nat) (news : List Value) (hl : news.length = m * size) (hone : ∀ u ∈ news, u.oneCell' = true) (hy : AppSrc w y m news)
    (h63 : n + m ≤ maxLen) (hb : ((n + m) + (n + m) / 4 + 192) * bytes ≤ 281474976710656) (ty : TypeId) :
    ∃ g' cap' w', (Builtin.append_ #[t, t] ty #[.slice (some ⟨g, 0, none⟩) n cap, y]).run Tryd.prog w = .ok (.slice (some ⟨g', 0, none⟩) (n + m) cap') w' ∧ w'.ownsRow B e size (.slice (some ⟨g', 0, none⟩) (n + m) cap') (n + m) (xs ++ news) ∧ Below B w w' ∧ w.grownBy w' (some g) := by
  obtain ⟨i, z, ht, hi, hz, h1, h8, hzs, hsz⟩ := K
  have hbg : B ≤ g := by
    rcases hown.2 with ⟨h0, _⟩ | ⟨g2, cap2, cur, h0, hbg, _⟩
    · cases h0
    · cases h0; exact hbg
  rcases hy with ⟨ad, c, rfl, hc⟩ | ⟨c, rfl, rfl⟩
  · obtain ⟨v', w', hr, ho, hg, hnil⟩ := run_append_own_wide w B t ty e i z size bytes ht hi hz h1 h8 hzs hsz _ n xs hown ad m c news hl hc hone h63 hb hB
    have hb := (Below.refl B w).grown hg hB (by intro k hk; cases hk; exact hbg)
    rcases ho.2 with ⟨h0, _⟩ | ⟨g2, cap2, cur, rfl, _⟩
    · have := (hnil.1 h0).1
      cases this
    · exact ⟨g2, cap2, w', hr, ho, hb, hg⟩
  · have : news = [] := List.eq_nil_of_length_eq_zero (by rw [hl, Nat.zero_mul])
    subst this
    rcases hown.2 with ⟨h0, _⟩ | ⟨g2, cap2, cur, h0, _, hg, hnc, _⟩
    · cases h0
    · cases h0
      have hr := run_append_room_src w t t ty e i ht hi g 0 n cap (.slice none 0 c) 0 [] (Src.ofNil w ht c) (by omega) (by intro j hj; simp at hj) (by intro j hj; simp at hj)
      exact ⟨_, _, _, hr, by simpa [World.setCells] using hown, Below.refl B w, World.grownBy.refl _ _⟩
/-- At the operation. -/
theorem wp_app_own {t e : TypeId} {size bytes : Nat} (Kd : Kind t e size bytes) {o : Oper} {a : Act} {K : Act → World → Prop} {Q : Exit → Act → World → Prop} (s x : Operand) (w : World)
    (ho : o.op = .call { callee := .builtin .append, args := #[s, x], argTypes := #[t, t] })
    (B : Nat) (hB : B ≤ w.heap.size) (g n cap : Nat) (xs : List Value) (hs : a.eval s = .slice (some ⟨g, 0, none⟩) n cap) (hown : w.ownsRow B e size (.slice (some ⟨g, 0, none⟩) n cap) n xs) (y : Value) (m : Nat) (news : List Value) (hx : a.eval x = y) (hl : news.length = m * size) (hone : ∀ u ∈ news, u.oneCell' = true) (hy : AppSrc w y m news)
    (h63 : n + m ≤ maxLen) (hb : ((n + m) + (n + m) / 4 + 192) * bytes ≤ 281474976710656)
    (h : ∀ g' cap' w', w'.ownsRow B e size (.slice (some ⟨g', 0, none⟩) (n + m) cap') (n + m) (xs ++ news) → Below B w w' → w.grownBy w' (some g) → K (a.put o.dst (.slice (some ⟨g', 0, none⟩) (n + m) cap')) w') : o.wp Tryd.prog a w K Q := by
  obtain ⟨g', cap', w', hr, h2, h3, h4⟩ := run_app_own Kd w B hB g n cap xs hown y m news hl hone hy h63 hb o.type
  unfold Oper.wp execOp
  simp only [ho, resolve, invoke, builtin, Sem.run_bind, Sem.run_pure, Result.andThen_ok, List.map_toArray, List.map_cons, List.map_nil, hs, hx, hr]
  exact h g' cap' w' h2 h3 h4
theorem wpList_app_own {t e : TypeId} {size bytes : Nat} (Kd : Kind t e size bytes) {ops : Array Oper} {rest : List Oper} {o : Oper} {a : Act} {Q : Exit → Act → World → Prop} (w : World) (hgd : o.guard = none) (s x : Operand)
    (ho : o.op = .call { callee := .builtin .append, args := #[s, x], argTypes := #[t, t] })
    (B : Nat) (hB : B ≤ w.heap.size) (g n cap : Nat) (xs : List Value) (hs : a.eval s = .slice (some ⟨g, 0, none⟩) n cap) (hown : w.ownsRow B e size (.slice (some ⟨g, 0, none⟩) n cap) n xs) (y : Value) (m : Nat) (news : List Value) (hx : a.eval x = y) (hl : news.length = m * size) (hone : ∀ u ∈ news, u.oneCell' = true) (hy : AppSrc w y m news)
    (h63 : n + m ≤ maxLen) (hb : ((n + m) + (n + m) / 4 + 192) * bytes ≤ 281474976710656)
    (h : ∀ g' cap' w', w'.ownsRow B e size (.slice (some ⟨g', 0, none⟩) (n + m) cap') (n + m) (xs ++ news) → Below B w w' → w.grownBy w' (some g) → wpList Tryd.prog ops Q rest (a.put o.dst (.slice (some ⟨g', 0, none⟩) (n + m) cap')) w') : wpList Tryd.prog ops Q (o :: rest) a w :=
  wpList_plain hgd fun _ hK => wp_app_own Kd s x w ho B hB g n cap xs hs hown y m news hx hl hone hy h63 hb fun g' cap' w' h2 h3 h4 => hK _ _ (h g' cap' w' h2 h3 h4)
/-- At a step of a region that draws. -/
theorem step_app_own {t e : TypeId} {size bytes : Nat} (Kd : Kind t e size bytes) {ops : Array Oper} {o : Oper} {a : Act} {K : Act → World → Prop} {Q : Exit → Act → World → Prop} {E : Prop} (w : World) (hgd : o.guard = none) (s x : Operand)
    (ho : o.op = .call { callee := .builtin .append, args := #[s, x], argTypes := #[t, t] })
    (B : Nat) (hB : B ≤ w.heap.size) (g n cap : Nat) (xs : List Value) (hs : a.eval s = .slice (some ⟨g, 0, none⟩) n cap) (hown : w.ownsRow B e size (.slice (some ⟨g, 0, none⟩) n cap) n xs) (y : Value) (m : Nat) (news : List Value) (hx : a.eval x = y) (hl : news.length = m * size) (hone : ∀ u ∈ news, u.oneCell' = true) (hy : AppSrc w y m news)
    (h63 : n + m ≤ maxLen) (hb : ((n + m) + (n + m) / 4 + 192) * bytes ≤ 281474976710656)
    (h : ∀ g' cap' w', w'.ownsRow B e size (.slice (some ⟨g', 0, none⟩) (n + m) cap') (n + m) (xs ++ news) → Below B w w' → w.grownBy w' (some g) → K (a.put o.dst (.slice (some ⟨g', 0, none⟩) (n + m) cap')) w') :
    if Region.wanted o (yielded ops a.tmps) = true then Oper.wp Tryd.prog o a w K Q else E := by
  have hw : Region.wanted o (yielded ops a.tmps) = true := by simp [Region.wanted, hgd]
  rw [if_pos hw]
  exact wp_app_own Kd s x w ho B hB g n cap xs hs hown y m news hx hl hone hy h63 hb h
/-- An empty row as it is laid. -/
theorem own_empty (w : World) (B size : Nat) (e : TypeId) (hB : B ≤ w.heap.size) : (w.alloc (.cells #[] e)).ownsRow B e size (.slice (some ⟨w.heap.size, 0, none⟩) 0 0) 0 [] :=
  ⟨by simp, .inr ⟨w.heap.size, 0, #[], rfl, hB, World.alloc_heap_new w _, by omega, by unfold maxLen; omega, by simp, by simp⟩⟩
theorem own_empty_at (w : World) (B size : Nat) (e : TypeId) (hB : B ≤ w.heap.size) (g : Nat) (hg : g = w.heap.size) : (w.alloc (.cells #[] e)).ownsRow B e size (.slice (some ⟨g, 0, none⟩) 0 0) 0 [] := by
  subst hg
  exact own_empty w B size e hB
theorem own_alloc {w : World} {B g n cap size : Nat} {e : TypeId} {xs : List Value} (h : w.ownsRow B e size (.slice (some ⟨g, 0, none⟩) n cap) n xs) (o : Obj) : (w.alloc o).ownsRow B e size (.slice (some ⟨g, 0, none⟩) n cap) n xs := by
  refine ⟨h.1, ?_⟩
  rcases h.2 with ⟨h0, _⟩ | ⟨g2, cap2, cur, h0, hb, hg, hr⟩
  · cases h0
  · cases h0
    exact .inr ⟨g, cap, cur, rfl, hb, (Below.heap_alloc w o g (Array.getElem?_eq_some_iff.1 hg).1).trans hg, hr⟩
theorem src_new {W : World} {B : Nat} {e : TypeId} {cs : Array Value} {vals : List Value} (hv : cs = vals.toArray) (h : W.heap[B]? = some (.cells cs e (0, 0))) : AppSrc W (.slice (some ⟨B, 0, none⟩) 1 1) 1 vals := by
  subst hv
  exact .inl ⟨_, 1, rfl, by have := World.news_of_block (cs := vals.toArray) (t := e) (fr := (0, 0)) h; simpa using this⟩
/-- A row's cells, where each comes from. -/
theorem rowCells_from {α : Type} (L : Lay α) : ∀ (l : List α) (j : Nat) (u : Value), (rowCells L l)[j]? = some u → ∃ i x k, l[i]? = some x ∧ (L.cs x)[k]? = some u ∧ j = i * L.m + k
  | [], j, u, h => by simp [rowCells] at h
  | y :: t, j, u, h => by
    unfold rowCells at h
    rw [List.flatMap_cons] at h
    by_cases hj : j < L.m
    · rw [List.getElem?_append_left (by rw [L.len]; exact hj)] at h
      exact ⟨0, y, j, rfl, h, by omega⟩
    · rw [List.getElem?_append_right (by rw [L.len]; omega), L.len] at h
      obtain ⟨i, x, k, h1, h2, h3⟩ := rowCells_from L t (j - L.m) u h
      exact ⟨i + 1, x, k, by simpa using h1, h2, by rw [Nat.add_mul]; omega⟩
/-- A slice that came in, as what is appended. -/
theorem RowAt.src {α : Type} {L : Lay α} {w : World} {a : Option Addr} {len cap : Nat} {l : List α} (h : RowAt L w a len l) : AppSrc w (.slice a len cap) len (rowCells L l) := by
  obtain ⟨h0, h1, h2, h3⟩ := h
  rcases h3 with h3 | ⟨b, off, rfl, hb, hc⟩
  · have hl : l = [] := List.eq_nil_of_length_eq_zero (by omega)
    subst hl
    subst h3
    cases a with
    | none => exact .inr ⟨cap, rfl, rfl⟩
    | some ad => exact .inl ⟨ad, cap, rfl, fun j u hu => by simp [rowCells] at hu⟩
  · refine .inl ⟨_, cap, rfl, fun j u hu => ?_⟩
    obtain ⟨i, x, k, hi, hk, rfl⟩ := rowCells_from L l j u hu
    have e : (⟨b, off, none⟩ : Addr).add (i * L.m + k) = ⟨b, off + i * L.m + k, none⟩ := by
      unfold Addr.add
      split <;> simp_all [Nat.add_assoc]
    rw [e]; exact hc i x k u hi hk

end Go.Proofs.YtmmjcomoabfmnaaDoor
