/- append at a step of a region that draws: onto an empty slice, onto a row of the call's own; told by what stays. -/
import Derived.Test.YthmpkelnmlkbiaaRefSortMath
import Derived.Test.YthmpkelnmlkbiaaRatioMeansW
import Derived.Deep.AppendLies
import Derived.Deep.AppendSrc
import Derived.Deep.DeepAppendWide
import Derived.StillTailTactics
namespace Go.Proofs.Ythmpkelnmlkbiaa
open Go.RowKit Go.Sort
set_option linter.unusedVariables false

theorem info_f : ∃ i, Try.prog.info? 22 = some i ∧ i.zero = some (.float .f64 0) ∧ i.size = 1 ∧ i.bytes = 8 := info_parts info_float

/-- Onto an empty slice: a new row. -/
theorem run_app_first (w : World) (B : Nat) (hB : B ≤ w.heap.size) (p : Option Addr) (y : Value) (m : Nat) (news : List Value) (hsrc : Src Try.prog 1 31 y m news w) (hm : 0 < m) (h100 : m ≤ 100) (ty : TypeId) :
    ∃ g cap w', (Builtin.append_ #[31, 31] ty #[.slice p 0 0, y]).run Try.prog w = .ok (.slice (some ⟨g, 0, none⟩) m cap) w' ∧ w'.ownsRow B 22 1 (.slice (some ⟨g, 0, none⟩) m cap) m news ∧ Below B w w' := by
  obtain ⟨i, hi, hz, h1, h8⟩ := info_f
  have hold : (Builtin.firstCells i.size 0 (.slice p 0 0)).run Try.prog w.drew = .ok ([] : List Value).toArray w.drew := by
    cases p with
    | none => exact run_firstCells_none w.drew i.size 0 0 0
    | some ad => exact run_firstCells_some w.drew i.size 0 ad 0 0 [] (by simp) (by intro j u h; simp at h)
  have hsrc' : Src Try.prog i.size 31 y m news w := by rw [h1]; exact hsrc
  have hnl := hsrc.newsLen
  have hcap := grownCap_ge w (0 + m) 0 22
  have hcap2 := grownCap_le_maxLen w (0 + m) 0 22 (by unfold maxLen; omega)
  rw [Nat.zero_add] at hcap hcap2
  have hr := run_append_grow_src w 31 31 ty 22 i (.float .f64 0) Try.underlying31 hi hz p 0 0 [] hold y m news hsrc' (by omega) (by omega) (by
    rw [h8]
    have : Builtin.nextslicecap (0 + m) 0 = m := by unfold Builtin.nextslicecap; simp; omega
    rw [this]; omega)
  rw [Nat.zero_add] at hr
  refine ⟨_, _, _, by rw [hr], ?_, ?_⟩
  · have hnew := World.alloc_heap_new w.drew (.cells (([] ++ news).toArray ++ Builtin.zeroCells (Value.float .f64 0).cells (grownCap w m 0 22 - m)) 22)
    refine ⟨hnl, .inr ⟨w.heap.size, grownCap w m 0 22, _, rfl, hB, hnew, hcap, hcap2, ?_, ?_⟩⟩
    · rw [Array.size_append, size_zeroCells]
      simp only [List.nil_append, List.size_toArray, hnl, Value.cells]
      simp only [List.size_toArray, List.length_cons, List.length_nil]
      omega
    · simp only [List.nil_append, Array.toList_append]
      rw [List.take_append_of_le_length (by simp [hnl])]
      rw [List.take_of_length_le (by simp [hnl])]
  · exact ((below_drewN (Below.refl B w) 1)).alloc hB _

/-- What is appended: the first cells behind an address, or nothing at all. -/
def AppSrc (w : World) (y : Value) (m : Nat) (news : List Value) : Prop :=
  (∃ ad c, y = .slice (some ad) m c ∧ ∀ j u, news[j]? = some u → w.cell? (ad.add j) = some u) ∨ (y = .slice none 0 0 ∧ m = 0)

/-- Onto a row of the call's own. -/
theorem run_app_own (w : World) (B : Nat) (hB : B ≤ w.heap.size) (g n cap : Nat) (xs : List Value) (hown : w.ownsRow B 22 1 (.slice (some ⟨g, 0, none⟩) n cap) n xs) (y : Value) (m : Nat) (news : List Value) (hl : news.length = m) (hone : ∀ u ∈ news, u.oneCell' = true) (hy : AppSrc w y m news) (h100 : n + m ≤ 1000) (ty : TypeId) :
    ∃ g' cap' w', (Builtin.append_ #[31, 31] ty #[.slice (some ⟨g, 0, none⟩) n cap, y]).run Try.prog w = .ok (.slice (some ⟨g', 0, none⟩) (n + m) cap') w' ∧ w'.ownsRow B 22 1 (.slice (some ⟨g', 0, none⟩) (n + m) cap') (n + m) (xs ++ news) ∧ Below B w w' ∧ w.grownBy w' (some g) := by
  obtain ⟨i, hi, hz, h1, h8⟩ := info_f
  have hbg : B ≤ g := by
    rcases hown.2 with ⟨h0, _⟩ | ⟨g2, cap2, cur, h0, hbg, _⟩
    · cases h0
    · cases h0; exact hbg
  rcases hy with ⟨ad, c, rfl, hc⟩ | ⟨rfl, rfl⟩
  · obtain ⟨v', w', hr, ho, hg, hnil⟩ := run_append_own_wide w B 31 ty 22 i (.float .f64 0) 1 8 Try.underlying31 hi hz h1 h8 rfl (by omega) _ n xs hown ad m c news (by omega) hc hone (by unfold maxLen; omega) (by omega) hB
    have hb := (Below.refl B w).grown hg hB (by intro k hk; cases hk; exact hbg)
    rcases ho.2 with ⟨h0, _⟩ | ⟨g2, cap2, cur, rfl, _⟩
    · have := (hnil.1 h0).1
      cases this
    · exact ⟨g2, cap2, w', hr, ho, hb, hg⟩
  · have : news = [] := List.eq_nil_of_length_eq_zero hl
    subst this
    rcases hown.2 with ⟨h0, _⟩ | ⟨g2, cap2, cur, h0, _, hg, hnc, _⟩
    · cases h0
    · cases h0
      have hr := run_append_room_src w 31 31 ty 22 i Try.underlying31 hi g 0 n cap (.slice none 0 0) 0 [] (Src.ofNil w Try.underlying31 0) (by omega) (by intro j hj; simp at hj) (by intro j hj; simp at hj)
      exact ⟨_, _, _, hr, by simpa [World.setCells] using hown, Below.refl B w, World.grownBy.refl _ _⟩

/-- At the operation. -/
theorem wp_app_own {o : Oper} {a : Act} {K : Act → World → Prop} {Q : Exit → Act → World → Prop} (s x : Operand) (w : World)
    (ho : o.op = .call { callee := .builtin .append, args := #[s, x], argTypes := #[31, 31] })
    (B : Nat) (hB : B ≤ w.heap.size) (g n cap : Nat) (xs : List Value) (hs : a.eval s = .slice (some ⟨g, 0, none⟩) n cap) (hown : w.ownsRow B 22 1 (.slice (some ⟨g, 0, none⟩) n cap) n xs) (y : Value) (m : Nat) (news : List Value) (hx : a.eval x = y) (hl : news.length = m) (hone : ∀ u ∈ news, u.oneCell' = true) (hy : AppSrc w y m news) (h100 : n + m ≤ 1000)
    (h : ∀ g' cap' w', w'.ownsRow B 22 1 (.slice (some ⟨g', 0, none⟩) (n + m) cap') (n + m) (xs ++ news) → Below B w w' → w.grownBy w' (some g) → K (a.put o.dst (.slice (some ⟨g', 0, none⟩) (n + m) cap')) w') : o.wp Try.prog a w K Q := by
  obtain ⟨g', cap', w', hr, h2, h3, h4⟩ := run_app_own w B hB g n cap xs hown y m news hl hone hy h100 o.type
  unfold Oper.wp execOp
  simp only [ho, resolve, invoke, builtin, Sem.run_bind, Sem.run_pure, Result.andThen_ok, List.map_toArray, List.map_cons, List.map_nil, hs, hx, hr]
  exact h g' cap' w' h2 h3 h4

theorem wpList_app_own {ops : Array Oper} {rest : List Oper} {o : Oper} {a : Act} {Q : Exit → Act → World → Prop} (w : World) (hgd : o.guard = none) (s x : Operand)
    (ho : o.op = .call { callee := .builtin .append, args := #[s, x], argTypes := #[31, 31] })
    (B : Nat) (hB : B ≤ w.heap.size) (g n cap : Nat) (xs : List Value) (hs : a.eval s = .slice (some ⟨g, 0, none⟩) n cap) (hown : w.ownsRow B 22 1 (.slice (some ⟨g, 0, none⟩) n cap) n xs) (y : Value) (m : Nat) (news : List Value) (hx : a.eval x = y) (hl : news.length = m) (hone : ∀ u ∈ news, u.oneCell' = true) (hy : AppSrc w y m news) (h100 : n + m ≤ 1000)
    (h : ∀ g' cap' w', w'.ownsRow B 22 1 (.slice (some ⟨g', 0, none⟩) (n + m) cap') (n + m) (xs ++ news) → Below B w w' → w.grownBy w' (some g) → wpList Try.prog ops Q rest (a.put o.dst (.slice (some ⟨g', 0, none⟩) (n + m) cap')) w') : wpList Try.prog ops Q (o :: rest) a w :=
  wpList_plain hgd fun _ hK => wp_app_own s x w ho B hB g n cap xs hs hown y m news hx hl hone hy h100 fun g' cap' w' h2 h3 h4 => hK _ _ (h g' cap' w' h2 h3 h4)

/-- At a step of a region that draws. -/
theorem step_app_own {ops : Array Oper} {o : Oper} {a : Act} {K : Act → World → Prop} {Q : Exit → Act → World → Prop} {E : Prop} (w : World) (hgd : o.guard = none) (s x : Operand)
    (ho : o.op = .call { callee := .builtin .append, args := #[s, x], argTypes := #[31, 31] })
    (B : Nat) (hB : B ≤ w.heap.size) (g n cap : Nat) (xs : List Value) (hs : a.eval s = .slice (some ⟨g, 0, none⟩) n cap) (hown : w.ownsRow B 22 1 (.slice (some ⟨g, 0, none⟩) n cap) n xs) (y : Value) (m : Nat) (news : List Value) (hx : a.eval x = y) (hl : news.length = m) (hone : ∀ u ∈ news, u.oneCell' = true) (hy : AppSrc w y m news) (h100 : n + m ≤ 1000)
    (h : ∀ g' cap' w', w'.ownsRow B 22 1 (.slice (some ⟨g', 0, none⟩) (n + m) cap') (n + m) (xs ++ news) → Below B w w' → w.grownBy w' (some g) → K (a.put o.dst (.slice (some ⟨g', 0, none⟩) (n + m) cap')) w') :
    if Region.wanted o (yielded ops a.tmps) = true then Oper.wp Try.prog o a w K Q else E := by
  have hw : Region.wanted o (yielded ops a.tmps) = true := by simp [Region.wanted, hgd]
  rw [if_pos hw]
  exact wp_app_own s x w ho B hB g n cap xs hs hown y m news hx hl hone hy h100 h

/-- The empty row of '[]float64{}' as it is laid. -/
theorem own_empty (w : World) (B : Nat) (hB : B ≤ w.heap.size) : (w.alloc (.cells #[] 22)).ownsRow B 22 1 (.slice (some ⟨w.heap.size, 0, none⟩) 0 0) 0 [] :=
  ⟨rfl, .inr ⟨w.heap.size, 0, #[], rfl, hB, World.alloc_heap_new w _, by omega, by unfold maxLen; omega, rfl, rfl⟩⟩

theorem own_empty_at (w : World) (B : Nat) (hB : B ≤ w.heap.size) (g : Nat) (hg : g = w.heap.size) : (w.alloc (.cells #[] 22)).ownsRow B 22 1 (.slice (some ⟨g, 0, none⟩) 0 0) 0 [] := by
  subst hg
  exact own_empty w B hB

theorem own_alloc {w : World} {B g n cap : Nat} {xs : List Value} (h : w.ownsRow B 22 1 (.slice (some ⟨g, 0, none⟩) n cap) n xs) (o : Obj) : (w.alloc o).ownsRow B 22 1 (.slice (some ⟨g, 0, none⟩) n cap) n xs := by
  refine ⟨h.1, ?_⟩
  rcases h.2 with ⟨h0, _⟩ | ⟨g2, cap2, cur, h0, hb, hg, hr⟩
  · cases h0
  · cases h0
    exact .inr ⟨g, cap, cur, rfl, hb, (Below.heap_alloc w o g (Array.getElem?_eq_some_iff.1 hg).1).trans hg, hr⟩

/-- A part of a row from its start. -/
theorem src_part {W : World} {g i k : Nat} {cur : Array Value} {os : List Nat} (hg : W.heap[g]? = some (.cells cur 22 (0, 0))) (htk : cur.toList.take (i * 1) = os.map (Value.float .f64)) (hk : k ≤ i) (fc : Nat) :
    AppSrc W (.slice (some ⟨g, 0, none⟩) k fc) k ((os.take k).map (Value.float .f64)) := by
  refine .inl ⟨_, fc, rfl, fun j u hu => World.news_of_block hg j u ?_⟩
  rw [List.map_take, ← htk, List.take_take, List.getElem?_take] at hu
  split at hu
  · exact hu
  · cases hu

/-- A part of a row to its end. -/
theorem src_rest {W : World} {g i k : Nat} {cur : Array Value} {os : List Nat} (hg : W.heap[g]? = some (.cells cur 22 (0, 0))) (htk : cur.toList.take (i * 1) = os.map (Value.float .f64)) (fc : Nat) :
    AppSrc W (.slice (some ⟨g, k, none⟩) (i - k) fc) (i - k) ((os.drop k).map (Value.float .f64)) := by
  refine .inl ⟨_, fc, rfl, fun j u hu => ?_⟩
  have hadd : (⟨g, k, none⟩ : Addr).add j = (⟨g, 0, none⟩ : Addr).add (k + j) := by
    by_cases hj : j = 0
    · subst hj
      by_cases hk : k = 0
      · subst hk; simp [Addr.add]
      · simp [Addr.add, hk]
    · simp [Addr.add, hj]
  rw [hadd]
  refine World.news_of_block hg (k + j) u ?_
  rw [List.map_drop, ← htk, List.getElem?_drop, List.getElem?_take] at hu
  split at hu
  · exact hu
  · cases hu

theorem src_one {W : World} {B x : Nat} (h : W.heap[B]? = some (.cells #[.float .f64 x] 22 (0, 0))) : AppSrc W (.slice (some ⟨B, 0, none⟩) 1 1) 1 [.float .f64 x] :=
  .inl ⟨_, 1, rfl, World.news_of_block h⟩

theorem floats_one (l : List Nat) : ∀ u ∈ l.map (Value.float .f64), u.oneCell' = true := fun u hu => by
  obtain ⟨_, _, rfl⟩ := List.mem_map.1 hu
  rfl

end Go.Proofs.Ythmpkelnmlkbiaa
