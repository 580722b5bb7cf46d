/- slices.Insert of one pod at a row of pods of the call's own. -/
import Derived.Test.YtjihpbbeoiddkaaGreatStB
import Derived.Laws.NewBlocks
import Derived.Deep.RegionHeld3
namespace Go.Proofs.YtjihpbbeoiddkaaGreat
open Go.RowKit
set_option linter.unusedVariables false

/-- A row laid anew, twice written. -/
theorem owns_grown {w : World} {B e s n G i : Nat} {xs vs : List Value} {ROW : Array Value} (hB : B ≤ w.heap.size) (hG : n + 1 ≤ G) (hm : G ≤ maxLen) (hi : i ≤ n) (hx : xs.length = n * s) (hv : vs.length = s) (hR : ROW.size = G * s) (hr : ∀ t, t < i * s → ROW[t]? = xs[t]?) :
    (((w.alloc (.cells ROW e)).setCells w.heap.size (i * s) vs).setCells w.heap.size ((i + 1) * s) (xs.drop (i * s))).ownsRow B e s (.slice (some ⟨w.heap.size, 0, none⟩) (n + 1) G) (n + 1) (xs.take (i * s) ++ vs ++ xs.drop (i * s)) := by
  have hns : (n + 1) * s ≤ G * s := Nat.mul_le_mul_right s hG
  have his : i * s ≤ n * s := Nat.mul_le_mul_right s hi
  have e0 : (n + 1) * s = n * s + s := by rw [Nat.add_mul, Nat.one_mul]
  have e1 : (i + 1) * s = i * s + s := by rw [Nat.add_mul, Nat.one_mul]
  have hld : (xs.drop (i * s)).length = n * s - i * s := by rw [List.length_drop, hx]
  refine owns_of hB (heap_cells _ _ _ _ _ e (heap_cells vs _ _ _ _ e (World.alloc_heap_new w _))) hG hm (by rw [layC_size, layC_size]; exact hR) (by rw [List.length_append, List.length_append, List.length_take, hld, hx, e0]; omega) (fun t htl => ?_)
  rw [e0] at htl
  rw [layC_get _ _ _ _ (by rw [layC_size, hld, e1]; omega), hld, e1]
  by_cases c1 : t < i * s
  · rw [if_neg (by omega), layC_get _ _ _ _ (by rw [hv]; omega), if_neg (by omega), hr t c1, List.append_assoc, List.getElem?_append_left (by rw [List.length_take, hx]; omega), List.getElem?_take, if_pos c1]
  · by_cases c2 : t < i * s + s
    · rw [if_neg (by omega), layC_get _ _ _ _ (by rw [hv]; omega), hv, if_pos (by omega), List.append_assoc, List.getElem?_append_right (by rw [List.length_take, hx]; omega), List.getElem?_append_left (by rw [List.length_take, hx, hv]; omega), List.length_take, hx]
      congr 1
      omega
    · rw [if_pos (by omega), List.getElem?_append_right (by rw [List.length_append, List.length_take, hx, hv]; omega), List.length_append, List.length_take, hx, hv]
      congr 1
      omega
/-- What an insertion makes. -/
def InsRes (v : Value) (B n i : Nat) (xs vs : List Value) (w : World) (e : Ending) (w' : World) : Prop := ∃ g c, e = .returned (.slice (some ⟨g, 0, none⟩) (n + 1) c) ∧ w'.ownsRow B 49 11 (.slice (some ⟨g, 0, none⟩) (n + 1) c) (n + 1) (xs.take (i * 11) ++ vs ++ xs.drop (i * 11)) ∧ GOff (fun b => v.ownBlock = some b) w w' ∧ (v.ownBlock = some g ∨ w.heap.size ≤ g)
set_option maxRecDepth 100000 in
set_option maxHeartbeats 4000000 in
theorem insEnd_any (v : Value) (n vb vc B : Nat) (xs vs : List Value) (w : World) (hown : w.ownsRow B 49 11 v n xs) (hbase : B ≤ w.heap.size) (hvl : vs.length = 11) (h1v : ∀ u ∈ vs, u.oneCell' = true) (hvs : ∀ j u, vs[j]? = some u → w.cell? ⟨vb, j, none⟩ = some u) (hbig : n ≤ 100000) :
    Calls Tryz.prog 47 #[v, .int .i64 n, .slice (some ⟨vb, 0, none⟩) 1 vc] w (InsRes v B n n xs vs w) := by
  obtain ⟨i0, hi0, hz0, hz1, hz2⟩ := info_parts infoPd
  have H := Lib.hid hown
  have HL := Lib.hid (show xs.length = n * 11 from hown.1)
  have HVS := Lib.hid (show ∀ j u, vs[j]? = some u → w.cell? ((⟨vb, 0, none⟩ : Addr).add j) = some u from fun j u h => by rw [Addr.add_lit, Nat.zero_add]; exact hvs j u h)
  have HB := Lib.hid hbase
  have H1 := Lib.hid h1v
  have HV := Lib.hid (show vs.length = 1 * 11 by rw [hvl])
  have t23 := Tryz.underlying23
  have key : ∀ (gg cap1 : Nat) (w2 : World), w2.ownsRow B 49 11 (.slice (some ⟨gg, 0, none⟩) (n + 1) cap1) (n + 1) (xs ++ vs) → w.grownBy w2 v.ownBlock → (v.ownBlock = some gg ∨ gg = w.heap.size) → InsRes v B n n xs vs w (.returned (.slice (some ⟨gg, 0, none⟩) (n + 1) cap1)) w2 := by
    intro gg cap1 w2 h1 h2 h3
    refine ⟨gg, cap1, rfl, ?_, GOff.grown h2 fun k e => e, h3.imp id fun e => by omega⟩
    rw [← HL.out, List.take_length, List.drop_length, List.append_nil]
    exact h1
  have HK := Lib.hid key
  rcases hown.2 with ⟨rfl, h0⟩ | ⟨g, c, cur, rfl, hb, hg, hnc, hcm, -⟩
  · subst h0
    clear hown hvl h1v hvs hbase key
    go_enter Tryz.func47, Tryz.ntmps47
    go_wp2_with (at_builtin; refine wpList_append_lies _ rfl _ _ _ rfl B 49 i0 _ 11 184 t23 hi0 hz0 hz1 hz2 rfl (by decide) (.slice none 0 0) 0 xs rfl H.out ⟨vb, 0, none⟩ 1 vc vs rfl HV.out HVS.out H1.out (by decide) (by unfold maxLen; omega) (by omega) HB.out w.heap.size rfl ?_; intro gg cap1 w2 hown1 hgrow hat hlt1)
    have HR := Lib.hid (HK.out gg cap1 w2 hown1 hgrow hat)
    clear hown1 hgrow hat hlt1
    go_wp2
    go_ret
    exact HR.out
  · have hc' : c ≤ 9223372036854775807 := by unfold maxLen at hcm; omega
    clear hown hvl h1v hvs hbase key hb hg
    go_enter Tryz.func47, Tryz.ntmps47
    go_wp2_with (at_builtin; refine wpList_append_lies _ rfl _ _ _ rfl B 49 i0 _ 11 184 t23 hi0 hz0 hz1 hz2 rfl (by decide) (.slice (some ⟨g, 0, none⟩) n c) n xs rfl H.out ⟨vb, 0, none⟩ 1 vc vs rfl HV.out HVS.out H1.out (by decide) (by unfold maxLen; omega) (by omega) HB.out w.heap.size rfl ?_; intro gg cap1 w2 hown1 hgrow hat hlt1)
    all_goals
      have HR := Lib.hid (HK.out gg cap1 w2 hown1 hgrow hat)
      clear hown1 hgrow hat hlt1
      go_wp2
      go_ret
      exact HR.out
set_option maxRecDepth 100000 in
set_option maxHeartbeats 4000000 in
theorem insShift_any (g n c i vb m vc B : Nat) (xs vs : List Value) (w : World) (hown : w.ownsRow B 49 11 (.slice (some ⟨g, 0, none⟩) n c) n xs) (hi : i < n) (hm1 : m = 1) (hroom : n + m ≤ c) (hvb : vb ≠ g) (h1c : ∀ u ∈ xs, u.oneCell' = true) (hvl : vs.length = m * 11) (h1v : ∀ u ∈ vs, u.oneCell' = true) (hvs : ∀ j u, vs[j]? = some u → w.cell? ⟨vb, j, none⟩ = some u)
    (tA : TypeId) (kA : Nat) (hsa : w.shape? vb = some (tA, kA)) (hfa : w.frozen? ⟨vb, 0, none⟩ = false) (hfe : w.frozen? ⟨vb, kA, none⟩ = false) :
    Calls Tryz.prog 47 #[.slice (some ⟨g, 0, none⟩) n c, .int .i64 i, .slice (some ⟨vb, 0, none⟩) m vc] w fun e w' => e = .returned (.slice (some ⟨g, 0, none⟩) (n + m) c) ∧ w' = (w.drew.setCells g ((i + m) * 11) (xs.drop (i * 11))).setCells g (i * 11) vs := by
  obtain ⟨i0, hi0, hz0, hzs, hzb⟩ := info_parts infoPd
  obtain ⟨cur, hB, hg, hn, hcm, hs, ht, hl⟩ := owns_parts hown
  have hm : 0 < m := by omega
  have hc63 : c ≤ 9223372036854775807 := by unfold maxLen at hcm; omega
  have t23 := Tryz.underlying23
  have hfr : ∀ t, w.frozen? ⟨g, t, none⟩ = false := fun t => hown.frozenAt t
  have hcell : ∀ t, t < n * 11 → w.cell? ⟨g, t, none⟩ = xs[t]? := fun t h => hown.cellAt t h
  have hsp : ∀ t, t < (n + m) * 11 → (w.cell? ⟨g, t, none⟩).isSome = true := fun t h => by
    rw [Lib.cell_of_heap hg, Array.getElem?_eq_getElem (by rw [hs]; exact Nat.lt_of_lt_of_le h (Nat.mul_le_mul_right 11 hroom))]; rfl
  have hz1 : ¬ ((m : Int) = 0) := by omega
  have hz2 : ¬ ((i : Int) = (n : Int)) := by omega
  have hdl : (xs.drop (i * 11)).length = n * 11 - i * 11 := by rw [List.length_drop, hl]
  have hks : cur.size ≠ 0 := by rw [hs]; omega
  have hsb : w.shape? g = some (49, cur.size) := by unfold World.shape?; rw [hg]
  have hov : ∀ lb cb, (callFunc 104 #[.slice (some ⟨vb, 0, none⟩) m vc, .slice (some ⟨g, (i + m) * 11, none⟩) lb cb]).run Tryz.prog w = .ok (.value (.bool false)) w := fun lb cb => by
    rw [run_callFunc_extern Tryz.func104 (by kernel_rfl) (by kernel_rfl) (by kernel_rfl) (e := Extern.SlicesOverlaps.overlaps #[23, 23] #[4]) (by kernel_rfl),
      Lib.run_overlaps_apart w 23 4 49 t23 11 (fun w => by simp [sizeOf, typeInfo, hi0, hzs]) ⟨vb, 0, none⟩ ⟨g, (i + m) * 11, none⟩ m vc lb cb hvb tA 49 kA cur.size hsa hsb hks hfa hfe]
    rfl
  have hw1 : IntKind.i64.wrap ((i : Int) + (m : Int)) = (i : Int) + (m : Int) := by rw [IntKind.wrap_i64]; omega
  have hb1 : (0 : Int) ≤ (i : Int) + (m : Int) := by omega
  have hin : i ≤ n := by omega
  have htn : ((i : Int) + (m : Int)).toNat = i + m := by omega
  have hb2 : ¬ (c = i + m) := by omega
  have hb3 : (i : Int) ≤ (n : Int) + (m : Int) := by omega
  have hb4 : ¬ (c = i) := by omega
  have hcp1 : ∀ ty dc sc, (Builtin.copy_ #[23, 23] ty #[.slice (some ⟨g, (i + m) * 11, none⟩) (n + m - (i + m)) dc, .slice (some ⟨g, i * 11, none⟩) (n + m - i) sc]).run Tryz.prog w.drew = .ok (goInt (Nat.min (n + m - i) (n + m - (i + m)))) (w.drew.setCells g ((i + m) * 11) (xs.drop (i * 11))) := fun ty dc sc =>
    run_copy_wide w.drew _ _ ty 49 i0 g ((i + m) * 11) (n + m - (i + m)) dc ⟨g, i * 11, none⟩ (n + m - i) sc (xs.drop (i * 11)) t23 hi0 (by rw [hdl, hzs]; simp only [Nat.min_def]; split <;> omega)
      (fun j v hj => by rw [Addr.add_lit]; rw [List.getElem?_drop] at hj; have := (List.getElem?_eq_some_iff.1 hj).1; exact (hcell _ (by omega)).trans hj)
      (fun j hj => hsp _ (by omega)) (fun j hj => hfr _) (fun v hv => h1c v (List.mem_of_mem_drop hv))
  obtain ⟨W1, hW1⟩ : ∃ W1, W1 = w.drew.setCells g ((i + m) * 11) (xs.drop (i * 11)) := ⟨_, rfl⟩
  have hsp1 : ∀ k, k < (n + m) * 11 → (W1.cell? ⟨g, k, none⟩).isSome = true := fun k hk => by
    rw [hW1]
    exact isSome_setCells g (xs.drop (i * 11)) ((i + m) * 11) w.drew (fun j hj => hsp _ (by rw [hdl] at hj; omega)) k (hsp k hk)
  have hcp2 : ∀ (W : World), (∀ x, W.cell? x = W1.cell? x) → (∀ x, W.frozen? x = W1.frozen? x) → ∀ ty dc, (Builtin.copy_ #[23, 23] ty #[.slice (some ⟨g, i * 11, none⟩) (n + m - i) dc, .slice (some ⟨vb, 0, none⟩) m vc]).run Tryz.prog W = .ok (goInt (Nat.min m (n + m - i))) (W.setCells g (i * 11) vs) := fun W hWc hWf ty dc =>
    run_copy_wide W _ _ ty 49 i0 g (i * 11) (n + m - i) dc ⟨vb, 0, none⟩ m vc vs t23 hi0 (by rw [hvl, hzs]; simp only [Nat.min_def]; split <;> omega)
      (fun j v hj => by
        rw [Addr.add_lit, hWc, hW1, World.cell?_setCells_out g _ _ _ _ (fun h _ => absurd h hvb), Nat.zero_add]
        exact hvs j v hj)
      (fun j hj => by rw [hWc]; exact hsp1 _ (by omega)) (fun j hj => by rw [hWf, hW1, World.frozen?_setCells]; exact hfr _) h1v
  rw [← hW1] at hcp1
  clear hown hB hg hcm hs ht hl hm1 hsa hsb hfa hfe hks
  go_enter Tryz.func47, Tryz.ntmps47
  go_wp2_with (simp only [hov])
  go_region_law (refine step_copy_runI rfl _ _ 23 23 rfl _ _ (by simp [Act.eval, Act.put]) (by simp [Act.eval, Act.put]) (hcp1 _ _ _) ?_)
  go_wp2_with (at_builtin; refine wpList_copy_runI _ rfl _ _ 23 23 rfl _ _ rfl rfl (hcp2 _ (fun _ => rfl) (fun _ => rfl) _ _) ?_)
  go_ret
  first | exact ⟨rfl, rfl⟩ | exact ⟨rfl, by rw [hW1]⟩
set_option maxRecDepth 100000 in
set_option maxHeartbeats 4000000 in
theorem insGrow_any (g n c i vb m vc B : Nat) (xs vs : List Value) (w : World) (hown : w.ownsRow B 49 11 (.slice (some ⟨g, 0, none⟩) n c) n xs) (hi : i < n) (hm : 0 < m) (hroom : c < n + m) (hbig : n + m ≤ 100001) (h1c : ∀ u ∈ xs, u.oneCell' = true) (hvl : vs.length = m * 11) (h1v : ∀ u ∈ vs, u.oneCell' = true) (hvs : ∀ j u, vs[j]? = some u → w.cell? ⟨vb, j, none⟩ = some u) :
    Calls Tryz.prog 47 #[.slice (some ⟨g, 0, none⟩) n c, .int .i64 i, .slice (some ⟨vb, 0, none⟩) m vc] w fun e w' => ∃ G ROW, n + m ≤ G ∧ G ≤ maxLen ∧ ROW = (xs.take (i * 11)).toArray ++ Builtin.zeroCells zeroPd (n + m - i) ++ Builtin.zeroCells zeroPd (G - (n + m)) ∧ e = .returned (.slice (some ⟨w.heap.size, 0, none⟩) (n + m) G) ∧
      w' = (((w.alloc (.cells ROW 49)).drew.setCells w.heap.size (i * 11) vs).drew).setCells w.heap.size ((i + m) * 11) (xs.drop (i * 11)) := by
  obtain ⟨i0, hi0, hz0, hzs, hzb⟩ := info_parts infoPd
  obtain ⟨cur, hB, hg, hnc, hcm, hs, ht, hl⟩ := owns_parts hown
  have t23 := Tryz.underlying23
  have hcell : ∀ t, t < n * 11 → w.cell? ⟨g, t, none⟩ = xs[t]? := fun t h => hown.cellAt t h
  have hcs : ∀ t v, xs[t]? = some v → w.cell? ⟨g, t, none⟩ = some v := fun t v h => (hcell t (by rw [← hl]; exact (List.getElem?_eq_some_iff.1 h).1)).trans h
  have hz1 : ¬ ((m : Int) = 0) := by omega
  have hz2 : ¬ ((i : Int) = (n : Int)) := by omega
  have hz3 : (c : Int) < (n : Int) + (m : Int) := by omega
  have hbw : g < w.heap.size := (hown.lt g rfl).2
  have hvw : vb < w.heap.size := World.block_lt_of_cell? _ _ (hvs 0 _ (List.getElem?_eq_getElem (by omega)))
  have hkk : (n : Int) + (m : Int) - (i : Int) = ((n + m - i : Nat) : Int) := by omega
  have hik : i + (n + m - i) = n + m := by omega
  have hold : (Builtin.firstCells i0.size i (.slice (some ⟨g, 0, none⟩) i c)).run Tryz.prog w.drew = .ok (xs.take (i * 11)).toArray w.drew := by
    rw [hzs]
    exact run_firstCells_some w.drew 11 i ⟨g, 0, none⟩ i c (xs.take (i * 11)) (by rw [List.length_take, hl]; omega) (fun j v hj => by
      rw [Addr.add_lit, Nat.zero_add]
      rw [List.getElem?_take] at hj
      split at hj
      · exact hcs j v hj
      · cases hj)
  have hrz : ∀ ty, (Builtin.append_ #[23, 3] ty #[.slice (some ⟨g, 0, none⟩) i c, .int .i64 ((n : Int) + (m : Int) - (i : Int))]).run Tryz.prog w =
      .ok (.slice (some ⟨w.heap.size, 0, none⟩) (n + m) (grownCap w (n + m) c 49)) (w.drew.alloc (.cells ((xs.take (i * 11)).toArray ++ Builtin.zeroCells zeroPd (n + m - i) ++ Builtin.zeroCells zeroPd (grownCap w (n + m) c 49 - (n + m))) 49)) := fun ty => by
    have h := Lib.run_append_grow_zeros w 23 3 ty 49 i0 (.agg zeroPd) .i64 .i64 t23 Tryz.underlying3 hi0 hz0 (some ⟨g, 0, none⟩) i c (xs.take (i * 11)) hold (n + m - i) (by omega) (by omega) (by omega) (by omega) (by rw [hzb]; omega) (by rw [hzb, hik]; exact growslice_fits hroom (by omega))
    rw [hik] at h
    rw [hkk]
    exact h
  obtain ⟨G, hG⟩ : ∃ G, G = grownCap w (n + m) c 49 := ⟨_, rfl⟩
  obtain ⟨ROW, hROW⟩ : ∃ ROW : Array Value, ROW = (xs.take (i * 11)).toArray ++ Builtin.zeroCells zeroPd (n + m - i) ++ Builtin.zeroCells zeroPd (G - (n + m)) := ⟨_, rfl⟩
  rw [← hG] at hrz
  rw [← hROW] at hrz
  have hGn : n + m ≤ G := by rw [hG]; exact grownCap_ge w _ _ _
  have hGM : G ≤ maxLen := by rw [hG]; exact grownCap_le_maxLen w (n + m) c 49 (by unfold maxLen; omega)
  have hG63 : G ≤ 9223372036854775807 := by unfold maxLen at hGM; omega
  have hRl : ROW.size = G * 11 := by
    rw [hROW, Array.size_append, Array.size_append, zeros_size, zeros_size, List.size_toArray, List.length_take, hl]
    omega
  obtain ⟨W1, hW1⟩ : ∃ W1, W1 = w.drew.alloc (.cells ROW 49) := ⟨_, rfl⟩
  rw [← hW1] at hrz
  have hN : ∀ j, j < (n + m) * 11 → (W1.cell? ⟨w.heap.size, j, none⟩).isSome = true := fun j hj => by
    rw [hW1, World.cell?_alloc_at (w := w.drew) ROW _ w.heap.size j rfl, Array.getElem?_eq_getElem (by rw [hRl]; exact Nat.lt_of_lt_of_le hj (Nat.mul_le_mul_right 11 hGn))]; rfl
  have hNf : ∀ j, W1.frozen? ⟨w.heap.size, j, none⟩ = false := fun j => by rw [hW1]; exact World.frozen?_alloc_at (w := w.drew) ROW _ w.heap.size j rfl
  have hOb : ∀ j v, w.cell? ⟨g, j, none⟩ = some v → W1.cell? ⟨g, j, none⟩ = some v := fun j v h => by rw [hW1, World.cell?_alloc_past (w := w.drew) _ g j hbw]; exact h
  have hOv : ∀ j v, w.cell? ⟨vb, j, none⟩ = some v → W1.cell? ⟨vb, j, none⟩ = some v := fun j v h => by rw [hW1, World.cell?_alloc_past (w := w.drew) _ vb j hvw]; exact h
  have hcpA : ∀ (W : World), (∀ x, W.cell? x = W1.cell? x) → (∀ x, W.frozen? x = W1.frozen? x) → ∀ ty dc, (Builtin.copy_ #[23, 23] ty #[.slice (some ⟨w.heap.size, i * 11, none⟩) (n + m - i) dc, .slice (some ⟨vb, 0, none⟩) m vc]).run Tryz.prog W = .ok (goInt (Nat.min m (n + m - i))) (W.setCells w.heap.size (i * 11) vs) := fun W hWc hWf ty dc =>
    run_copy_wide W _ _ ty 49 i0 w.heap.size (i * 11) (n + m - i) dc ⟨vb, 0, none⟩ m vc vs t23 hi0 (by rw [hvl, hzs]; simp only [Nat.min_def]; split <;> omega)
      (fun j v hj => by rw [Addr.add_lit, hWc, Nat.zero_add]; exact hOv _ v (hvs j v hj))
      (fun j hj => by rw [hWc]; exact hN _ (by omega)) (fun j hj => by rw [hWf]; exact hNf _) h1v
  have hGi : ¬ (G = i) := by omega
  have hGim : ¬ (G = i + m) := by omega
  have hci : ¬ (c = i) := by omega
  have hbN : g ≠ w.heap.size := by omega
  have hdl : (xs.drop (i * 11)).length = n * 11 - i * 11 := by rw [List.length_drop, hl]
  have hcpB : ∀ (W : World), (∀ x, W.cell? x = (W1.setCells w.heap.size (i * 11) vs).cell? x) → (∀ x, W.frozen? x = (W1.setCells w.heap.size (i * 11) vs).frozen? x) → ∀ ty dc sc, (Builtin.copy_ #[23, 23] ty #[.slice (some ⟨w.heap.size, (i + m) * 11, none⟩) (n + m - (i + m)) dc, .slice (some ⟨g, i * 11, none⟩) (n - i) sc]).run Tryz.prog W = .ok (goInt (Nat.min (n - i) (n + m - (i + m)))) (W.setCells w.heap.size ((i + m) * 11) (xs.drop (i * 11))) := fun W hWc hWf ty dc sc =>
    run_copy_wide W _ _ ty 49 i0 w.heap.size ((i + m) * 11) (n + m - (i + m)) dc ⟨g, i * 11, none⟩ (n - i) sc (xs.drop (i * 11)) t23 hi0 (by rw [hdl, hzs]; simp only [Nat.min_def]; split <;> omega)
      (fun j v hj => by
        rw [Addr.add_lit, hWc, World.cell?_setCells_out _ _ _ _ _ (fun h _ => absurd h hbN)]
        exact hOb _ v (hcs (i * 11 + j) v (by rwa [List.getElem?_drop] at hj)))
      (fun j hj => by rw [hWc]; exact isSome_setCells _ _ _ _ (fun t ht => hN _ (by omega)) _ (hN _ (by omega)))
      (fun j hj => by rw [hWf, World.frozen?_setCells]; exact hNf _) (fun v hv => h1c v (List.mem_of_mem_drop hv))
  subst hW1
  have hE1 : ∀ x, ((w.alloc (.cells ROW 49)).drew).cell? x = (w.drew.alloc (.cells ROW 49)).cell? x := fun x => rfl
  have hE2 : ∀ x, ((w.alloc (.cells ROW 49)).drew).frozen? x = (w.drew.alloc (.cells ROW 49)).frozen? x := fun x => rfl
  have hF1 : ∀ x, (((w.alloc (.cells ROW 49)).drew.setCells w.heap.size (i * 11) vs).drew).cell? x = ((w.drew.alloc (.cells ROW 49)).setCells w.heap.size (i * 11) vs).cell? x := fun x => rfl
  have hF2 : ∀ x, (((w.alloc (.cells ROW 49)).drew.setCells w.heap.size (i * 11) vs).drew).frozen? x = ((w.drew.alloc (.cells ROW 49)).setCells w.heap.size (i * 11) vs).frozen? x := fun x => rfl
  have hw1 : IntKind.i64.wrap ((i : Int) + (m : Int)) = (i : Int) + (m : Int) := by rw [IntKind.wrap_i64]; omega
  have hb1 : (0 : Int) ≤ (i : Int) + (m : Int) := by omega
  have hin : i ≤ n := by omega
  have htn : ((i : Int) + (m : Int)).toNat = i + m := by omega
  have hb3 : (i : Int) ≤ (n : Int) := by omega
  have HROW := Lib.hid hROW
  have HGM := Lib.hid hGM
  clear hkk hik hold hROW hG hRl hGM hown hB hg hcm hs ht hl
  go_enter Tryz.func47, Tryz.ntmps47
  go_wp2_with (first
    | (at_builtin; refine Lib.wpList_append_run _ rfl _ _ _ _ rfl _ _ rfl rfl _ _ (hrz _) ?_)
    | (at_builtin; refine wpList_copy_runI _ rfl _ _ 23 23 rfl _ _ rfl rfl (hcpA _ hE1 hE2 _ _) ?_)
    | (at_builtin; refine wpList_copy_runI _ rfl _ _ 23 23 rfl _ _ rfl rfl (hcpB _ (fun _ => rfl) (fun _ => rfl) _ _ _) ?_))
  go_region_law (refine step_copy_runI rfl _ _ 23 23 rfl (.slice (some ⟨w.heap.size, (i + m) * 11, none⟩) (n + m - (i + m)) (G - (i + m))) (.slice (some ⟨g, i * 11, none⟩) (n - i) (c - i)) (by simp [Act.eval, Act.put]) (by simp [Act.eval, Act.put]) (hcpB _ hF1 hF2 3 (G - (i + m)) (c - i)) ?_)
  go_wp2
  go_ret
  exact ⟨G, ROW, hGn, HGM.out, HROW.out, rfl, rfl⟩
theorem insertP_any (v : Value) (n i vb vc B : Nat) (xs vs : List Value) (w : World) (hown : w.ownsRow B 49 11 v n xs) (hbase : B ≤ w.heap.size) (hi : i ≤ n) (h1c : ∀ u ∈ xs, u.oneCell' = true) (hvl : vs.length = 11) (h1v : ∀ u ∈ vs, u.oneCell' = true) (hvs : w.heap[vb]? = some (.cells vs.toArray 49)) (hvb : v.ownBlock ≠ some vb) (hbig : n ≤ 100000) :
    Calls Tryz.prog 47 #[v, .int .i64 i, .slice (some ⟨vb, 0, none⟩) 1 vc] w (InsRes v B n i xs vs w) := by
  have hcv : ∀ j u, vs[j]? = some u → w.cell? ⟨vb, j, none⟩ = some u := fun j u h => by rw [Lib.cell_of_heap hvs]; simpa using h
  by_cases he : i = n
  · subst he
    exact insEnd_any v i vb vc B xs vs w hown hbase hvl h1v hcv hbig
  · have hlt : i < n := by omega
    rcases hown.2 with ⟨rfl, h0⟩ | ⟨g, c, cur, rfl, hb, hg, hnc, hcm, -⟩
    · omega
    · have hfz : ∀ t, w.frozen? ⟨vb, t, none⟩ = false := fun t => by unfold World.frozen?; rw [show w.heap[(⟨vb, t, none⟩ : Addr).block]? = some (.cells vs.toArray 49 (0, 0)) from hvs]; simp
      by_cases hr : n + 1 ≤ c
      · refine (insShift_any g n c i vb 1 vc B xs vs w hown hlt rfl hr (fun e => hvb (by rw [e]; rfl)) h1c (by rw [hvl]) h1v hcv 49 vs.toArray.size (by unfold World.shape?; rw [hvs]) (hfz _) (hfz _)).mono ?_
        rintro e w' ⟨rfl, rfl⟩
        exact ⟨g, c, rfl, owns_shift (w := w.drew) (owns_drew hown) hi hvl hr, (((GOff.drew w).trans (GOff.cells (S := fun b => (Value.slice (some ⟨g, 0, none⟩) n c).ownBlock = some b) g rfl _ _ _)).trans (GOff.cells (S := fun b => (Value.slice (some ⟨g, 0, none⟩) n c).ownBlock = some b) g rfl _ _ _)), .inl rfl⟩
      · refine (insGrow_any g n c i vb 1 vc B xs vs w hown hlt (by decide) (by omega) (by omega) h1c (by rw [hvl]) h1v hcv).mono ?_
        rintro e w' ⟨G, ROW, h1, h2, hROW, rfl, rfl⟩
        have hl : xs.length = n * 11 := hown.1
        have hRl : ROW.size = G * 11 := by
          rw [hROW, Array.size_append, Array.size_append, zeros_size, zeros_size, List.size_toArray, List.length_take, hl]
          omega
        have hrow : ∀ t, t < i * 11 → ROW[t]? = xs[t]? := fun t ht => by
          rw [hROW, Array.append_assoc, Array.getElem?_append_left (by rw [List.size_toArray, List.length_take, hl]; omega), List.getElem?_toArray, List.getElem?_take, if_pos ht]
        refine ⟨w.heap.size, G, rfl, ?_, ?_, .inr (Nat.le_refl _)⟩
        · simp only [← drew_setCells]
          exact owns_drew (owns_drew (owns_grown (w := w) hbase h1 h2 hi hl hvl hRl hrow))
        · have k : Kept w (((w.alloc (.cells ROW 49)).drew.setCells w.heap.size (i * 11) vs).drew.setCells w.heap.size ((i + 1) * 11) (xs.drop (i * 11))) :=
            setCells_below _ _ _ _ _ _ (Nat.le_refl _) (Below.drew (setCells_below _ _ _ _ _ _ (Nat.le_refl _) (Below.drew (kept_alloc w _))))
          exact GOff.of k

end Go.Proofs.YtjihpbbeoiddkaaGreat
