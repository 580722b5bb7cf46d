/- Package by package: contracts of the functions that the laws call. -/
import Derived.Test.YtfpgekjhcfoohaaGreatShort
import Derived.Test.YtfpgekjhcfoohaaGreatStB
import Derived.Laws.NewBlocks
import Derived.Deep.RegionHeld3
import Derived.Test.YtfpgekjhcfoohaaGreatStA
import Derived.Deep.CutRange
/- slices.Insert of one pod at a row of pods of the call's own. -/
set_option linter.unusedVariables false
namespace Go.Proofs.YtfpgekjhcfoohaaGreat
open Go.RowKit
theorem owns_grown {w : World} {B e s n G i : Nat} {xs vs : List Value} {ROW : Array Value} (hB : B ≤ w.heap.size) (hG : n + 1 ≤ G) (hm : G ≤ maxLen) (hi : i ≤ n) (hx : xs.length = n * s) (hv : vs.length = s) (hR : ROW.size = G * s) (hr : ∀ t, t < i * s → ROW[t]? = xs[t]?) :
 (((w.alloc (.cells ROW e)).setCells w.heap.size (i * s) vs).setCells w.heap.size ((i + 1) * s) (xs.drop (i * s))).ownsRow B e s (.slice (some ⟨w.heap.size, 0, none⟩) (n + 1) G) (n + 1) (xs.take (i * s) ++ vs ++ xs.drop (i * s)) := by
 have hns : (n + 1) * s ≤ G * s := Nat.mul_le_mul_right s hG
 have his : i * s ≤ n * s := Nat.mul_le_mul_right s hi
 have e0 : (n + 1) * s = n * s + s := by rw [Nat.add_mul, Nat.one_mul]
 have e1 : (i + 1) * s = i * s + s := by rw [Nat.add_mul, Nat.one_mul]
 have hld : (xs.drop (i * s)).length = n * s - i * s := by rw [List.length_drop, hx]
 refine owns_of hB (heap_cells _ _ _ _ _ e (heap_cells vs _ _ _ _ e (World.alloc_heap_new w _))) hG hm (by rw [layC_size, layC_size]; exact hR) (by rw [List.length_append, List.length_append, List.length_take, hld, hx, e0]; omega) (fun t htl => ?_)
 rw [e0] at htl
 rw [layC_get _ _ _ _ (by rw [layC_size, hld, e1]; omega), hld, e1]
 by_cases c1 : t < i * s
 · rw [if_neg (by omega), layC_get _ _ _ _ (by rw [hv]; omega), if_neg (by omega), hr t c1, List.append_assoc, List.getElem?_append_left (by rw [List.length_take, hx]; omega), List.getElem?_take, if_pos c1]
 · by_cases c2 : t < i * s + s
   · rw [if_neg (by omega), layC_get _ _ _ _ (by rw [hv]; omega), hv, if_pos (by omega), List.append_assoc, List.getElem?_append_right (by rw [List.length_take, hx]; omega), List.getElem?_append_left (by rw [List.length_take, hx, hv]; omega), List.length_take, hx]
     congr 1
     omega
   · rw [if_pos (by omega), List.getElem?_append_right (by rw [List.length_append, List.length_take, hx, hv]; omega), List.length_append, List.length_take, hx, hv]
     congr 1
     omega
def InsRes (v : Value) (B n i : Nat) (xs vs : List Value) (w : World) (e : Ending) (w' : World) : Prop := ∃ g c, e = .returned (.slice (some ⟨g, 0, none⟩) (n + 1) c) ∧ w'.ownsRow B 49 11 (.slice (some ⟨g, 0, none⟩) (n + 1) c) (n + 1) (xs.take (i * 11) ++ vs ++ xs.drop (i * 11)) ∧ GOff (fun b => v.ownBlock = some b) w w' ∧ (v.ownBlock = some g ∨ w.heap.size ≤ g)
set_option maxRecDepth 100000 in
set_option maxHeartbeats 4000000 in
theorem insEnd_any (v : Value) (n vb vc B : Nat) (xs vs : List Value) (w : World) (hown : w.ownsRow B 49 11 v n xs) (hbase : B ≤ w.heap.size) (hvl : vs.length = 11) (h1v : ∀ u ∈ vs, u.oneCell' = true) (hvs : ∀ j u, vs[j]? = some u → w.cell? ⟨vb, j, none⟩ = some u) (hbig : n ≤ 100000) :
 Calls Tryz.prog 47 #[v, .int .i64 n, .slice (some ⟨vb, 0, none⟩) 1 vc] w (InsRes v B n n xs vs w) := by
 obtain ⟨i0, hi0, hz0, hz1, hz2⟩ := info_parts infoPd
 have H := lH hown
 have HL := lH (show xs.length = n * 11 from hown.1)
 have HVS := lH (show ∀ j u, vs[j]? = some u → w.cell? ((⟨vb, 0, none⟩ : Addr).add j) = some u from fun j u h => by rw [Addr.add_lit, Nat.zero_add]; exact hvs j u h)
 have HB := lH hbase
 have H1 := lH h1v
 have HV := lH (show vs.length = 1 * 11 by rw [hvl])
 have t23 := Tryz.underlying23
 have key : ∀ (gg cap1 : Nat) (w2 : World), w2.ownsRow B 49 11 (.slice (some ⟨gg, 0, none⟩) (n + 1) cap1) (n + 1) (xs ++ vs) → w.grownBy w2 v.ownBlock → (v.ownBlock = some gg ∨ gg = w.heap.size) → InsRes v B n n xs vs w (.returned (.slice (some ⟨gg, 0, none⟩) (n + 1) cap1)) w2 := by
  intro gg cap1 w2 h1 h2 h3
  refine ⟨gg, cap1, rfl, ?_, GOff.grown h2 fun k e => e, h3.imp id fun e => by omega⟩
  rw [← HL.out, List.take_length, List.drop_length, List.append_nil]
  exact h1
 have HK := lH key
 rcases hown.2 with ⟨rfl, h0⟩ | ⟨g, c, cur, rfl, hb, hg, hnc, hcm, -⟩
 · subst h0
   clear hown hvl h1v hvs hbase key
   go_enter Tryz.func47, Tryz.ntmps47
   go_wp2_with (at_builtin; refine wpList_append_lies _ rfl _ _ _ rfl B 49 i0 _ 11 184 t23 hi0 hz0 hz1 hz2 rfl (by decide) (.slice none 0 0) 0 xs rfl H.out ⟨vb, 0, none⟩ 1 vc vs rfl HV.out HVS.out H1.out (by decide) (by unfold maxLen; omega) (by omega) HB.out w.heap.size rfl ?_; intro gg cap1 w2 hown1 hgrow hat hlt1)
   have HR := lH (HK.out gg cap1 w2 hown1 hgrow hat)
   clear hown1 hgrow hat hlt1
   go_wp2
   go_ret
   exact HR.out
 · have hc' : c ≤ 9223372036854775807 := by unfold maxLen at hcm; omega
   clear hown hvl h1v hvs hbase key hb hg
   go_enter Tryz.func47, Tryz.ntmps47
   go_wp2_with (at_builtin; refine wpList_append_lies _ rfl _ _ _ rfl B 49 i0 _ 11 184 t23 hi0 hz0 hz1 hz2 rfl (by decide) (.slice (some ⟨g, 0, none⟩) n c) n xs rfl H.out ⟨vb, 0, none⟩ 1 vc vs rfl HV.out HVS.out H1.out (by decide) (by unfold maxLen; omega) (by omega) HB.out w.heap.size rfl ?_; intro gg cap1 w2 hown1 hgrow hat hlt1)
   all_goals
    have HR := lH (HK.out gg cap1 w2 hown1 hgrow hat)
    clear hown1 hgrow hat hlt1
    go_wp2
    go_ret
    exact HR.out
set_option maxRecDepth 100000 in
set_option maxHeartbeats 4000000 in
theorem insShift_any (g n c i vb m vc B : Nat) (xs vs : List Value) (w : World) (hown : w.ownsRow B 49 11 (.slice (some ⟨g, 0, none⟩) n c) n xs) (hi : i < n) (hm1 : m = 1) (hroom : n + m ≤ c) (hvb : vb ≠ g) (h1c : ∀ u ∈ xs, u.oneCell' = true) (hvl : vs.length = m * 11) (h1v : ∀ u ∈ vs, u.oneCell' = true) (hvs : ∀ j u, vs[j]? = some u → w.cell? ⟨vb, j, none⟩ = some u)
 (tA : TypeId) (kA : Nat) (hsa : w.shape? vb = some (tA, kA)) (hfa : w.frozen? ⟨vb, 0, none⟩ = false) (hfe : w.frozen? ⟨vb, kA, none⟩ = false) :
 Calls Tryz.prog 47 #[.slice (some ⟨g, 0, none⟩) n c, .int .i64 i, .slice (some ⟨vb, 0, none⟩) m vc] w fun e w' => e = .returned (.slice (some ⟨g, 0, none⟩) (n + m) c) ∧ w' = (w.drew.setCells g ((i + m) * 11) (xs.drop (i * 11))).setCells g (i * 11) vs := by
 obtain ⟨i0, hi0, hz0, hzs, hzb⟩ := info_parts infoPd
 obtain ⟨cur, hB, hg, hn, hcm, hs, ht, hl⟩ := owns_parts hown
 have hm : 0 < m := by omega
 have hc63 : c ≤ 9223372036854775807 := by unfold maxLen at hcm; omega
 have t23 := Tryz.underlying23
 have hfr : ∀ t, w.frozen? ⟨g, t, none⟩ = false := fun t => hown.frozenAt t
 have hcell : ∀ t, t < n * 11 → w.cell? ⟨g, t, none⟩ = xs[t]? := fun t h => hown.cellAt t h
 have hsp : ∀ t, t < (n + m) * 11 → (w.cell? ⟨g, t, none⟩).isSome = true := fun t h => by
  rw [Lib.cell_of_heap hg, Array.getElem?_eq_getElem (by rw [hs]; exact Nat.lt_of_lt_of_le h (Nat.mul_le_mul_right 11 hroom))]; rfl
 have hz1 : ¬ ((m : Int) = 0) := by omega
 have hz2 : ¬ ((i : Int) = (n : Int)) := by omega
 have hdl : (xs.drop (i * 11)).length = n * 11 - i * 11 := by rw [List.length_drop, hl]
 have hks : cur.size ≠ 0 := by rw [hs]; omega
 have hsb : w.shape? g = some (49, cur.size) := by unfold World.shape?; rw [hg]
 have hov : ∀ lb cb, (callFunc 104 #[.slice (some ⟨vb, 0, none⟩) m vc, .slice (some ⟨g, (i + m) * 11, none⟩) lb cb]).run Tryz.prog w = .ok (.value (.bool false)) w := fun lb cb => by
  rw [run_callFunc_extern Tryz.func104 (by kernel_rfl) (by kernel_rfl) (by kernel_rfl) (e := Extern.SlicesOverlaps.overlaps #[23, 23] #[4]) (by kernel_rfl),
   Lib.run_overlaps_apart w 23 4 49 t23 11 (fun w => by simp [sizeOf, typeInfo, hi0, hzs]) ⟨vb, 0, none⟩ ⟨g, (i + m) * 11, none⟩ m vc lb cb hvb tA 49 kA cur.size hsa hsb hks hfa hfe]
  rfl
 have hw1 : IntKind.i64.wrap ((i : Int) + (m : Int)) = (i : Int) + (m : Int) := by rw [IntKind.wrap_i64]; omega
 have hb1 : (0 : Int) ≤ (i : Int) + (m : Int) := by omega
 have hin : i ≤ n := by omega
 have htn : ((i : Int) + (m : Int)).toNat = i + m := by omega
 have hb2 : ¬ (c = i + m) := by omega
 have hb3 : (i : Int) ≤ (n : Int) + (m : Int) := by omega
 have hb4 : ¬ (c = i) := by omega
 have hcp1 : ∀ ty dc sc, (Builtin.copy_ #[23, 23] ty #[.slice (some ⟨g, (i + m) * 11, none⟩) (n + m - (i + m)) dc, .slice (some ⟨g, i * 11, none⟩) (n + m - i) sc]).run Tryz.prog w.drew = .ok (goInt (Nat.min (n + m - i) (n + m - (i + m)))) (w.drew.setCells g ((i + m) * 11) (xs.drop (i * 11))) := fun ty dc sc =>
  run_copy_wide w.drew _ _ ty 49 i0 g ((i + m) * 11) (n + m - (i + m)) dc ⟨g, i * 11, none⟩ (n + m - i) sc (xs.drop (i * 11)) t23 hi0 (by rw [hdl, hzs]; simp only [Nat.min_def]; split <;> omega)
   (fun j v hj => by rw [Addr.add_lit]; rw [List.getElem?_drop] at hj; have := (List.getElem?_eq_some_iff.1 hj).1; exact (hcell _ (by omega)).trans hj)
   (fun j hj => hsp _ (by omega)) (fun j hj => hfr _) (fun v hv => h1c v (List.mem_of_mem_drop hv))
 obtain ⟨W1, hW1⟩ : ∃ W1, W1 = w.drew.setCells g ((i + m) * 11) (xs.drop (i * 11)) := ⟨_, rfl⟩
 have hsp1 : ∀ k, k < (n + m) * 11 → (W1.cell? ⟨g, k, none⟩).isSome = true := fun k hk => by
  rw [hW1]
  exact isSome_setCells g (xs.drop (i * 11)) ((i + m) * 11) w.drew (fun j hj => hsp _ (by rw [hdl] at hj; omega)) k (hsp k hk)
 have hcp2 : ∀ (W : World), (∀ x, W.cell? x = W1.cell? x) → (∀ x, W.frozen? x = W1.frozen? x) → ∀ ty dc, (Builtin.copy_ #[23, 23] ty #[.slice (some ⟨g, i * 11, none⟩) (n + m - i) dc, .slice (some ⟨vb, 0, none⟩) m vc]).run Tryz.prog W = .ok (goInt (Nat.min m (n + m - i))) (W.setCells g (i * 11) vs) := fun W hWc hWf ty dc =>
  run_copy_wide W _ _ ty 49 i0 g (i * 11) (n + m - i) dc ⟨vb, 0, none⟩ m vc vs t23 hi0 (by rw [hvl, hzs]; simp only [Nat.min_def]; split <;> omega)
   (fun j v hj => by
     rw [Addr.add_lit, hWc, hW1, World.cell?_setCells_out g _ _ _ _ (fun h _ => absurd h hvb), Nat.zero_add]
     exact hvs j v hj)
   (fun j hj => by rw [hWc]; exact hsp1 _ (by omega)) (fun j hj => by rw [hWf, hW1, World.frozen?_setCells]; exact hfr _) h1v
 rw [← hW1] at hcp1
 clear hown hB hg hcm hs ht hl hm1 hsa hsb hfa hfe hks
 go_enter Tryz.func47, Tryz.ntmps47
 go_wp2_with (simp only [hov])
 go_region_law (refine step_copy_runI rfl _ _ 23 23 rfl _ _ (by simp [Act.eval, Act.put]) (by simp [Act.eval, Act.put]) (hcp1 _ _ _) ?_)
 go_wp2_with (at_builtin; refine wpList_copy_runI _ rfl _ _ 23 23 rfl _ _ rfl rfl (hcp2 _ (fun _ => rfl) (fun _ => rfl) _ _) ?_)
 go_ret
 first | exact ⟨rfl, rfl⟩ | exact ⟨rfl, by rw [hW1]⟩
set_option maxRecDepth 100000 in
set_option maxHeartbeats 4000000 in
theorem insGrow_any (g n c i vb m vc B : Nat) (xs vs : List Value) (w : World) (hown : w.ownsRow B 49 11 (.slice (some ⟨g, 0, none⟩) n c) n xs) (hi : i < n) (hm : 0 < m) (hroom : c < n + m) (hbig : n + m ≤ 100001) (h1c : ∀ u ∈ xs, u.oneCell' = true) (hvl : vs.length = m * 11) (h1v : ∀ u ∈ vs, u.oneCell' = true) (hvs : ∀ j u, vs[j]? = some u → w.cell? ⟨vb, j, none⟩ = some u) :
 Calls Tryz.prog 47 #[.slice (some ⟨g, 0, none⟩) n c, .int .i64 i, .slice (some ⟨vb, 0, none⟩) m vc] w fun e w' => ∃ G ROW, n + m ≤ G ∧ G ≤ maxLen ∧ ROW = (xs.take (i * 11)).toArray ++ Builtin.zeroCells zeroPd (n + m - i) ++ Builtin.zeroCells zeroPd (G - (n + m)) ∧ e = .returned (.slice (some ⟨w.heap.size, 0, none⟩) (n + m) G) ∧
  w' = (((w.alloc (.cells ROW 49)).drew.setCells w.heap.size (i * 11) vs).drew).setCells w.heap.size ((i + m) * 11) (xs.drop (i * 11)) := by
 obtain ⟨i0, hi0, hz0, hzs, hzb⟩ := info_parts infoPd
 obtain ⟨cur, hB, hg, hnc, hcm, hs, ht, hl⟩ := owns_parts hown
 have t23 := Tryz.underlying23
 have hcell : ∀ t, t < n * 11 → w.cell? ⟨g, t, none⟩ = xs[t]? := fun t h => hown.cellAt t h
 have hcs : ∀ t v, xs[t]? = some v → w.cell? ⟨g, t, none⟩ = some v := fun t v h => (hcell t (by rw [← hl]; exact (List.getElem?_eq_some_iff.1 h).1)).trans h
 have hz1 : ¬ ((m : Int) = 0) := by omega
 have hz2 : ¬ ((i : Int) = (n : Int)) := by omega
 have hz3 : (c : Int) < (n : Int) + (m : Int) := by omega
 have hbw : g < w.heap.size := (hown.lt g rfl).2
 have hvw : vb < w.heap.size := World.block_lt_of_cell? _ _ (hvs 0 _ (List.getElem?_eq_getElem (by omega)))
 have hkk : (n : Int) + (m : Int) - (i : Int) = ((n + m - i : Nat) : Int) := by omega
 have hik : i + (n + m - i) = n + m := by omega
 have hold : (Builtin.firstCells i0.size i (.slice (some ⟨g, 0, none⟩) i c)).run Tryz.prog w.drew = .ok (xs.take (i * 11)).toArray w.drew := by
  rw [hzs]
  exact run_firstCells_some w.drew 11 i ⟨g, 0, none⟩ i c (xs.take (i * 11)) (by rw [List.length_take, hl]; omega) (fun j v hj => by
   rw [Addr.add_lit, Nat.zero_add]
   rw [List.getElem?_take] at hj
   split at hj
   · exact hcs j v hj
   · cases hj)
 have hrz : ∀ ty, (Builtin.append_ #[23, 3] ty #[.slice (some ⟨g, 0, none⟩) i c, .int .i64 ((n : Int) + (m : Int) - (i : Int))]).run Tryz.prog w =
  .ok (.slice (some ⟨w.heap.size, 0, none⟩) (n + m) (grownCap w (n + m) c 49)) (w.drew.alloc (.cells ((xs.take (i * 11)).toArray ++ Builtin.zeroCells zeroPd (n + m - i) ++ Builtin.zeroCells zeroPd (grownCap w (n + m) c 49 - (n + m))) 49)) := fun ty => by
  have h := Lib.run_append_grow_zeros w 23 3 ty 49 i0 (.agg zeroPd) .i64 .i64 t23 Tryz.underlying3 hi0 hz0 (some ⟨g, 0, none⟩) i c (xs.take (i * 11)) hold (n + m - i) (by omega) (by omega) (by omega) (by omega) (by rw [hzb]; omega) (by rw [hzb, hik]; exact growslice_fits hroom (by omega))
  rw [hik] at h
  rw [hkk]
  exact h
 obtain ⟨G, hG⟩ : ∃ G, G = grownCap w (n + m) c 49 := ⟨_, rfl⟩
 obtain ⟨ROW, hROW⟩ : ∃ ROW : Array Value, ROW = (xs.take (i * 11)).toArray ++ Builtin.zeroCells zeroPd (n + m - i) ++ Builtin.zeroCells zeroPd (G - (n + m)) := ⟨_, rfl⟩
 rw [← hG] at hrz
 rw [← hROW] at hrz
 have hGn : n + m ≤ G := by rw [hG]; exact grownCap_ge w _ _ _
 have hGM : G ≤ maxLen := by rw [hG]; exact grownCap_le_maxLen w (n + m) c 49 (by unfold maxLen; omega)
 have hG63 : G ≤ 9223372036854775807 := by unfold maxLen at hGM; omega
 have hRl : ROW.size = G * 11 := by
  rw [hROW, Array.size_append, Array.size_append, zeros_size, zeros_size, List.size_toArray, List.length_take, hl]
  omega
 obtain ⟨W1, hW1⟩ : ∃ W1, W1 = w.drew.alloc (.cells ROW 49) := ⟨_, rfl⟩
 rw [← hW1] at hrz
 have hN : ∀ j, j < (n + m) * 11 → (W1.cell? ⟨w.heap.size, j, none⟩).isSome = true := fun j hj => by
  rw [hW1, World.cell?_alloc_at (w := w.drew) ROW _ w.heap.size j rfl, Array.getElem?_eq_getElem (by rw [hRl]; exact Nat.lt_of_lt_of_le hj (Nat.mul_le_mul_right 11 hGn))]; rfl
 have hNf : ∀ j, W1.frozen? ⟨w.heap.size, j, none⟩ = false := fun j => by rw [hW1]; exact World.frozen?_alloc_at (w := w.drew) ROW _ w.heap.size j rfl
 have hOb : ∀ j v, w.cell? ⟨g, j, none⟩ = some v → W1.cell? ⟨g, j, none⟩ = some v := fun j v h => by rw [hW1, World.cell?_alloc_past (w := w.drew) _ g j hbw]; exact h
 have hOv : ∀ j v, w.cell? ⟨vb, j, none⟩ = some v → W1.cell? ⟨vb, j, none⟩ = some v := fun j v h => by rw [hW1, World.cell?_alloc_past (w := w.drew) _ vb j hvw]; exact h
 have hcpA : ∀ (W : World), (∀ x, W.cell? x = W1.cell? x) → (∀ x, W.frozen? x = W1.frozen? x) → ∀ ty dc, (Builtin.copy_ #[23, 23] ty #[.slice (some ⟨w.heap.size, i * 11, none⟩) (n + m - i) dc, .slice (some ⟨vb, 0, none⟩) m vc]).run Tryz.prog W = .ok (goInt (Nat.min m (n + m - i))) (W.setCells w.heap.size (i * 11) vs) := fun W hWc hWf ty dc =>
  run_copy_wide W _ _ ty 49 i0 w.heap.size (i * 11) (n + m - i) dc ⟨vb, 0, none⟩ m vc vs t23 hi0 (by rw [hvl, hzs]; simp only [Nat.min_def]; split <;> omega)
   (fun j v hj => by rw [Addr.add_lit, hWc, Nat.zero_add]; exact hOv _ v (hvs j v hj))
   (fun j hj => by rw [hWc]; exact hN _ (by omega)) (fun j hj => by rw [hWf]; exact hNf _) h1v
 have hGi : ¬ (G = i) := by omega
 have hGim : ¬ (G = i + m) := by omega
 have hci : ¬ (c = i) := by omega
 have hbN : g ≠ w.heap.size := by omega
 have hdl : (xs.drop (i * 11)).length = n * 11 - i * 11 := by rw [List.length_drop, hl]
 have hcpB : ∀ (W : World), (∀ x, W.cell? x = (W1.setCells w.heap.size (i * 11) vs).cell? x) → (∀ x, W.frozen? x = (W1.setCells w.heap.size (i * 11) vs).frozen? x) → ∀ ty dc sc, (Builtin.copy_ #[23, 23] ty #[.slice (some ⟨w.heap.size, (i + m) * 11, none⟩) (n + m - (i + m)) dc, .slice (some ⟨g, i * 11, none⟩) (n - i) sc]).run Tryz.prog W = .ok (goInt (Nat.min (n - i) (n + m - (i + m)))) (W.setCells w.heap.size ((i + m) * 11) (xs.drop (i * 11))) := fun W hWc hWf ty dc sc =>
  run_copy_wide W _ _ ty 49 i0 w.heap.size ((i + m) * 11) (n + m - (i + m)) dc ⟨g, i * 11, none⟩ (n - i) sc (xs.drop (i * 11)) t23 hi0 (by rw [hdl, hzs]; simp only [Nat.min_def]; split <;> omega)
   (fun j v hj => by
     rw [Addr.add_lit, hWc, World.cell?_setCells_out _ _ _ _ _ (fun h _ => absurd h hbN)]
     exact hOb _ v (hcs (i * 11 + j) v (by rwa [List.getElem?_drop] at hj)))
   (fun j hj => by rw [hWc]; exact isSome_setCells _ _ _ _ (fun t ht => hN _ (by omega)) _ (hN _ (by omega)))
   (fun j hj => by rw [hWf, World.frozen?_setCells]; exact hNf _) (fun v hv => h1c v (List.mem_of_mem_drop hv))
 subst hW1
 have hE1 : ∀ x, ((w.alloc (.cells ROW 49)).drew).cell? x = (w.drew.alloc (.cells ROW 49)).cell? x := fun x => rfl
 have hE2 : ∀ x, ((w.alloc (.cells ROW 49)).drew).frozen? x = (w.drew.alloc (.cells ROW 49)).frozen? x := fun x => rfl
 have hF1 : ∀ x, (((w.alloc (.cells ROW 49)).drew.setCells w.heap.size (i * 11) vs).drew).cell? x = ((w.drew.alloc (.cells ROW 49)).setCells w.heap.size (i * 11) vs).cell? x := fun x => rfl
 have hF2 : ∀ x, (((w.alloc (.cells ROW 49)).drew.setCells w.heap.size (i * 11) vs).drew).frozen? x = ((w.drew.alloc (.cells ROW 49)).setCells w.heap.size (i * 11) vs).frozen? x := fun x => rfl
 have hw1 : IntKind.i64.wrap ((i : Int) + (m : Int)) = (i : Int) + (m : Int) := by rw [IntKind.wrap_i64]; omega
 have hb1 : (0 : Int) ≤ (i : Int) + (m : Int) := by omega
 have hin : i ≤ n := by omega
 have htn : ((i : Int) + (m : Int)).toNat = i + m := by omega
 have hb3 : (i : Int) ≤ (n : Int) := by omega
 have HROW := lH hROW
 have HGM := lH hGM
 clear hkk hik hold hROW hG hRl hGM hown hB hg hcm hs ht hl
 go_enter Tryz.func47, Tryz.ntmps47
 go_wp2_with (first
  | (at_builtin; refine Lib.wpList_append_run _ rfl _ _ _ _ rfl _ _ rfl rfl _ _ (hrz _) ?_)
  | (at_builtin; refine wpList_copy_runI _ rfl _ _ 23 23 rfl _ _ rfl rfl (hcpA _ hE1 hE2 _ _) ?_)
  | (at_builtin; refine wpList_copy_runI _ rfl _ _ 23 23 rfl _ _ rfl rfl (hcpB _ (fun _ => rfl) (fun _ => rfl) _ _ _) ?_))
 go_region_law (refine step_copy_runI rfl _ _ 23 23 rfl (.slice (some ⟨w.heap.size, (i + m) * 11, none⟩) (n + m - (i + m)) (G - (i + m))) (.slice (some ⟨g, i * 11, none⟩) (n - i) (c - i)) (by simp [Act.eval, Act.put]) (by simp [Act.eval, Act.put]) (hcpB _ hF1 hF2 3 (G - (i + m)) (c - i)) ?_)
 go_wp2
 go_ret
 exact ⟨G, ROW, hGn, HGM.out, HROW.out, rfl, rfl⟩
theorem insertP_any (v : Value) (n i vb vc B : Nat) (xs vs : List Value) (w : World) (hown : w.ownsRow B 49 11 v n xs) (hbase : B ≤ w.heap.size) (hi : i ≤ n) (h1c : ∀ u ∈ xs, u.oneCell' = true) (hvl : vs.length = 11) (h1v : ∀ u ∈ vs, u.oneCell' = true) (hvs : w.heap[vb]? = some (.cells vs.toArray 49)) (hvb : v.ownBlock ≠ some vb) (hbig : n ≤ 100000) :
 Calls Tryz.prog 47 #[v, .int .i64 i, .slice (some ⟨vb, 0, none⟩) 1 vc] w (InsRes v B n i xs vs w) := by
 have hcv : ∀ j u, vs[j]? = some u → w.cell? ⟨vb, j, none⟩ = some u := fun j u h => by rw [Lib.cell_of_heap hvs]; simpa using h
 by_cases he : i = n
 · subst he
   exact insEnd_any v i vb vc B xs vs w hown hbase hvl h1v hcv hbig
 · have hlt : i < n := by omega
   rcases hown.2 with ⟨rfl, h0⟩ | ⟨g, c, cur, rfl, hb, hg, hnc, hcm, -⟩
   · omega
   · have hfz : ∀ t, w.frozen? ⟨vb, t, none⟩ = false := fun t => by unfold World.frozen?; rw [show w.heap[(⟨vb, t, none⟩ : Addr).block]? = some (.cells vs.toArray 49 (0, 0)) from hvs]; simp
     by_cases hr : n + 1 ≤ c
     · refine (insShift_any g n c i vb 1 vc B xs vs w hown hlt rfl hr (fun e => hvb (by rw [e]; rfl)) h1c (by rw [hvl]) h1v hcv 49 vs.toArray.size (by unfold World.shape?; rw [hvs]) (hfz _) (hfz _)).mono ?_
       rintro e w' ⟨rfl, rfl⟩
       exact ⟨g, c, rfl, owns_shift (w := w.drew) (owns_drew hown) hi hvl hr, (((GOff.drew w).trans (GOff.cells (S := fun b => (Value.slice (some ⟨g, 0, none⟩) n c).ownBlock = some b) g rfl _ _ _)).trans (GOff.cells (S := fun b => (Value.slice (some ⟨g, 0, none⟩) n c).ownBlock = some b) g rfl _ _ _)), .inl rfl⟩
     · refine (insGrow_any g n c i vb 1 vc B xs vs w hown hlt (by decide) (by omega) (by omega) h1c (by rw [hvl]) h1v hcv).mono ?_
       rintro e w' ⟨G, ROW, h1, h2, hROW, rfl, rfl⟩
       have hl : xs.length = n * 11 := hown.1
       have hRl : ROW.size = G * 11 := by
        rw [hROW, Array.size_append, Array.size_append, zeros_size, zeros_size, List.size_toArray, List.length_take, hl]
        omega
       have hrow : ∀ t, t < i * 11 → ROW[t]? = xs[t]? := fun t ht => by
        rw [hROW, Array.append_assoc, Array.getElem?_append_left (by rw [List.size_toArray, List.length_take, hl]; omega), List.getElem?_toArray, List.getElem?_take, if_pos ht]
       refine ⟨w.heap.size, G, rfl, ?_, ?_, .inr (Nat.le_refl _)⟩
       · simp only [← drew_setCells]
         exact owns_drew (owns_drew (owns_grown (w := w) hbase h1 h2 hi hl hvl hRl hrow))
       · have k : Kept w (((w.alloc (.cells ROW 49)).drew.setCells w.heap.size (i * 11) vs).drew.setCells w.heap.size ((i + 1) * 11) (xs.drop (i * 11))) :=
          setCells_below _ _ _ _ _ _ (Nat.le_refl _) (Below.drew (setCells_below _ _ _ _ _ _ (Nat.le_refl _) (Below.drew (kept_alloc w _))))
         exact GOff.of k
open Go.RowKit
theorem drop_len (x : ByteArray) : ∀ l : List Pd, (dropP x l).length ≤ l.length
 | [] => Nat.le_refl _
 | p :: t => by
  rw [dropP]
  split
  · simp
  · have := drop_len x t; simp; omega
theorem insClu_any {S : Nat → Prop} {B i len cap vb vc : Nat} {ap : Option Addr} {w : World} {v1 v3 : Value} {s : Clu} (h : OwnClu S B w v1 (.slice ap len cap) v3 s) (z : PX) (hi : i ≤ len) (hlen : len ≤ 100000) (hB : B ≤ w.heap.size) (hS : ∀ k, S k → k < w.heap.size) (hvs : w.heap[vb]? = some (.cells (PodLay0.cs z).toArray 49)) (hvb : (Value.slice ap len cap).ownBlock ≠ some vb)
 (hz : Off (fun b => S b ∨ (Value.slice ap len cap).ownBlock = some b) w fun u => At4 u z) :
 Calls Tryz.prog 47 #[.slice ap len cap, .int .i64 i, .slice (some ⟨vb, 0, none⟩) 1 vc] w fun e w' => ∃ g c, e = .returned (.slice (some ⟨g, 0, none⟩) (len + 1) c) ∧ OwnClu S B w' v1 (.slice (some ⟨g, 0, none⟩) (len + 1) c) v3 { s with pods := s.pods.take i ++ z.1 :: s.pods.drop i } ∧ GOff (fun b => (Value.slice ap len cap).ownBlock = some b) w w' := by
 obtain ⟨lx, hmap, hown, hd⟩ := h.pods
 obtain ⟨a', c', e', _⟩ := hown.at_
 have hll : lx.length = len := by cases e'; rfl
 have hx : rowCells PodLay0 (lx.take i ++ z :: lx.drop i) = (rowCells PodLay0 lx).take (i * 11) ++ PodLay0.cs z ++ (rowCells PodLay0 lx).drop (i * 11) := by
  rw [show z :: lx.drop i = [z] ++ lx.drop i from rfl, rowCells_append, rowCells_append, rowCells_take, rowCells_drop]
  unfold rowCells
  simp [PodLay0]
 refine (insertP_any _ len i vb vc B (rowCells PodLay0 lx) (PodLay0.cs z) w (by have := hown.1; rw [hll] at this; exact this) hB hi (rowCells_one _ _) rfl (one_pod0 z) hvs hvb hlen).mono ?_
 rintro e w' ⟨g, c, rfl, ho, hg, hn⟩
 have hn' : ∀ k, (Value.slice (some ⟨g, 0, none⟩) (len + 1) c).ownBlock = some k → (Value.slice ap len cap).ownBlock = some k ∨ w.heap.size ≤ k := fun k hk => by
  obtain rfl : g = k := Option.some.inj hk
  exact hn
 have hd' : ∀ y ∈ lx.take i ++ z :: lx.drop i, Off (fun b => S b ∨ (Value.slice ap len cap).ownBlock = some b) w fun u => At4 u y := fun y hy => by
  rcases List.mem_append.1 hy with hy | hy
  · exact hd y (List.mem_of_mem_take hy)
  · rcases List.mem_cons.1 hy with rfl | hy
    · exact hz
    · exact hd y (List.mem_of_mem_drop hy)
 refine ⟨g, c, rfl, h.turn hg hn' hS ⟨lx.take i ++ z :: lx.drop i, by rw [List.map_append, List.map_cons, List.map_take, List.map_drop, hmap], ⟨?_, fun x hx => trivial⟩, OwnClu.els (B := B) hd' hg hn'⟩, hg⟩
 have h2 : (lx.take i ++ z :: lx.drop i).length = len + 1 := by rw [List.length_append, List.length_cons, List.length_take, List.length_drop, hll]; omega
 rw [h2, hx]
 exact ho
set_option maxRecDepth 100000 in
set_option maxHeartbeats 6400000 in
theorem putSt_any (a b d : Option Addr) (len cap m c n e : Nat) (nl : List Nod) (pl : List Pd) (bl : List Bd) (p : Pd) (s1 s2 s3 s4 : Option Addr) (t1 u1 t2 u2 t3 u3 t4 u4 : Nat) (w : World) (hn : NodesAt w a len nl) (hp : PodsAt w b m pl) (hb : BudsAt w d n bl) (h1 : len ≤ cap) (h2 : cap ≤ maxLen) (h3 : m ≤ c) (h4 : c ≤ maxLen) (h5 : n ≤ e) (h6 : e ≤ maxLen) (hl : LowClu ⟨nl, pl, bl⟩) (hP : PodAt w (.slice s1 t1 u1) (.slice s2 t2 u2) (.slice s3 t3 u3) (.slice s4 t4 u4) p) (hLP : LowPd p) :
 Calls Tryz.prog 14 #[.agg #[.slice a len cap, .slice b m c, .slice d n e], PodV p (.slice s1 t1 u1) (.slice s2 t2 u2) (.slice s3 t3 u3) (.slice s4 t4 u4)] w fun e w' => ∃ a1 n1 c1 a2 n2 c2 a3 n3 c3, e = .returned (.agg #[.slice a1 n1 c1, .slice a2 n2 c2, .slice a3 n3 c3]) ∧ OwnClu (fun b => b < w.heap.size) w.heap.size w' (.slice a1 n1 c1) (.slice a2 n2 c2) (.slice a3 n3 c3) (putSt ⟨nl, pl, bl⟩ p) ∧ Kept w w' := by
 obtain ⟨p0, p1, p2, q1, q2, q3, q4, p3, p4, p5, p6⟩ := p
 obtain ⟨Z, hZ⟩ : ∃ Z, ((w.alloc (.cells #[.slice a len cap, .slice b m c, .slice d n e] 26)).alloc (.cells #[.string p0, .string p1, .int .i64 p2, .slice s1 t1 u1, .slice s2 t2 u2, .slice s3 t3 u3, .slice s4 t4 u4, .string p3, .int .i64 p4, .string p5, .bool p6] 49)).alloc (.cells #[.slice none 0 0, .slice none 0 0, .slice none 0 0] 26) = Z := ⟨_, rfl⟩
 have hkz : Kept w Z := by rw [← hZ]; exact (kept_two _ _ _).trans (kept_alloc _ _)
 have hzs : Z.heap.size = w.heap.size + 3 := by rw [← hZ]; simp
 have cc := freshN w (.slice a len cap) [.slice b m c, .slice d n e] 26 Z (by rw [← hZ]; exact kept_two _ _ _)
 have o0 := cc.at_ 0 _ rfl
 have o1 := cc.at_ 1 _ rfl
 have o2 := cc.at_ 2 _ rfl
 have HPB := lH (show CellsN (w.heap.size + 1) [.string p0, .string p1, .int .i64 p2, .slice s1 t1 u1, .slice s2 t2 u2, .slice s3 t3 u3, .slice s4 t4 u4, .string p3, .int .i64 p4, .string p5, .bool p6] Z by
  have dd := freshN (w.alloc (.cells #[.slice a len cap, .slice b m c, .slice d n e] 26)) (.string p0) [.string p1, .int .i64 p2, .slice s1 t1 u1, .slice s2 t2 u2, .slice s3 t3 u3, .slice s4 t4 u4, .string p3, .int .i64 p4, .string p5, .bool p6] 49 Z (by rw [← hZ]; exact kept_alloc _ _)
  rw [World.size_alloc] at dd
  exact dd)
 have HQ := lH (show CellsN (w.heap.size + 2) [.slice none 0 0, .slice none 0 0, .slice none 0 0] Z by
  have dd := freshN ((w.alloc (.cells #[.slice a len cap, .slice b m c, .slice d n e] 26)).alloc (.cells #[.string p0, .string p1, .int .i64 p2, .slice s1 t1 u1, .slice s2 t2 u2, .slice s3 t3 u3, .slice s4 t4 u4, .string p3, .int .i64 p4, .string p5, .bool p6] 49)) (.slice none 0 0) [.slice none 0 0, .slice none 0 0] 26 Z (by rw [hZ]; exact Kept.refl _)
  rw [World.size_alloc, World.size_alloc] at dd
  exact dd)
 have y0 := HPB.out.at_ 0 _ rfl
 have HO := lH (dropSt_any a b d len cap m c n e nl pl bl p0 Z (hn.kept hkz) (hp.kept hkz) (hb.kept hkz) h1 h2 h3 h4 h5 h6 hl)
 have HKZ := lH hkz
 have HZS := lH hzs
 have HPN := lH hl.podsN
 have HPP := lH (hP.kept hkz)
 have HLP := lH hLP
 clear hn hp hb h1 h2 h3 h4 h5 h6 hl hkz hzs cc hP hLP
 unfold PodV
 dsimp only
 go_enter Tryz.func14, Tryz.ntmps14
 go_wp2_with fail
 try rw [hZ]
 go_wp2_with fail
 try rw [hZ]
 clear hZ o0 o1 o2 y0
 refine HO.out.mono ?_
 rintro e1 w1 ⟨a1, n1, c1, a2, n2, c2, a3, n3, c3, rfl, ho, k1⟩
 obtain ⟨W1, hW1⟩ : ∃ W, w1.alloc (.cells #[.slice a1 n1 c1, .slice a2 n2 c2, .slice a3 n3 c3] 26) = W := ⟨_, rfl⟩
 have hkw : Kept w1 W1 := by rw [← hW1]; exact kept_alloc _ _
 have HC := lH (ho.more (q := w1.heap.size) hkw (Nat.le_refl _))
 have HW := lH (show CellsN w1.heap.size [.slice a1 n1 c1, .slice a2 n2 c2, .slice a3 n3 c3] W1 from freshN w1 (.slice a1 n1 c1) [.slice a2 n2 c2, .slice a3 n3 c3] 26 W1 (by rw [hW1]; exact Kept.refl _))
 have HQ := lH (HQ.out.kept (k1.trans hkw))
 have HPB := lH (HPB.out.kept (k1.trans hkw))
 have HPP := lH (HPP.out.kept (k1.trans hkw))
 have K := lH (k1.trans hkw)
 have HS1 := lH (show Z.heap.size ≤ w1.heap.size ∧ w1.heap.size < W1.heap.size from ⟨k1.size, by rw [← hW1, World.size_alloc]; exact Nat.lt_succ_self _⟩)
 clear ho k1 hkw
 obtain ⟨v1, v2, v3, hu, hat⟩ := HC.out.toR
 cases hu
 obtain ⟨ap, cp, ep, l1, l2, hpat⟩ := hat.pods
 cases ep
 have HPA := lH hpat
 clear hat l1 l2
 have HDL := lH (show (dropSt ⟨nl, pl, bl⟩ p0).pods.length ≤ 100000 from Nat.le_trans (drop_len p0 pl) HPN.out)
 obtain ⟨l9, hl9⟩ : ∃ l, (dropSt ⟨nl, pl, bl⟩ p0).pods = l := ⟨_, rfl⟩
 obtain ⟨len9, hlen9⟩ : ∃ q, l9.length = q := ⟨_, rfl⟩
 have HE9 := lH (show l9 = dropP p0 pl by rw [← hl9]; rfl)
 have HL9 := lH hlen9
 skip
 rw [hl9] at HPA HDL HW HC ⊢
 rw [hlen9] at HPA HDL HW HC ⊢
 try rw [hl9] at hW1
 try rw [hlen9] at hW1
 have HCN := lH (show (dropSt ⟨nl, pl, bl⟩ p0) = ⟨nl, l9, bl⟩ by rw [HE9.out]; rfl)
 rw [HCN.out] at HC
 clear hl9 hlen9 hpat
 go_wp2_with fail
 try rw [hW1]
 try clear hW1
 have HS := lH (show ∀ W, CellsN (w.heap.size + 1) [.string p0, .string p1, .int .i64 p2, .slice s1 t1 u1, .slice s2 t2 u2, .slice s3 t3 u3, .slice s4 t4 u4, .string p3, .int .i64 p4, .string p5, .bool p6] W → W.cell? ⟨w.heap.size + 1, 0, none⟩ = some (.string p0) ∧ W.cell? ⟨w.heap.size + 1, 1, none⟩ = some (.string p1) ∧ W.cell? ⟨w.heap.size + 1, 2, none⟩ = some (.int .i64 p2) ∧ W.cell? ⟨w.heap.size + 1, 3, none⟩ = some (.slice s1 t1 u1) ∧ W.cell? ⟨w.heap.size + 1, 4, none⟩ = some (.slice s2 t2 u2) ∧ W.cell? ⟨w.heap.size + 1, 5, none⟩ = some (.slice s3 t3 u3) ∧ W.cell? ⟨w.heap.size + 1, 6, none⟩ = some (.slice s4 t4 u4) ∧ W.cell? ⟨w.heap.size + 1, 7, none⟩ = some (.string p3) ∧ W.cell? ⟨w.heap.size + 1, 8, none⟩ = some (.int .i64 p4) ∧ W.cell? ⟨w.heap.size + 1, 9, none⟩ = some (.string p5) ∧ W.cell? ⟨w.heap.size + 1, 10, none⟩ = some (.bool p6) from fun W h => ⟨h.at_ 0 _ rfl, h.at_ 1 _ rfl, h.at_ 2 _ rfl, h.at_ 3 _ rfl, h.at_ 4 _ rfl, h.at_ 5 _ rfl, h.at_ 6 _ rfl, h.at_ 7 _ rfl, h.at_ 8 _ rfl, h.at_ 9 _ rfl, h.at_ 10 _ rfl⟩)
 have HP2 := lH (fun W (k : Kept W1 W) => HPB.out.kept k)
 skip
 refine wp_region_held_drew (S := fun W => W.cell? ⟨w.heap.size + 1, 0, none⟩ = some (.string p0) ∧ W.cell? ⟨w.heap.size + 1, 1, none⟩ = some (.string p1) ∧ W.cell? ⟨w.heap.size + 1, 2, none⟩ = some (.int .i64 p2) ∧ W.cell? ⟨w.heap.size + 1, 3, none⟩ = some (.slice s1 t1 u1) ∧ W.cell? ⟨w.heap.size + 1, 4, none⟩ = some (.slice s2 t2 u2) ∧ W.cell? ⟨w.heap.size + 1, 5, none⟩ = some (.slice s3 t3 u3) ∧ W.cell? ⟨w.heap.size + 1, 6, none⟩ = some (.slice s4 t4 u4) ∧ W.cell? ⟨w.heap.size + 1, 7, none⟩ = some (.string p3) ∧ W.cell? ⟨w.heap.size + 1, 8, none⟩ = some (.int .i64 p4) ∧ W.cell? ⟨w.heap.size + 1, 9, none⟩ = some (.string p5) ∧ W.cell? ⟨w.heap.size + 1, 10, none⟩ = some (.bool p6)) (by kernel_rfl) (HS.out _ (HP2.out _ (Kept.drew _))) (fun hHeld => ?_)
 refine tkH 0 (v := ?_) (y := Or.inl ⟨by rfl, (by rintro W ⟨o0, o1, o2, o3, o4, o5, o6, o7, o8, o9, o10⟩; go_simp <;> with_reducible rfl)⟩) (h := ?_)
 try simp only [nP]
 refine tkH 2 (v := ?_) (y := Or.inl ⟨by rfl, (by rintro W ⟨o0, o1, o2, o3, o4, o5, o6, o7, o8, o9, o10⟩; go_simp <;> with_reducible rfl)⟩) (h := ?_)
 try simp only [nP]
 refine tkH 4 (v := ?_) (y := Or.inl ⟨by rfl, (by rintro W ⟨o0, o1, o2, o3, o4, o5, o6, o7, o8, o9, o10⟩; go_simp <;> with_reducible rfl)⟩) (h := ?_)
 try simp only [nP]
 refine tkH 5 (v := ?_) (y := Or.inl ⟨by rfl, (by rintro W ⟨o0, o1, o2, o3, o4, o5, o6, o7, o8, o9, o10⟩; go_simp <;> with_reducible rfl)⟩) (h := ?_)
 try simp only [nP]
 refine tkH 7 (v := ?_) (y := Or.inl ⟨by rfl, (by rintro W ⟨o0, o1, o2, o3, o4, o5, o6, o7, o8, o9, o10⟩; go_simp <;> with_reducible rfl)⟩) (h := ?_)
 try simp only [nP]
 refine rdH (rs := [1, 3]) (h := coH (fun K9 hK9 => ?_) (coH (fun K9 hK9 => ?_) AllReadyH.nil))
 · skip
   have yq : W1.drew.cell? ⟨w1.heap.size, 1, none⟩ = some (.slice a2 len9 c2) := (HW.out.kept (Kept.drew W1)).at_ 1 _ rfl
   go_simp
   refine hK9.out _ _ (HS.out _ (HP2.out _ (Kept.drew W1))) (fun hHeld8 => ?_)
   clear hK9 K9 yq
   try simp only [nP]
   have yq : W1.drew.cell? ⟨w1.heap.size, 1, none⟩ = some (.slice a2 len9 c2) := HW.out.at_ 1 _ rfl
   refine rdH (rs := [3]) (h := coH (fun K9 hK9 => ?_) AllReadyH.nil)
   go_simp
   refine hK9.out _ _ (HS.out _ (HP2.out _ (Kept.drew _))) (fun hHeld9 => ?_)
   clear hK9 K9 yq
   try simp only [nP]
   refine rdH (rs := [6]) (h := coH (fun K9 hK9 => ?_) AllReadyH.nil)
   go_simp
   refine (placeOf_any a2 len9 c2 l9 p0 _ (HPA.out.kept (Kept.drew _))).mono ?_
   rintro e2 w2 ⟨rfl, kk⟩
   have J1 := lH ((Kept.drew W1).trans kk)
   clear kk
   refine hK9.out _ _ (HS.out _ (HP2.out _ J1.out)) (fun hHeld21 => ?_)
   clear hK9 K9
   try simp only [nP]
   refine rdH (rs := [8]) (h := coH (fun K9 hK9 => ?_) AllReadyH.nil)
   go_simp
   have HOW := ownedPod_any ⟨p0, p1, p2, q1, q2, q3, q4, p3, p4, p5, p6⟩ (.slice s1 t1 u1) (.slice s2 t2 u2) (.slice s3 t3 u3) (.slice s4 t4 u4) w2 (HPP.out.kept J1.out) HLP.out
   unfold PodV at HOW
   dsimp only at HOW
   refine HOW.mono ?_
   clear HOW
   rintro e3 w3 ⟨v, rfl, hv, kk⟩
   have J2 := lH (J1.out.trans kk)
   obtain ⟨x1, y1, z1, x2, y2, z2, x3, y3, z3, x4, y4, z4, hv9, sp, g1, g2, g3, g4⟩ := hv
   have hv9 : v = .agg #[.string p0, .string p1, .int .i64 p2, .slice x1 y1 z1, .slice x2 y2 z2, .slice x3 y3 z3, .slice x4 y4 z4, .string p3, .int .i64 p4, .string p5, .bool p6] := hv9
   subst hv9
   have HG := lH (show Z.heap.size ≤ w1.heap.size ∧ w1.heap.size < w2.heap.size from ⟨HS1.out.1, Nat.lt_of_lt_of_le HS1.out.2 J1.out.size⟩)
   have HOF := lH (show Off (fun b => (b < Z.heap.size ∨ b = w1.heap.size) ∨ (Value.slice a2 len9 c2).ownBlock = some b) w3 fun u => At4 u (⟨p0, p1, p2, q1, q2, q3, q4, p3, p4, p5, p6⟩, (x1, y1, z1), (x2, y2, z2), (x3, y3, z3), (x4, y4, z4)) from PodAt.off (B := w2.heap.size) sp g1 g2 g3 g4 (fun b hb h => by
    have h1 := HG.out
    rcases h with (h | h) | h
    · omega
    · omega
    · have := ((HC.out.kept J1.out).lt b h).2; omega))
   clear kk sp g1 g2 g3 g4
   refine hK9.out _ _ (HS.out _ (HP2.out _ J2.out)) (fun hHeld21 => ?_)
   clear hK9 K9
   try simp only [nP]
   refine rdH (rs := [9]) (h := coH (fun K9 hK9 => ?_) AllReadyH.nil)
   go_simp
   have J3 := lH (J2.out.trans (kept_alloc w3 (.cells #[.string p0, .string p1, .int .i64 p2, .slice x1 y1 z1, .slice x2 y2 z2, .slice x3 y3 z3, .slice x4 y4 z4, .string p3, .int .i64 p4, .string p5, .bool p6] 49)))
   have HV := lH (show (w3.alloc (.cells #[.string p0, .string p1, .int .i64 p2, .slice x1 y1 z1, .slice x2 y2 z2, .slice x3 y3 z3, .slice x4 y4 z4, .string p3, .int .i64 p4, .string p5, .bool p6] 49)).heap[w3.heap.size]? = some (.cells #[.string p0, .string p1, .int .i64 p2, .slice x1 y1 z1, .slice x2 y2 z2, .slice x3 y3 z3, .slice x4 y4 z4, .string p3, .int .i64 p4, .string p5, .bool p6] 49) from World.alloc_heap_new w3 _)
   have HOF := lH (HOF.out.step (GOff.of (kept_alloc w3 (.cells #[.string p0, .string p1, .int .i64 p2, .slice x1 y1 z1, .slice x2 y2 z2, .slice x3 y3 z3, .slice x4 y4 z4, .string p3, .int .i64 p4, .string p5, .bool p6] 49))))
   refine hK9.out _ _ (HS.out _ (HP2.out _ J3.out)) (fun hHeld7 => ?_)
   clear hK9 K9
   try simp only [nP]
   obtain ⟨w4, hw4⟩ : ∃ W, w3.alloc (.cells #[.string p0, .string p1, .int .i64 p2, .slice x1 y1 z1, .slice x2 y2 z2, .slice x3 y3 z3, .slice x4 y4 z4, .string p3, .int .i64 p4, .string p5, .bool p6] 49) = W := ⟨_, rfl⟩
   rw [hw4] at J3 HV HOF ⊢
   clear hw4
   refine rdH (rs := [10]) (h := coH (fun K9 hK9 => ?_) AllReadyH.nil)
   go_simp
   refine (insClu_any (HC.out.kept J3.out) (⟨p0, p1, p2, q1, q2, q3, q4, p3, p4, p5, p6⟩, (x1, y1, z1), (x2, y2, z2), (x3, y3, z3), (x4, y4, z4)) (i := placeN p0 l9) (by have := place_le p0 l9; rw [HL9.out] at this; exact this) HDL.out (by have := J3.out.size; have := HS1.out; omega) (fun b hb => by have := J3.out.size; have := HS1.out; rcases hb with hb | hb <;> omega) HV.out (fun e => by have h1 := ((HC.out.kept J2.out).lt _ e).2; omega) HOF.out).mono ?_
   rintro e5 w5 ⟨g, c9, rfl, hc5, hg5⟩
   have HC5 := lH hc5
   have HWX := lH (((HW.out.kept J3.out)).block (hg5.block _ (by have := J3.out.size; have := HS1.out; omega) (fun e => HC.out.sep _ e (.inr rfl))))
   have HQX := lH ((HQ.out.kept J3.out).block (hg5.block _ (by have := J3.out.size; have := HS1.out; have := HZS.out; omega) (fun e => HC.out.sep _ e (.inl (by have := HZS.out; omega)))))
   have HPX := lH ((HP2.out _ J3.out).block (hg5.block _ (by have := J3.out.size; have := HS1.out; have := HZS.out; omega) (fun e => HC.out.sep _ e (.inl (by have := HZS.out; omega)))))
   have K5 := lH (show Kept w w5 from Below.trans (HKZ.out.trans (K.out.trans J3.out)) (hg5.at_below (B := w.heap.size) (fun q e => by have := (HC.out.lt q e).1; have := HZS.out; omega) (HKZ.out.trans (K.out.trans J3.out)).size))
   clear hc5 hg5
   refine hK9.out _ _ (HS.out _ HPX.out) (fun hHeld21 => ?_)
   clear hK9 K9
   try simp only [nP]
   refine tkH 11 (v := ?_) (y := Or.inl ⟨by rfl, (by rintro W ⟨o0, o1, o2, o3, o4, o5, o6, o7, o8, o9, o10⟩; go_simp <;> with_reducible rfl)⟩) (h := ?_)
   try simp only [nP]
   have q1 := HWX.out.at_ 1 _ rfl
   have f1 := HWX.out.free 1
   refine rdH (rs := [12]) (h := coH (fun K9 hK9 => ?_) AllReadyH.nil)
   go_simp
   have HPY := lH (HPX.out.other (p := w1.heap.size) (j := 1) (u := .slice (some ⟨g, 0, none⟩) (len9 + 1) c9) (by have := HS1.out; have := HZS.out; omega))
   have HQY := lH (HQX.out.other (p := w1.heap.size) (j := 1) (u := .slice (some ⟨g, 0, none⟩) (len9 + 1) c9) (by have := HS1.out; have := HZS.out; omega))
   have HWY := lH (show CellsN w1.heap.size [.slice a1 n1 c1, .slice (some ⟨g, 0, none⟩) (len9 + 1) c9, .slice a3 n3 c3] (w5.setCell ⟨w1.heap.size, 1, none⟩ (.slice (some ⟨g, 0, none⟩) (len9 + 1) c9)) from HWX.out.set (j := 1) (by simp))
   have HC6 := lH (HC5.out.step (GOff.cell (S := fun b => b < Z.heap.size ∨ b = w1.heap.size) w1.heap.size 1 (.slice (some ⟨g, 0, none⟩) (len9 + 1) c9) (.inr rfl)))
   have K6 := lH (show Kept w (w5.setCell ⟨w1.heap.size, 1, none⟩ (.slice (some ⟨g, 0, none⟩) (len9 + 1) c9)) from K5.out.setCell (p := ⟨w1.heap.size, 1, none⟩) (by have := HS1.out; have := HZS.out; show w.heap.size ≤ w1.heap.size; omega) _)
   refine hK9.out _ _ (HS.out _ HPY.out) (fun hHeld6 => ?_)
   clear hK9 K9 q1 f1
   try simp only [nP]
   refine wpAnyH_done (by kernel_rfl) ?_ _
   have y0 := HWY.out.at_ 0 _ rfl
   have y1 := HWY.out.at_ 1 _ rfl
   have y2 := HWY.out.at_ 2 _ rfl
   have z0 := HQY.out.at_ 0 _ rfl
   have z1 := HQY.out.at_ 1 _ rfl
   have z2 := HQY.out.at_ 2 _ rfl
   have f0 := HQY.out.free 0
   have f1 := HQY.out.free 1
   have f2 := HQY.out.free 2
   have PP := lH (putN (vs := [.slice a1 n1 c1, .slice (some ⟨g, 0, none⟩) (len9 + 1) c9, .slice a3 n3 c3]) HQY.out rfl)
   go_wp2
   obtain ⟨WE, hWE⟩ : ∃ W, (w5.setCell ⟨w1.heap.size, 1, none⟩ (.slice (some ⟨g, 0, none⟩) (len9 + 1) c9)).setCells (w.heap.size + 2) 0 [.slice a1 n1 c1, .slice (some ⟨g, 0, none⟩) (len9 + 1) c9, .slice a3 n3 c3] = W := ⟨_, rfl⟩
   have hWE2 : ((((w5.setCell ⟨w1.heap.size, 1, none⟩ (.slice (some ⟨g, 0, none⟩) (len9 + 1) c9)).setCell ⟨(w.heap.size + 2), 0, none⟩ (.slice a1 n1 c1)).setCell ⟨(w.heap.size + 2), 1, none⟩ (.slice (some ⟨g, 0, none⟩) (len9 + 1) c9)).setCell ⟨(w.heap.size + 2), 2, none⟩ (.slice a3 n3 c3)) = WE := hWE
   rw [hWE] at PP
   try rw [hWE2]
   have GE := lH (show GOff (fun b => b < Z.heap.size ∨ b = w1.heap.size) (w5.setCell ⟨w1.heap.size, 1, none⟩ (.slice (some ⟨g, 0, none⟩) (len9 + 1) c9)) WE by rw [← hWE]; exact GOff.cells (S := fun b => b < Z.heap.size ∨ b = w1.heap.size) _ (.inl (by have := HZS.out; omega)) _ _ _)
   clear hWE hWE2
   obtain ⟨PCC, hsz, hbl, hkp⟩ := PP.out
   refine bodyPost_ret (by simp [results, Tryz.results14, go_sem, PCC.at_ 0 _ rfl, PCC.at_ 1 _ rfl, PCC.at_ 2 _ rfl]; try rfl) rfl ?_
   have HFIN := (HC6.out.step GE.out).less (B' := w.heap.size) (S' := fun b => b < w.heap.size) HKZ.out.size (fun b hb => .inl (Nat.lt_of_lt_of_le hb HKZ.out.size))
   rw [show l9.take (placeN p0 l9) ++ ⟨p0, p1, p2, q1, q2, q3, q4, p3, p4, p5, p6⟩ :: l9.drop (placeN p0 l9) = insP ⟨p0, p1, p2, q1, q2, q3, q4, p3, p4, p5, p6⟩ (dropP p0 pl) by rw [← HE9.out]; exact place_ins (p := ⟨p0, p1, p2, q1, q2, q3, q4, p3, p4, p5, p6⟩) (l := l9)] at HFIN
   exact ⟨_, _, _, _, _, _, _, _, _, rfl, HFIN, hkp _ _ (by omega) K6.out⟩
 · skip
   have yq : W1.drew.cell? ⟨w1.heap.size, 1, none⟩ = some (.slice a2 len9 c2) := HW.out.at_ 1 _ rfl
   go_simp
   refine hK9.out _ _ (HS.out _ (HP2.out _ (Kept.drew _))) (fun hHeld9 => ?_)
   clear hK9 K9 yq
   try simp only [nP]
   refine rdH (rs := [1, 6]) (h := coH (fun K9 hK9 => ?_) (coH (fun K9 hK9 => ?_) AllReadyH.nil))
   · skip
     have yq : W1.drew.cell? ⟨w1.heap.size, 1, none⟩ = some (.slice a2 len9 c2) := (HW.out.kept (Kept.drew W1)).at_ 1 _ rfl
     go_simp
     refine hK9.out _ _ (HS.out _ (HP2.out _ (Kept.drew W1))) (fun hHeld8 => ?_)
     clear hK9 K9 yq
     try simp only [nP]
     refine rdH (rs := [6]) (h := coH (fun K9 hK9 => ?_) AllReadyH.nil)
     go_simp
     refine (placeOf_any a2 len9 c2 l9 p0 _ (HPA.out.kept (Kept.drew _))).mono ?_
     rintro e2 w2 ⟨rfl, kk⟩
     have J1 := lH ((Kept.drew W1).trans kk)
     clear kk
     refine hK9.out _ _ (HS.out _ (HP2.out _ J1.out)) (fun hHeld21 => ?_)
     clear hK9 K9
     try simp only [nP]
     refine rdH (rs := [8]) (h := coH (fun K9 hK9 => ?_) AllReadyH.nil)
     go_simp
     have HOW := ownedPod_any ⟨p0, p1, p2, q1, q2, q3, q4, p3, p4, p5, p6⟩ (.slice s1 t1 u1) (.slice s2 t2 u2) (.slice s3 t3 u3) (.slice s4 t4 u4) w2 (HPP.out.kept J1.out) HLP.out
     unfold PodV at HOW
     dsimp only at HOW
     refine HOW.mono ?_
     clear HOW
     rintro e3 w3 ⟨v, rfl, hv, kk⟩
     have J2 := lH (J1.out.trans kk)
     obtain ⟨x1, y1, z1, x2, y2, z2, x3, y3, z3, x4, y4, z4, hv9, sp, g1, g2, g3, g4⟩ := hv
     have hv9 : v = .agg #[.string p0, .string p1, .int .i64 p2, .slice x1 y1 z1, .slice x2 y2 z2, .slice x3 y3 z3, .slice x4 y4 z4, .string p3, .int .i64 p4, .string p5, .bool p6] := hv9
     subst hv9
     have HG := lH (show Z.heap.size ≤ w1.heap.size ∧ w1.heap.size < w2.heap.size from ⟨HS1.out.1, Nat.lt_of_lt_of_le HS1.out.2 J1.out.size⟩)
     have HOF := lH (show Off (fun b => (b < Z.heap.size ∨ b = w1.heap.size) ∨ (Value.slice a2 len9 c2).ownBlock = some b) w3 fun u => At4 u (⟨p0, p1, p2, q1, q2, q3, q4, p3, p4, p5, p6⟩, (x1, y1, z1), (x2, y2, z2), (x3, y3, z3), (x4, y4, z4)) from PodAt.off (B := w2.heap.size) sp g1 g2 g3 g4 (fun b hb h => by
      have h1 := HG.out
      rcases h with (h | h) | h
      · omega
      · omega
      · have := ((HC.out.kept J1.out).lt b h).2; omega))
     clear kk sp g1 g2 g3 g4
     refine hK9.out _ _ (HS.out _ (HP2.out _ J2.out)) (fun hHeld21 => ?_)
     clear hK9 K9
     try simp only [nP]
     refine rdH (rs := [9]) (h := coH (fun K9 hK9 => ?_) AllReadyH.nil)
     go_simp
     have J3 := lH (J2.out.trans (kept_alloc w3 (.cells #[.string p0, .string p1, .int .i64 p2, .slice x1 y1 z1, .slice x2 y2 z2, .slice x3 y3 z3, .slice x4 y4 z4, .string p3, .int .i64 p4, .string p5, .bool p6] 49)))
     have HV := lH (show (w3.alloc (.cells #[.string p0, .string p1, .int .i64 p2, .slice x1 y1 z1, .slice x2 y2 z2, .slice x3 y3 z3, .slice x4 y4 z4, .string p3, .int .i64 p4, .string p5, .bool p6] 49)).heap[w3.heap.size]? = some (.cells #[.string p0, .string p1, .int .i64 p2, .slice x1 y1 z1, .slice x2 y2 z2, .slice x3 y3 z3, .slice x4 y4 z4, .string p3, .int .i64 p4, .string p5, .bool p6] 49) from World.alloc_heap_new w3 _)
     have HOF := lH (HOF.out.step (GOff.of (kept_alloc w3 (.cells #[.string p0, .string p1, .int .i64 p2, .slice x1 y1 z1, .slice x2 y2 z2, .slice x3 y3 z3, .slice x4 y4 z4, .string p3, .int .i64 p4, .string p5, .bool p6] 49))))
     refine hK9.out _ _ (HS.out _ (HP2.out _ J3.out)) (fun hHeld7 => ?_)
     clear hK9 K9
     try simp only [nP]
     obtain ⟨w4, hw4⟩ : ∃ W, w3.alloc (.cells #[.string p0, .string p1, .int .i64 p2, .slice x1 y1 z1, .slice x2 y2 z2, .slice x3 y3 z3, .slice x4 y4 z4, .string p3, .int .i64 p4, .string p5, .bool p6] 49) = W := ⟨_, rfl⟩
     rw [hw4] at J3 HV HOF ⊢
     clear hw4
     refine rdH (rs := [10]) (h := coH (fun K9 hK9 => ?_) AllReadyH.nil)
     go_simp
     refine (insClu_any (HC.out.kept J3.out) (⟨p0, p1, p2, q1, q2, q3, q4, p3, p4, p5, p6⟩, (x1, y1, z1), (x2, y2, z2), (x3, y3, z3), (x4, y4, z4)) (i := placeN p0 l9) (by have := place_le p0 l9; rw [HL9.out] at this; exact this) HDL.out (by have := J3.out.size; have := HS1.out; omega) (fun b hb => by have := J3.out.size; have := HS1.out; rcases hb with hb | hb <;> omega) HV.out (fun e => by have h1 := ((HC.out.kept J2.out).lt _ e).2; omega) HOF.out).mono ?_
     rintro e5 w5 ⟨g, c9, rfl, hc5, hg5⟩
     have HC5 := lH hc5
     have HWX := lH (((HW.out.kept J3.out)).block (hg5.block _ (by have := J3.out.size; have := HS1.out; omega) (fun e => HC.out.sep _ e (.inr rfl))))
     have HQX := lH ((HQ.out.kept J3.out).block (hg5.block _ (by have := J3.out.size; have := HS1.out; have := HZS.out; omega) (fun e => HC.out.sep _ e (.inl (by have := HZS.out; omega)))))
     have HPX := lH ((HP2.out _ J3.out).block (hg5.block _ (by have := J3.out.size; have := HS1.out; have := HZS.out; omega) (fun e => HC.out.sep _ e (.inl (by have := HZS.out; omega)))))
     have K5 := lH (show Kept w w5 from Below.trans (HKZ.out.trans (K.out.trans J3.out)) (hg5.at_below (B := w.heap.size) (fun q e => by have := (HC.out.lt q e).1; have := HZS.out; omega) (HKZ.out.trans (K.out.trans J3.out)).size))
     clear hc5 hg5
     refine hK9.out _ _ (HS.out _ HPX.out) (fun hHeld21 => ?_)
     clear hK9 K9
     try simp only [nP]
     refine tkH 11 (v := ?_) (y := Or.inl ⟨by rfl, (by rintro W ⟨o0, o1, o2, o3, o4, o5, o6, o7, o8, o9, o10⟩; go_simp <;> with_reducible rfl)⟩) (h := ?_)
     try simp only [nP]
     have q1 := HWX.out.at_ 1 _ rfl
     have f1 := HWX.out.free 1
     refine rdH (rs := [12]) (h := coH (fun K9 hK9 => ?_) AllReadyH.nil)
     go_simp
     have HPY := lH (HPX.out.other (p := w1.heap.size) (j := 1) (u := .slice (some ⟨g, 0, none⟩) (len9 + 1) c9) (by have := HS1.out; have := HZS.out; omega))
     have HQY := lH (HQX.out.other (p := w1.heap.size) (j := 1) (u := .slice (some ⟨g, 0, none⟩) (len9 + 1) c9) (by have := HS1.out; have := HZS.out; omega))
     have HWY := lH (show CellsN w1.heap.size [.slice a1 n1 c1, .slice (some ⟨g, 0, none⟩) (len9 + 1) c9, .slice a3 n3 c3] (w5.setCell ⟨w1.heap.size, 1, none⟩ (.slice (some ⟨g, 0, none⟩) (len9 + 1) c9)) from HWX.out.set (j := 1) (by simp))
     have HC6 := lH (HC5.out.step (GOff.cell (S := fun b => b < Z.heap.size ∨ b = w1.heap.size) w1.heap.size 1 (.slice (some ⟨g, 0, none⟩) (len9 + 1) c9) (.inr rfl)))
     have K6 := lH (show Kept w (w5.setCell ⟨w1.heap.size, 1, none⟩ (.slice (some ⟨g, 0, none⟩) (len9 + 1) c9)) from K5.out.setCell (p := ⟨w1.heap.size, 1, none⟩) (by have := HS1.out; have := HZS.out; show w.heap.size ≤ w1.heap.size; omega) _)
     refine hK9.out _ _ (HS.out _ HPY.out) (fun hHeld6 => ?_)
     clear hK9 K9 q1 f1
     try simp only [nP]
     refine wpAnyH_done (by kernel_rfl) ?_ _
     have y0 := HWY.out.at_ 0 _ rfl
     have y1 := HWY.out.at_ 1 _ rfl
     have y2 := HWY.out.at_ 2 _ rfl
     have z0 := HQY.out.at_ 0 _ rfl
     have z1 := HQY.out.at_ 1 _ rfl
     have z2 := HQY.out.at_ 2 _ rfl
     have f0 := HQY.out.free 0
     have f1 := HQY.out.free 1
     have f2 := HQY.out.free 2
     have PP := lH (putN (vs := [.slice a1 n1 c1, .slice (some ⟨g, 0, none⟩) (len9 + 1) c9, .slice a3 n3 c3]) HQY.out rfl)
     go_wp2
     obtain ⟨WE, hWE⟩ : ∃ W, (w5.setCell ⟨w1.heap.size, 1, none⟩ (.slice (some ⟨g, 0, none⟩) (len9 + 1) c9)).setCells (w.heap.size + 2) 0 [.slice a1 n1 c1, .slice (some ⟨g, 0, none⟩) (len9 + 1) c9, .slice a3 n3 c3] = W := ⟨_, rfl⟩
     have hWE2 : ((((w5.setCell ⟨w1.heap.size, 1, none⟩ (.slice (some ⟨g, 0, none⟩) (len9 + 1) c9)).setCell ⟨(w.heap.size + 2), 0, none⟩ (.slice a1 n1 c1)).setCell ⟨(w.heap.size + 2), 1, none⟩ (.slice (some ⟨g, 0, none⟩) (len9 + 1) c9)).setCell ⟨(w.heap.size + 2), 2, none⟩ (.slice a3 n3 c3)) = WE := hWE
     rw [hWE] at PP
     try rw [hWE2]
     have GE := lH (show GOff (fun b => b < Z.heap.size ∨ b = w1.heap.size) (w5.setCell ⟨w1.heap.size, 1, none⟩ (.slice (some ⟨g, 0, none⟩) (len9 + 1) c9)) WE by rw [← hWE]; exact GOff.cells (S := fun b => b < Z.heap.size ∨ b = w1.heap.size) _ (.inl (by have := HZS.out; omega)) _ _ _)
     clear hWE hWE2
     obtain ⟨PCC, hsz, hbl, hkp⟩ := PP.out
     refine bodyPost_ret (by simp [results, Tryz.results14, go_sem, PCC.at_ 0 _ rfl, PCC.at_ 1 _ rfl, PCC.at_ 2 _ rfl]; try rfl) rfl ?_
     have HFIN := (HC6.out.step GE.out).less (B' := w.heap.size) (S' := fun b => b < w.heap.size) HKZ.out.size (fun b hb => .inl (Nat.lt_of_lt_of_le hb HKZ.out.size))
     rw [show l9.take (placeN p0 l9) ++ ⟨p0, p1, p2, q1, q2, q3, q4, p3, p4, p5, p6⟩ :: l9.drop (placeN p0 l9) = insP ⟨p0, p1, p2, q1, q2, q3, q4, p3, p4, p5, p6⟩ (dropP p0 pl) by rw [← HE9.out]; exact place_ins (p := ⟨p0, p1, p2, q1, q2, q3, q4, p3, p4, p5, p6⟩) (l := l9)] at HFIN
     exact ⟨_, _, _, _, _, _, _, _, _, rfl, HFIN, hkp _ _ (by omega) K6.out⟩
   · skip
     go_simp
     refine (placeOf_any a2 len9 c2 l9 p0 _ (HPA.out.kept (Kept.drew _))).mono ?_
     rintro e2 w2 ⟨rfl, kk⟩
     have J1 := lH ((Kept.drew W1).trans kk)
     clear kk
     refine hK9.out _ _ (HS.out _ (HP2.out _ J1.out)) (fun hHeld21 => ?_)
     clear hK9 K9
     try simp only [nP]
     refine rdH (rs := [1, 8]) (h := coH (fun K9 hK9 => ?_) (coH (fun K9 hK9 => ?_) AllReadyH.nil))
     · skip
       have yq : w2.cell? ⟨w1.heap.size, 1, none⟩ = some (.slice a2 len9 c2) := (HW.out.kept J1.out).at_ 1 _ rfl
       go_simp
       refine hK9.out _ _ (HS.out _ (HP2.out _ J1.out)) (fun hHeld8 => ?_)
       clear hK9 K9 yq
       try simp only [nP]
       refine rdH (rs := [8]) (h := coH (fun K9 hK9 => ?_) AllReadyH.nil)
       go_simp
       have HOW := ownedPod_any ⟨p0, p1, p2, q1, q2, q3, q4, p3, p4, p5, p6⟩ (.slice s1 t1 u1) (.slice s2 t2 u2) (.slice s3 t3 u3) (.slice s4 t4 u4) w2 (HPP.out.kept J1.out) HLP.out
       unfold PodV at HOW
       dsimp only at HOW
       refine HOW.mono ?_
       clear HOW
       rintro e3 w3 ⟨v, rfl, hv, kk⟩
       have J2 := lH (J1.out.trans kk)
       obtain ⟨x1, y1, z1, x2, y2, z2, x3, y3, z3, x4, y4, z4, hv9, sp, g1, g2, g3, g4⟩ := hv
       have hv9 : v = .agg #[.string p0, .string p1, .int .i64 p2, .slice x1 y1 z1, .slice x2 y2 z2, .slice x3 y3 z3, .slice x4 y4 z4, .string p3, .int .i64 p4, .string p5, .bool p6] := hv9
       subst hv9
       have HG := lH (show Z.heap.size ≤ w1.heap.size ∧ w1.heap.size < w2.heap.size from ⟨HS1.out.1, Nat.lt_of_lt_of_le HS1.out.2 J1.out.size⟩)
       have HOF := lH (show Off (fun b => (b < Z.heap.size ∨ b = w1.heap.size) ∨ (Value.slice a2 len9 c2).ownBlock = some b) w3 fun u => At4 u (⟨p0, p1, p2, q1, q2, q3, q4, p3, p4, p5, p6⟩, (x1, y1, z1), (x2, y2, z2), (x3, y3, z3), (x4, y4, z4)) from PodAt.off (B := w2.heap.size) sp g1 g2 g3 g4 (fun b hb h => by
        have h1 := HG.out
        rcases h with (h | h) | h
        · omega
        · omega
        · have := ((HC.out.kept J1.out).lt b h).2; omega))
       clear kk sp g1 g2 g3 g4
       refine hK9.out _ _ (HS.out _ (HP2.out _ J2.out)) (fun hHeld21 => ?_)
       clear hK9 K9
       try simp only [nP]
       refine rdH (rs := [9]) (h := coH (fun K9 hK9 => ?_) AllReadyH.nil)
       go_simp
       have J3 := lH (J2.out.trans (kept_alloc w3 (.cells #[.string p0, .string p1, .int .i64 p2, .slice x1 y1 z1, .slice x2 y2 z2, .slice x3 y3 z3, .slice x4 y4 z4, .string p3, .int .i64 p4, .string p5, .bool p6] 49)))
       have HV := lH (show (w3.alloc (.cells #[.string p0, .string p1, .int .i64 p2, .slice x1 y1 z1, .slice x2 y2 z2, .slice x3 y3 z3, .slice x4 y4 z4, .string p3, .int .i64 p4, .string p5, .bool p6] 49)).heap[w3.heap.size]? = some (.cells #[.string p0, .string p1, .int .i64 p2, .slice x1 y1 z1, .slice x2 y2 z2, .slice x3 y3 z3, .slice x4 y4 z4, .string p3, .int .i64 p4, .string p5, .bool p6] 49) from World.alloc_heap_new w3 _)
       have HOF := lH (HOF.out.step (GOff.of (kept_alloc w3 (.cells #[.string p0, .string p1, .int .i64 p2, .slice x1 y1 z1, .slice x2 y2 z2, .slice x3 y3 z3, .slice x4 y4 z4, .string p3, .int .i64 p4, .string p5, .bool p6] 49))))
       refine hK9.out _ _ (HS.out _ (HP2.out _ J3.out)) (fun hHeld7 => ?_)
       clear hK9 K9
       try simp only [nP]
       obtain ⟨w4, hw4⟩ : ∃ W, w3.alloc (.cells #[.string p0, .string p1, .int .i64 p2, .slice x1 y1 z1, .slice x2 y2 z2, .slice x3 y3 z3, .slice x4 y4 z4, .string p3, .int .i64 p4, .string p5, .bool p6] 49) = W := ⟨_, rfl⟩
       rw [hw4] at J3 HV HOF ⊢
       clear hw4
       refine rdH (rs := [10]) (h := coH (fun K9 hK9 => ?_) AllReadyH.nil)
       go_simp
       refine (insClu_any (HC.out.kept J3.out) (⟨p0, p1, p2, q1, q2, q3, q4, p3, p4, p5, p6⟩, (x1, y1, z1), (x2, y2, z2), (x3, y3, z3), (x4, y4, z4)) (i := placeN p0 l9) (by have := place_le p0 l9; rw [HL9.out] at this; exact this) HDL.out (by have := J3.out.size; have := HS1.out; omega) (fun b hb => by have := J3.out.size; have := HS1.out; rcases hb with hb | hb <;> omega) HV.out (fun e => by have h1 := ((HC.out.kept J2.out).lt _ e).2; omega) HOF.out).mono ?_
       rintro e5 w5 ⟨g, c9, rfl, hc5, hg5⟩
       have HC5 := lH hc5
       have HWX := lH (((HW.out.kept J3.out)).block (hg5.block _ (by have := J3.out.size; have := HS1.out; omega) (fun e => HC.out.sep _ e (.inr rfl))))
       have HQX := lH ((HQ.out.kept J3.out).block (hg5.block _ (by have := J3.out.size; have := HS1.out; have := HZS.out; omega) (fun e => HC.out.sep _ e (.inl (by have := HZS.out; omega)))))
       have HPX := lH ((HP2.out _ J3.out).block (hg5.block _ (by have := J3.out.size; have := HS1.out; have := HZS.out; omega) (fun e => HC.out.sep _ e (.inl (by have := HZS.out; omega)))))
       have K5 := lH (show Kept w w5 from Below.trans (HKZ.out.trans (K.out.trans J3.out)) (hg5.at_below (B := w.heap.size) (fun q e => by have := (HC.out.lt q e).1; have := HZS.out; omega) (HKZ.out.trans (K.out.trans J3.out)).size))
       clear hc5 hg5
       refine hK9.out _ _ (HS.out _ HPX.out) (fun hHeld21 => ?_)
       clear hK9 K9
       try simp only [nP]
       refine tkH 11 (v := ?_) (y := Or.inl ⟨by rfl, (by rintro W ⟨o0, o1, o2, o3, o4, o5, o6, o7, o8, o9, o10⟩; go_simp <;> with_reducible rfl)⟩) (h := ?_)
       try simp only [nP]
       have q1 := HWX.out.at_ 1 _ rfl
       have f1 := HWX.out.free 1
       refine rdH (rs := [12]) (h := coH (fun K9 hK9 => ?_) AllReadyH.nil)
       go_simp
       have HPY := lH (HPX.out.other (p := w1.heap.size) (j := 1) (u := .slice (some ⟨g, 0, none⟩) (len9 + 1) c9) (by have := HS1.out; have := HZS.out; omega))
       have HQY := lH (HQX.out.other (p := w1.heap.size) (j := 1) (u := .slice (some ⟨g, 0, none⟩) (len9 + 1) c9) (by have := HS1.out; have := HZS.out; omega))
       have HWY := lH (show CellsN w1.heap.size [.slice a1 n1 c1, .slice (some ⟨g, 0, none⟩) (len9 + 1) c9, .slice a3 n3 c3] (w5.setCell ⟨w1.heap.size, 1, none⟩ (.slice (some ⟨g, 0, none⟩) (len9 + 1) c9)) from HWX.out.set (j := 1) (by simp))
       have HC6 := lH (HC5.out.step (GOff.cell (S := fun b => b < Z.heap.size ∨ b = w1.heap.size) w1.heap.size 1 (.slice (some ⟨g, 0, none⟩) (len9 + 1) c9) (.inr rfl)))
       have K6 := lH (show Kept w (w5.setCell ⟨w1.heap.size, 1, none⟩ (.slice (some ⟨g, 0, none⟩) (len9 + 1) c9)) from K5.out.setCell (p := ⟨w1.heap.size, 1, none⟩) (by have := HS1.out; have := HZS.out; show w.heap.size ≤ w1.heap.size; omega) _)
       refine hK9.out _ _ (HS.out _ HPY.out) (fun hHeld6 => ?_)
       clear hK9 K9 q1 f1
       try simp only [nP]
       refine wpAnyH_done (by kernel_rfl) ?_ _
       have y0 := HWY.out.at_ 0 _ rfl
       have y1 := HWY.out.at_ 1 _ rfl
       have y2 := HWY.out.at_ 2 _ rfl
       have z0 := HQY.out.at_ 0 _ rfl
       have z1 := HQY.out.at_ 1 _ rfl
       have z2 := HQY.out.at_ 2 _ rfl
       have f0 := HQY.out.free 0
       have f1 := HQY.out.free 1
       have f2 := HQY.out.free 2
       have PP := lH (putN (vs := [.slice a1 n1 c1, .slice (some ⟨g, 0, none⟩) (len9 + 1) c9, .slice a3 n3 c3]) HQY.out rfl)
       go_wp2
       obtain ⟨WE, hWE⟩ : ∃ W, (w5.setCell ⟨w1.heap.size, 1, none⟩ (.slice (some ⟨g, 0, none⟩) (len9 + 1) c9)).setCells (w.heap.size + 2) 0 [.slice a1 n1 c1, .slice (some ⟨g, 0, none⟩) (len9 + 1) c9, .slice a3 n3 c3] = W := ⟨_, rfl⟩
       have hWE2 : ((((w5.setCell ⟨w1.heap.size, 1, none⟩ (.slice (some ⟨g, 0, none⟩) (len9 + 1) c9)).setCell ⟨(w.heap.size + 2), 0, none⟩ (.slice a1 n1 c1)).setCell ⟨(w.heap.size + 2), 1, none⟩ (.slice (some ⟨g, 0, none⟩) (len9 + 1) c9)).setCell ⟨(w.heap.size + 2), 2, none⟩ (.slice a3 n3 c3)) = WE := hWE
       rw [hWE] at PP
       try rw [hWE2]
       have GE := lH (show GOff (fun b => b < Z.heap.size ∨ b = w1.heap.size) (w5.setCell ⟨w1.heap.size, 1, none⟩ (.slice (some ⟨g, 0, none⟩) (len9 + 1) c9)) WE by rw [← hWE]; exact GOff.cells (S := fun b => b < Z.heap.size ∨ b = w1.heap.size) _ (.inl (by have := HZS.out; omega)) _ _ _)
       clear hWE hWE2
       obtain ⟨PCC, hsz, hbl, hkp⟩ := PP.out
       refine bodyPost_ret (by simp [results, Tryz.results14, go_sem, PCC.at_ 0 _ rfl, PCC.at_ 1 _ rfl, PCC.at_ 2 _ rfl]; try rfl) rfl ?_
       have HFIN := (HC6.out.step GE.out).less (B' := w.heap.size) (S' := fun b => b < w.heap.size) HKZ.out.size (fun b hb => .inl (Nat.lt_of_lt_of_le hb HKZ.out.size))
       rw [show l9.take (placeN p0 l9) ++ ⟨p0, p1, p2, q1, q2, q3, q4, p3, p4, p5, p6⟩ :: l9.drop (placeN p0 l9) = insP ⟨p0, p1, p2, q1, q2, q3, q4, p3, p4, p5, p6⟩ (dropP p0 pl) by rw [← HE9.out]; exact place_ins (p := ⟨p0, p1, p2, q1, q2, q3, q4, p3, p4, p5, p6⟩) (l := l9)] at HFIN
       exact ⟨_, _, _, _, _, _, _, _, _, rfl, HFIN, hkp _ _ (by omega) K6.out⟩
     · skip
       go_simp
       have HOW := ownedPod_any ⟨p0, p1, p2, q1, q2, q3, q4, p3, p4, p5, p6⟩ (.slice s1 t1 u1) (.slice s2 t2 u2) (.slice s3 t3 u3) (.slice s4 t4 u4) w2 (HPP.out.kept J1.out) HLP.out
       unfold PodV at HOW
       dsimp only at HOW
       refine HOW.mono ?_
       clear HOW
       rintro e3 w3 ⟨v, rfl, hv, kk⟩
       have J2 := lH (J1.out.trans kk)
       obtain ⟨x1, y1, z1, x2, y2, z2, x3, y3, z3, x4, y4, z4, hv9, sp, g1, g2, g3, g4⟩ := hv
       have hv9 : v = .agg #[.string p0, .string p1, .int .i64 p2, .slice x1 y1 z1, .slice x2 y2 z2, .slice x3 y3 z3, .slice x4 y4 z4, .string p3, .int .i64 p4, .string p5, .bool p6] := hv9
       subst hv9
       have HG := lH (show Z.heap.size ≤ w1.heap.size ∧ w1.heap.size < w2.heap.size from ⟨HS1.out.1, Nat.lt_of_lt_of_le HS1.out.2 J1.out.size⟩)
       have HOF := lH (show Off (fun b => (b < Z.heap.size ∨ b = w1.heap.size) ∨ (Value.slice a2 len9 c2).ownBlock = some b) w3 fun u => At4 u (⟨p0, p1, p2, q1, q2, q3, q4, p3, p4, p5, p6⟩, (x1, y1, z1), (x2, y2, z2), (x3, y3, z3), (x4, y4, z4)) from PodAt.off (B := w2.heap.size) sp g1 g2 g3 g4 (fun b hb h => by
        have h1 := HG.out
        rcases h with (h | h) | h
        · omega
        · omega
        · have := ((HC.out.kept J1.out).lt b h).2; omega))
       clear kk sp g1 g2 g3 g4
       refine hK9.out _ _ (HS.out _ (HP2.out _ J2.out)) (fun hHeld21 => ?_)
       clear hK9 K9
       try simp only [nP]
       refine rdH (rs := [1, 9]) (h := coH (fun K9 hK9 => ?_) (coH (fun K9 hK9 => ?_) AllReadyH.nil))
       · skip
         have yq : w3.cell? ⟨w1.heap.size, 1, none⟩ = some (.slice a2 len9 c2) := (HW.out.kept J2.out).at_ 1 _ rfl
         go_simp
         refine hK9.out _ _ (HS.out _ (HP2.out _ J2.out)) (fun hHeld8 => ?_)
         clear hK9 K9 yq
         try simp only [nP]
         refine rdH (rs := [9]) (h := coH (fun K9 hK9 => ?_) AllReadyH.nil)
         go_simp
         have J3 := lH (J2.out.trans (kept_alloc w3 (.cells #[.string p0, .string p1, .int .i64 p2, .slice x1 y1 z1, .slice x2 y2 z2, .slice x3 y3 z3, .slice x4 y4 z4, .string p3, .int .i64 p4, .string p5, .bool p6] 49)))
         have HV := lH (show (w3.alloc (.cells #[.string p0, .string p1, .int .i64 p2, .slice x1 y1 z1, .slice x2 y2 z2, .slice x3 y3 z3, .slice x4 y4 z4, .string p3, .int .i64 p4, .string p5, .bool p6] 49)).heap[w3.heap.size]? = some (.cells #[.string p0, .string p1, .int .i64 p2, .slice x1 y1 z1, .slice x2 y2 z2, .slice x3 y3 z3, .slice x4 y4 z4, .string p3, .int .i64 p4, .string p5, .bool p6] 49) from World.alloc_heap_new w3 _)
         have HOF := lH (HOF.out.step (GOff.of (kept_alloc w3 (.cells #[.string p0, .string p1, .int .i64 p2, .slice x1 y1 z1, .slice x2 y2 z2, .slice x3 y3 z3, .slice x4 y4 z4, .string p3, .int .i64 p4, .string p5, .bool p6] 49))))
         refine hK9.out _ _ (HS.out _ (HP2.out _ J3.out)) (fun hHeld7 => ?_)
         clear hK9 K9
         try simp only [nP]
         obtain ⟨w4, hw4⟩ : ∃ W, w3.alloc (.cells #[.string p0, .string p1, .int .i64 p2, .slice x1 y1 z1, .slice x2 y2 z2, .slice x3 y3 z3, .slice x4 y4 z4, .string p3, .int .i64 p4, .string p5, .bool p6] 49) = W := ⟨_, rfl⟩
         rw [hw4] at J3 HV HOF ⊢
         clear hw4
         refine rdH (rs := [10]) (h := coH (fun K9 hK9 => ?_) AllReadyH.nil)
         go_simp
         refine (insClu_any (HC.out.kept J3.out) (⟨p0, p1, p2, q1, q2, q3, q4, p3, p4, p5, p6⟩, (x1, y1, z1), (x2, y2, z2), (x3, y3, z3), (x4, y4, z4)) (i := placeN p0 l9) (by have := place_le p0 l9; rw [HL9.out] at this; exact this) HDL.out (by have := J3.out.size; have := HS1.out; omega) (fun b hb => by have := J3.out.size; have := HS1.out; rcases hb with hb | hb <;> omega) HV.out (fun e => by have h1 := ((HC.out.kept J2.out).lt _ e).2; omega) HOF.out).mono ?_
         rintro e5 w5 ⟨g, c9, rfl, hc5, hg5⟩
         have HC5 := lH hc5
         have HWX := lH (((HW.out.kept J3.out)).block (hg5.block _ (by have := J3.out.size; have := HS1.out; omega) (fun e => HC.out.sep _ e (.inr rfl))))
         have HQX := lH ((HQ.out.kept J3.out).block (hg5.block _ (by have := J3.out.size; have := HS1.out; have := HZS.out; omega) (fun e => HC.out.sep _ e (.inl (by have := HZS.out; omega)))))
         have HPX := lH ((HP2.out _ J3.out).block (hg5.block _ (by have := J3.out.size; have := HS1.out; have := HZS.out; omega) (fun e => HC.out.sep _ e (.inl (by have := HZS.out; omega)))))
         have K5 := lH (show Kept w w5 from Below.trans (HKZ.out.trans (K.out.trans J3.out)) (hg5.at_below (B := w.heap.size) (fun q e => by have := (HC.out.lt q e).1; have := HZS.out; omega) (HKZ.out.trans (K.out.trans J3.out)).size))
         clear hc5 hg5
         refine hK9.out _ _ (HS.out _ HPX.out) (fun hHeld21 => ?_)
         clear hK9 K9
         try simp only [nP]
         refine tkH 11 (v := ?_) (y := Or.inl ⟨by rfl, (by rintro W ⟨o0, o1, o2, o3, o4, o5, o6, o7, o8, o9, o10⟩; go_simp <;> with_reducible rfl)⟩) (h := ?_)
         try simp only [nP]
         have q1 := HWX.out.at_ 1 _ rfl
         have f1 := HWX.out.free 1
         refine rdH (rs := [12]) (h := coH (fun K9 hK9 => ?_) AllReadyH.nil)
         go_simp
         have HPY := lH (HPX.out.other (p := w1.heap.size) (j := 1) (u := .slice (some ⟨g, 0, none⟩) (len9 + 1) c9) (by have := HS1.out; have := HZS.out; omega))
         have HQY := lH (HQX.out.other (p := w1.heap.size) (j := 1) (u := .slice (some ⟨g, 0, none⟩) (len9 + 1) c9) (by have := HS1.out; have := HZS.out; omega))
         have HWY := lH (show CellsN w1.heap.size [.slice a1 n1 c1, .slice (some ⟨g, 0, none⟩) (len9 + 1) c9, .slice a3 n3 c3] (w5.setCell ⟨w1.heap.size, 1, none⟩ (.slice (some ⟨g, 0, none⟩) (len9 + 1) c9)) from HWX.out.set (j := 1) (by simp))
         have HC6 := lH (HC5.out.step (GOff.cell (S := fun b => b < Z.heap.size ∨ b = w1.heap.size) w1.heap.size 1 (.slice (some ⟨g, 0, none⟩) (len9 + 1) c9) (.inr rfl)))
         have K6 := lH (show Kept w (w5.setCell ⟨w1.heap.size, 1, none⟩ (.slice (some ⟨g, 0, none⟩) (len9 + 1) c9)) from K5.out.setCell (p := ⟨w1.heap.size, 1, none⟩) (by have := HS1.out; have := HZS.out; show w.heap.size ≤ w1.heap.size; omega) _)
         refine hK9.out _ _ (HS.out _ HPY.out) (fun hHeld6 => ?_)
         clear hK9 K9 q1 f1
         try simp only [nP]
         refine wpAnyH_done (by kernel_rfl) ?_ _
         have y0 := HWY.out.at_ 0 _ rfl
         have y1 := HWY.out.at_ 1 _ rfl
         have y2 := HWY.out.at_ 2 _ rfl
         have z0 := HQY.out.at_ 0 _ rfl
         have z1 := HQY.out.at_ 1 _ rfl
         have z2 := HQY.out.at_ 2 _ rfl
         have f0 := HQY.out.free 0
         have f1 := HQY.out.free 1
         have f2 := HQY.out.free 2
         have PP := lH (putN (vs := [.slice a1 n1 c1, .slice (some ⟨g, 0, none⟩) (len9 + 1) c9, .slice a3 n3 c3]) HQY.out rfl)
         go_wp2
         obtain ⟨WE, hWE⟩ : ∃ W, (w5.setCell ⟨w1.heap.size, 1, none⟩ (.slice (some ⟨g, 0, none⟩) (len9 + 1) c9)).setCells (w.heap.size + 2) 0 [.slice a1 n1 c1, .slice (some ⟨g, 0, none⟩) (len9 + 1) c9, .slice a3 n3 c3] = W := ⟨_, rfl⟩
         have hWE2 : ((((w5.setCell ⟨w1.heap.size, 1, none⟩ (.slice (some ⟨g, 0, none⟩) (len9 + 1) c9)).setCell ⟨(w.heap.size + 2), 0, none⟩ (.slice a1 n1 c1)).setCell ⟨(w.heap.size + 2), 1, none⟩ (.slice (some ⟨g, 0, none⟩) (len9 + 1) c9)).setCell ⟨(w.heap.size + 2), 2, none⟩ (.slice a3 n3 c3)) = WE := hWE
         rw [hWE] at PP
         try rw [hWE2]
         have GE := lH (show GOff (fun b => b < Z.heap.size ∨ b = w1.heap.size) (w5.setCell ⟨w1.heap.size, 1, none⟩ (.slice (some ⟨g, 0, none⟩) (len9 + 1) c9)) WE by rw [← hWE]; exact GOff.cells (S := fun b => b < Z.heap.size ∨ b = w1.heap.size) _ (.inl (by have := HZS.out; omega)) _ _ _)
         clear hWE hWE2
         obtain ⟨PCC, hsz, hbl, hkp⟩ := PP.out
         refine bodyPost_ret (by simp [results, Tryz.results14, go_sem, PCC.at_ 0 _ rfl, PCC.at_ 1 _ rfl, PCC.at_ 2 _ rfl]; try rfl) rfl ?_
         have HFIN := (HC6.out.step GE.out).less (B' := w.heap.size) (S' := fun b => b < w.heap.size) HKZ.out.size (fun b hb => .inl (Nat.lt_of_lt_of_le hb HKZ.out.size))
         rw [show l9.take (placeN p0 l9) ++ ⟨p0, p1, p2, q1, q2, q3, q4, p3, p4, p5, p6⟩ :: l9.drop (placeN p0 l9) = insP ⟨p0, p1, p2, q1, q2, q3, q4, p3, p4, p5, p6⟩ (dropP p0 pl) by rw [← HE9.out]; exact place_ins (p := ⟨p0, p1, p2, q1, q2, q3, q4, p3, p4, p5, p6⟩) (l := l9)] at HFIN
         exact ⟨_, _, _, _, _, _, _, _, _, rfl, HFIN, hkp _ _ (by omega) K6.out⟩
       · skip
         go_simp
         have J3 := lH (J2.out.trans (kept_alloc w3 (.cells #[.string p0, .string p1, .int .i64 p2, .slice x1 y1 z1, .slice x2 y2 z2, .slice x3 y3 z3, .slice x4 y4 z4, .string p3, .int .i64 p4, .string p5, .bool p6] 49)))
         have HV := lH (show (w3.alloc (.cells #[.string p0, .string p1, .int .i64 p2, .slice x1 y1 z1, .slice x2 y2 z2, .slice x3 y3 z3, .slice x4 y4 z4, .string p3, .int .i64 p4, .string p5, .bool p6] 49)).heap[w3.heap.size]? = some (.cells #[.string p0, .string p1, .int .i64 p2, .slice x1 y1 z1, .slice x2 y2 z2, .slice x3 y3 z3, .slice x4 y4 z4, .string p3, .int .i64 p4, .string p5, .bool p6] 49) from World.alloc_heap_new w3 _)
         have HOF := lH (HOF.out.step (GOff.of (kept_alloc w3 (.cells #[.string p0, .string p1, .int .i64 p2, .slice x1 y1 z1, .slice x2 y2 z2, .slice x3 y3 z3, .slice x4 y4 z4, .string p3, .int .i64 p4, .string p5, .bool p6] 49))))
         refine hK9.out _ _ (HS.out _ (HP2.out _ J3.out)) (fun hHeld7 => ?_)
         clear hK9 K9
         try simp only [nP]
         obtain ⟨w4, hw4⟩ : ∃ W, w3.alloc (.cells #[.string p0, .string p1, .int .i64 p2, .slice x1 y1 z1, .slice x2 y2 z2, .slice x3 y3 z3, .slice x4 y4 z4, .string p3, .int .i64 p4, .string p5, .bool p6] 49) = W := ⟨_, rfl⟩
         rw [hw4] at J3 HV HOF ⊢
         clear hw4
         refine rdH (rs := [1]) (h := coH (fun K9 hK9 => ?_) AllReadyH.nil)
         have yq : w4.cell? ⟨w1.heap.size, 1, none⟩ = some (.slice a2 len9 c2) := (HW.out.kept J3.out).at_ 1 _ rfl
         go_simp
         refine hK9.out _ _ (HS.out _ (HP2.out _ J3.out)) (fun hHeld8 => ?_)
         clear hK9 K9 yq
         try simp only [nP]
         refine rdH (rs := [10]) (h := coH (fun K9 hK9 => ?_) AllReadyH.nil)
         go_simp
         refine (insClu_any (HC.out.kept J3.out) (⟨p0, p1, p2, q1, q2, q3, q4, p3, p4, p5, p6⟩, (x1, y1, z1), (x2, y2, z2), (x3, y3, z3), (x4, y4, z4)) (i := placeN p0 l9) (by have := place_le p0 l9; rw [HL9.out] at this; exact this) HDL.out (by have := J3.out.size; have := HS1.out; omega) (fun b hb => by have := J3.out.size; have := HS1.out; rcases hb with hb | hb <;> omega) HV.out (fun e => by have h1 := ((HC.out.kept J2.out).lt _ e).2; omega) HOF.out).mono ?_
         rintro e5 w5 ⟨g, c9, rfl, hc5, hg5⟩
         have HC5 := lH hc5
         have HWX := lH (((HW.out.kept J3.out)).block (hg5.block _ (by have := J3.out.size; have := HS1.out; omega) (fun e => HC.out.sep _ e (.inr rfl))))
         have HQX := lH ((HQ.out.kept J3.out).block (hg5.block _ (by have := J3.out.size; have := HS1.out; have := HZS.out; omega) (fun e => HC.out.sep _ e (.inl (by have := HZS.out; omega)))))
         have HPX := lH ((HP2.out _ J3.out).block (hg5.block _ (by have := J3.out.size; have := HS1.out; have := HZS.out; omega) (fun e => HC.out.sep _ e (.inl (by have := HZS.out; omega)))))
         have K5 := lH (show Kept w w5 from Below.trans (HKZ.out.trans (K.out.trans J3.out)) (hg5.at_below (B := w.heap.size) (fun q e => by have := (HC.out.lt q e).1; have := HZS.out; omega) (HKZ.out.trans (K.out.trans J3.out)).size))
         clear hc5 hg5
         refine hK9.out _ _ (HS.out _ HPX.out) (fun hHeld21 => ?_)
         clear hK9 K9
         try simp only [nP]
         refine tkH 11 (v := ?_) (y := Or.inl ⟨by rfl, (by rintro W ⟨o0, o1, o2, o3, o4, o5, o6, o7, o8, o9, o10⟩; go_simp <;> with_reducible rfl)⟩) (h := ?_)
         try simp only [nP]
         have q1 := HWX.out.at_ 1 _ rfl
         have f1 := HWX.out.free 1
         refine rdH (rs := [12]) (h := coH (fun K9 hK9 => ?_) AllReadyH.nil)
         go_simp
         have HPY := lH (HPX.out.other (p := w1.heap.size) (j := 1) (u := .slice (some ⟨g, 0, none⟩) (len9 + 1) c9) (by have := HS1.out; have := HZS.out; omega))
         have HQY := lH (HQX.out.other (p := w1.heap.size) (j := 1) (u := .slice (some ⟨g, 0, none⟩) (len9 + 1) c9) (by have := HS1.out; have := HZS.out; omega))
         have HWY := lH (show CellsN w1.heap.size [.slice a1 n1 c1, .slice (some ⟨g, 0, none⟩) (len9 + 1) c9, .slice a3 n3 c3] (w5.setCell ⟨w1.heap.size, 1, none⟩ (.slice (some ⟨g, 0, none⟩) (len9 + 1) c9)) from HWX.out.set (j := 1) (by simp))
         have HC6 := lH (HC5.out.step (GOff.cell (S := fun b => b < Z.heap.size ∨ b = w1.heap.size) w1.heap.size 1 (.slice (some ⟨g, 0, none⟩) (len9 + 1) c9) (.inr rfl)))
         have K6 := lH (show Kept w (w5.setCell ⟨w1.heap.size, 1, none⟩ (.slice (some ⟨g, 0, none⟩) (len9 + 1) c9)) from K5.out.setCell (p := ⟨w1.heap.size, 1, none⟩) (by have := HS1.out; have := HZS.out; show w.heap.size ≤ w1.heap.size; omega) _)
         refine hK9.out _ _ (HS.out _ HPY.out) (fun hHeld6 => ?_)
         clear hK9 K9 q1 f1
         try simp only [nP]
         refine wpAnyH_done (by kernel_rfl) ?_ _
         have y0 := HWY.out.at_ 0 _ rfl
         have y1 := HWY.out.at_ 1 _ rfl
         have y2 := HWY.out.at_ 2 _ rfl
         have z0 := HQY.out.at_ 0 _ rfl
         have z1 := HQY.out.at_ 1 _ rfl
         have z2 := HQY.out.at_ 2 _ rfl
         have f0 := HQY.out.free 0
         have f1 := HQY.out.free 1
         have f2 := HQY.out.free 2
         have PP := lH (putN (vs := [.slice a1 n1 c1, .slice (some ⟨g, 0, none⟩) (len9 + 1) c9, .slice a3 n3 c3]) HQY.out rfl)
         go_wp2
         obtain ⟨WE, hWE⟩ : ∃ W, (w5.setCell ⟨w1.heap.size, 1, none⟩ (.slice (some ⟨g, 0, none⟩) (len9 + 1) c9)).setCells (w.heap.size + 2) 0 [.slice a1 n1 c1, .slice (some ⟨g, 0, none⟩) (len9 + 1) c9, .slice a3 n3 c3] = W := ⟨_, rfl⟩
         have hWE2 : ((((w5.setCell ⟨w1.heap.size, 1, none⟩ (.slice (some ⟨g, 0, none⟩) (len9 + 1) c9)).setCell ⟨(w.heap.size + 2), 0, none⟩ (.slice a1 n1 c1)).setCell ⟨(w.heap.size + 2), 1, none⟩ (.slice (some ⟨g, 0, none⟩) (len9 + 1) c9)).setCell ⟨(w.heap.size + 2), 2, none⟩ (.slice a3 n3 c3)) = WE := hWE
         rw [hWE] at PP
         try rw [hWE2]
         have GE := lH (show GOff (fun b => b < Z.heap.size ∨ b = w1.heap.size) (w5.setCell ⟨w1.heap.size, 1, none⟩ (.slice (some ⟨g, 0, none⟩) (len9 + 1) c9)) WE by rw [← hWE]; exact GOff.cells (S := fun b => b < Z.heap.size ∨ b = w1.heap.size) _ (.inl (by have := HZS.out; omega)) _ _ _)
         clear hWE hWE2
         obtain ⟨PCC, hsz, hbl, hkp⟩ := PP.out
         refine bodyPost_ret (by simp [results, Tryz.results14, go_sem, PCC.at_ 0 _ rfl, PCC.at_ 1 _ rfl, PCC.at_ 2 _ rfl]; try rfl) rfl ?_
         have HFIN := (HC6.out.step GE.out).less (B' := w.heap.size) (S' := fun b => b < w.heap.size) HKZ.out.size (fun b hb => .inl (Nat.lt_of_lt_of_le hb HKZ.out.size))
         rw [show l9.take (placeN p0 l9) ++ ⟨p0, p1, p2, q1, q2, q3, q4, p3, p4, p5, p6⟩ :: l9.drop (placeN p0 l9) = insP ⟨p0, p1, p2, q1, q2, q3, q4, p3, p4, p5, p6⟩ (dropP p0 pl) by rw [← HE9.out]; exact place_ins (p := ⟨p0, p1, p2, q1, q2, q3, q4, p3, p4, p5, p6⟩) (l := l9)] at HFIN
         exact ⟨_, _, _, _, _, _, _, _, _, rfl, HFIN, hkp _ _ (by omega) K6.out⟩
open Go.RowKit
theorem on_snoc {x : ByteArray} {l : List Pd} {k : Nat} {n : Pd} (h : l[k]? = some n) : (l.take (k + 1)).filter (fun p => eqS p.node x) = (l.take k).filter (fun p => eqS p.node x) ++ (if eqS n.node x = true then [n] else []) := by
 rw [take_snoc h, List.filter_append]
 congr 1
 rw [List.filter_cons, List.filter_nil]
set_option maxRecDepth 100000 in
set_option maxHeartbeats 6400000 in
theorem onSt_any (a a8 a9 : Option Addr) (len cap m8 c8 m9 c9 : Nat) (l : List Pd) (x : ByteArray) (w : World) (hr : PodsAt w a len l) (hlow : ∀ n ∈ l, LowPd n) (hlen : len ≤ 100000) :
 Calls Tryz.prog 32 #[.agg #[.slice a8 m8 c8, .slice a len cap, .slice a9 m9 c9], .string x] w fun e w' => ∃ v, e = .returned v ∧ PodsR w' v (onP x l) ∧ Kept w w' := by
 have hl := hr.1
 have hm := hr.2.1
 unfold maxLen at hm
 obtain ⟨i0, hi, hz0, hz1, hz2'⟩ := info_parts infoPd
 obtain ⟨Z, hZ⟩ : ∃ Z, w.alloc (.cells #[.slice a8 m8 c8, .slice a len cap, .slice a9 m9 c9] 26) = Z := ⟨_, rfl⟩
 have hkz : Kept w Z := by rw [← hZ]; exact kept_alloc _ _
 have hst : Z.cell? ⟨w.heap.size, 1, none⟩ = some (.slice a len cap) := (freshN w (.slice a8 m8 c8) [.slice a len cap, .slice a9 m9 c9] 26 Z (by rw [hZ]; exact Kept.refl _)).at_ 1 _ rfl
 have HR := lH (hr.kept hkz)
 have HL := lH hl
 have HLOW := lH hlow
 have HKZ := lH hkz
 obtain ⟨t, ht⟩ : ∃ t, (x.toList == ([] : List UInt8)) = t := ⟨_, rfl⟩
 have HNO := lH (show isNo x = t by rw [no_iff]; exact ht)
 clear hr hl hkz hlow
 cases t with
 | true =>
  have HE := lH (show onP x l = [] by unfold onP; rw [if_pos HNO.out])
  go_enter Tryz.func32, Tryz.ntmps32
  go_wp2
  try rw [hZ]
  go_ret
  exact ⟨_, rfl, by rw [HE.out]; exact ⟨none, 0, rfl, Nat.le_refl _, by decide, rfl, by decide, .inl rfl⟩, by first | exact HKZ.out | (rw [hZ]; exact HKZ.out)⟩
 | false =>
  have HE := lH (show onP x l = l.filter (fun p => eqS p.node x) by unfold onP; rw [if_neg (by rw [HNO.out]; decide)])
  go_enter Tryz.func32, Tryz.ntmps32
  go_wp2
  try rw [hZ]
  clear hZ hst ht
  go_loopw [5, 13] (fun v i wr => ∃ k : Nat, k ≤ len ∧ i = .int .i64 k ∧ ∃ lx : List PX, (lx.map fun z => z.1) = (l.take k).filter (fun p => eqS p.node x) ∧ lx.length ≤ k ∧ Deep PodLay0 49 At4 wr Z.heap.size v lx ∧ Kept Z wr) (fun _ i _ => len - (intOf i).toNat)
  case atStart => exact ⟨0, Nat.zero_le _, rfl, [], rfl, Nat.le_refl _, ⟨Own.nil _ _ _, fun z h => by cases h⟩, Kept.refl _⟩
  case round =>
   obtain ⟨k, hk, rfl, lx, hlx, hll, hdp, hK⟩ := hrel
   have HX := lH hlx
   have HLL := lH hll
   have HD := lH hdp
   have HK := lH hK
   by_cases hlt : k < len
   · obtain ⟨b, off, rfl⟩ := HR.out.form.resolve_left (by omega)
     obtain ⟨n, a1, m1, c1, a2, m2, c2, a3, m3, c3, a4, m4, c4, hn, hd, hb, p0, p1, p2, p3, p4, p5, p6, p7, p8, p9, p10, hat⟩ := (HR.out.kept hK).at_ hlt
     have HN := lH hn
     have HAT := lH hat
     obtain ⟨t, ht⟩ : ∃ t, eqS n.node x = t := ⟨_, rfl⟩
     have ht' : (n.node.toList == x.toList) = t := ht
     have HT := lH ht
     have hkk : (k : Int) < (len : Int) := by omega
     clear hlx hll hdp hK hat hd hn ht
     cases t with
     | false =>
      have HX2 := lH (show (lx.map fun z => z.1) = (l.take (k + 1)).filter (fun p => eqS p.node x) by rw [on_snoc HN.out, if_neg (by rw [HT.out]; decide), List.append_nil]; exact HX.out)
      go_wp2
      go_roundw
      case rel => exact ⟨k + 1, by omega, by go_num, lx, HX2.out, by have := HLL.out; omega, HD.out.kept (kept_alloc _ _), HK.out.trans (kept_alloc _ _)⟩
      case measure => simp [intOf]; omega
     | true =>
      have HOW := lH (show ∀ W, Kept wr W → _ from fun W kk => ownedPod_any n (.slice a1 m1 c1) (.slice a2 m2 c2) (.slice a3 m3 c3) (.slice a4 m4 c4) W (HAT.out.kept kk) (HLOW.out n (List.mem_of_getElem? HN.out)))
      unfold PodV at HOW
      obtain ⟨len1, hlen1⟩ : ∃ q, lx.length = q := ⟨_, rfl⟩
      have HL1 := lH hlen1
      rw [hlen1] at HLL
      clear hlen1
      go_wp2_with fail
      refine (HOW.out _ (kept_alloc _ _)).mono ?_
      rintro e w1 ⟨v, rfl, hv, kk⟩
      obtain ⟨x1, y1, z1, x2, y2, z2, x3, y3, z3, x4, y4, z4, hv9, sp, g1, g2, g3, g4⟩ := hv
      have hv9 : v = .agg #[.string n.name, .string n.owner, .int .i64 n.prio, .slice x1 y1 z1, .slice x2 y2 z2, .slice x3 y3 z3, .slice x4 y4 z4, .string n.key, .int .i64 n.most, .string n.node, .bool n.hold] := hv9
      subst hv9
      have KW := lH ((kept_alloc wr _).trans kk)
      have hbase : Z.heap.size ≤ wr.heap.size := HK.out.size
      have HOF := lH (show Off (fun b => u5.ownBlock = some b) w1 fun u => At4 u (n, (x1, y1, z1), (x2, y2, z2), (x3, y3, z3), (x4, y4, z4)) from PodAt.off (B := wr.heap.size + 1) sp (by rw [World.size_alloc] at g1; exact g1) (by rw [World.size_alloc] at g2; exact g2) (by rw [World.size_alloc] at g3; exact g3) (by rw [World.size_alloc] at g4; exact g4) (fun b hb h => by have := (own_lt HD.out.own b h).2; omega))
      have HD1 := lH (HD.out.kept KW.out)
      have HOWN := lH (show w1.ownsRow Z.heap.size 49 11 u5 len1 (rowCells PodLay0 lx) by have := HD1.out.own.1; rw [HL1.out] at this; exact this)
      have hs1 : wr.heap.size ≤ w1.heap.size := KW.out.size
      clear kk sp g1 g2 g3 g4
      go_wp2_with (at_builtin; refine wpList_append_lies _ rfl _ _ _ rfl Z.heap.size 49 i0 _ 11 184 Tryz.underlying23 hi hz0 hz1 hz2' rfl (by decide) u5 len1 (rowCells PodLay0 lx) rfl (HOWN.out.alloc _) ⟨w1.heap.size, 0, none⟩ 1 1 (PodLay0.cs (n, (x1, y1, z1), (x2, y2, z2), (x3, y3, z3), (x4, y4, z4))) rfl rfl (World.news_of_block (cs := #[.string n.name, .string n.owner, .int .i64 n.prio, .slice x1 y1 z1, .slice x2 y2 z2, .slice x3 y3 z3, .slice x4 y4 z4, .string n.key, .int .i64 n.most, .string n.node, .bool n.hold]) (t := 49) (fr := (0, 0)) (heap_alloc_new w1 _)) (one_pod0 _) (by decide) (by unfold maxLen; have := HLL.out; omega) (by have := HLL.out; omega) (by simp; omega) (w1.heap.size + 1) (by simp) ?_; intro gg cap1 w2 hown1 hgrow hat hlt1)
      have GG := lH (GOff.grown (S := fun b => u5.ownBlock = some b) hgrow fun q e => e)
      have hnn : ∀ q, (Value.slice (some ⟨gg, 0, none⟩) (len1 + 1) cap1).ownBlock = some q → u5.ownBlock = some q ∨ (w1.alloc (.cells #[.string n.name, .string n.owner, .int .i64 n.prio, .slice x1 y1 z1, .slice x2 y2 z2, .slice x3 y3 z3, .slice x4 y4 z4, .string n.key, .int .i64 n.most, .string n.node, .bool n.hold] 49)).heap.size ≤ q := fun q hq => by
       obtain rfl : gg = q := Option.some.inj hq
       exact hat.imp id fun e => by rw [World.size_alloc]; omega
      have HDN := lH (show Deep PodLay0 49 At4 w2 Z.heap.size (.slice (some ⟨gg, 0, none⟩) (len1 + 1) cap1) (lx ++ [(n, (x1, y1, z1), (x2, y2, z2), (x3, y3, z3), (x4, y4, z4))]) from ⟨Own.snoc hown1 (by rw [HL1.out]) HD.out.own.2 trivial, fun z hz => by
       rcases List.mem_append.1 hz with hz | hz
       · exact (((HD1.out.off z hz).step (GOff.of (kept_alloc w1 (.cells #[.string n.name, .string n.owner, .int .i64 n.prio, .slice x1 y1 z1, .slice x2 y2 z2, .slice x3 y3 z3, .slice x4 y4 z4, .string n.key, .int .i64 n.most, .string n.node, .bool n.hold] 49)))).new GG.out fun b e => hnn b e)
       · obtain rfl := List.mem_singleton.1 hz
         exact ((HOF.out.step (GOff.of (kept_alloc w1 (.cells #[.string n.name, .string n.owner, .int .i64 n.prio, .slice x1 y1 z1, .slice x2 y2 z2, .slice x3 y3 z3, .slice x4 y4 z4, .string n.key, .int .i64 n.most, .string n.node, .bool n.hold] 49)))).new GG.out fun b e => hnn b e)⟩)
      have HKN := lH (show Kept Z w2 from Below.mono (show Below Z.heap.size Z w2 from Below.trans (HK.out.trans (KW.out.trans (kept_alloc w1 (.cells #[.string n.name, .string n.owner, .int .i64 n.prio, .slice x1 y1 z1, .slice x2 y2 z2, .slice x3 y3 z3, .slice x4 y4 z4, .string n.key, .int .i64 n.most, .string n.node, .bool n.hold] 49)))) (GG.out.at_below (B := Z.heap.size) (fun q e => (own_lt HD.out.own q e).1) (by have h1 := HK.out.size; rw [World.size_alloc]; omega))) (Nat.le_refl _))
      have HX2 := lH (show ((lx ++ [(n, (x1, y1, z1), (x2, y2, z2), (x3, y3, z3), (x4, y4, z4))]).map fun z => z.1) = (l.take (k + 1)).filter (fun p => eqS p.node x) by rw [on_snoc HN.out, if_pos HT.out, List.map_append, HX.out]; rfl)
      clear hown1 hgrow hat hlt1 hnn hs1 hbase
      go_wp2
      go_roundw
      case rel => exact ⟨k + 1, by omega, by go_num, _, HX2.out, by rw [List.length_append, HL1.out]; have := HLL.out; simp; omega, HDN.out, HKN.out⟩
      case measure => simp [intOf]; omega
   · have HK9 := lH (show l.take k = l by rw [List.take_of_length_le (by rw [HL.out]; omega)])
     have HRES := lH (show PodsR wr u5 (onP x l) by have := ownAt_pods HD.out; rw [HX.out, HK9.out, ← HE.out] at this; exact this)
     clear hlx hll hdp hK
     go_wp2
     go_ret
     exact ⟨_, rfl, HRES.out, HKZ.out.trans HK.out⟩
open Go.RowKit
def nodK (x : ByteArray) (c : Int) : Nod := ⟨x, [(⟨#[99, 112, 117]⟩, c)], [], [], false⟩
def podK (x : ByteArray) (c : Int) (y : ByteArray) : Pd := ⟨x, ⟨#[]⟩, 0, [(⟨#[99, 112, 117]⟩, c)], [], [], [], ⟨#[]⟩, 0, y, false⟩
theorem one_amount (w : World) (c : Int) (h : -9223372036854775808 ≤ c ∧ c ≤ 9223372036854775807) (W : World) (k : Kept (w.alloc (.cells #[.string ⟨#[99, 112, 117]⟩, .int .i64 c] 103)) W) : Vec.Reads W (.slice (some ⟨w.heap.size, 0, none⟩) 1 1) [(⟨#[99, 112, 117]⟩, c)] := by
 have cc := freshN w (.string ⟨#[99, 112, 117]⟩) [.int .i64 c] 103 W k
 refine ⟨_, 1, rfl, (by decide : (1 : Nat) ≤ 1), (by decide : (1 : Nat) ≤ maxLen), rfl, (by decide : (1 : Nat) ≤ maxLen), fun i hi => ?_, .inr ⟨w.heap.size, 0, rfl, cc.lt, fun i hi => ?_⟩⟩
 · obtain rfl : i = 0 := by simpa using hi
   exact ⟨(by decide : (3 : Nat) ≤ maxLen), h.1, h.2⟩
 · obtain rfl : i = 0 := by simpa using hi
   exact ⟨cc.at_ 0 _ rfl, cc.at_ 1 _ rfl⟩
set_option maxRecDepth 100000 in
set_option maxHeartbeats 1600000 in
theorem lawN_any (x : ByteArray) (c : Int) (hc : -9223372036854775808 ≤ c ∧ c ≤ 9223372036854775807) (hx : x.size ≤ maxLen) (w : World) :
 Calls Tryz.prog 12 #[.string x, .int .i64 c] w fun e w' => ∃ b1 n1 d1, e = .returned (.agg #[.string x, .slice b1 n1 d1, .slice none 0 0, .slice none 0 0, .bool false]) ∧ NodAt w' (.slice b1 n1 d1) (.slice none 0 0) (.slice none 0 0) (nodK x c) ∧ Kept w w' := by
 have cc := freshN w (.string ⟨#[]⟩) [.slice none 0 0, .slice none 0 0, .slice none 0 0, .bool false] 43 _ (Kept.refl _)
 obtain ⟨W0, hW0⟩ : ∃ W, w.alloc (.cells #[.string ⟨#[]⟩, .slice none 0 0, .slice none 0 0, .slice none 0 0, .bool false] 43) = W := ⟨_, rfl⟩
 have hs : W0.heap.size = w.heap.size + 1 := by rw [← hW0]; simp
 rw [hW0] at cc
 obtain ⟨W1, hW1⟩ : ∃ W, W0.alloc (.cells #[.string ⟨#[99, 112, 117]⟩, .int .i64 c] 103) = W := ⟨_, rfl⟩
 have HR := lH (one_amount W0 c hc W1 (by rw [hW1]; exact Kept.refl _))
 rw [hs] at HR
 have c1 := cc.kept (W' := W1) (by rw [← hW1]; exact kept_alloc _ _)
 have KW := lH (show Kept w W1 by rw [← hW1, ← hW0]; exact kept_two _ _ _)
 have y0 := c1.at_ 0 _ rfl
 have y1 := c1.at_ 1 _ rfl
 have y2 := c1.at_ 2 _ rfl
 have y3 := c1.at_ 3 _ rfl
 have y4 := c1.at_ 4 _ rfl
 have f0 := c1.free 0
 have f1 := c1.free 1
 have f2 := c1.free 2
 have f3 := c1.free 3
 have f4 := c1.free 4
 have P := lH (putN (vs := [.string x, .slice (some ⟨w.heap.size + 1, 0, none⟩) 1 1, .slice none 0 0, .slice none 0 0, .bool false]) c1 rfl)
 clear c1 cc
 go_enter Tryz.func12, Tryz.ntmps12
 go_wp2
 try rw [hW0]
 try rw [hW1]
 obtain ⟨WE, hWE⟩ : ∃ W, W1.setCells w.heap.size 0 [.string x, .slice (some ⟨w.heap.size + 1, 0, none⟩) 1 1, .slice none 0 0, .slice none 0 0, .bool false] = W := ⟨_, rfl⟩
 have hWE2 : (((((W1.setCell ⟨w.heap.size, 0, none⟩ (.string x)).setCell ⟨w.heap.size, 1, none⟩ (.slice (some ⟨w.heap.size + 1, 0, none⟩) 1 1)).setCell ⟨w.heap.size, 2, none⟩ (.slice none 0 0)).setCell ⟨w.heap.size, 3, none⟩ (.slice none 0 0)).setCell ⟨w.heap.size, 4, none⟩ (.bool false)) = WE := hWE
 rw [hWE] at P
 try rw [hWE2]
 clear hWE hWE2
 obtain ⟨PC, hsz, hbl, hkp⟩ := P.out
 refine bodyPost_ret (by simp [results, Tryz.results12, go_sem, PC.at_ 0 _ rfl, PC.at_ 1 _ rfl, PC.at_ 2 _ rfl, PC.at_ 3 _ rfl, PC.at_ 4 _ rfl]; try rfl) rfl ?_
 exact ⟨_, _, _, rfl, ⟨hx, (HR.out.far hsz (fun b o s e => hbl b (by cases e; omega))), Reads.nil _, Reads.nil _⟩, hkp _ _ (Nat.le_refl _) KW.out⟩
set_option maxRecDepth 100000 in
set_option maxHeartbeats 1600000 in
theorem lawP_any (x : ByteArray) (c : Int) (y : ByteArray) (hc : -9223372036854775808 ≤ c ∧ c ≤ 9223372036854775807) (hx : x.size ≤ maxLen) (hy : y.size ≤ maxLen) (w : World) :
 Calls Tryz.prog 13 #[.string x, .int .i64 c, .string y] w fun e w' => ∃ b1 n1 d1, e = .returned (.agg #[.string x, .string ⟨#[]⟩, .int .i64 0, .slice b1 n1 d1, .slice none 0 0, .slice none 0 0, .slice none 0 0, .string ⟨#[]⟩, .int .i64 0, .string y, .bool false]) ∧ PodAt w' (.slice b1 n1 d1) (.slice none 0 0) (.slice none 0 0) (.slice none 0 0) (podK x c y) ∧ Kept w w' := by
 have cc := freshN w (.string ⟨#[]⟩) [.string ⟨#[]⟩, .int .i64 0, .slice none 0 0, .slice none 0 0, .slice none 0 0, .slice none 0 0, .string ⟨#[]⟩, .int .i64 0, .string ⟨#[]⟩, .bool false] 49 _ (Kept.refl _)
 obtain ⟨W0, hW0⟩ : ∃ W, w.alloc (.cells #[.string ⟨#[]⟩, .string ⟨#[]⟩, .int .i64 0, .slice none 0 0, .slice none 0 0, .slice none 0 0, .slice none 0 0, .string ⟨#[]⟩, .int .i64 0, .string ⟨#[]⟩, .bool false] 49) = W := ⟨_, rfl⟩
 have hs : W0.heap.size = w.heap.size + 1 := by rw [← hW0]; simp
 rw [hW0] at cc
 obtain ⟨W1, hW1⟩ : ∃ W, W0.alloc (.cells #[.string ⟨#[99, 112, 117]⟩, .int .i64 c] 103) = W := ⟨_, rfl⟩
 have HR := lH (one_amount W0 c hc W1 (by rw [hW1]; exact Kept.refl _))
 rw [hs] at HR
 have c1 := cc.kept (W' := W1) (by rw [← hW1]; exact kept_alloc _ _)
 have KW := lH (show Kept w W1 by rw [← hW1, ← hW0]; exact kept_two _ _ _)
 have y0 := c1.at_ 0 _ rfl
 have y1 := c1.at_ 1 _ rfl
 have y2 := c1.at_ 2 _ rfl
 have y3 := c1.at_ 3 _ rfl
 have y4 := c1.at_ 4 _ rfl
 have y5 := c1.at_ 5 _ rfl
 have y6 := c1.at_ 6 _ rfl
 have y7 := c1.at_ 7 _ rfl
 have y8 := c1.at_ 8 _ rfl
 have y9 := c1.at_ 9 _ rfl
 have y10 := c1.at_ 10 _ rfl
 have f0 := c1.free 0
 have f1 := c1.free 1
 have f2 := c1.free 2
 have f3 := c1.free 3
 have f4 := c1.free 4
 have f5 := c1.free 5
 have f6 := c1.free 6
 have f7 := c1.free 7
 have f8 := c1.free 8
 have f9 := c1.free 9
 have f10 := c1.free 10
 have P := lH (putN (vs := [.string x, .string ⟨#[]⟩, .int .i64 0, .slice (some ⟨w.heap.size + 1, 0, none⟩) 1 1, .slice none 0 0, .slice none 0 0, .slice none 0 0, .string ⟨#[]⟩, .int .i64 0, .string y, .bool false]) c1 rfl)
 clear c1 cc
 go_enter Tryz.func13, Tryz.ntmps13
 go_wp2
 try rw [hW0]
 try rw [hW1]
 obtain ⟨WE, hWE⟩ : ∃ W, W1.setCells w.heap.size 0 [.string x, .string ⟨#[]⟩, .int .i64 0, .slice (some ⟨w.heap.size + 1, 0, none⟩) 1 1, .slice none 0 0, .slice none 0 0, .slice none 0 0, .string ⟨#[]⟩, .int .i64 0, .string y, .bool false] = W := ⟨_, rfl⟩
 have hWE2 : (((((((((((W1.setCell ⟨w.heap.size, 0, none⟩ (.string x)).setCell ⟨w.heap.size, 1, none⟩ (.string ⟨#[]⟩)).setCell ⟨w.heap.size, 2, none⟩ (.int .i64 0)).setCell ⟨w.heap.size, 3, none⟩ (.slice (some ⟨w.heap.size + 1, 0, none⟩) 1 1)).setCell ⟨w.heap.size, 4, none⟩ (.slice none 0 0)).setCell ⟨w.heap.size, 5, none⟩ (.slice none 0 0)).setCell ⟨w.heap.size, 6, none⟩ (.slice none 0 0)).setCell ⟨w.heap.size, 7, none⟩ (.string ⟨#[]⟩)).setCell ⟨w.heap.size, 8, none⟩ (.int .i64 0)).setCell ⟨w.heap.size, 9, none⟩ (.string y)).setCell ⟨w.heap.size, 10, none⟩ (.bool false)) = WE := hWE
 rw [hWE] at P
 try rw [hWE2]
 clear hWE hWE2
 obtain ⟨PC, hsz, hbl, hkp⟩ := P.out
 refine bodyPost_ret (by simp [results, Tryz.results13, go_sem, PC.at_ 0 _ rfl, PC.at_ 1 _ rfl, PC.at_ 2 _ rfl, PC.at_ 3 _ rfl, PC.at_ 4 _ rfl, PC.at_ 5 _ rfl, PC.at_ 6 _ rfl, PC.at_ 7 _ rfl, PC.at_ 8 _ rfl, PC.at_ 9 _ rfl, PC.at_ 10 _ rfl]; try rfl) rfl ?_
 exact ⟨_, _, _, rfl, ⟨hx, (by decide : (0 : Nat) ≤ maxLen), (by decide : (0 : Nat) ≤ maxLen), hy, (by decide : (-9223372036854775808 : Int) ≤ 0 ∧ (0 : Int) ≤ 9223372036854775807), (by decide : (-9223372036854775808 : Int) ≤ 0 ∧ (0 : Int) ≤ 9223372036854775807), (HR.out.far hsz (fun b o s e => hbl b (by cases e; omega))), Reads.nil _, Reads.nil _, Reads.nil _⟩, hkp _ _ (Nat.le_refl _) KW.out⟩
theorem row_fresh {X : Type} {L : Lay X} {lx : List X} {q : Nat} {v : Value} {vs : List Value} {W : World} (hc : rowCells L lx = v :: vs) (c : CellsN q (v :: vs) W) (hf : ∀ x ∈ lx, L.fine x) (hm : lx.length ≤ maxLen) : RowAt L W (some ⟨q, 0, none⟩) lx.length lx :=
 ⟨rfl, hm, hf, .inr ⟨q, 0, rfl, c.lt, fun i x j u hi hj => by
  have := rowCells_at L lx i x j u hi hj
  rw [hc] at this
  rw [Nat.zero_add]
  exact c.at_ _ u this⟩⟩
theorem nodes_row {w : World} {a : Option Addr} {len : Nat} {lx : List NX} (h : RowAt NodLay0 w a len lx) (hf : ∀ z ∈ lx, At3 w z) : NodesAt w a len (lx.map fun z => z.1) := by
 obtain ⟨g0, g1, g2, g3⟩ := h
 refine ⟨by rw [List.length_map]; exact g0, g1, g3.imp id ?_⟩
 rintro ⟨b, off, rfl, hb, hc⟩
 refine ⟨b, off, rfl, hb, fun i n hi => ?_⟩
 rw [List.getElem?_map] at hi
 obtain ⟨z, hz, rfl⟩ := Option.map_eq_some_iff.1 hi
 exact ⟨_, _, _, _, _, _, _, _, _, hc i z 0 _ hz rfl, hc i z 1 _ hz rfl, hc i z 2 _ hz rfl, hc i z 3 _ hz rfl, hc i z 4 _ hz rfl, hf z (List.mem_of_getElem? hz)⟩
theorem pods_row {w : World} {a : Option Addr} {len : Nat} {lx : List PX} (h : RowAt PodLay0 w a len lx) (hf : ∀ z ∈ lx, At4 w z) : PodsAt w a len (lx.map fun z => z.1) := by
 obtain ⟨g0, g1, g2, g3⟩ := h
 refine ⟨by rw [List.length_map]; exact g0, g1, g3.imp id ?_⟩
 rintro ⟨b, off, rfl, hb, hc⟩
 refine ⟨b, off, rfl, hb, fun i n hi => ?_⟩
 rw [List.getElem?_map] at hi
 obtain ⟨z, hz, rfl⟩ := Option.map_eq_some_iff.1 hi
 exact ⟨_, _, _, _, hc i z 0 _ hz rfl, hc i z 1 _ hz rfl, hc i z 2 _ hz rfl, hc i z 3 _ hz rfl, hc i z 4 _ hz rfl, hc i z 5 _ hz rfl, hc i z 6 _ hz rfl, hc i z 7 _ hz rfl, hc i z 8 _ hz rfl, hc i z 9 _ hz rfl, hc i z 10 _ hz rfl, hf z (List.mem_of_getElem? hz)⟩
theorem buds_none (w : World) : BudsAt w none 0 [] := ⟨rfl, by decide, .inl rfl⟩
open Go.RowKit
abbrev kNL : List Nod := [nodK ⟨#[97]⟩ 10, nodK ⟨#[98]⟩ 5]
abbrev kPL : List Pd := [podK ⟨#[120]⟩ 3 ⟨#[97]⟩, podK ⟨#[121]⟩ 4 ⟨#[97]⟩]
def kS : Clu := ⟨kNL, kPL, []⟩
def kM : Clu := moveSt kS ⟨#[121]⟩ ⟨#[98]⟩
def kF : Clu := putSt kS (podK ⟨#[122]⟩ 4 ⟨#[97]⟩)
def kD : Clu := dropSt kS ⟨#[120]⟩
theorem k_used : usedL kNL kPL ⟨#[97]⟩ = (0, [(⟨#[99, 112, 117]⟩, 7)]) := by kernel_rfl
theorem k_free : freeL kNL kPL ⟨#[97]⟩ = (0, [(⟨#[99, 112, 117]⟩, 3)]) := by kernel_rfl
theorem k_tot : totV kNL [] = (0, [(⟨#[99, 112, 117]⟩, 15)]) := by kernel_rfl
theorem k_none : usedL kNL kPL ⟨#[99]⟩ = (3, []) := by kernel_rfl
theorem k_chk : chkSt kS = 0 := by kernel_rfl
theorem k_full : chkSt kF = 7 := by kernel_rfl
theorem k_len : kF.pods.length = 3 := by kernel_rfl
theorem k_on : onP ⟨#[97]⟩ kM.pods = [podK ⟨#[120]⟩ 3 ⟨#[97]⟩] := by kernel_rfl
theorem k_drop : kD.pods.length = 1 := by kernel_rfl
theorem k_not : sameSt kS kM = false := by kernel_rfl
theorem k_lowN : ∀ n ∈ kNL, LowNod n := by
 intro n hn
 rcases List.mem_cons.1 hn with rfl | hn
 · exact ⟨(by decide : (1 : Nat) ≤ 1000000), (by decide : (0 : Nat) ≤ 1000000), (by decide : (0 : Nat) ≤ 1000000)⟩
 · obtain rfl := List.mem_singleton.1 hn
   exact ⟨(by decide : (1 : Nat) ≤ 1000000), (by decide : (0 : Nat) ≤ 1000000), (by decide : (0 : Nat) ≤ 1000000)⟩
theorem k_lowK (x : ByteArray) (c : Int) (y : ByteArray) : LowPd (podK x c y) := ⟨(by decide : (1 : Nat) ≤ 1000000), (by decide : (0 : Nat) ≤ 1000000), (by decide : (0 : Nat) ≤ 1000000), (by decide : (0 : Nat) ≤ 1000000)⟩
theorem k_lowP : ∀ n ∈ kPL, LowPd n := by
 intro n hn
 rcases List.mem_cons.1 hn with rfl | hn
 · exact k_lowK _ _ _
 · obtain rfl := List.mem_singleton.1 hn
   exact k_lowK _ _ _
theorem k_low : LowClu ⟨kNL, kPL, []⟩ := ⟨k_lowN, k_lowP, (fun n h => by cases h), (by decide : (2 : Nat) ≤ 100000), (by decide : (2 : Nat) ≤ 100000), (by decide : (0 : Nat) ≤ 100000)⟩
theorem k_lowM : ∀ n ∈ kM.pods, LowPd n := by
 rw [show kM.pods = [podK ⟨#[120]⟩ 3 ⟨#[97]⟩, podK ⟨#[121]⟩ 4 ⟨#[98]⟩] from by kernel_rfl]
 intro n hn
 rcases List.mem_cons.1 hn with rfl | hn
 · exact k_lowK _ _ _
 · obtain rfl := List.mem_singleton.1 hn
   exact k_lowK _ _ _
set_option maxRecDepth 100000 in
set_option maxHeartbeats 12800000 in
theorem knownSt_any (w : World) : Calls Tryz.prog 7 #[] w (Say (.bool true) w) := by
 go_enter Tryz.func7, Tryz.ntmps7
 go_wp2_with fail
 refine (lawN_any ⟨#[97]⟩ 10 (by decide : (-9223372036854775808 : Int) ≤ 10 ∧ (10 : Int) ≤ 9223372036854775807) (by decide : (1 : Nat) ≤ maxLen) _).mono ?_
 rintro e w1 ⟨b1, n1, d1, rfl, ha1, k⟩
 have K := lH k
 have HA1 := lH ha1
 clear k ha1
 go_wp2_with fail
 refine (lawN_any ⟨#[98]⟩ 5 (by decide : (-9223372036854775808 : Int) ≤ 5 ∧ (5 : Int) ≤ 9223372036854775807) (by decide : (1 : Nat) ≤ maxLen) _).mono ?_
 rintro e w2 ⟨b2, n2, d2, rfl, ha2, k⟩
 have K := lH (K.out.trans k)
 have HA1 := lH (HA1.out.kept k)
 have HA2 := lH ha2
 clear k ha2
 go_wp2_with fail
 obtain ⟨g1, hg1⟩ : ∃ g, w2.heap.size = g := ⟨_, rfl⟩
 obtain ⟨w3, hw3⟩ : ∃ W, w2.alloc (.cells #[.string ⟨#[97]⟩, .slice b1 n1 d1, .slice none 0 0, .slice none 0 0, .bool false, .string ⟨#[98]⟩, .slice b2 n2 d2, .slice none 0 0, .slice none 0 0, .bool false] 43) = W := ⟨_, rfl⟩
 have hk3 : Kept w2 w3 := by rw [← hw3]; exact kept_alloc _ _
 have HRN := lH (show NodesAt w3 (some ⟨g1, 0, none⟩) 2 kNL from by
  have c := freshN w2 (.string ⟨#[97]⟩) [.slice b1 n1 d1, .slice none 0 0, .slice none 0 0, .bool false, .string ⟨#[98]⟩, .slice b2 n2 d2, .slice none 0 0, .slice none 0 0, .bool false] 43 w3 (by rw [hw3]; exact Kept.refl _)
  rw [hg1] at c
  exact nodes_row (lx := [(nodK ⟨#[97]⟩ 10, (b1, n1, d1), (none, 0, 0), (none, 0, 0)), (nodK ⟨#[98]⟩ 5, (b2, n2, d2), (none, 0, 0), (none, 0, 0))]) (row_fresh rfl c (fun _ _ => trivial) (by decide : (2 : Nat) ≤ maxLen)) (fun z hz => by
   rcases List.mem_cons.1 hz with rfl | hz
   · exact HA1.out.kept hk3
   · obtain rfl := List.mem_singleton.1 hz
     exact HA2.out.kept hk3))
 have K := lH (K.out.trans hk3)
 clear HA1 HA2 hk3
 try rw [hw3]
 clear hw3
 try rw [hg1]
 clear hg1
 refine (lawP_any ⟨#[120]⟩ 3 ⟨#[97]⟩ (by decide : (-9223372036854775808 : Int) ≤ 3 ∧ (3 : Int) ≤ 9223372036854775807) (by decide : (1 : Nat) ≤ maxLen) (by decide : (1 : Nat) ≤ maxLen) _).mono ?_
 rintro e w4 ⟨b3, n3, d3, rfl, ha1, k⟩
 have K := lH (K.out.trans k)
 have HRN := lH (HRN.out.kept k)
 have HA1 := lH ha1
 clear k ha1
 go_wp2_with fail
 refine (lawP_any ⟨#[121]⟩ 4 ⟨#[97]⟩ (by decide : (-9223372036854775808 : Int) ≤ 4 ∧ (4 : Int) ≤ 9223372036854775807) (by decide : (1 : Nat) ≤ maxLen) (by decide : (1 : Nat) ≤ maxLen) _).mono ?_
 rintro e w5 ⟨b4, n4, d4, rfl, ha2, k⟩
 have K := lH (K.out.trans k)
 have HRN := lH (HRN.out.kept k)
 have HA1 := lH (HA1.out.kept k)
 have HA2 := lH ha2
 clear k ha2
 obtain ⟨w5b, hw5b⟩ : ∃ W, w5.alloc (.cells #[.string ⟨#[120]⟩, .string ⟨#[]⟩, .int .i64 0, .slice b3 n3 d3, .slice none 0 0, .slice none 0 0, .slice none 0 0, .string ⟨#[]⟩, .int .i64 0, .string ⟨#[97]⟩, .bool false, .string ⟨#[121]⟩, .string ⟨#[]⟩, .int .i64 0, .slice b4 n4 d4, .slice none 0 0, .slice none 0 0, .slice none 0 0, .string ⟨#[]⟩, .int .i64 0, .string ⟨#[97]⟩, .bool false] 49) = W := ⟨_, rfl⟩
 have hs5 : w5b.heap.size = w5.heap.size + 1 := by rw [← hw5b]; simp
 obtain ⟨w6, hw6⟩ : ∃ W, w5b.alloc (.cells #[.slice (some ⟨g1, 0, none⟩) 2 2, .slice (some ⟨w5.heap.size, 0, none⟩) 2 2, .slice none 0 0] 26) = W := ⟨_, rfl⟩
 have hk6 : Kept w5 w6 := by rw [← hw6, ← hw5b]; exact kept_two _ _ _
 have HRP := lH (show PodsAt w6 (some ⟨w5.heap.size, 0, none⟩) 2 kPL from by
  have c := freshN w5 (.string ⟨#[120]⟩) [.string ⟨#[]⟩, .int .i64 0, .slice b3 n3 d3, .slice none 0 0, .slice none 0 0, .slice none 0 0, .string ⟨#[]⟩, .int .i64 0, .string ⟨#[97]⟩, .bool false, .string ⟨#[121]⟩, .string ⟨#[]⟩, .int .i64 0, .slice b4 n4 d4, .slice none 0 0, .slice none 0 0, .slice none 0 0, .string ⟨#[]⟩, .int .i64 0, .string ⟨#[97]⟩, .bool false] 49 w6 (by rw [← hw6, ← hw5b]; exact kept_alloc _ _)
  exact pods_row (lx := [(podK ⟨#[120]⟩ 3 ⟨#[97]⟩, (b3, n3, d3), (none, 0, 0), (none, 0, 0), (none, 0, 0)), (podK ⟨#[121]⟩ 4 ⟨#[97]⟩, (b4, n4, d4), (none, 0, 0), (none, 0, 0), (none, 0, 0))]) (row_fresh rfl c (fun _ _ => trivial) (by decide : (2 : Nat) ≤ maxLen)) (fun z hz => by
   rcases List.mem_cons.1 hz with rfl | hz
   · exact HA1.out.kept hk6
   · obtain rfl := List.mem_singleton.1 hz
     exact HA2.out.kept hk6))
 have HQ := lH (show CellsN (w5.heap.size + 1) [.slice (some ⟨g1, 0, none⟩) 2 2, .slice (some ⟨w5.heap.size, 0, none⟩) 2 2, .slice none 0 0] w6 by
  have c := freshN w5b (.slice (some ⟨g1, 0, none⟩) 2 2) [.slice (some ⟨w5.heap.size, 0, none⟩) 2 2, .slice none 0 0] 26 w6 (by rw [hw6]; exact Kept.refl _)
  rw [hs5] at c
  exact c)
 have K := lH (K.out.trans hk6)
 have HRN := lH (HRN.out.kept hk6)
 clear HA1 HA2 hk6
 have y0 := HQ.out.at_ 0 _ rfl
 have y1 := HQ.out.at_ 1 _ rfl
 have y2 := HQ.out.at_ 2 _ rfl
 have HW5 := lH hw5b
 have HW6 := lH hw6
 clear hw6 hw5b hs5
 go_wp2_with fail
 rw [HW5.out, HW6.out]
 clear HW5 HW6
 obtain ⟨g2, hg2⟩ : ∃ g, w5.heap.size = g := ⟨_, rfl⟩
 rw [hg2] at HRP HQ y0 y1 y2
 try rw [hg2]
 clear hg2
 have HR := usedF_any (some ⟨g1, 0, none⟩) (some ⟨g2, 0, none⟩) none 2 2 2 2 0 0 kNL kPL ⟨#[97]⟩ _ HRN.out HRP.out k_lowN
 rw [k_used] at HR
 refine HR.mono ?_
 clear HR
 rintro e w7 ⟨vu, rfl, ho, k⟩
 have K := lH (K.out.trans k)
 have HRN := lH (HRN.out.kept k)
 have HRP := lH (HRP.out.kept k)
 have HQ := lH (HQ.out.kept k)
 have Rvu := lH ho.reads
 clear k ho
 clear y0 y1 y2
 have y0 := HQ.out.at_ 0 _ rfl
 have y1 := HQ.out.at_ 1 _ rfl
 have y2 := HQ.out.at_ 2 _ rfl
 skip
 go_wp2_with fail
 have HR := freeF_any (some ⟨g1, 0, none⟩) (some ⟨g2, 0, none⟩) none 2 2 2 2 0 0 kNL kPL ⟨#[97]⟩ _ HRN.out HRP.out k_lowN
 rw [k_free] at HR
 refine HR.mono ?_
 clear HR
 rintro e w8 ⟨vf, rfl, ho, k⟩
 have K := lH (K.out.trans k)
 have HRN := lH (HRN.out.kept k)
 have HRP := lH (HRP.out.kept k)
 have HQ := lH (HQ.out.kept k)
 have Rvu := lH (Rvu.out.kept k)
 have Rvf := lH ho.reads
 clear k ho
 clear y0 y1 y2
 have y0 := HQ.out.at_ 0 _ rfl
 have y1 := HQ.out.at_ 1 _ rfl
 have y2 := HQ.out.at_ 2 _ rfl
 go_wp2_with fail
 have HR := totalF_any (some ⟨g1, 0, none⟩) (some ⟨g2, 0, none⟩) none 2 2 2 2 0 0 kNL kPL _ HRN.out
 rw [k_tot] at HR
 refine HR.mono ?_
 clear HR
 rintro e w9 ⟨vt, rfl, ho, k⟩
 have K := lH (K.out.trans k)
 have HRN := lH (HRN.out.kept k)
 have HRP := lH (HRP.out.kept k)
 have HQ := lH (HQ.out.kept k)
 have Rvu := lH (Rvu.out.kept k)
 have Rvf := lH (Rvf.out.kept k)
 have Rvt := lH ho.reads
 clear k ho
 clear y0 y1 y2
 have y0 := HQ.out.at_ 0 _ rfl
 have y1 := HQ.out.at_ 1 _ rfl
 have y2 := HQ.out.at_ 2 _ rfl
 go_wp2_with fail
 have HR := usedF_any (some ⟨g1, 0, none⟩) (some ⟨g2, 0, none⟩) none 2 2 2 2 0 0 kNL kPL ⟨#[99]⟩ _ HRN.out HRP.out k_lowN
 rw [k_none] at HR
 refine HR.mono ?_
 clear HR
 rintro e w10 ⟨vn, rfl, ho, k⟩
 have K := lH (K.out.trans k)
 have HRN := lH (HRN.out.kept k)
 have HRP := lH (HRP.out.kept k)
 have HQ := lH (HQ.out.kept k)
 have Rvu := lH (Rvu.out.kept k)
 have Rvf := lH (Rvf.out.kept k)
 have Rvt := lH (Rvt.out.kept k)
 clear k ho
 clear y0 y1 y2
 have y0 := HQ.out.at_ 0 _ rfl
 have y1 := HQ.out.at_ 1 _ rfl
 have y2 := HQ.out.at_ 2 _ rfl
 go_wp2_with fail
 refine (moveSt_any (some ⟨g1, 0, none⟩) (some ⟨g2, 0, none⟩) none 2 2 2 2 0 0 kNL kPL [] ⟨#[121]⟩ ⟨#[98]⟩ _ (by decide : (1 : Nat) ≤ maxLen) HRN.out HRP.out (buds_none _) (by decide) (by decide) (by decide) (by decide) (by decide) (by decide) k_low).mono ?_
 rintro e w11 ⟨a1, m1, c1, a2, m2, c2, a3, m3, c3, rfl, ho, k⟩
 have K := lH (K.out.trans k)
 have HRN := lH (HRN.out.kept k)
 have HRP := lH (HRP.out.kept k)
 have HQ := lH (HQ.out.kept k)
 have Rvu := lH (Rvu.out.kept k)
 have Rvf := lH (Rvf.out.kept k)
 have Rvt := lH (Rvt.out.kept k)
 have RM := lH (show CluR w11 (.agg #[.slice a1 m1 c1, .slice a2 m2 c2, .slice a3 m3 c3]) kM from ho.toR)
 clear k ho
 clear y0 y1 y2
 have y0 := HQ.out.at_ 0 _ rfl
 have y1 := HQ.out.at_ 1 _ rfl
 have y2 := HQ.out.at_ 2 _ rfl
 obtain ⟨wm, hwm⟩ : ∃ W, w11.alloc (.cells #[.slice a1 m1 c1, .slice a2 m2 c2, .slice a3 m3 c3] 26) = W := ⟨_, rfl⟩
 have hkm : Kept w11 wm := by rw [← hwm]; exact kept_alloc _ _
 have HQM := lH (show CellsN w11.heap.size [.slice a1 m1 c1, .slice a2 m2 c2, .slice a3 m3 c3] wm from freshN w11 (.slice a1 m1 c1) [.slice a2 m2 c2, .slice a3 m3 c3] 26 wm (by rw [hwm]; exact Kept.refl _))
 have K := lH (K.out.trans hkm)
 have HRN := lH (HRN.out.kept hkm)
 have HRP := lH (HRP.out.kept hkm)
 have HQ := lH (HQ.out.kept hkm)
 have Rvu := lH (Rvu.out.kept hkm)
 have Rvf := lH (Rvf.out.kept hkm)
 have Rvt := lH (Rvt.out.kept hkm)
 have RM := lH (RM.out.kept hkm)
 clear hkm
 clear y0 y1 y2
 have y0 := HQ.out.at_ 0 _ rfl
 have y1 := HQ.out.at_ 1 _ rfl
 have y2 := HQ.out.at_ 2 _ rfl
 go_upto_region 7 with fail
 try rw [hwm]
 clear hwm
 obtain ⟨gm, hgm⟩ : ∃ g, w11.heap.size = g := ⟨_, rfl⟩
 rw [hgm] at HQM
 try rw [hgm]
 clear hgm
 go_cut [11] from 43 to 46 (fun s11 wx => ∃ q, s11 = .pointer (some ⟨q, 0, none⟩) ∧ Hid (∃ x1 p1 q1 x2 p2 q2 x3 p3 q3, CellsN q [.slice x1 p1 q1, .slice x2 p2 q2, .slice x3 p3 q3] wx ∧ CluR wx (.agg #[.slice x1 p1 q1, .slice x2 p2 q2, .slice x3 p3 q3]) kF ∧ Kept wm wx))
 case first =>
  have HS := lH (show ∀ W, Kept wm W → W.cell? ⟨g2 + 1, 0, none⟩ = some (.slice (some ⟨g1, 0, none⟩) 2 2) ∧ W.cell? ⟨g2 + 1, 1, none⟩ = some (.slice (some ⟨g2, 0, none⟩) 2 2) ∧ W.cell? ⟨g2 + 1, 2, none⟩ = some (.slice none 0 0) from fun W k => by
   have h := HQ.out.kept k
   exact ⟨h.at_ 0 _ rfl, h.at_ 1 _ rfl, h.at_ 2 _ rfl⟩)
  clear y0 y1 y2
  refine wp_region_held_drew (S := fun W => W.cell? ⟨g2 + 1, 0, none⟩ = some (.slice (some ⟨g1, 0, none⟩) 2 2) ∧ W.cell? ⟨g2 + 1, 1, none⟩ = some (.slice (some ⟨g2, 0, none⟩) 2 2) ∧ W.cell? ⟨g2 + 1, 2, none⟩ = some (.slice none 0 0)) (by kernel_rfl) (HS.out _ (Kept.drew _)) (fun hHeld => ?_)
  refine tkH 0 (v := ?_) (y := Or.inl ⟨by rfl, (by rintro W ⟨o0, o1, o2⟩; go_simp <;> with_reducible rfl)⟩) (h := ?_)
  try simp only [nP]
  have J0 := lH (Kept.drew wm)
  refine rdH (rs := [1, 3]) (h := coH (fun K9 hK9 => ?_) (coH (fun K9 hK9 => ?_) AllReadyH.nil))
  · go_simp
    refine (lawP_any ⟨#[122]⟩ 4 ⟨#[97]⟩ (by decide : (-9223372036854775808 : Int) ≤ 4 ∧ (4 : Int) ≤ 9223372036854775807) (by decide : (1 : Nat) ≤ maxLen) (by decide : (1 : Nat) ≤ maxLen) _).mono ?_
    rintro e x1w ⟨b9, n9, d9, rfl, hz, k⟩
    have J0 := lH (J0.out.trans k)
    have HZ := lH hz
    clear k hz
    refine hK9.out _ _ (HS.out _ J0.out) (fun hHeld31 => ?_)
    clear hK9 K9
    try simp only [nP]
    refine rdH (rs := [2, 3]) (h := coH (fun K9 hK9 => ?_) (coH (fun K9 hK9 => ?_) AllReadyH.nil))
    · go_simp
      have HPU := putSt_any (some ⟨g1, 0, none⟩) (some ⟨g2, 0, none⟩) none 2 2 2 2 0 0 kNL kPL [] (podK ⟨#[122]⟩ 4 ⟨#[97]⟩) b9 none none none n9 d9 0 0 0 0 0 0 x1w (HRN.out.kept J0.out) (HRP.out.kept J0.out) (buds_none _) (by decide) (by decide) (by decide) (by decide) (by decide) (by decide) k_low HZ.out (k_lowK _ _ _)
      refine HPU.mono ?_
      clear HPU
      rintro e x2w ⟨x1, p1, q1, x2, p2, q2, x3, p3, q3, rfl, ho, k⟩
      have J0 := lH (J0.out.trans k)
      have OWF := lH ho
      clear k ho HZ
      refine hK9.out _ _ (HS.out _ J0.out) (fun hHeld31 => ?_)
      clear hK9 K9
      try simp only [nP]
      refine rdH (rs := [3]) (h := coH (fun K9 hK9 => ?_) AllReadyH.nil)
      go_simp
      have HKA := lH (kept_alloc x2w (.cells #[.slice none 0 0, .slice none 0 0, .slice none 0 0] 26))
      have HQA := lH (freshN x2w (.slice none 0 0) [.slice none 0 0, .slice none 0 0] 26 _ (Kept.refl _))
      have HQB := lH (show wm.heap.size ≤ x2w.heap.size from J0.out.size)
      have J0 := lH (J0.out.trans HKA.out)
      have OWF := lH ((OWF.out.more (q := x2w.heap.size) HKA.out (Nat.le_refl _)).less (Nat.le_refl _) (S' := fun b => b = x2w.heap.size) fun b e => .inr e)
      refine hK9.out _ _ (HS.out _ J0.out) (fun hHeldA => ?_)
      clear hK9 K9
      try simp only [nP]
      obtain ⟨wa, hwa⟩ : ∃ W, x2w.alloc (.cells #[.slice none 0 0, .slice none 0 0, .slice none 0 0] 26) = W := ⟨_, rfl⟩
      rw [hwa] at J0 HQA OWF ⊢
      obtain ⟨qa, hqa⟩ : ∃ q, x2w.heap.size = q := ⟨_, rfl⟩
      rw [hqa] at HQB
      rw [hqa] at HQA OWF ⊢
      clear hwa hqa
      have z0 := HQA.out.at_ 0 _ rfl
      have z1 := HQA.out.at_ 1 _ rfl
      have z2 := HQA.out.at_ 2 _ rfl
      have f0 := HQA.out.free 0
      have f1 := HQA.out.free 1
      have f2 := HQA.out.free 2
      have PP := lH (putN (vs := [.slice x1 p1 q1, .slice x2 p2 q2, .slice x3 p3 q3]) HQA.out rfl)
      refine rdH (rs := [4]) (h := coH (fun K9 hK9 => ?_) AllReadyH.nil)
      go_simp
      obtain ⟨WE, hWE⟩ : ∃ W, wa.setCells qa 0 [.slice x1 p1 q1, .slice x2 p2 q2, .slice x3 p3 q3] = W := ⟨_, rfl⟩
      have hWE2 : (((wa.setCell ⟨qa, 0, none⟩ (.slice x1 p1 q1)).setCell ⟨qa, 1, none⟩ (.slice x2 p2 q2)).setCell ⟨qa, 2, none⟩ (.slice x3 p3 q3)) = WE := hWE
      rw [hWE] at PP
      try rw [hWE2]
      have RE := lH (show CluR WE (.agg #[.slice x1 p1 q1, .slice x2 p2 q2, .slice x3 p3 q3]) kF from (OWF.out.step (show GOff (fun b => b = qa) wa WE by rw [← hWE]; exact GOff.cells (S := fun b => b = qa) qa rfl _ _ _)).toR)
      have JE := lH (show Kept wm WE by rw [← hWE]; exact setCells_below qa _ _ _ _ _ HQB.out J0.out)
      clear hWE hWE2 z0 f0 z1 f1 z2 f2
      refine hK9.out _ _ (HS.out _ JE.out) (fun hHeldS => ?_)
      clear hK9 K9
      try simp only [nP]
      refine wpAnyH_done (by kernel_rfl) ?_ _
      go_wp2
      go_meet
      case rel => exact ⟨qa, rfl, x1, p1, q1, x2, p2, q2, x3, p3, q3, PP.out.cells, RE.out, JE.out⟩
    · go_simp
      have HZ := lH (HZ.out.kept (kept_alloc x1w (.cells #[.slice none 0 0, .slice none 0 0, .slice none 0 0] 26)))
      have HKA := lH (kept_alloc x1w (.cells #[.slice none 0 0, .slice none 0 0, .slice none 0 0] 26))
      have HQA := lH (freshN x1w (.slice none 0 0) [.slice none 0 0, .slice none 0 0] 26 _ (Kept.refl _))
      have HQB := lH (show wm.heap.size ≤ x1w.heap.size from J0.out.size)
      have J0 := lH (J0.out.trans HKA.out)
      refine hK9.out _ _ (HS.out _ J0.out) (fun hHeldA => ?_)
      clear hK9 K9
      try simp only [nP]
      obtain ⟨wa, hwa⟩ : ∃ W, x1w.alloc (.cells #[.slice none 0 0, .slice none 0 0, .slice none 0 0] 26) = W := ⟨_, rfl⟩
      rw [hwa] at J0 HQA ⊢
      obtain ⟨qa, hqa⟩ : ∃ q, x1w.heap.size = q := ⟨_, rfl⟩
      rw [hqa] at HQB
      rw [hqa] at HQA ⊢
      rw [hwa] at HZ
      clear hwa hqa
      refine rdH (rs := [2]) (h := coH (fun K9 hK9 => ?_) AllReadyH.nil)
      go_simp
      have HLT := HQA.out.lt
      have HPU := putSt_any (some ⟨g1, 0, none⟩) (some ⟨g2, 0, none⟩) none 2 2 2 2 0 0 kNL kPL [] (podK ⟨#[122]⟩ 4 ⟨#[97]⟩) b9 none none none n9 d9 0 0 0 0 0 0 wa (HRN.out.kept J0.out) (HRP.out.kept J0.out) (buds_none _) (by decide) (by decide) (by decide) (by decide) (by decide) (by decide) k_low HZ.out (k_lowK _ _ _)
      refine HPU.mono ?_
      clear HPU
      rintro e x2w ⟨x1, p1, q1, x2, p2, q2, x3, p3, q3, rfl, ho, k⟩
      have J0 := lH (J0.out.trans k)
      have OWF := lH (ho.less (Nat.le_refl _) (S' := fun b => b = qa) fun b e => by subst e; exact HLT)
      have HQA := lH (HQA.out.kept k)
      clear HLT
      clear k ho HZ
      refine hK9.out _ _ (HS.out _ J0.out) (fun hHeld31 => ?_)
      clear hK9 K9
      try simp only [nP]
      have z0 := HQA.out.at_ 0 _ rfl
      have z1 := HQA.out.at_ 1 _ rfl
      have z2 := HQA.out.at_ 2 _ rfl
      have f0 := HQA.out.free 0
      have f1 := HQA.out.free 1
      have f2 := HQA.out.free 2
      have PP := lH (putN (vs := [.slice x1 p1 q1, .slice x2 p2 q2, .slice x3 p3 q3]) HQA.out rfl)
      refine rdH (rs := [4]) (h := coH (fun K9 hK9 => ?_) AllReadyH.nil)
      go_simp
      obtain ⟨WE, hWE⟩ : ∃ W, x2w.setCells qa 0 [.slice x1 p1 q1, .slice x2 p2 q2, .slice x3 p3 q3] = W := ⟨_, rfl⟩
      have hWE2 : (((x2w.setCell ⟨qa, 0, none⟩ (.slice x1 p1 q1)).setCell ⟨qa, 1, none⟩ (.slice x2 p2 q2)).setCell ⟨qa, 2, none⟩ (.slice x3 p3 q3)) = WE := hWE
      rw [hWE] at PP
      try rw [hWE2]
      have RE := lH (show CluR WE (.agg #[.slice x1 p1 q1, .slice x2 p2 q2, .slice x3 p3 q3]) kF from (OWF.out.step (show GOff (fun b => b = qa) x2w WE by rw [← hWE]; exact GOff.cells (S := fun b => b = qa) qa rfl _ _ _)).toR)
      have JE := lH (show Kept wm WE by rw [← hWE]; exact setCells_below qa _ _ _ _ _ HQB.out J0.out)
      clear hWE hWE2 z0 f0 z1 f1 z2 f2
      refine hK9.out _ _ (HS.out _ JE.out) (fun hHeldS => ?_)
      clear hK9 K9
      try simp only [nP]
      refine wpAnyH_done (by kernel_rfl) ?_ _
      go_wp2
      go_meet
      case rel => exact ⟨qa, rfl, x1, p1, q1, x2, p2, q2, x3, p3, q3, PP.out.cells, RE.out, JE.out⟩
  · go_simp
    have HQA := lH (freshN wm (.slice none 0 0) [.slice none 0 0, .slice none 0 0] 26 _ (Kept.drew (wm.alloc (.cells #[.slice none 0 0, .slice none 0 0, .slice none 0 0] 26))))
    have J0 := lH ((kept_alloc wm (.cells #[.slice none 0 0, .slice none 0 0, .slice none 0 0] 26)).trans (Kept.drew _))
    refine hK9.out _ _ (HS.out _ J0.out) (fun hHeldA => ?_)
    clear hK9 K9
    try simp only [nP]
    obtain ⟨wa, hwa⟩ : ∃ W, (wm.alloc (.cells #[.slice none 0 0, .slice none 0 0, .slice none 0 0] 26)).drew = W := ⟨_, rfl⟩
    rw [hwa] at J0 HQA ⊢
    obtain ⟨qa, hqa⟩ : ∃ q, wm.heap.size = q := ⟨_, rfl⟩
    have HQB := lH (Nat.le_of_eq hqa)
    rw [hqa] at HQA ⊢
    clear hwa hqa
    refine rdH (rs := [1]) (h := coH (fun K9 hK9 => ?_) AllReadyH.nil)
    go_simp
    refine (lawP_any ⟨#[122]⟩ 4 ⟨#[97]⟩ (by decide : (-9223372036854775808 : Int) ≤ 4 ∧ (4 : Int) ≤ 9223372036854775807) (by decide : (1 : Nat) ≤ maxLen) (by decide : (1 : Nat) ≤ maxLen) _).mono ?_
    rintro e x1w ⟨b9, n9, d9, rfl, hz, k⟩
    have J0 := lH (J0.out.trans k)
    have HZ := lH hz
    have HQA := lH (HQA.out.kept k)
    clear k hz
    refine hK9.out _ _ (HS.out _ J0.out) (fun hHeld31 => ?_)
    clear hK9 K9
    try simp only [nP]
    refine rdH (rs := [2]) (h := coH (fun K9 hK9 => ?_) AllReadyH.nil)
    go_simp
    have HLT := HQA.out.lt
    have HPU := putSt_any (some ⟨g1, 0, none⟩) (some ⟨g2, 0, none⟩) none 2 2 2 2 0 0 kNL kPL [] (podK ⟨#[122]⟩ 4 ⟨#[97]⟩) b9 none none none n9 d9 0 0 0 0 0 0 x1w (HRN.out.kept J0.out) (HRP.out.kept J0.out) (buds_none _) (by decide) (by decide) (by decide) (by decide) (by decide) (by decide) k_low HZ.out (k_lowK _ _ _)
    refine HPU.mono ?_
    clear HPU
    rintro e x2w ⟨x1, p1, q1, x2, p2, q2, x3, p3, q3, rfl, ho, k⟩
    have J0 := lH (J0.out.trans k)
    have OWF := lH (ho.less (Nat.le_refl _) (S' := fun b => b = qa) fun b e => by subst e; exact HLT)
    have HQA := lH (HQA.out.kept k)
    clear HLT
    clear k ho HZ
    refine hK9.out _ _ (HS.out _ J0.out) (fun hHeld31 => ?_)
    clear hK9 K9
    try simp only [nP]
    have z0 := HQA.out.at_ 0 _ rfl
    have z1 := HQA.out.at_ 1 _ rfl
    have z2 := HQA.out.at_ 2 _ rfl
    have f0 := HQA.out.free 0
    have f1 := HQA.out.free 1
    have f2 := HQA.out.free 2
    have PP := lH (putN (vs := [.slice x1 p1 q1, .slice x2 p2 q2, .slice x3 p3 q3]) HQA.out rfl)
    refine rdH (rs := [4]) (h := coH (fun K9 hK9 => ?_) AllReadyH.nil)
    go_simp
    obtain ⟨WE, hWE⟩ : ∃ W, x2w.setCells qa 0 [.slice x1 p1 q1, .slice x2 p2 q2, .slice x3 p3 q3] = W := ⟨_, rfl⟩
    have hWE2 : (((x2w.setCell ⟨qa, 0, none⟩ (.slice x1 p1 q1)).setCell ⟨qa, 1, none⟩ (.slice x2 p2 q2)).setCell ⟨qa, 2, none⟩ (.slice x3 p3 q3)) = WE := hWE
    rw [hWE] at PP
    try rw [hWE2]
    have RE := lH (show CluR WE (.agg #[.slice x1 p1 q1, .slice x2 p2 q2, .slice x3 p3 q3]) kF from (OWF.out.step (show GOff (fun b => b = qa) x2w WE by rw [← hWE]; exact GOff.cells (S := fun b => b = qa) qa rfl _ _ _)).toR)
    have JE := lH (show Kept wm WE by rw [← hWE]; exact setCells_below qa _ _ _ _ _ HQB.out J0.out)
    clear hWE hWE2 z0 f0 z1 f1 z2 f2
    refine hK9.out _ _ (HS.out _ JE.out) (fun hHeldS => ?_)
    clear hK9 K9
    try simp only [nP]
    refine wpAnyH_done (by kernel_rfl) ?_ _
    go_wp2
    go_meet
    case rel => exact ⟨qa, rfl, x1, p1, q1, x2, p2, q2, x3, p3, q3, PP.out.cells, RE.out, JE.out⟩
 case rest =>
  obtain ⟨gf, rfl, hc⟩ := hcut
  obtain ⟨x1, p1, q1, x2, p2, q2, x3, p3, q3, hqf, hrf, hkc⟩ := hc.out
  clear hc
  have K := lH (K.out.trans hkc)
  have HRN := lH (HRN.out.kept hkc)
  have HRP := lH (HRP.out.kept hkc)
  have HQ := lH (HQ.out.kept hkc)
  have Rvu := lH (Rvu.out.kept hkc)
  have Rvf := lH (Rvf.out.kept hkc)
  have Rvt := lH (Rvt.out.kept hkc)
  have HQM := lH (HQM.out.kept hkc)
  have RM := lH (RM.out.kept hkc)
  have HQF := lH hqf
  have RF := lH hrf
  clear hqf hrf hkc
  obtain ⟨v1, v2, v3, hu, hat⟩ := RM.out
  cases hu
  obtain ⟨am, cm, em, l1, l2, hpm⟩ := hat.pods
  injection em with e1 e2 e3
  subst e1 e2 e3
  have HPM := lH hpm
  clear hat l1 l2 hpm
  obtain ⟨v1, v2, v3, hu, hat⟩ := RF.out
  cases hu
  obtain ⟨af, cf, ef, -⟩ := hat.pods
  injection ef with e1 e2 e3
  rw [k_len] at e2
  subst e2
  clear hat e1 e3
  have ym0 := HQM.out.at_ 0 _ rfl
  have ym1 := HQM.out.at_ 1 _ rfl
  have ym2 := HQM.out.at_ 2 _ rfl
  go_wp2_with fail
  refine (onSt_any _ _ _ _ _ _ _ _ _ kM.pods ⟨#[97]⟩ _ HPM.out k_lowM (by rw [show kM.pods.length = 2 from by kernel_rfl]; decide)).mono ?_
  rintro e w20 ⟨vo, rfl, hpo, k⟩
  rw [k_on] at hpo
  obtain ⟨ao, co, rfl, l1, l2, hpo⟩ := hpo
  have K := lH (K.out.trans k)
  have HRN := lH (HRN.out.kept k)
  have HRP := lH (HRP.out.kept k)
  have HQ := lH (HQ.out.kept k)
  have Rvu := lH (Rvu.out.kept k)
  have Rvf := lH (Rvf.out.kept k)
  have Rvt := lH (Rvt.out.kept k)
  have HQM := lH (HQM.out.kept k)
  have RM := lH (RM.out.kept k)
  have HQF := lH (HQF.out.kept k)
  have RF := lH (RF.out.kept k)
  have HPO := lH hpo
  clear k hpo HPM ym0 ym1 ym2
  try clear y0 y1 y2
  have y0 := HQ.out.at_ 0 _ rfl
  have y1 := HQ.out.at_ 1 _ rfl
  have y2 := HQ.out.at_ 2 _ rfl
  go_wp2_with fail
  refine (dropSt_any (some ⟨g1, 0, none⟩) (some ⟨g2, 0, none⟩) none 2 2 2 2 0 0 kNL kPL [] ⟨#[120]⟩ _ HRN.out HRP.out (buds_none _) (by decide) (by decide) (by decide) (by decide) (by decide) (by decide) k_low).mono ?_
  rintro e w21 ⟨d1, h1, t1, d2, h2, t2, d3, h3, t3, rfl, ho, k⟩
  have K := lH (K.out.trans k)
  have HRN := lH (HRN.out.kept k)
  have HRP := lH (HRP.out.kept k)
  have HQ := lH (HQ.out.kept k)
  have Rvu := lH (Rvu.out.kept k)
  have Rvf := lH (Rvf.out.kept k)
  have Rvt := lH (Rvt.out.kept k)
  have HQM := lH (HQM.out.kept k)
  have RM := lH (RM.out.kept k)
  have HQF := lH (HQF.out.kept k)
  have RF := lH (RF.out.kept k)
  have HPO := lH (HPO.out.kept k)
  have RD := lH (show CluR w21 (.agg #[.slice d1 h1 t1, .slice d2 h2 t2, .slice d3 h3 t3]) kD from ho.toR)
  obtain ⟨v1, v2, v3, hu, hat⟩ := RD.out
  cases hu
  obtain ⟨af, cf, ef, -⟩ := hat.pods
  injection ef with e1 e2 e3
  rw [k_drop] at e2
  subst e2
  clear hat e1 e3 k ho
  obtain ⟨w22, hw22⟩ : ∃ W, w21.alloc (.cells #[.slice d1 h1 t1, .slice d2 1 t2, .slice d3 h3 t3] 26) = W := ⟨_, rfl⟩
  have hk22 : Kept w21 w22 := by rw [← hw22]; exact kept_alloc _ _
  have HQD := lH (show CellsN w21.heap.size [.slice d1 h1 t1, .slice d2 1 t2, .slice d3 h3 t3] w22 from freshN w21 (.slice d1 h1 t1) [.slice d2 1 t2, .slice d3 h3 t3] 26 w22 (by rw [hw22]; exact Kept.refl _))
  have K := lH (K.out.trans hk22)
  have HRN := lH (HRN.out.kept hk22)
  have HRP := lH (HRP.out.kept hk22)
  have HQ := lH (HQ.out.kept hk22)
  have Rvu := lH (Rvu.out.kept hk22)
  have Rvf := lH (Rvf.out.kept hk22)
  have Rvt := lH (Rvt.out.kept hk22)
  have HQM := lH (HQM.out.kept hk22)
  have RM := lH (RM.out.kept hk22)
  have HQF := lH (HQF.out.kept hk22)
  have RF := lH (RF.out.kept hk22)
  have HPO := lH (HPO.out.kept hk22)
  clear hk22 RD
  obtain ⟨bo, oo, rfl⟩ := HPO.out.form.resolve_left (by decide)
  clear y0 y1 y2
  have y0 := HQ.out.at_ 0 _ rfl
  have y1 := HQ.out.at_ 1 _ rfl
  have y2 := HQ.out.at_ 2 _ rfl
  have ym0 := HQM.out.at_ 0 _ rfl
  have ym1 := HQM.out.at_ 1 _ rfl
  have ym2 := HQM.out.at_ 2 _ rfl
  have yf0 := HQF.out.at_ 0 _ rfl
  have yf1 := HQF.out.at_ 1 _ rfl
  have yf2 := HQF.out.at_ 2 _ rfl
  have yd0 := HQD.out.at_ 0 _ rfl
  have yd1 := HQD.out.at_ 1 _ rfl
  have yd2 := HQD.out.at_ 2 _ rfl
  obtain ⟨no, ra1, rm1, rc1, ra2, rm2, rc2, ra3, rm3, rc3, ra4, rm4, rc4, hno, -, -, yo, -⟩ := HPO.out.at_ (k := 0) (by decide)
  obtain rfl : podK ⟨#[120]⟩ 3 ⟨#[97]⟩ = no := Option.some.inj hno
  obtain ⟨no, ra1, rm1, rc1, ra2, rm2, rc2, ra3, rm3, rc3, ra4, rm4, rc4, hno2, -, -, -, -, -, -, -, -, -, -, -, ys, -⟩ := HRP.out.at_ (k := 1) (by decide)
  obtain rfl : podK ⟨#[121]⟩ 4 ⟨#[97]⟩ = no := Option.some.inj hno2
  rw [Nat.zero_mul, Nat.add_zero] at yo
  rw [Nat.zero_add] at ys
  dsimp only [podK] at yo ys
  clear hno hno2
  go_wp2_with fail
  try rw [hw22]
  try (go_wp2_with fail)
  try rw [hw22]
  clear hw22
  refine (Vec.getR Rvu.out (n := ⟨#[99, 112, 117]⟩) (c := 7) (by kernel_rfl)).mono ?_
  rintro e w23 ⟨rfl, k⟩
  have K := lH (K.out.trans k)
  have HRN := lH (HRN.out.kept k)
  have HRP := lH (HRP.out.kept k)
  have HQ := lH (HQ.out.kept k)
  have Rvu := lH (Rvu.out.kept k)
  have Rvf := lH (Rvf.out.kept k)
  have Rvt := lH (Rvt.out.kept k)
  have HQM := lH (HQM.out.kept k)
  have RM := lH (RM.out.kept k)
  have HQF := lH (HQF.out.kept k)
  have RF := lH (RF.out.kept k)
  have HPO := lH (HPO.out.kept k)
  have HQD := lH (HQD.out.kept k)
  clear k
  clear y0 y1 y2 ym0 ym1 ym2 yf0 yf1 yf2 yd0 yd1 yd2 yo ys
  have y0 := HQ.out.at_ 0 _ rfl
  have y1 := HQ.out.at_ 1 _ rfl
  have y2 := HQ.out.at_ 2 _ rfl
  have ym0 := HQM.out.at_ 0 _ rfl
  have ym1 := HQM.out.at_ 1 _ rfl
  have ym2 := HQM.out.at_ 2 _ rfl
  have yf0 := HQF.out.at_ 0 _ rfl
  have yf1 := HQF.out.at_ 1 _ rfl
  have yf2 := HQF.out.at_ 2 _ rfl
  have yd0 := HQD.out.at_ 0 _ rfl
  have yd1 := HQD.out.at_ 1 _ rfl
  have yd2 := HQD.out.at_ 2 _ rfl
  obtain ⟨no, ra1, rm1, rc1, ra2, rm2, rc2, ra3, rm3, rc3, ra4, rm4, rc4, hno, -, -, yo, -⟩ := HPO.out.at_ (k := 0) (by decide)
  obtain rfl : podK ⟨#[120]⟩ 3 ⟨#[97]⟩ = no := Option.some.inj hno
  obtain ⟨no, ra1, rm1, rc1, ra2, rm2, rc2, ra3, rm3, rc3, ra4, rm4, rc4, hno2, -, -, -, -, -, -, -, -, -, -, -, ys, -⟩ := HRP.out.at_ (k := 1) (by decide)
  obtain rfl : podK ⟨#[121]⟩ 4 ⟨#[97]⟩ = no := Option.some.inj hno2
  rw [Nat.zero_mul, Nat.add_zero] at yo
  rw [Nat.zero_add] at ys
  dsimp only [podK] at yo ys
  clear hno hno2
  go_wp2_with fail
  refine (Vec.getR Rvf.out (n := ⟨#[99, 112, 117]⟩) (c := 3) (by kernel_rfl)).mono ?_
  rintro e w24 ⟨rfl, k⟩
  have K := lH (K.out.trans k)
  have HRN := lH (HRN.out.kept k)
  have HRP := lH (HRP.out.kept k)
  have HQ := lH (HQ.out.kept k)
  have Rvu := lH (Rvu.out.kept k)
  have Rvf := lH (Rvf.out.kept k)
  have Rvt := lH (Rvt.out.kept k)
  have HQM := lH (HQM.out.kept k)
  have RM := lH (RM.out.kept k)
  have HQF := lH (HQF.out.kept k)
  have RF := lH (RF.out.kept k)
  have HPO := lH (HPO.out.kept k)
  have HQD := lH (HQD.out.kept k)
  clear k
  clear y0 y1 y2 ym0 ym1 ym2 yf0 yf1 yf2 yd0 yd1 yd2 yo ys
  have y0 := HQ.out.at_ 0 _ rfl
  have y1 := HQ.out.at_ 1 _ rfl
  have y2 := HQ.out.at_ 2 _ rfl
  have ym0 := HQM.out.at_ 0 _ rfl
  have ym1 := HQM.out.at_ 1 _ rfl
  have ym2 := HQM.out.at_ 2 _ rfl
  have yf0 := HQF.out.at_ 0 _ rfl
  have yf1 := HQF.out.at_ 1 _ rfl
  have yf2 := HQF.out.at_ 2 _ rfl
  have yd0 := HQD.out.at_ 0 _ rfl
  have yd1 := HQD.out.at_ 1 _ rfl
  have yd2 := HQD.out.at_ 2 _ rfl
  obtain ⟨no, ra1, rm1, rc1, ra2, rm2, rc2, ra3, rm3, rc3, ra4, rm4, rc4, hno, -, -, yo, -⟩ := HPO.out.at_ (k := 0) (by decide)
  obtain rfl : podK ⟨#[120]⟩ 3 ⟨#[97]⟩ = no := Option.some.inj hno
  obtain ⟨no, ra1, rm1, rc1, ra2, rm2, rc2, ra3, rm3, rc3, ra4, rm4, rc4, hno2, -, -, -, -, -, -, -, -, -, -, -, ys, -⟩ := HRP.out.at_ (k := 1) (by decide)
  obtain rfl : podK ⟨#[121]⟩ 4 ⟨#[97]⟩ = no := Option.some.inj hno2
  rw [Nat.zero_mul, Nat.add_zero] at yo
  rw [Nat.zero_add] at ys
  dsimp only [podK] at yo ys
  clear hno hno2
  go_wp2_with fail
  refine (Vec.getR Rvt.out (n := ⟨#[99, 112, 117]⟩) (c := 15) (by kernel_rfl)).mono ?_
  rintro e w25 ⟨rfl, k⟩
  have K := lH (K.out.trans k)
  have HRN := lH (HRN.out.kept k)
  have HRP := lH (HRP.out.kept k)
  have HQ := lH (HQ.out.kept k)
  have Rvu := lH (Rvu.out.kept k)
  have Rvf := lH (Rvf.out.kept k)
  have Rvt := lH (Rvt.out.kept k)
  have HQM := lH (HQM.out.kept k)
  have RM := lH (RM.out.kept k)
  have HQF := lH (HQF.out.kept k)
  have RF := lH (RF.out.kept k)
  have HPO := lH (HPO.out.kept k)
  have HQD := lH (HQD.out.kept k)
  clear k
  clear y0 y1 y2 ym0 ym1 ym2 yf0 yf1 yf2 yd0 yd1 yd2 yo ys
  have y0 := HQ.out.at_ 0 _ rfl
  have y1 := HQ.out.at_ 1 _ rfl
  have y2 := HQ.out.at_ 2 _ rfl
  have ym0 := HQM.out.at_ 0 _ rfl
  have ym1 := HQM.out.at_ 1 _ rfl
  have ym2 := HQM.out.at_ 2 _ rfl
  have yf0 := HQF.out.at_ 0 _ rfl
  have yf1 := HQF.out.at_ 1 _ rfl
  have yf2 := HQF.out.at_ 2 _ rfl
  have yd0 := HQD.out.at_ 0 _ rfl
  have yd1 := HQD.out.at_ 1 _ rfl
  have yd2 := HQD.out.at_ 2 _ rfl
  obtain ⟨no, ra1, rm1, rc1, ra2, rm2, rc2, ra3, rm3, rc3, ra4, rm4, rc4, hno, -, -, yo, -⟩ := HPO.out.at_ (k := 0) (by decide)
  obtain rfl : podK ⟨#[120]⟩ 3 ⟨#[97]⟩ = no := Option.some.inj hno
  obtain ⟨no, ra1, rm1, rc1, ra2, rm2, rc2, ra3, rm3, rc3, ra4, rm4, rc4, hno2, -, -, -, -, -, -, -, -, -, -, -, ys, -⟩ := HRP.out.at_ (k := 1) (by decide)
  obtain rfl : podK ⟨#[121]⟩ 4 ⟨#[97]⟩ = no := Option.some.inj hno2
  rw [Nat.zero_mul, Nat.add_zero] at yo
  rw [Nat.zero_add] at ys
  dsimp only [podK] at yo ys
  clear hno hno2
  go_wp2_with fail
  refine (checkStR (show CluR _ (.agg #[.slice (some ⟨g1, 0, none⟩) 2 2, .slice (some ⟨g2, 0, none⟩) 2 2, .slice none 0 0]) kS from ⟨_, _, _, rfl, ⟨⟨_, _, rfl, by decide, by decide, HRN.out⟩, ⟨_, _, rfl, by decide, by decide, HRP.out⟩, ⟨_, _, rfl, by decide, by decide, buds_none _⟩⟩⟩) k_lowN k_chk).mono ?_
  rintro e w26 ⟨rfl, k⟩
  have K := lH (K.out.trans k)
  have HRN := lH (HRN.out.kept k)
  have HRP := lH (HRP.out.kept k)
  have HQ := lH (HQ.out.kept k)
  have Rvu := lH (Rvu.out.kept k)
  have Rvf := lH (Rvf.out.kept k)
  have Rvt := lH (Rvt.out.kept k)
  have HQM := lH (HQM.out.kept k)
  have RM := lH (RM.out.kept k)
  have HQF := lH (HQF.out.kept k)
  have RF := lH (RF.out.kept k)
  have HPO := lH (HPO.out.kept k)
  have HQD := lH (HQD.out.kept k)
  clear k
  clear y0 y1 y2 ym0 ym1 ym2 yf0 yf1 yf2 yd0 yd1 yd2 yo ys
  have y0 := HQ.out.at_ 0 _ rfl
  have y1 := HQ.out.at_ 1 _ rfl
  have y2 := HQ.out.at_ 2 _ rfl
  have ym0 := HQM.out.at_ 0 _ rfl
  have ym1 := HQM.out.at_ 1 _ rfl
  have ym2 := HQM.out.at_ 2 _ rfl
  have yf0 := HQF.out.at_ 0 _ rfl
  have yf1 := HQF.out.at_ 1 _ rfl
  have yf2 := HQF.out.at_ 2 _ rfl
  have yd0 := HQD.out.at_ 0 _ rfl
  have yd1 := HQD.out.at_ 1 _ rfl
  have yd2 := HQD.out.at_ 2 _ rfl
  obtain ⟨no, ra1, rm1, rc1, ra2, rm2, rc2, ra3, rm3, rc3, ra4, rm4, rc4, hno, -, -, yo, -⟩ := HPO.out.at_ (k := 0) (by decide)
  obtain rfl : podK ⟨#[120]⟩ 3 ⟨#[97]⟩ = no := Option.some.inj hno
  obtain ⟨no, ra1, rm1, rc1, ra2, rm2, rc2, ra3, rm3, rc3, ra4, rm4, rc4, hno2, -, -, -, -, -, -, -, -, -, -, -, ys, -⟩ := HRP.out.at_ (k := 1) (by decide)
  obtain rfl : podK ⟨#[121]⟩ 4 ⟨#[97]⟩ = no := Option.some.inj hno2
  rw [Nat.zero_mul, Nat.add_zero] at yo
  rw [Nat.zero_add] at ys
  dsimp only [podK] at yo ys
  clear hno hno2
  go_wp2_with fail
  refine (checkStR RF.out k_lowN k_full).mono ?_
  rintro e w27 ⟨rfl, k⟩
  have K := lH (K.out.trans k)
  have HRN := lH (HRN.out.kept k)
  have HRP := lH (HRP.out.kept k)
  have HQ := lH (HQ.out.kept k)
  have Rvu := lH (Rvu.out.kept k)
  have Rvf := lH (Rvf.out.kept k)
  have Rvt := lH (Rvt.out.kept k)
  have HQM := lH (HQM.out.kept k)
  have RM := lH (RM.out.kept k)
  have HQF := lH (HQF.out.kept k)
  have RF := lH (RF.out.kept k)
  have HPO := lH (HPO.out.kept k)
  have HQD := lH (HQD.out.kept k)
  clear k
  clear y0 y1 y2 ym0 ym1 ym2 yf0 yf1 yf2 yd0 yd1 yd2 yo ys
  have y0 := HQ.out.at_ 0 _ rfl
  have y1 := HQ.out.at_ 1 _ rfl
  have y2 := HQ.out.at_ 2 _ rfl
  have ym0 := HQM.out.at_ 0 _ rfl
  have ym1 := HQM.out.at_ 1 _ rfl
  have ym2 := HQM.out.at_ 2 _ rfl
  have yf0 := HQF.out.at_ 0 _ rfl
  have yf1 := HQF.out.at_ 1 _ rfl
  have yf2 := HQF.out.at_ 2 _ rfl
  have yd0 := HQD.out.at_ 0 _ rfl
  have yd1 := HQD.out.at_ 1 _ rfl
  have yd2 := HQD.out.at_ 2 _ rfl
  obtain ⟨no, ra1, rm1, rc1, ra2, rm2, rc2, ra3, rm3, rc3, ra4, rm4, rc4, hno, -, -, yo, -⟩ := HPO.out.at_ (k := 0) (by decide)
  obtain rfl : podK ⟨#[120]⟩ 3 ⟨#[97]⟩ = no := Option.some.inj hno
  obtain ⟨no, ra1, rm1, rc1, ra2, rm2, rc2, ra3, rm3, rc3, ra4, rm4, rc4, hno2, -, -, -, -, -, -, -, -, -, -, -, ys, -⟩ := HRP.out.at_ (k := 1) (by decide)
  obtain rfl : podK ⟨#[121]⟩ 4 ⟨#[97]⟩ = no := Option.some.inj hno2
  rw [Nat.zero_mul, Nat.add_zero] at yo
  rw [Nat.zero_add] at ys
  dsimp only [podK] at yo ys
  clear hno hno2
  go_wp2_with fail
  refine (sameStR (show CluR _ (.agg #[.slice (some ⟨g1, 0, none⟩) 2 2, .slice (some ⟨g2, 0, none⟩) 2 2, .slice none 0 0]) kS from ⟨_, _, _, rfl, ⟨⟨_, _, rfl, by decide, by decide, HRN.out⟩, ⟨_, _, rfl, by decide, by decide, HRP.out⟩, ⟨_, _, rfl, by decide, by decide, buds_none _⟩⟩⟩) (show CluR _ (.agg #[.slice (some ⟨g1, 0, none⟩) 2 2, .slice (some ⟨g2, 0, none⟩) 2 2, .slice none 0 0]) kS from ⟨_, _, _, rfl, ⟨⟨_, _, rfl, by decide, by decide, HRN.out⟩, ⟨_, _, rfl, by decide, by decide, HRP.out⟩, ⟨_, _, rfl, by decide, by decide, buds_none _⟩⟩⟩) (sameSt_self kS)).mono ?_
  rintro e w28 ⟨rfl, k⟩
  have K := lH (K.out.trans k)
  have HRN := lH (HRN.out.kept k)
  have HRP := lH (HRP.out.kept k)
  have HQ := lH (HQ.out.kept k)
  have Rvu := lH (Rvu.out.kept k)
  have Rvf := lH (Rvf.out.kept k)
  have Rvt := lH (Rvt.out.kept k)
  have HQM := lH (HQM.out.kept k)
  have RM := lH (RM.out.kept k)
  have HQF := lH (HQF.out.kept k)
  have RF := lH (RF.out.kept k)
  have HPO := lH (HPO.out.kept k)
  have HQD := lH (HQD.out.kept k)
  clear k
  clear y0 y1 y2 ym0 ym1 ym2 yf0 yf1 yf2 yd0 yd1 yd2 yo ys
  have y0 := HQ.out.at_ 0 _ rfl
  have y1 := HQ.out.at_ 1 _ rfl
  have y2 := HQ.out.at_ 2 _ rfl
  have ym0 := HQM.out.at_ 0 _ rfl
  have ym1 := HQM.out.at_ 1 _ rfl
  have ym2 := HQM.out.at_ 2 _ rfl
  have yf0 := HQF.out.at_ 0 _ rfl
  have yf1 := HQF.out.at_ 1 _ rfl
  have yf2 := HQF.out.at_ 2 _ rfl
  have yd0 := HQD.out.at_ 0 _ rfl
  have yd1 := HQD.out.at_ 1 _ rfl
  have yd2 := HQD.out.at_ 2 _ rfl
  obtain ⟨no, ra1, rm1, rc1, ra2, rm2, rc2, ra3, rm3, rc3, ra4, rm4, rc4, hno, -, -, yo, -⟩ := HPO.out.at_ (k := 0) (by decide)
  obtain rfl : podK ⟨#[120]⟩ 3 ⟨#[97]⟩ = no := Option.some.inj hno
  obtain ⟨no, ra1, rm1, rc1, ra2, rm2, rc2, ra3, rm3, rc3, ra4, rm4, rc4, hno2, -, -, -, -, -, -, -, -, -, -, -, ys, -⟩ := HRP.out.at_ (k := 1) (by decide)
  obtain rfl : podK ⟨#[121]⟩ 4 ⟨#[97]⟩ = no := Option.some.inj hno2
  rw [Nat.zero_mul, Nat.add_zero] at yo
  rw [Nat.zero_add] at ys
  dsimp only [podK] at yo ys
  clear hno hno2
  go_wp2_with fail
  refine (sameStR (show CluR _ (.agg #[.slice (some ⟨g1, 0, none⟩) 2 2, .slice (some ⟨g2, 0, none⟩) 2 2, .slice none 0 0]) kS from ⟨_, _, _, rfl, ⟨⟨_, _, rfl, by decide, by decide, HRN.out⟩, ⟨_, _, rfl, by decide, by decide, HRP.out⟩, ⟨_, _, rfl, by decide, by decide, buds_none _⟩⟩⟩) RM.out k_not).mono ?_
  rintro e w29 ⟨rfl, k⟩
  have K := lH (K.out.trans k)
  clear k
  go_wp2
  go_ret
  exact ⟨rfl, K.out⟩
end Go.Proofs.YtfpgekjhcfoohaaGreat
