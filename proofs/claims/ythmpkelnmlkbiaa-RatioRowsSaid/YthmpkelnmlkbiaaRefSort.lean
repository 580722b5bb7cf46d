/- The reference's Sort: under way (its region 8 draws and appends twice). -/
import Derived.Test.YthmpkelnmlkbiaaRefSortMath
import Derived.Test.YthmpkelnmlkbiaaRatioMeansW
import Derived.Test.YthmpkelnmlkbiaaRefApp
import Derived.Deep.AppendLies
import Derived.Deep.CutRange
import Derived.Deep.RegionHeld3
import Derived.Deep.Onto
import Derived.StillTailTactics
namespace Go.Proofs.Ythmpkelnmlkbiaa
open Go.RowKit Go.Sort
set_option linter.unusedVariables false

/-- A row of the call's own that reads as these floats. -/
def OwnF (w : World) (base : Nat) (v : Value) (l : List Nat) : Prop := w.ownsRow base 22 1 v l.length (l.map (Value.float .f64)) ∧ ∀ x ∈ l, x < TOP

theorem cell_g3 {w w1 : World} {b off i : Nat} {v : Value} (k : Kept w w1) (hb : b < w.heap.size) (h : w.cell? ⟨b, off + i, none⟩ = some v) : ∀ (n : Nat) (os : Array Obj), (grow (w1.drewN n) os).cell? ⟨b, off + i, none⟩ = some v := fun n os =>
  (Below.cell (k.trans (kept_grow w1 n os)) (p := ⟨b, off + i, none⟩) hb).trans h

theorem rcmp_grown (x y : Nat) (w : World) : ∀ (n : Nat) (os : Array Obj), Calls Try.prog 14 #[.float .f64 x, .float .f64 y] (grow (w.drewN n) os) fun e w'' => e = .returned (.int .i64 (cp x y)) ∧ ∃ q os', w'' = grow ((grow (w.drewN n) os).drewN q) os' := fun n os => by
  refine (rcompare_any x y _).mono ?_
  rintro e w' ⟨rfl, q, rfl⟩
  exact ⟨rfl, q, #[], by rw [grow_empty]⟩

set_option maxRecDepth 1000000 in
set_option maxHeartbeats 8000000 in
theorem rsort_try (a : Option Addr) (len cap : Nat) (l : List Nat) (w : World) (hr : FRow w a len l) (hlen : len ≤ 60) (h0 : len ≠ 0) :
    Calls Try.prog 21 #[.slice a len cap] w (SRT l w) := by
  unfold SRT
  have mixed := mixed_on
  obtain ⟨b, off, rfl, hb, hc⟩ := frow_cells hr h0
  obtain ⟨i0, hi0, hz0, hz1, hz2⟩ := info_parts info_float
  have HL : Hid (l.length = len) := hr.1
  have HX : Hid (∀ x ∈ l, x < TOP) := hr.2.2.1
  have HB := Lib.hid hb
  have HC := Lib.hid hc
  clear hr hb hc
  go_enter Try.func21, Try.ntmps21
  go_wp2
  go_loopg [3, 4] len (fun g1 v vi wr => ∃ (i : Nat) (os : List Nat), vi = .int .i64 i ∧ i ≤ len ∧ len - i ≤ g1 ∧ Hid (OwnF wr w.heap.size v os ∧ os.Perm (l.take i) ∧ Asc os ∧ os.length = i ∧ Kept w wr))
  case atStart => exact ⟨0, [], rfl, by omega, by omega, ⟨⟨World.ownsRow_nil _ _ _ _, by simp⟩, by simp, fun i j _ h => absurd h (by simp), rfl, Kept.refl _⟩⟩
  case round =>
    obtain ⟨i, os, rfl, hi, hg1, HO⟩ := hrel
    by_cases hlt : i < len
    · have hltz : (i : Int) < (len : Int) := by omega
      obtain ⟨fa, fc, eu, hfr⟩ := frow_of_own HO.out.1.1 HO.out.1.2
      rw [HO.out.2.2.2.1] at eu hfr
      subst eu
      have FO := Lib.hid hfr
      clear hfr
      obtain ⟨x, ex⟩ : ∃ x, l.getD i 0 = x := ⟨_, rfl⟩
      have EX := Lib.hid ex
      clear ex
      go_upto_region 5 with fail
      iterate 14 (first | go_values | go_skip | go_guarded | go_step | go_upon | go_back)
      go_cut [5] from 7 to 47 (fun s5 wx => ∃ k : Nat, s5 = .int .i64 k ∧ k ≤ i ∧ Hid ((k = 0 ∨ ¬ 0 < cp (os.getD (k - 1) 0) x) ∧ (k = i ∨ 0 < cp (os.getD k 0) x) ∧ Kept wr wx))
      case first =>
        go_wp2
        go_loopg [5] len (fun g2 vk wr2 => ∃ k : Nat, vk = .int .i64 k ∧ k ≤ i ∧ k ≤ g2 ∧ Hid ((k = i ∨ 0 < cp (os.getD k 0) x) ∧ Kept wr wr2))
        case atStart => exact ⟨i, rfl, by omega, by omega, .inl rfl, Kept.refl _⟩
        case round =>
          obtain ⟨k, rfl, hk, hg2, HK⟩ := hrel
          by_cases hk0 : k = 0
          · subst hk0
            go_wp2_with fail
            go_big_region_o
            go_wp2
            go_meet
            case rel => exact ⟨0, by go_num, by omega, ⟨.inl rfl, HK.out.1, HK.out.2.trans (Kept.drewN _ 1)⟩⟩
          · obtain ⟨j, rfl⟩ : ∃ j, k = j + 1 := ⟨k - 1, by omega⟩
            clear hk0
            obtain ⟨fb, foff, efa, hfb, hfc⟩ := frow_cells FO.out (by omega)
            subst efa
            have KW := Lib.hid HK.out.2
            have l1 := cell_g3 KW.out hfb (hfc j (by omega))
            have l2 := cell_g3 (HO.out.2.2.2.2.trans KW.out) HB.out (HC.out i hlt)
            rw [EX.out] at l2
            have cz := rcmp_grown (os.getD j 0) x wr
            obtain ⟨p, ep⟩ : ∃ p, cp (os.getD j 0) x = p := ⟨_, rfl⟩
            rw [ep] at cz
            have EP := Lib.hid ep
            clear ep
            obtain ⟨y, ey⟩ : ∃ y, os.getD j 0 = y := ⟨_, rfl⟩
            rw [ey] at l1 cz
            clear ey hfc
            have HJ := HK
            clear HK
            have r1 : IntKind.i64.wrap (j : Int) = (j : Int) := by rw [IntKind.wrap_i64]; omega
            have r2 : (j : Int) < (i : Int) := by omega
            have r3 : j < i := by omega
            go_wp2_with fail
            go_quiet_grown (first | (go_at_call 14; refine Calls.grown_of (cz _ _)))
            have K2 : Hid (Kept _ (grow (wr.drewN nq) osq)) := KW.out.trans (kept_grow _ _ _)
            clear l1 l2 cz KW
            generalize grow (wr.drewN nq) osq = w2 at K2 ⊢
            clear nq osq
            by_cases hp : 0 < p
            · go_wp2
              go_roundg j
              case measure => omega
              case rel => exact ⟨j, by go_num, by omega, Nat.le_refl _, .inr (EP.out ▸ hp), K2.out⟩
            · go_wp2
              go_meet
              case rel => exact ⟨j + 1, by go_num, by omega, ⟨.inr (by rw [show j + 1 - 1 = j from rfl, EP.out]; omega), HJ.out.1, K2.out⟩⟩
      case rest =>
        obtain ⟨k, rfl, hk, HK⟩ := hcut
        have KC := Lib.hid (HO.out.2.2.2.2.trans HK.out.2.2)
        have hb' : b < wr.heap.size := Nat.lt_of_lt_of_le HB.out HO.out.2.2.2.2.size
        have hcx : wc.cell? ⟨b, off + i, none⟩ = some (.float .f64 x) := by
          have := (Below.cell KC.out (p := ⟨b, off + i, none⟩) HB.out).trans (HC.out i hlt)
          rw [EX.out] at this
          exact this
        have hown := HO.out.1.1
        rw [HO.out.2.2.2.1] at hown
        rcases hown.2 with ⟨e0, ei⟩ | ⟨g, fc', cur, e0, hbg, hg, hnc, hcm, hcs, htk⟩
        · have hi0' : i = 0 := ei
          clear ei
          subst hi0'
          cases e0
          have hk0' : k = 0 := by omega
          subst hk0'
          have hos : os = [] := List.eq_nil_of_length_eq_zero HO.out.2.2.2.1
          subst hos
          have S1 : Below wc.heap.size wc wc.drew ∧ wc.drew.cell? ⟨b, off + 0, none⟩ = some (.float .f64 x) := ⟨(Below.refl _ _).drew, hcx⟩
          have fact2 : ((wc.alloc (.cells #[] 22)).alloc (.cells #[.float .f64 x] 22)).heap[wc.heap.size + 1]? = some (.cells #[.float .f64 x] 22 (0, 0)) := by
            have h := World.alloc_heap_new (wc.alloc (.cells #[] 22)) (.cells #[.float .f64 x] 22)
            rw [show (wc.alloc (.cells #[] 22)).heap.size = wc.heap.size + 1 from by simp] at h
            exact h
          have hTx : x < TOP := by rw [← EX.out]; exact HX.out _ (getD_mem (by rw [HL.out]; exact hlt))
          have HR : Hid (∀ W3 v, W3.ownsRow wc.heap.size 22 1 v 1 [.float .f64 x] → Below wc.heap.size wc W3 → OwnF W3 w.heap.size v [x] ∧ [x].Perm (l.take 1) ∧ Asc [x] ∧ [x].length = 1 ∧ Kept w W3) := Lib.hid (fun W3 v h hB => by
              refine ⟨⟨h.mono KC.out.size, by intro y hy; rw [List.mem_singleton.1 hy]; exact hTx⟩, ?_, ?_, rfl, KC.out.trans hB⟩
              · have := insAt_perm (k := 0) (i := 0) (os := []) (l := l) (by simp) (by rw [HL.out]; exact hlt)
                rw [EX.out] at this
                simpa [insAt] using this
              · exact insAt_asc (os := []) (k := 0) HO.out.2.2.1 (by simp) (.inl rfl) (.inl rfl))
          have rs : ∀ W, Below wc.heap.size wc W → Below wc.heap.size wc W ∧ W.cell? ⟨b, off + 0, none⟩ = some (.float .f64 x) := fun W hW => ⟨hW, (Below.cell hW (p := ⟨b, off + 0, none⟩) (Nat.lt_of_lt_of_le hb' HK.out.2.2.size)).trans hcx⟩
          simp only [Nat.add_zero] at rs S1
          go_wp2_with fail
          go_region_held3 (fun W => Below wc.heap.size wc W ∧ W.cell? ⟨b, off, none⟩ = some (.float .f64 x)) (first | exact S1 | assumption | exact rs _ (Below.alloc (And.left (by assumption)) (Below.size (And.left (by assumption))) _) | exact rs _ (Below.trans (And.left (by assumption)) (by assumption)))
            (first
              | (refine step_app_own _ rfl (.tmp 32) (.tmp 35) rfl wc.heap.size (Below.size (And.left (by assumption))) _ 0 0 [] rfl (by first | exact own_empty wc _ (Nat.le_refl _) | exact own_alloc (own_empty wc _ (Nat.le_refl _)) _ | exact own_empty_at (wc.alloc _) _ (Nat.le_trans (Nat.le_refl _) (by simp)) _ (by simp)) _ 0 [] rfl rfl (by intro u hu; cases hu) (.inr ⟨rfl, rfl⟩) (by omega) ?_
                 rintro g1 c1 W1 ho1 hb1 hg1
                 simp only [Nat.zero_add, List.nil_append, List.append_nil] at ho1 ⊢
                 have hS1 := rs _ (Below.trans (And.left (by assumption)) hb1))
              | (refine step_app_own _ rfl (.tmp 36) (.tmp 41) rfl wc.heap.size (Below.size (And.left (by assumption))) _ 0 _ _ rfl (by first | exact ho1 | exact own_alloc ho1 _) _ 1 [.float .f64 x] rfl rfl (floats_one [x]) (src_one (by first | exact World.alloc_heap_new W1 _ | exact (hg1.block (wc.heap.size + 1) (by simp <;> omega) (by simp <;> omega)).trans fact2 | exact (hg1.block wc.heap.size (by simp <;> omega) (by simp <;> omega)).trans ((Below.heap_alloc _ _ _ (by simp <;> omega)).trans (World.alloc_heap_new wc _)))) (by omega) ?_
                 rintro g2 c2 W2 ho2 hb2 hg2
                 simp only [Nat.zero_add, List.nil_append, List.append_nil] at ho2 ⊢
                 have hS2 := rs _ (Below.trans (And.left (by assumption)) hb2)))
          all_goals
            go_wp2_with (at_builtin; refine wpList_app_own _ rfl _ _ rfl wc.heap.size (Below.size hS2.1) g2 1 c2 _ rfl ho2 _ 0 [] rfl rfl (by intro u hu; cases hu) (.inr ⟨rfl, rfl⟩) (by omega) ?_; intro g3 c3 W3 ho3 hb3 hg3)
            have ho4 : W3.ownsRow wc.heap.size 22 1 (.slice (some ⟨g3, 0, none⟩) 1 c3) 1 [.float .f64 x] := ho3
            have hfin := Lib.hid (HR.out W3 _ ho4 (Below.trans hS2.1 hb3))
            go_wp2
            go_roundg (len - 1)
            case measure => omega
            case rel => exact ⟨1, [x], rfl, by omega, Nat.le_refl _, hfin⟩
        · cases e0
          have hgw : g < wr.heap.size := (Array.getElem?_eq_some_iff.1 hg).1
          have hg' : wc.heap[g]? = some (.cells cur 22 (0, 0)) := (HK.out.2.2.block g hgw).trans hg
          have S0 : Below wc.heap.size wc wc ∧ wc.cell? ⟨b, off + i, none⟩ = some (.float .f64 x) ∧ wc.heap[g]? = some (.cells cur 22 (0, 0)) := ⟨Below.refl _ _, hcx, hg'⟩
          have S1 : Below wc.heap.size wc wc.drew ∧ wc.drew.cell? ⟨b, off + i, none⟩ = some (.float .f64 x) ∧ wc.drew.heap[g]? = some (.cells cur 22 (0, 0)) := ⟨(Below.refl _ _).drew, hcx, hg'⟩
          have rs : ∀ W, Below wc.heap.size wc W → Below wc.heap.size wc W ∧ W.cell? ⟨b, off + i, none⟩ = some (.float .f64 x) ∧ W.heap[g]? = some (.cells cur 22 (0, 0)) := fun W hW => ⟨hW, (Below.cell hW (p := ⟨b, off + i, none⟩) (Nat.lt_of_lt_of_le hb' HK.out.2.2.size)).trans hcx, (hW.block g (Nat.lt_of_lt_of_le hgw HK.out.2.2.size)).trans hg'⟩
          have fact2 : ((wc.alloc (.cells #[] 22)).alloc (.cells #[.float .f64 x] 22)).heap[wc.heap.size + 1]? = some (.cells #[.float .f64 x] 22 (0, 0)) := by
            have h := World.alloc_heap_new (wc.alloc (.cells #[] 22)) (.cells #[.float .f64 x] 22)
            rw [show (wc.alloc (.cells #[] 22)).heap.size = wc.heap.size + 1 from by simp] at h
            exact h
          have hlr : ((os.drop k).map (Value.float .f64)).length = i - k := by rw [List.length_map, List.length_drop, HO.out.2.2.2.1]
          have hins : k + 1 + (i - k) = (insAt os k x).length := by rw [insAt_len os x (by rw [HO.out.2.2.2.1]; exact hk), HO.out.2.2.2.1]; omega
          have hmap : (os.take k).map (Value.float .f64) ++ [.float .f64 x] ++ (os.drop k).map (Value.float .f64) = (insAt os k x).map (Value.float .f64) := by simp [insAt]
          have hTOP : ∀ y ∈ insAt os k x, y < TOP := by
            intro y hy
            rcases List.mem_append.1 hy with h | h
            · exact HO.out.1.2 y (List.mem_of_mem_take h)
            · rcases List.mem_cons.1 h with rfl | h
              · rw [← EX.out]; exact HX.out _ (getD_mem (by rw [HL.out]; exact hlt))
              · exact HO.out.1.2 y (List.mem_of_mem_drop h)
          have hki : (k : Int) ≤ (i : Int) := by omega
          have kfc : k ≤ fc := by omega
          have hll : ((os.take k).map (Value.float .f64)).length = k := by rw [List.length_map, List.length_take, HO.out.2.2.2.1]; omega
          go_wp2_with fail
          go_region_held3 (fun W => Below wc.heap.size wc W ∧ W.cell? ⟨b, off + i, none⟩ = some (.float .f64 x) ∧ W.heap[g]? = some (.cells cur 22 (0, 0))) (first | exact S1 | assumption | exact rs _ (Below.alloc (And.left (by assumption)) (Below.size (And.left (by assumption))) _) | exact rs _ (Below.trans (And.left (by assumption)) (by assumption)))
            (first
              | (refine step_app_own _ rfl (.tmp 32) (.tmp 35) rfl wc.heap.size (Below.size (And.left (by assumption))) _ 0 0 [] rfl (by first | exact own_empty wc _ (Nat.le_refl _) | exact own_alloc (own_empty wc _ (Nat.le_refl _)) _ | exact own_empty_at (wc.alloc _) _ (Nat.le_trans (Nat.le_refl _) (by simp)) _ (by simp)) _ k ((os.take k).map (Value.float .f64)) rfl hll (floats_one _) (src_part (And.right (And.right (by assumption))) htk hk fc) (by omega) ?_
                 rintro g1 c1 W1 ho1 hb1 hg1
                 simp only [Nat.zero_add, List.nil_append] at ho1 ⊢
                 have hS1 := rs _ (Below.trans (And.left (by assumption)) hb1))
              | (refine step_app_own _ rfl (.tmp 36) (.tmp 41) rfl wc.heap.size (Below.size (And.left (by assumption))) _ k _ _ rfl (by first | exact ho1 | exact own_alloc ho1 _) _ 1 [.float .f64 x] rfl rfl (floats_one [x]) (src_one (by first | exact World.alloc_heap_new W1 _ | exact (hg1.block (wc.heap.size + 1) (by simp <;> omega) (by simp <;> omega)).trans fact2 | exact (hg1.block wc.heap.size (by simp <;> omega) (by simp <;> omega)).trans ((Below.heap_alloc _ _ _ (by simp <;> omega)).trans (World.alloc_heap_new wc _)))) (by omega) ?_
                 rintro g2 c2 W2 ho2 hb2 hg2
                 have hS2 := rs _ (Below.trans (And.left (by assumption)) hb2)))
          all_goals
            have HR : Hid (∀ W3 v, W3.ownsRow wc.heap.size 22 1 v (k + 1 + (i - k)) ((os.take k).map (Value.float .f64) ++ [.float .f64 x] ++ (os.drop k).map (Value.float .f64)) → Below wc.heap.size wc W3 → OwnF W3 w.heap.size v (insAt os k x) ∧ (insAt os k x).Perm (l.take (i + 1)) ∧ Asc (insAt os k x) ∧ (insAt os k x).length = i + 1 ∧ Kept w W3) := Lib.hid (fun W3 v h hB => by
              have hw : w.heap.size ≤ wc.heap.size := KC.out.size
              rw [hmap, hins] at h
              refine ⟨⟨h.mono hw, hTOP⟩, ?_, ?_, ?_, KC.out.trans hB⟩
              · rw [← EX.out]
                exact insAt_perm HO.out.2.1 (by rw [HL.out]; exact hlt)
              · exact insAt_asc HO.out.2.2.1 (by rw [HO.out.2.2.2.1]; exact hk) (HK.out.1.imp id (fun h => by omega)) (by rw [HO.out.2.2.2.1]; exact HK.out.2.1)
              · rw [← hins]; omega)
            by_cases hfk : fc = k
            · subst hfk
              have hik : i = fc := by omega
              subst hik
              go_wp2_with (at_builtin; refine wpList_app_own _ rfl _ _ rfl wc.heap.size (Below.size hS2.1) g2 (i + 1) c2 _ rfl ho2 _ 0 [] rfl rfl (by intro u hu; cases hu) (.inl ⟨_, _, rfl, by intro j u hu; simp at hu⟩) (by omega) ?_; intro g3 c3 W3 ho3 hb3 hg3)
              have ho4 : W3.ownsRow wc.heap.size 22 1 (.slice (some ⟨g3, 0, none⟩) (i + 1) c3) (i + 1 + (i - i)) ((os.take i).map (Value.float .f64) ++ [.float .f64 x] ++ (os.drop i).map (Value.float .f64)) := by
                rw [show i + 1 + (i - i) = i + 1 from by omega, List.drop_of_length_le (by rw [HO.out.2.2.2.1]; exact Nat.le_refl _), List.map_nil]
                simpa using ho3
              have hfin := Lib.hid (HR.out W3 _ ho4 (Below.trans hS2.1 hb3))
              go_wp2
              go_roundg (len - (i + 1))
              case measure => omega
              case rel => exact ⟨i + 1, insAt os i x, by go_num, by omega, Nat.le_refl _, by first | exact hfin | (rw [hins] at hfin; exact hfin)⟩
            · go_wp2_with (at_builtin; refine wpList_app_own _ rfl _ _ rfl wc.heap.size (Below.size hS2.1) g2 (k + 1) c2 _ rfl ho2 _ (i - k) ((os.drop k).map (Value.float .f64)) rfl hlr (floats_one _) (src_rest hS2.2.2 htk _) (by omega) ?_; intro g3 c3 W3 ho3 hb3 hg3)
              have hfin := Lib.hid (HR.out W3 _ ho3 (Below.trans hS2.1 hb3))
              go_wp2
              go_roundg (len - (i + 1))
              case measure => omega
              case rel => exact ⟨i + 1, insAt os k x, by go_num, by omega, Nat.le_refl _, by first | exact hfin | (rw [hins] at hfin; exact hfin)⟩
    · have hil : i = len := by omega
      obtain ⟨fa, fc, eu, hfr⟩ := frow_of_own HO.out.1.1 HO.out.1.2
      subst eu
      have hltz : ¬ ((i : Int) < (len : Int)) := by omega
      have HF := Lib.hid hfr
      have el := Lib.hid (show os.length = l.length from HO.out.2.2.2.1.trans (hil.trans HL.out.symm))
      clear hfr
      go_wp2
      go_ret
      refine ⟨fa, ⟨fc, by rw [← el.out]; rfl⟩, os, el.out ▸ HF.out, ?_, HO.out.2.2.1, HO.out.2.2.2.2⟩
      have := HO.out.2.1
      rw [List.take_of_length_le (by rw [HL.out]; omega)] at this
      exact this

end Go.Proofs.Ythmpkelnmlkbiaa
