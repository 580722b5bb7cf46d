/- LabelTerms: the walk. -/
import Derived.Test.YtmmjcomoabfmnaaDoorLabKnown
import Derived.Test.YtmmjcomoabfmnaaDoorLabOf
namespace Go.Proofs.YtmmjcomoabfmnaaDoor
open Go.RowKit
set_option linter.unusedVariables false

theorem match_one (t : Int × ByteArray × ByteArray) (s : PL) : matchT [t] s = holdsT s t := by unfold matchT; simp
theorem match_rev (l : TL) (s : PL) : matchT l.reverse s = matchT l s := by unfold matchT; exact List.all_reverse
theorem infoTerm : (Tryd.prog.info? 60).map (fun i => (i.zero, i.size, i.bytes)) = some (some (.agg #[.int .i64 0, .string ByteArray.empty, .string ByteArray.empty]), 3, 40) := by kernel_rfl

set_option maxRecDepth 100000 in
set_option maxHeartbeats 4000000 in
theorem LabelTerms_walk (v0 : Value) (s : PL) (key val : ByteArray) (v3 : Value) (l : TL) (w : World) (hE : Env w) (r0 : Reads PairLay w v0 s) (hk : key.size ≤ maxLen) (hv : val.size ≤ maxLen) (r3 : Reads TermLay w v3 l) :
    Calls Tryd.prog 5 #[v0, .string key, .string val, v3] w fun e w' => e = .returned (.bool true) ∧ Kept w w' := by
  obtain ⟨a0, cap0, rfl, hc0, hm0, q0⟩ := id r0
  obtain ⟨a3, cap3, rfl, hc3, hm3, q3⟩ := id r3
  have HK := Lib.hid (known_any w hE)
  have R0 := Lib.hid r0
  have R3 := Lib.hid r3
  have RW0 := Lib.hid q0
  have RW3 := Lib.hid q3
  have HC3 := Lib.hid hc3
  have HC0 := Lib.hid hc0
  have HM0 := Lib.hid hm0
  have HM3 := Lib.hid hm3
  clear hE r0 r3 q0 q3 hc0 hm0 hc3 hm3
  by_cases g1 : fewS s = true
  · have f1 := Lib.hid g1
    by_cases g2 : fewL l = true
    · have f2 := Lib.hid g2
      by_cases g3 : chkS s = 0
      · have c1 := Lib.hid g3
        clear g3
        by_cases g4 : chkL l = 0
        · have c2 := Lib.hid g4
          clear g4
          by_cases g5 : isName key = true
          · have n1 := Lib.hid g5
            by_cases g6 : isName val = true
            · have n2 := Lib.hid g6
              have ht1 := Lib.hid (show matchT [(1, key, val)] s = (hasS s key && eqS (getT s key) val) from match_one _ _)
              have ht2 := Lib.hid (show matchT [(2, key, val)] s = (!hasS s key || !eqS (getT s key) val) from match_one _ _)
              have ht3 := Lib.hid (show matchT [(3, key, ⟨#[]⟩)] s = hasS s key from match_one _ _)
              have ht4 := Lib.hid (show matchT [(4, key, ⟨#[]⟩)] s = !hasS s key from match_one _ _)
              obtain ⟨h, hh⟩ : ∃ h, hasS s key = h := ⟨_, rfl⟩
              obtain ⟨q, hq⟩ : ∃ q, eqS (getT s key) val = q := ⟨_, rfl⟩
              rw [hh, hq] at ht1 ht2
              rw [hh] at ht3 ht4
              clear hh hq
              have h50 : l.length ≤ 20 := by
                have h := g2; unfold fewL at h; simp only [Bool.and_eq_true, decide_eq_true_eq] at h; exact h.1
              have he : (⟨#[]⟩ : ByteArray).size ≤ maxLen := Nat.zero_le _
              obtain ⟨i0, hi, hz0, hz1, hz2⟩ := info_parts infoTerm
              have HFT := Lib.hid (R3.out.fine)
              cases h <;> cases q <;>
              (go_enter Tryd.func5, Tryd.ntmps5
               go_wp2_with fail
               refine (HK.out).mono ?_
               rintro e w1 ⟨rfl, k⟩
               have K := Lib.hid k
               have R0 := Lib.hid (R0.out.kept k)
               have R3 := Lib.hid (R3.out.kept k)
               clear k
               go_wp2_with fail
               refine (fewR R0.out).mono ?_
               rintro e w2 ⟨rfl, rfl⟩
               go_wp2_with fail
               refine (fewSelR R3.out).mono ?_
               rintro e w3 ⟨rfl, rfl⟩
               go_wp2_with fail
               refine (ofR R0.out f1.out).mono ?_
               rintro e w4 ⟨x, rfl, r, k⟩
               have K := Lib.hid (K.out.trans k)
               have R0 := Lib.hid (R0.out.kept k)
               have R3 := Lib.hid (R3.out.kept k)
               have X := Lib.hid r
               clear r
               clear k
               go_wp2_with fail
               refine (refCheckR X.out c1.out).mono ?_
               rintro e w5 ⟨rfl, k⟩
               have K := Lib.hid (K.out.trans k)
               have R0 := Lib.hid (R0.out.kept k)
               have R3 := Lib.hid (R3.out.kept k)
               have X := Lib.hid (X.out.kept k)
               clear k
               go_wp2_with fail
               refine (ofSelR R3.out f2.out).mono ?_
               rintro e w6 ⟨y, rfl, r, k⟩
               have K := Lib.hid (K.out.trans k)
               have R0 := Lib.hid (R0.out.kept k)
               have R3 := Lib.hid (R3.out.kept k)
               have X := Lib.hid (X.out.kept k)
               have Y := Lib.hid r
               clear r
               clear k
               go_wp2_with fail
               refine (refCheckSelR Y.out c2.out).mono ?_
               rintro e w7 ⟨rfl, k⟩
               have K := Lib.hid (K.out.trans k)
               have R0 := Lib.hid (R0.out.kept k)
               have R3 := Lib.hid (R3.out.kept k)
               have X := Lib.hid (X.out.kept k)
               have Y := Lib.hid (Y.out.kept k)
               clear k
               go_wp2_with fail
               refine (refName_any _ _ hk).mono ?_
               rintro e w8 ⟨rfl, rfl⟩
               go_wp2_with fail
               refine (refName_any _ _ hv).mono ?_
               rintro e w9 ⟨rfl, rfl⟩
               go_wp2_with fail
               refine (matchR (lit_term _ 1 key val _ (by decide) hk hv) (R0.out.kept (kept_alloc _ _)) ht1.out).mono ?_
               rintro e w10 ⟨rfl, k⟩
               have K := Lib.hid (K.out.trans ((kept_alloc _ _).trans k))
               have R0 := Lib.hid (R0.out.kept ((kept_alloc _ _).trans k))
               have R3 := Lib.hid (R3.out.kept ((kept_alloc _ _).trans k))
               have X := Lib.hid (X.out.kept ((kept_alloc _ _).trans k))
               have Y := Lib.hid (Y.out.kept ((kept_alloc _ _).trans k))
               clear k
               go_wp2_with fail
               refine (matchR (lit_term _ 2 key val _ (by decide) hk hv) (R0.out.kept (kept_alloc _ _)) ht2.out).mono ?_
               rintro e w11 ⟨rfl, k⟩
               have K := Lib.hid (K.out.trans ((kept_alloc _ _).trans k))
               have R0 := Lib.hid (R0.out.kept ((kept_alloc _ _).trans k))
               have R3 := Lib.hid (R3.out.kept ((kept_alloc _ _).trans k))
               have X := Lib.hid (X.out.kept ((kept_alloc _ _).trans k))
               have Y := Lib.hid (Y.out.kept ((kept_alloc _ _).trans k))
               clear k
               go_wp2_with fail
               refine (matchR (lit_term _ 3 key ⟨#[]⟩ _ (by decide) hk he) (R0.out.kept (kept_alloc _ _)) ht3.out).mono ?_
               rintro e w12 ⟨rfl, k⟩
               have K := Lib.hid (K.out.trans ((kept_alloc _ _).trans k))
               have R0 := Lib.hid (R0.out.kept ((kept_alloc _ _).trans k))
               have R3 := Lib.hid (R3.out.kept ((kept_alloc _ _).trans k))
               have X := Lib.hid (X.out.kept ((kept_alloc _ _).trans k))
               have Y := Lib.hid (Y.out.kept ((kept_alloc _ _).trans k))
               clear k
               go_wp2_with fail
               refine (matchR (lit_term _ 4 key ⟨#[]⟩ _ (by decide) hk he) (R0.out.kept (kept_alloc _ _)) ht4.out).mono ?_
               rintro e w13 ⟨rfl, k⟩
               have K := Lib.hid (K.out.trans ((kept_alloc _ _).trans k))
               have R0 := Lib.hid (R0.out.kept ((kept_alloc _ _).trans k))
               have R3 := Lib.hid (R3.out.kept ((kept_alloc _ _).trans k))
               have X := Lib.hid (X.out.kept ((kept_alloc _ _).trans k))
               have Y := Lib.hid (Y.out.kept ((kept_alloc _ _).trans k))
               clear k
               have hbw : w.heap.size ≤ w13.heap.size := K.out.size
               go_wp2
               go_loopw [13, 14, 15] (fun al bk i wr => ∃ k : Nat, k ≤ l.length ∧ i = .int .i64 ((k : Int) - 1) ∧ al = .bool (matchT (l.drop k) s) ∧ Own TermLay 60 wr w.heap.size bk (l.drop k).reverse ∧ Kept w wr) (fun _ _ i _ => (intOf i + 1).toNat)
               case atStart => exact ⟨l.length, Nat.le_refl _, rfl, by rw [List.drop_length]; rfl, by rw [List.drop_length]; exact Own.nil _ _ _, K.out⟩
               case round =>
                 obtain ⟨k, hk9, rfl, rfl, ho, hB⟩ := hrel
                 have HO := Lib.hid ho
                 have KB := Lib.hid hB
                 have P0 := Lib.hid (RW0.out.kept hB)
                 clear ho hB
                 rcases k with _ | j
                 · have ei : (((0 : Nat) : Int) - 1) = -1 := rfl
                   rw [ei]
                   obtain ⟨m, hm⟩ : ∃ m, matchT l s = m := ⟨_, rfl⟩
                   have HM := Lib.hid hm
                   have HMR := Lib.hid ((match_rev l s).trans hm)
                   rw [show matchT (l.drop 0) s = m from hm]
                   have HB := Lib.hid (show Reads TermLay wr u14 l.reverse from HO.out.reads)
                   have HL := Lib.hid (RW3.out.kept KB.out)
                   clear hm
                   cases m <;>
                   (go_wp2_with fail
                    refine (match_any a3 a0 _ cap3 _ cap0 l s _ HL.out P0.out).mono ?_
                    rw [HM.out]
                    rintro e w20 ⟨rfl, k⟩
                    have K20 := Lib.hid (KB.out.trans k)
                    have HB := Lib.hid (HB.out.kept k)
                    have P0 := Lib.hid (P0.out.kept k)
                    clear k
                    go_wp2_with fail
                    refine (matchR HB.out ⟨a0, cap0, rfl, HC0.out, HM0.out, P0.out⟩ HMR.out).mono ?_
                    rintro e w21 ⟨rfl, k⟩
                    have K21 := Lib.hid (K20.out.trans k)
                    have P0 := Lib.hid (P0.out.kept k)
                    clear k
                    go_wp2_with fail
                    refine (match_any none a0 0 0 _ cap0 [] s _ (RowAt.nil _ _) P0.out).mono ?_
                    rintro e w22 ⟨rfl, k⟩
                    have K22 := Lib.hid (K21.out.trans k)
                    clear k
                    go_wp2
                    go_ret
                    exact ⟨rfl, K22.out⟩)
                 · have ei : (((j + 1 : Nat) : Int) - 1) = (j : Int) := by omega
                   rw [ei]
                   obtain ⟨b3, off3, rfl⟩ : ∃ b off, a3 = some ⟨b, off, none⟩ := by
                     rcases RW3.out.form with h | h
                     · omega
                     · exact h
                   have HR := Lib.hid (RW3.out.kept KB.out)
                   obtain ⟨o, x9, y9, hx, hd, hb, ho9, hz, hz2', c0, c1', c2'⟩ := HR.out.term (show j < l.length by omega)
                   have HX := Lib.hid hx
                   have HPART := Lib.hid (show RowAt TermLay wr (some ⟨b3, off3 + j * 3, none⟩) 1 [(o, x9, y9)] by
                     have := HR.out.part j 1 (by omega)
                     rw [hd] at this
                     exact this)
                   have HMJ := Lib.hid (show matchT (l.drop j) s = (matchT [(o, x9, y9)] s && matchT (l.drop (j + 1)) s) by rw [hd, match_cons, match_one])
                   have HREV := Lib.hid (show (l.drop j).reverse = (l.drop (j + 1)).reverse ++ [(o, x9, y9)] from drop_pred hx)
                   have HFX := Lib.hid (show TermLay.fine (o, x9, y9) from ⟨ho9, hz, hz2'⟩)
                   obtain ⟨n, hn⟩ : ∃ n, (l.drop (j + 1)).reverse.length = n := ⟨_, rfl⟩
                   have hn20 : n ≤ 20 := by rw [← hn, List.length_reverse, List.length_drop]; omega
                   have HN := Lib.hid hn
                   have hbw3 : b3 < w.heap.size := by obtain ⟨z, _, _, h, _⟩ := RW3.out.cells (show j < l.length by omega); exact h
                   have hj1 : (j : Int) + 1 ≤ (cap3 : Int) := by have := HC3.out; omega
                   have hj2 : ((j : Int) + 1).toNat = j + 1 := by omega
                   have hj3 : j + 1 - j = 1 := by omega
                   have hj4 : (j : Int) < (l.length : Int) := by omega
                   have hj5 : (j : Int) ≤ (j : Int) + 1 := by omega
                   obtain ⟨m, hm⟩ : ∃ m, matchT (l.drop (j + 1)) s = m := ⟨_, rfl⟩
                   rw [hm]
                   rw [hm] at HMJ
                   clear hm hn hx hd
                   have hbs : w.heap.size ≤ wr.heap.size := KB.out.size
                   cases m with
                   | true =>
                     go_wp2_with fail
                     refine (match_any _ a0 1 _ _ cap0 [(o, x9, y9)] s _ HPART.out P0.out).mono ?_
                     rintro e w20 ⟨rfl, k⟩
                     have K20 := Lib.hid (KB.out.trans k)
                     have HK20 := Lib.hid k
                     have c0 := cell_later k c0
                     have c1' := cell_later k c1'
                     have c2' := cell_later k c2'
                     have hbs : w.heap.size ≤ w20.heap.size := Nat.le_trans hbs k.size
                     clear k
                     have HOWN := Lib.hid (show w20.ownsRow w.heap.size 60 3 u14 n (rowCells TermLay (l.drop (j + 1)).reverse) by have := (HO.out.kept HK20.out).1; rw [HN.out] at this; exact this)
                     go_wp2_with (at_builtin; refine wpList_append_lies _ rfl (.tmp 102) (.tmp 107) _ rfl w.heap.size 60 i0 _ 3 40 Tryd.underlying25 hi hz0 hz1 hz2 rfl (by decide) u14 n (rowCells TermLay (l.drop (j + 1)).reverse) rfl (HOWN.out.alloc _) ⟨w20.heap.size, 0, none⟩ 1 1 [.int .i64 o, .string x9, .string y9] rfl rfl (World.news_of_block (cs := #[.int .i64 o, .string x9, .string y9]) (t := 60) (fr := (0, 0)) (w20.alloc_heap_new _)) (one_iss o x9 y9) (by decide) (by unfold maxLen; omega) (by omega) (by rw [World.size_alloc]; omega) (w20.heap.size + 1) (World.size_alloc _ _) ?_; intro g cap w21 hown1 hgrow hg hlt; have HOWN1 := Lib.hid hown1; have K21 := Lib.hid ((K20.out.trans (kept_alloc w20 (.cells #[.int .i64 o, .string x9, .string y9] 60))).grown hgrow (by rw [World.size_alloc]; omega) (fun k hk => (HOWN.out.lt k hk).1)); clear hown1 hgrow hg hlt)
                     go_roundw
                     case rel => exact ⟨j, by omega, by go_num, by rw [HMJ.out, Bool.and_true], by rw [HREV.out]; exact Own.snoc HOWN1.out (by rw [HN.out]) HO.out.2 HFX.out, K21.out⟩
                     case measure => simp [intOf]
                   | false =>
                     have HOWN := Lib.hid (show wr.ownsRow w.heap.size 60 3 u14 n (rowCells TermLay (l.drop (j + 1)).reverse) by have := HO.out.1; rw [HN.out] at this; exact this)
                     go_wp2_with (at_builtin; refine wpList_append_lies _ rfl (.tmp 102) (.tmp 107) _ rfl w.heap.size 60 i0 _ 3 40 Tryd.underlying25 hi hz0 hz1 hz2 rfl (by decide) u14 n (rowCells TermLay (l.drop (j + 1)).reverse) rfl (HOWN.out.alloc _) ⟨wr.heap.size, 0, none⟩ 1 1 [.int .i64 o, .string x9, .string y9] rfl rfl (World.news_of_block (cs := #[.int .i64 o, .string x9, .string y9]) (t := 60) (fr := (0, 0)) (wr.alloc_heap_new _)) (one_iss o x9 y9) (by decide) (by unfold maxLen; omega) (by omega) (by rw [World.size_alloc]; omega) (wr.heap.size + 1) (World.size_alloc _ _) ?_; intro g cap w21 hown1 hgrow hg hlt; have HOWN1 := Lib.hid hown1; have K21 := Lib.hid ((KB.out.trans (kept_alloc wr (.cells #[.int .i64 o, .string x9, .string y9] 60))).grown hgrow (by rw [World.size_alloc]; omega) (fun k hk => (HOWN.out.lt k hk).1)); clear hown1 hgrow hg hlt)
                     go_roundw
                     case rel => exact ⟨j, by omega, by go_num, by rw [HMJ.out, Bool.and_false], by rw [HREV.out]; exact Own.snoc HOWN1.out (by rw [HN.out]) HO.out.2 HFX.out, K21.out⟩
                     case measure => simp [intOf])
            · have g6 : isName val = false := by simpa using g6
              go_enter Tryd.func5, Tryd.ntmps5
              go_wp2_with fail
              refine (HK.out).mono ?_
              rintro e w1 ⟨rfl, k⟩
              have K := Lib.hid k
              have R0 := Lib.hid (R0.out.kept k)
              have R3 := Lib.hid (R3.out.kept k)
              clear k
              go_wp2_with fail
              refine (fewR R0.out).mono ?_
              rintro e w2 ⟨rfl, rfl⟩
              go_wp2_with fail
              refine (fewSelR R3.out).mono ?_
              rintro e w3 ⟨rfl, rfl⟩
              go_wp2_with fail
              refine (ofR R0.out f1.out).mono ?_
              rintro e w4 ⟨x, rfl, r, k⟩
              have K := Lib.hid (K.out.trans k)
              have R0 := Lib.hid (R0.out.kept k)
              have R3 := Lib.hid (R3.out.kept k)
              have X := Lib.hid r
              clear r
              clear k
              go_wp2_with fail
              refine (refCheckR X.out c1.out).mono ?_
              rintro e w5 ⟨rfl, k⟩
              have K := Lib.hid (K.out.trans k)
              have R0 := Lib.hid (R0.out.kept k)
              have R3 := Lib.hid (R3.out.kept k)
              have X := Lib.hid (X.out.kept k)
              clear k
              go_wp2_with fail
              refine (ofSelR R3.out f2.out).mono ?_
              rintro e w6 ⟨y, rfl, r, k⟩
              have K := Lib.hid (K.out.trans k)
              have R0 := Lib.hid (R0.out.kept k)
              have R3 := Lib.hid (R3.out.kept k)
              have X := Lib.hid (X.out.kept k)
              have Y := Lib.hid r
              clear r
              clear k
              go_wp2_with fail
              refine (refCheckSelR Y.out c2.out).mono ?_
              rintro e w7 ⟨rfl, k⟩
              have K := Lib.hid (K.out.trans k)
              have R0 := Lib.hid (R0.out.kept k)
              have R3 := Lib.hid (R3.out.kept k)
              have X := Lib.hid (X.out.kept k)
              have Y := Lib.hid (Y.out.kept k)
              clear k
              go_wp2_with fail
              refine (refName_any _ _ hk).mono ?_
              rintro e w8 ⟨rfl, rfl⟩
              go_wp2_with fail
              refine (refName_any _ _ hv).mono ?_
              rintro e w9 ⟨rfl, rfl⟩
              go_wp2
              go_ret
              exact ⟨rfl, K.out⟩
          · have g5 : isName key = false := by simpa using g5
            go_enter Tryd.func5, Tryd.ntmps5
            go_wp2_with fail
            refine (HK.out).mono ?_
            rintro e w1 ⟨rfl, k⟩
            have K := Lib.hid k
            have R0 := Lib.hid (R0.out.kept k)
            have R3 := Lib.hid (R3.out.kept k)
            clear k
            go_wp2_with fail
            refine (fewR R0.out).mono ?_
            rintro e w2 ⟨rfl, rfl⟩
            go_wp2_with fail
            refine (fewSelR R3.out).mono ?_
            rintro e w3 ⟨rfl, rfl⟩
            go_wp2_with fail
            refine (ofR R0.out f1.out).mono ?_
            rintro e w4 ⟨x, rfl, r, k⟩
            have K := Lib.hid (K.out.trans k)
            have R0 := Lib.hid (R0.out.kept k)
            have R3 := Lib.hid (R3.out.kept k)
            have X := Lib.hid r
            clear r
            clear k
            go_wp2_with fail
            refine (refCheckR X.out c1.out).mono ?_
            rintro e w5 ⟨rfl, k⟩
            have K := Lib.hid (K.out.trans k)
            have R0 := Lib.hid (R0.out.kept k)
            have R3 := Lib.hid (R3.out.kept k)
            have X := Lib.hid (X.out.kept k)
            clear k
            go_wp2_with fail
            refine (ofSelR R3.out f2.out).mono ?_
            rintro e w6 ⟨y, rfl, r, k⟩
            have K := Lib.hid (K.out.trans k)
            have R0 := Lib.hid (R0.out.kept k)
            have R3 := Lib.hid (R3.out.kept k)
            have X := Lib.hid (X.out.kept k)
            have Y := Lib.hid r
            clear r
            clear k
            go_wp2_with fail
            refine (refCheckSelR Y.out c2.out).mono ?_
            rintro e w7 ⟨rfl, k⟩
            have K := Lib.hid (K.out.trans k)
            have R0 := Lib.hid (R0.out.kept k)
            have R3 := Lib.hid (R3.out.kept k)
            have X := Lib.hid (X.out.kept k)
            have Y := Lib.hid (Y.out.kept k)
            clear k
            go_wp2_with fail
            refine (refName_any _ _ hk).mono ?_
            rintro e w8 ⟨rfl, rfl⟩
            go_wp2
            go_ret
            exact ⟨rfl, K.out⟩
        · obtain ⟨z, hz⟩ : ∃ z, chkL l = z := ⟨_, rfl⟩
          have c2 := Lib.hid hz
          have hz' : (z != 0) = true := by rw [← hz]; simpa using g4
          clear hz g4
          go_enter Tryd.func5, Tryd.ntmps5
          go_wp2_with fail
          refine (HK.out).mono ?_
          rintro e w1 ⟨rfl, k⟩
          have K := Lib.hid k
          have R0 := Lib.hid (R0.out.kept k)
          have R3 := Lib.hid (R3.out.kept k)
          clear k
          go_wp2_with fail
          refine (fewR R0.out).mono ?_
          rintro e w2 ⟨rfl, rfl⟩
          go_wp2_with fail
          refine (fewSelR R3.out).mono ?_
          rintro e w3 ⟨rfl, rfl⟩
          go_wp2_with fail
          refine (ofR R0.out f1.out).mono ?_
          rintro e w4 ⟨x, rfl, r, k⟩
          have K := Lib.hid (K.out.trans k)
          have R0 := Lib.hid (R0.out.kept k)
          have R3 := Lib.hid (R3.out.kept k)
          have X := Lib.hid r
          clear r
          clear k
          go_wp2_with fail
          refine (refCheckR X.out c1.out).mono ?_
          rintro e w5 ⟨rfl, k⟩
          have K := Lib.hid (K.out.trans k)
          have R0 := Lib.hid (R0.out.kept k)
          have R3 := Lib.hid (R3.out.kept k)
          have X := Lib.hid (X.out.kept k)
          clear k
          go_wp2_with fail
          refine (ofSelR R3.out f2.out).mono ?_
          rintro e w6 ⟨y, rfl, r, k⟩
          have K := Lib.hid (K.out.trans k)
          have R0 := Lib.hid (R0.out.kept k)
          have R3 := Lib.hid (R3.out.kept k)
          have X := Lib.hid (X.out.kept k)
          have Y := Lib.hid r
          clear r
          clear k
          go_wp2_with fail
          refine (refCheckSelR Y.out c2.out).mono ?_
          rintro e w7 ⟨rfl, k⟩
          have K := Lib.hid (K.out.trans k)
          have R0 := Lib.hid (R0.out.kept k)
          have R3 := Lib.hid (R3.out.kept k)
          have X := Lib.hid (X.out.kept k)
          have Y := Lib.hid (Y.out.kept k)
          clear k
          go_wp2
          go_ret
          exact ⟨rfl, K.out⟩
      · obtain ⟨z, hz⟩ : ∃ z, chkS s = z := ⟨_, rfl⟩
        have c1 := Lib.hid hz
        have hz' : (z != 0) = true := by rw [← hz]; simpa using g3
        clear hz g3
        go_enter Tryd.func5, Tryd.ntmps5
        go_wp2_with fail
        refine (HK.out).mono ?_
        rintro e w1 ⟨rfl, k⟩
        have K := Lib.hid k
        have R0 := Lib.hid (R0.out.kept k)
        have R3 := Lib.hid (R3.out.kept k)
        clear k
        go_wp2_with fail
        refine (fewR R0.out).mono ?_
        rintro e w2 ⟨rfl, rfl⟩
        go_wp2_with fail
        refine (fewSelR R3.out).mono ?_
        rintro e w3 ⟨rfl, rfl⟩
        go_wp2_with fail
        refine (ofR R0.out f1.out).mono ?_
        rintro e w4 ⟨x, rfl, r, k⟩
        have K := Lib.hid (K.out.trans k)
        have R0 := Lib.hid (R0.out.kept k)
        have R3 := Lib.hid (R3.out.kept k)
        have X := Lib.hid r
        clear r
        clear k
        go_wp2_with fail
        refine (refCheckR X.out c1.out).mono ?_
        rintro e w5 ⟨rfl, k⟩
        have K := Lib.hid (K.out.trans k)
        have R0 := Lib.hid (R0.out.kept k)
        have R3 := Lib.hid (R3.out.kept k)
        have X := Lib.hid (X.out.kept k)
        clear k
        go_wp2
        go_ret
        exact ⟨rfl, K.out⟩
    · have g2 : fewL l = false := by simpa using g2
      go_enter Tryd.func5, Tryd.ntmps5
      go_wp2_with fail
      refine (HK.out).mono ?_
      rintro e w1 ⟨rfl, k⟩
      have K := Lib.hid k
      have R0 := Lib.hid (R0.out.kept k)
      have R3 := Lib.hid (R3.out.kept k)
      clear k
      go_wp2_with fail
      refine (fewR R0.out).mono ?_
      rintro e w2 ⟨rfl, rfl⟩
      go_wp2_with fail
      refine (fewSelR R3.out).mono ?_
      rintro e w3 ⟨rfl, rfl⟩
      go_wp2
      go_ret
      exact ⟨rfl, K.out⟩
  · have g1 : fewS s = false := by simpa using g1
    go_enter Tryd.func5, Tryd.ntmps5
    go_wp2_with fail
    refine (HK.out).mono ?_
    rintro e w1 ⟨rfl, k⟩
    have K := Lib.hid k
    have R0 := Lib.hid (R0.out.kept k)
    have R3 := Lib.hid (R3.out.kept k)
    clear k
    go_wp2_with fail
    refine (fewR R0.out).mono ?_
    rintro e w2 ⟨rfl, rfl⟩
    go_wp2
    go_ret
    exact ⟨rfl, K.out⟩

end Go.Proofs.YtmmjcomoabfmnaaDoor
