/- TaintMore: the walk. -/
import Derived.Test.YthlhaefaafjmlaaDoorTaintOrderW
namespace Go.Proofs.YthlhaefaafjmlaaDoor
open Go.RowKit Go.Sort
set_option linter.unusedVariables false

theorem kindO : Kind 23 64 3 40 := by
  obtain ⟨i, hi, hz, h1, h2⟩ := info_parts (show (Tryd.prog.info? 64).map (fun i => (i.zero, i.size, i.bytes)) = some (some (.agg #[.string ByteArray.empty, .string ByteArray.empty, .bool false]), 3, 40) by kernel_rfl)
  exact ⟨i, _, Tryd.underlying23, hi, hz, h1, h2, rfl, by decide⟩
theorem more_bounds {n : Nat} (h : n * 40 ≤ 140737488351232) : (0 + n ≤ maxLen ∧ ((0 + n) + (0 + n) / 4 + 192) * 40 ≤ 281474976710656) ∧ (n + 1 ≤ maxLen ∧ ((n + 1) + (n + 1) / 4 + 192) * 40 ≤ 281474976710656) := by
  have h1 : n ≤ 3518437208780 := by omega
  clear h
  refine ⟨⟨?_, ?_⟩, ?_, ?_⟩
  · unfold maxLen; omega
  · omega
  · unfold maxLen; omega
  · omega
theorem bears_app (l m : NL) (t : NT) : bearsN (l ++ m) t = (bearsN l t || bearsN m t) := by unfold bearsN; rw [List.any_append]
theorem soft_less (l m : NL) : ∀ t : NL, softN (l ++ m) t ≤ softN l t
  | [] => Nat.le_refl _
  | x :: r => by
    have := soft_less l m r
    rw [soft_cons, soft_cons, bears_app]
    cases x.2.2 <;> cases bearsN l x <;> cases bearsN m x <;> simp <;> omega
theorem bad_less (l m t : NL) (h : t.any (badN (l ++ m)) = true) : t.any (badN l) = true := by
  rw [List.any_eq_true] at h ⊢
  obtain ⟨x, hx, hb⟩ := h
  refine ⟨x, hx, ?_⟩
  unfold badN at hb ⊢
  rw [bears_app] at hb
  revert hb
  cases x.2.2 <;> cases bearsN l x <;> cases bearsN m x <;> simp
theorem soft_all : ∀ t : NL, softN kAll t = 0
  | [] => rfl
  | x :: r => by rw [soft_cons, k_bear2, soft_all r]; simp
theorem worst_all : ∀ t : NL, worstN kAll t = none
  | [] => rfl
  | x :: r => by rw [worst_cons, k_bear2, worst_all r]; simp

set_option maxRecDepth 100000 in
set_option maxHeartbeats 16000000 in
theorem TaintMore_walk (v0 : Value) (t : NL) (v1 : Value) (l : NL) (one : NT) (w : World) (hE : Env w) (r0 : Reads TaLay w v0 t) (r1 : Reads TaLay w v1 l) (hone : TaLay.fine one) (hlen : l.length * 40 ≤ 140737488351232) :
    Calls Tryd.prog 5 #[v0, v1, NV one.1 one.2.1 one.2.2] w fun e w' => e = .returned (.bool true) ∧ Kept w w' := by
  obtain ⟨x, y, m⟩ := one
  obtain ⟨a1, cap1, rfl, hc1, hm1, q1⟩ := id r1
  obtain ⟨a0, cap0, rfl, hc0, hm0, q0⟩ := id r0
  obtain ⟨n, hn⟩ : ∃ n, l.length = n := ⟨_, rfl⟩
  rw [hn] at q1 hlen r1 ⊢
  have HN := Lib.hid hn
  have HK := Lib.hid (known_any (w.alloc (.cells #[.string x, .string y, .bool m] 64)) (hE.kept (kept_alloc _ _)))
  have HFO := Lib.hid hone
  have HRW := Lib.hid q1
  have R0 := Lib.hid r0
  have R1 := Lib.hid r1
  clear hE r0 r1 q0 q1 hone hn hc1 hm1 hc0 hm0
  show Calls Tryd.prog 5 #[.slice a0 t.length cap0, .slice a1 n cap1, NV x y m] w _
  go_enter Tryd.func5, Tryd.ntmps5
  go_wp2_with fail
  refine HK.out.mono ?_
  rintro e w1 ⟨rfl, k⟩
  have K := Lib.hid ((kept_alloc w _).trans k)
  have tn := (TriAt.new w x y m 64).kept k
  have c0 := tn.1
  have c1 := tn.2.1
  have c2 := tn.2.2
  dsimp only at c0 c1 c2
  have hbx : w.heap.size < w1.heap.size := by have := k.size; rw [World.size_alloc] at this; omega
  clear k tn
  have R0 := Lib.hid (R0.out.kept K.out)
  have R1 := Lib.hid (R1.out.kept K.out)
  have HRW := Lib.hid (HRW.out.kept K.out)
  have HBD := Lib.hid (more_bounds hlen)
  have hrl : (rowCells TaLay l).length = n * 3 := (rowCells_length TaLay l).trans (by rw [HN.out]; rfl)
  clear hlen
  go_wp2_with fail
  go_cut [7] from 18 to 23 (fun s7 wx => Hid (Reads TaLay wx s7 (l ++ [(x, y, m)]) ∧ Kept w1 wx))
  case first =>
    have rs : ∀ W, Below w1.heap.size w1 W → Below w1.heap.size w1 W ∧ W.cell? ⟨w.heap.size, 0, none⟩ = some (.string x) ∧ W.cell? ⟨w.heap.size, 1, none⟩ = some (.string y) ∧ W.cell? ⟨w.heap.size, 2, none⟩ = some (.bool m) := fun W hW => ⟨hW, cell_later hW c0, cell_later hW c1, cell_later hW c2⟩
    have S1 := rs _ (Kept.drew w1)
    clear c0 c1 c2
    go_region_held3 (fun W => Below w1.heap.size w1 W ∧ W.cell? ⟨w.heap.size, 0, none⟩ = some (.string x) ∧ W.cell? ⟨w.heap.size, 1, none⟩ = some (.string y) ∧ W.cell? ⟨w.heap.size, 2, none⟩ = some (.bool m)) (first | exact S1 | assumption | exact rs _ (Below.alloc (And.left (by assumption)) (Below.size (And.left (by assumption))) _) | exact rs _ (Below.trans (And.left (by assumption)) (by assumption)))
      (first
        | (refine step_app_own kindO _ rfl (.tmp 18) (.tmp 19) rfl w1.heap.size ?_ _ 0 0 [] rfl ?_ _ n (rowCells TaLay l) rfl hrl (rowCells_one _ _) ?_ HBD.out.1.1 HBD.out.1.2 ?_
           · exact Below.size (And.left (by assumption))
           · first | exact own_empty w1 _ _ _ (Nat.le_refl _) | exact own_alloc (own_empty w1 _ _ _ (Nat.le_refl _)) _ | exact own_empty_at (w1.alloc _) _ _ _ (Nat.le_trans (Nat.le_refl _) (by simp)) _ (by simp)
           · exact RowAt.src (HRW.out.kept (And.left (by assumption)))
           rintro gb1 kb1 W1 ho1 hd1 hg1
           simp only [Nat.zero_add, List.nil_append] at ho1 ⊢
           have hS1 := rs _ (Below.trans (And.left (by assumption)) hd1))
        | (refine step_app_own kindO _ rfl (.tmp 20) (.tmp 22) rfl w1.heap.size ?_ _ n _ (rowCells TaLay l) rfl ?_ _ 1 [.string x, .string y, .bool m] rfl rfl (one_ssb x y m) ?_ HBD.out.2.1 HBD.out.2.2 ?_
           · exact Below.size (And.left (by assumption))
           · first | exact ho1 | exact own_alloc ho1 _
           · first | exact src_new rfl (World.alloc_heap_new W1 _) | exact src_new rfl ((hg1.block (w1.heap.size + 1) (by simp <;> omega) (by simp <;> omega)).trans (heap_alloc2_new w1 _ _)) | exact src_new rfl ((hg1.block (w1.heap.size + 1) (by simp <;> omega) (by simp <;> omega)).trans fact2) | exact src_new rfl ((hg1.block w1.heap.size (by simp <;> omega) (by simp <;> omega)).trans ((Below.heap_alloc _ _ _ (by simp <;> omega)).trans (World.alloc_heap_new w1 _)))
           rintro gb2 kb2 W2 ho2 hd2 hg2
           have hS2 := rs _ (Below.trans (And.left (by assumption)) hd2)))
    all_goals
      go_wp2
      go_meet
      case rel =>
        refine ⟨?_, hS2.1⟩
        have ho : Own TaLay 64 W2 w1.heap.size (.slice (some ⟨gb2, 0, none⟩) (n + 1) kb2) (l ++ [(x, y, m)]) :=
          Own.snoc (x := (x, y, m)) (by exact ho2) (by rw [HN.out]) R1.out.fine HFO.out
        exact ho.reads
  case rest =>
    have K := Lib.hid (K.out.trans hcut.out.2)
    have R0 := Lib.hid (R0.out.kept hcut.out.2)
    have R1 := Lib.hid (R1.out.kept hcut.out.2)
    have M := Lib.hid hcut.out.1
    clear hcut c0 c1 c2
    by_cases g1 : fewN t = true
    · have f1 := Lib.hid g1
      by_cases g2 : fewN (l ++ [(x, y, m)]) = true
      · have f2 := Lib.hid g2
        by_cases g3 : chkA t = 0
        · have c1 := Lib.hid g3
          clear g3
          by_cases g4 : chkO (l ++ [(x, y, m)]) = 0
          · have c2 := Lib.hid g4
            clear g4
            go_wp2_with fail
            refine (fewAR R0.out).mono ?_
            rintro e w10 ⟨rfl, rfl⟩
            go_wp2_with fail
            refine (fewOR M.out).mono ?_
            rintro e w11 ⟨rfl, rfl⟩
            go_wp2_with fail
            refine (ofAR R0.out f1.out).mono ?_
            rintro e w12 ⟨vx, rfl, r, k⟩
            have K := Lib.hid (K.out.trans k)
            have R0 := Lib.hid (R0.out.kept k)
            have R1 := Lib.hid (R1.out.kept k)
            have M := Lib.hid (M.out.kept k)
            have X := Lib.hid r
            clear r
            clear k
            go_wp2_with fail
            refine (refCheckAR X.out c1.out).mono ?_
            rintro e w13 ⟨rfl, k⟩
            have K := Lib.hid (K.out.trans k)
            have R0 := Lib.hid (R0.out.kept k)
            have R1 := Lib.hid (R1.out.kept k)
            have M := Lib.hid (M.out.kept k)
            have X := Lib.hid (X.out.kept k)
            clear k
            go_wp2_with fail
            refine (ofOR M.out f2.out).mono ?_
            rintro e w14 ⟨vy, rfl, r, k⟩
            have K := Lib.hid (K.out.trans k)
            have R0 := Lib.hid (R0.out.kept k)
            have R1 := Lib.hid (R1.out.kept k)
            have M := Lib.hid (M.out.kept k)
            have X := Lib.hid (X.out.kept k)
            have Y := Lib.hid r
            clear r
            clear k
            go_wp2_with fail
            refine (refCheckOR Y.out c2.out).mono ?_
            rintro e w15 ⟨rfl, k⟩
            have K := Lib.hid (K.out.trans k)
            have R0 := Lib.hid (R0.out.kept k)
            have R1 := Lib.hid (R1.out.kept k)
            have M := Lib.hid (M.out.kept k)
            have X := Lib.hid (X.out.kept k)
            have Y := Lib.hid (Y.out.kept k)
            clear k
            obtain ⟨nt, hnt⟩ : ∃ z, t.length = z := ⟨_, rfl⟩
            have HNT := Lib.hid hnt
            have hnt20 : nt ≤ 20 := by rw [← hnt]; exact (few_mid f1.out).1
            rw [hnt] at R0 ⊢
            clear hnt
            have Q0 := Lib.hid (show RowAt TaLay w15 a0 nt t by obtain ⟨_, _, e, _, _, h⟩ := R0.out; injection e with e1 e2 e3; subst e1; rw [e2]; exact h)
            go_wp2
            go_loopw [8] (fun i wr => ∃ j : Nat, j ≤ nt ∧ i = .int .i64 j ∧ Kept w15 wr) (fun i _ => nt - (intOf i).toNat)
            case atStart => exact ⟨0, Nat.zero_le _, rfl, Kept.refl _⟩
            case round =>
              obtain ⟨j, hj, rfl, hB⟩ := hrel
              have HB := Lib.hid hB
              by_cases hlt : j < nt
              · obtain ⟨b0, o0, rfl⟩ : ∃ b off, a0 = some ⟨b, off, none⟩ := by
                  rcases Q0.out.form with h | h
                  · omega
                  · exact h
                obtain ⟨tx, ty, tm, hx, hd, _, _, _, d1, d2, d3⟩ := (Q0.out.kept hB).tri hlt
                obtain ⟨q, hq⟩ : ∃ q, bearsN l (tx, ty, tm) = q := ⟨_, rfl⟩
                have HQ := Lib.hid hq
                have RL := Lib.hid (R1.out.kept hB)
                have RM := Lib.hid (M.out.kept hB)
                have hlt' : (j : Int) < (nt : Int) := by omega
                clear hx hd hq hB
                cases q with
                | false =>
                  go_wp2_with fail
                  refine (bearsR RL.out HQ.out).mono ?_
                  rintro e w30 ⟨rfl, k30⟩
                  have K30 := Lib.hid k30
                  clear k30
                  go_wp2
                  go_roundw
                  case rel => exact ⟨j + 1, by omega, by go_num, HB.out.trans K30.out⟩
                  case measure => simp [intOf]; omega
                | true =>
                  have HQM := Lib.hid (show bearsN (l ++ [(x, y, m)]) (tx, ty, tm) = true by rw [bears_app, HQ.out]; rfl)
                  go_wp2_with fail
                  refine (bearsR RL.out HQ.out).mono ?_
                  rintro e w30 ⟨rfl, k30⟩
                  have K30 := Lib.hid k30
                  have RM := Lib.hid (RM.out.kept k30)
                  have d1 := cell_later k30 d1
                  have d2 := cell_later k30 d2
                  have d3 := cell_later k30 d3
                  clear k30
                  go_wp2_with fail
                  refine (bearsR RM.out HQM.out).mono ?_
                  rintro e w31 ⟨rfl, k31⟩
                  have K31 := Lib.hid (K30.out.trans k31)
                  clear k31
                  go_wp2
                  go_roundw
                  case rel => exact ⟨j + 1, by omega, by go_num, HB.out.trans K31.out⟩
                  case measure => simp [intOf]; omega
              · have K := Lib.hid (K.out.trans hB)
                have R0 := Lib.hid (R0.out.kept hB)
                have R1 := Lib.hid (R1.out.kept hB)
                have M := Lib.hid (M.out.kept hB)
                clear hB
                obtain ⟨x1, y1, m1, hw1⟩ := nt_parts' (wT (worstN l t))
                obtain ⟨x2, y2, m2, hw2⟩ := nt_parts' (wT (worstN (l ++ [(x, y, m)]) t))
                obtain ⟨sa, hsa⟩ : ∃ z, (worstN l t).isSome = z := ⟨_, rfl⟩
                obtain ⟨sb, hsb⟩ : ∃ z, (worstN (l ++ [(x, y, m)]) t).isSome = z := ⟨_, rfl⟩
                obtain ⟨s1, hs1⟩ : ∃ z, softN l t = z := ⟨_, rfl⟩
                obtain ⟨s2, hs2⟩ : ∃ z, softN (l ++ [(x, y, m)]) t = z := ⟨_, rfl⟩
                have himp : sb = true → sa = true := by
                  intro h
                  rw [← hsb, worst_some] at h
                  rw [← hsa, worst_some]
                  exact bad_less _ _ _ h
                have hle : (s2 : Int) ≤ (s1 : Int) := by have := soft_less l [(x, y, m)] t; omega
                have W1 := Lib.hid hw1
                have W2 := Lib.hid hw2
                have B1 := Lib.hid hsa
                have B2 := Lib.hid hsb
                have S1 := Lib.hid hs1
                have S2 := Lib.hid hs2
                have W3 := Lib.hid (show wT (worstN kAll t) = (bNo, bNo, false) by rw [worst_all]; rfl)
                have B3 := Lib.hid (show (worstN kAll t).isSome = false by rw [worst_all]; rfl)
                have S3 := Lib.hid (soft_all t)
                clear hw1 hw2 hsa hsb hs1 hs2
                go_wp2_with fail
                refine (worstR R1.out R0.out W1.out B1.out).mono ?_
                rintro e w31 ⟨rfl, k⟩
                have K := Lib.hid (K.out.trans k)
                have R0 := Lib.hid (R0.out.kept k)
                have R1 := Lib.hid (R1.out.kept k)
                have M := Lib.hid (M.out.kept k)
                clear k
                have K := Lib.hid (K.out.trans (kept_alloc w31 (.cells #[.string x1, .string y1, .bool m1] 37)))
                have R0 := Lib.hid (R0.out.kept (kept_alloc w31 (.cells #[.string x1, .string y1, .bool m1] 37)))
                have R1 := Lib.hid (R1.out.kept (kept_alloc w31 (.cells #[.string x1, .string y1, .bool m1] 37)))
                have M := Lib.hid (M.out.kept (kept_alloc w31 (.cells #[.string x1, .string y1, .bool m1] 37)))
                go_wp2_with fail
                refine (worstR M.out R0.out W2.out B2.out).mono ?_
                rintro e w32 ⟨rfl, k⟩
                have K := Lib.hid (K.out.trans k)
                have R0 := Lib.hid (R0.out.kept k)
                have R1 := Lib.hid (R1.out.kept k)
                have M := Lib.hid (M.out.kept k)
                clear k
                have K := Lib.hid (K.out.trans (kept_alloc w32 (.cells #[.string x2, .string y2, .bool m2] 37)))
                have R0 := Lib.hid (R0.out.kept (kept_alloc w32 (.cells #[.string x2, .string y2, .bool m2] 37)))
                have R1 := Lib.hid (R1.out.kept (kept_alloc w32 (.cells #[.string x2, .string y2, .bool m2] 37)))
                have M := Lib.hid (M.out.kept (kept_alloc w32 (.cells #[.string x2, .string y2, .bool m2] 37)))
                go_wp2_with fail
                obtain ⟨W0, hW0⟩ : ∃ W, w32.alloc (.cells #[.string x2, .string y2, .bool m2] 37) = W := ⟨_, rfl⟩
                have hz0 : W0.heap.size = w32.heap.size + 1 := by rw [← hW0, World.size_alloc]
                rw [hW0] at K R0 R1 M ⊢
                clear hW0
                have AL := Lib.hid (lit_tri_at W0 W0.heap.size bNo bNo true 64 (by decide) (by decide) rfl)
                have K := Lib.hid (K.out.trans (kept_alloc W0 (.cells #[.string bNo, .string bNo, .bool true] 64)))
                have R0 := Lib.hid (R0.out.kept (kept_alloc W0 (.cells #[.string bNo, .string bNo, .bool true] 64)))
                have R1 := Lib.hid (R1.out.kept (kept_alloc W0 (.cells #[.string bNo, .string bNo, .bool true] 64)))
                have M := Lib.hid (M.out.kept (kept_alloc W0 (.cells #[.string bNo, .string bNo, .bool true] 64)))
                rw [hz0] at AL
                clear hz0
                refine (worstR (l := kAll) AL.out R0.out W3.out B3.out).mono ?_
                rintro e w33 ⟨rfl, k⟩
                have K := Lib.hid (K.out.trans k)
                have R0 := Lib.hid (R0.out.kept k)
                have R1 := Lib.hid (R1.out.kept k)
                have M := Lib.hid (M.out.kept k)
                have AL := Lib.hid (AL.out.kept k)
                clear k
                have K := Lib.hid (K.out.trans (kept_alloc w33 (.cells #[.string bNo, .string bNo, .bool false] 37)))
                have R0 := Lib.hid (R0.out.kept (kept_alloc w33 (.cells #[.string bNo, .string bNo, .bool false] 37)))
                have R1 := Lib.hid (R1.out.kept (kept_alloc w33 (.cells #[.string bNo, .string bNo, .bool false] 37)))
                have M := Lib.hid (M.out.kept (kept_alloc w33 (.cells #[.string bNo, .string bNo, .bool false] 37)))
                have AL := Lib.hid (AL.out.kept (kept_alloc w33 (.cells #[.string bNo, .string bNo, .bool false] 37)))
                cases sa with
                | true =>
                  go_wp2_with fail
                  refine (softR M.out R0.out S2.out).mono ?_
                  rintro e w34 ⟨rfl, k⟩
                  have K := Lib.hid (K.out.trans k)
                  have R0 := Lib.hid (R0.out.kept k)
                  have R1 := Lib.hid (R1.out.kept k)
                  have M := Lib.hid (M.out.kept k)
                  have AL := Lib.hid (AL.out.kept k)
                  clear k
                  go_wp2_with fail
                  refine (softR R1.out R0.out S1.out).mono ?_
                  rintro e w35 ⟨rfl, k⟩
                  have K := Lib.hid (K.out.trans k)
                  have R0 := Lib.hid (R0.out.kept k)
                  have R1 := Lib.hid (R1.out.kept k)
                  have M := Lib.hid (M.out.kept k)
                  have AL := Lib.hid (AL.out.kept k)
                  clear k
                  go_wp2_with fail
                  refine (softR (l := kAll) (n := 0) AL.out R0.out S3.out).mono ?_
                  rintro e w36 ⟨rfl, k⟩
                  have K := Lib.hid (K.out.trans k)
                  have R0 := Lib.hid (R0.out.kept k)
                  have R1 := Lib.hid (R1.out.kept k)
                  have M := Lib.hid (M.out.kept k)
                  have AL := Lib.hid (AL.out.kept k)
                  clear k
                  go_wp2
                  go_ret
                  exact ⟨rfl, K.out⟩
                | false =>
                  have hsb : sb = false := by
                    cases sb
                    · rfl
                    · exact absurd (himp rfl) (by decide)
                  subst hsb
                  go_wp2_with fail
                  refine (softR M.out R0.out S2.out).mono ?_
                  rintro e w34 ⟨rfl, k⟩
                  have K := Lib.hid (K.out.trans k)
                  have R0 := Lib.hid (R0.out.kept k)
                  have R1 := Lib.hid (R1.out.kept k)
                  have M := Lib.hid (M.out.kept k)
                  have AL := Lib.hid (AL.out.kept k)
                  clear k
                  go_wp2_with fail
                  refine (softR R1.out R0.out S1.out).mono ?_
                  rintro e w35 ⟨rfl, k⟩
                  have K := Lib.hid (K.out.trans k)
                  have R0 := Lib.hid (R0.out.kept k)
                  have R1 := Lib.hid (R1.out.kept k)
                  have M := Lib.hid (M.out.kept k)
                  have AL := Lib.hid (AL.out.kept k)
                  clear k
                  go_wp2_with fail
                  refine (softR (l := kAll) (n := 0) AL.out R0.out S3.out).mono ?_
                  rintro e w36 ⟨rfl, k⟩
                  have K := Lib.hid (K.out.trans k)
                  have R0 := Lib.hid (R0.out.kept k)
                  have R1 := Lib.hid (R1.out.kept k)
                  have M := Lib.hid (M.out.kept k)
                  have AL := Lib.hid (AL.out.kept k)
                  clear k
                  go_wp2
                  go_ret
                  exact ⟨rfl, K.out⟩
          · obtain ⟨z, hz⟩ : ∃ z, chkO (l ++ [(x, y, m)]) = z := ⟨_, rfl⟩
            have c2 := Lib.hid hz
            have hz' : (z != 0) = true := by rw [← hz]; simpa using g4
            clear hz g4
            go_wp2_with fail
            refine (fewAR R0.out).mono ?_
            rintro e w10 ⟨rfl, rfl⟩
            go_wp2_with fail
            refine (fewOR M.out).mono ?_
            rintro e w11 ⟨rfl, rfl⟩
            go_wp2_with fail
            refine (ofAR R0.out f1.out).mono ?_
            rintro e w12 ⟨vx, rfl, r, k⟩
            have K := Lib.hid (K.out.trans k)
            have R0 := Lib.hid (R0.out.kept k)
            have R1 := Lib.hid (R1.out.kept k)
            have M := Lib.hid (M.out.kept k)
            have X := Lib.hid r
            clear r
            clear k
            go_wp2_with fail
            refine (refCheckAR X.out c1.out).mono ?_
            rintro e w13 ⟨rfl, k⟩
            have K := Lib.hid (K.out.trans k)
            have R0 := Lib.hid (R0.out.kept k)
            have R1 := Lib.hid (R1.out.kept k)
            have M := Lib.hid (M.out.kept k)
            have X := Lib.hid (X.out.kept k)
            clear k
            go_wp2_with fail
            refine (ofOR M.out f2.out).mono ?_
            rintro e w14 ⟨vy, rfl, r, k⟩
            have K := Lib.hid (K.out.trans k)
            have R0 := Lib.hid (R0.out.kept k)
            have R1 := Lib.hid (R1.out.kept k)
            have M := Lib.hid (M.out.kept k)
            have X := Lib.hid (X.out.kept k)
            have Y := Lib.hid r
            clear r
            clear k
            go_wp2_with fail
            refine (refCheckOR Y.out c2.out).mono ?_
            rintro e w15 ⟨rfl, k⟩
            have K := Lib.hid (K.out.trans k)
            have R0 := Lib.hid (R0.out.kept k)
            have R1 := Lib.hid (R1.out.kept k)
            have M := Lib.hid (M.out.kept k)
            have X := Lib.hid (X.out.kept k)
            have Y := Lib.hid (Y.out.kept k)
            clear k
            go_wp2
            go_ret
            exact ⟨rfl, K.out⟩
        · obtain ⟨z, hz⟩ : ∃ z, chkA t = z := ⟨_, rfl⟩
          have c1 := Lib.hid hz
          have hz' : (z != 0) = true := by rw [← hz]; simpa using g3
          clear hz g3
          go_wp2_with fail
          refine (fewAR R0.out).mono ?_
          rintro e w10 ⟨rfl, rfl⟩
          go_wp2_with fail
          refine (fewOR M.out).mono ?_
          rintro e w11 ⟨rfl, rfl⟩
          go_wp2_with fail
          refine (ofAR R0.out f1.out).mono ?_
          rintro e w12 ⟨vx, rfl, r, k⟩
          have K := Lib.hid (K.out.trans k)
          have R0 := Lib.hid (R0.out.kept k)
          have R1 := Lib.hid (R1.out.kept k)
          have M := Lib.hid (M.out.kept k)
          have X := Lib.hid r
          clear r
          clear k
          go_wp2_with fail
          refine (refCheckAR X.out c1.out).mono ?_
          rintro e w13 ⟨rfl, k⟩
          have K := Lib.hid (K.out.trans k)
          have R0 := Lib.hid (R0.out.kept k)
          have R1 := Lib.hid (R1.out.kept k)
          have M := Lib.hid (M.out.kept k)
          have X := Lib.hid (X.out.kept k)
          clear k
          go_wp2
          go_ret
          exact ⟨rfl, K.out⟩
      · have g2 : fewN (l ++ [(x, y, m)]) = false := by simpa using g2
        go_wp2_with fail
        refine (fewAR R0.out).mono ?_
        rintro e w10 ⟨rfl, rfl⟩
        go_wp2_with fail
        refine (fewOR M.out).mono ?_
        rintro e w11 ⟨rfl, rfl⟩
        go_wp2
        go_ret
        exact ⟨rfl, K.out⟩
    · have g1 : fewN t = false := by simpa using g1
      go_wp2_with fail
      refine (fewAR R0.out).mono ?_
      rintro e w10 ⟨rfl, rfl⟩
      go_wp2
      go_ret
      exact ⟨rfl, K.out⟩


end Go.Proofs.YthlhaefaafjmlaaDoor
