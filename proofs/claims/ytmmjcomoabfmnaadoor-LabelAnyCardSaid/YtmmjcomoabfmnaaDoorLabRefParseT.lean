/- The reference's ParseSel. -/
import Derived.Test.YtmmjcomoabfmnaaDoorLabRefSigns
import Derived.Test.YtmmjcomoabfmnaaDoorLabRefParseP
namespace Go.Proofs.YtmmjcomoabfmnaaDoor
open Go.RowKit
set_option linter.unusedVariables false

theorem prefix_cons (b : UInt8) (t : List UInt8) : Lib.hasPrefix (b :: t) [45] = (b == 45) := by
  unfold Lib.hasPrefix
  simp only [List.isPrefixOf, Bool.and_true]
  exact Bool.beq_comm
set_option maxRecDepth 100000 in
set_option maxHeartbeats 4000000 in
theorem refParseSel_any (s : List UInt8) (w : World) (hs : s.length ≤ 1000) :
    Calls Tryd.prog 30 #[.string (bytes s)] w (Got TermLay (parsedT s).1 (parsedT s).2 w) := by
  have HFULL := Lib.hid (show fullG termBad termL chkL s = parsedT s from full_parsed chkL_long s)
  by_cases hd : s = [45]
  · subst hd
    have e : ((bytes [45]).toList == [45]) = true := by rw [bytes_toList]; rfl
    go_enter Tryd.func30, Tryd.ntmps30
    go_wp2
    go_ret2
    exact ⟨_, rfl, Reads.nil _, Kept.refl _⟩
  · have e : ((bytes s).toList == [45]) = false := by rw [bytes_toList]; simpa using hd
    have HD := Lib.hid hd
    obtain ⟨i0, hi, hz0, hz1, hz2'⟩ := info_parts refInfoT
    clear hd
    go_enter Tryd.func30, Tryd.ntmps30
    go_wp2_with fail
    refine (splitR 44 s _ (by omega) rfl).mono ?_
    rintro e1 w1 ⟨v, rfl, r, k1⟩
    have K1 := Lib.hid k1
    obtain ⟨a4, c4, rfl, hc4, hm4, q4⟩ := r.at_
    clear r
    have Q4 := Lib.hid q4
    obtain ⟨n, hn⟩ : ∃ n, (splitB 44 s).length = n := ⟨_, rfl⟩
    have hn1 : n ≤ 1001 := by have := splitB_len 44 s; omega
    have HN := Lib.hid hn
    rw [hn] at Q4 ⊢
    have HPS := Lib.hid (show (partsOf s).length = n by rw [← hn]; unfold splitB; rw [List.length_map, partsAt_comma])
    clear k1 q4 hn hc4 hm4
    go_wp2
    go_loopw [5, 6] (fun v i wr => ∃ k : Nat, k ≤ n ∧ i = .int .i64 k ∧ Own TermLay 67 wr w1.heap.size v ((((partsOf s).take k).map termL)) ∧ (∀ p ∈ (partsOf s).take k, termBad p = false) ∧ Kept w1 wr) (fun _ i _ => n - (intOf i).toNat)
    case atStart => exact ⟨0, Nat.zero_le _, rfl, Own.nil _ _ _, by simp, Kept.refl _⟩
    case round =>
      obtain ⟨k, hk, rfl, ho, hgood, hB⟩ := hrel
      have HO := Lib.hid ho
      have HB := Lib.hid hB
      have HG := Lib.hid hgood
      have KW := Lib.hid (show Below w.heap.size w wr from K1.out.trans hB)
      by_cases hlt : k < n
      · obtain ⟨b4, o4, rfl⟩ : ∃ b off, a4 = some ⟨b, off, none⟩ := by
          rcases Q4.out.form with h | h
          · omega
          · exact h
        obtain ⟨x, hx, hd, hb, hz, c1⟩ := (Q4.out.kept hB).str hlt
        obtain ⟨p, hp, rfl⟩ : ∃ p, (partsOf s)[k]? = some p ∧ bytes p = x := by
          unfold splitB at hx
          rw [List.getElem?_map, partsAt_comma] at hx
          cases hpk : (partsOf s)[k]? with
          | none => rw [hpk] at hx; cases hx
          | some p => rw [hpk] at hx; exact ⟨p, rfl, by simpa using hx⟩
        have HP := Lib.hid hp
        have hpl : p.length ≤ 1000 := Nat.le_trans (part_len s p (List.mem_of_getElem? hp)) hs
        have hpl6 : p.length ≤ 1000000 := by omega
        have HSG := Lib.hid (signs_any p wr hpl6)
        have HT := Lib.hid (show ((((partsOf s).take k).map termL)).length = k by rw [List.length_map, List.length_take, HPS.out]; omega)
        have HOWN := Lib.hid (show wr.ownsRow w1.heap.size 67 3 u5 k (rowCells TermLay (((partsOf s).take k).map termL)) by have := HO.out.1; rw [HT.out] at this; exact this)
        have hbs : w1.heap.size ≤ wr.heap.size := hB.size
        have hsz : (bytes p).size = p.length := bytes_size p
        clear ho hgood hB hx hd hz hp
        by_cases hp0 : p = []
        · have e0 : ((bytes p).toList == ([] : List UInt8)) = true := by rw [bytes_toList, hp0]; rfl
          have HBAD := Lib.hid (show termBad p = true by rw [hp0]; rfl)
          clear hp0
          have HV := Lib.hid (show parsedT s = (2, []) by
            rw [← HFULL.out]; unfold fullG
            rw [if_neg HD.out, if_pos (by rw [List.any_eq_true]; exact ⟨p, List.mem_of_getElem? HP.out, HBAD.out⟩)])
          go_wp2_with (go_at_call 49; refine HSG.out.mono ?_; rintro e2 w2 ⟨rfl, rfl⟩)
          go_ret2
          exact ⟨_, by rw [HV.out]; rfl, by rw [HV.out]; exact Reads.nil _, KW.out⟩
        · have e0 : ((bytes p).toList == ([] : List UInt8)) = false := by rw [bytes_toList]; simpa using hp0
          have HNE := Lib.hid (show decide (p = []) = false by simpa using hp0)
          obtain ⟨b, t, hbt⟩ : ∃ b t, p = b :: t := by
            cases p with
            | nil => exact absurd rfl hp0
            | cons b t => exact ⟨b, t, rfl⟩
          have hlen0 : 0 < p.length := by rw [hbt]; simp
          have hlen0' : 0 < (bytes p).size := by omega
          have hb0 : (bytes p)[0] = b := by rw [bytes_at p 0 hlen0 hlen0']; simp [hbt]
          have HPRE := Lib.hid (show Lib.hasPrefix p [45] = (b == 45) by rw [hbt]; exact prefix_cons b t)
          have HTAIL := Lib.hid (show p.drop 1 = t by rw [hbt]; rfl)
          clear hp0 hbt
          obtain ⟨N, hN⟩ : ∃ N, signsL p = N := ⟨_, rfl⟩
          have HSN := Lib.hid hN
          rw [hN] at HSG
          obtain ⟨a, ha⟩ : ∃ a, atK p 0 = a := ⟨_, rfl⟩
          have HAT := Lib.hid ha
          rw [ha] at HSG
          clear hN ha
          by_cases h2 : 2 ≤ N
          · have h2' : (1 : Int) < (N : Int) := by omega
            have HBAD := Lib.hid (show termBad p = true by unfold termBad; rw [HSN.out, decide_eq_true (show 1 < N by omega)]; simp)
            clear hb0
            have HV := Lib.hid (show parsedT s = (2, []) by
              rw [← HFULL.out]; unfold fullG
              rw [if_neg HD.out, if_pos (by rw [List.any_eq_true]; exact ⟨p, List.mem_of_getElem? HP.out, HBAD.out⟩)])
            go_wp2_with (go_at_call 49; refine HSG.out.mono ?_; rintro e2 w2 ⟨rfl, rfl⟩)
            go_ret2
            exact ⟨_, by rw [HV.out]; rfl, by rw [HV.out]; exact Reads.nil _, KW.out⟩
          · by_cases hb : b = 45
            · have e45 : (((bytes p)[0].toNat : Int) == 45) = true := by rw [hb0]; exact byte_yes hb
              have HPT := Lib.hid (show Lib.hasPrefix p [45] = true by rw [HPRE.out, hb]; rfl)
              by_cases h1 : N = 1
              · subst h1
                have HBAD := Lib.hid (show termBad p = true by unfold termBad; rw [HSN.out, HPT.out]; simp)
                clear hb0 hb
                have HV := Lib.hid (show parsedT s = (2, []) by
                  rw [← HFULL.out]; unfold fullG
                  rw [if_neg HD.out, if_pos (by rw [List.any_eq_true]; exact ⟨p, List.mem_of_getElem? HP.out, HBAD.out⟩)])
                go_wp2_with (go_at_call 49; refine HSG.out.mono ?_; rintro e2 w2 ⟨rfl, rfl⟩)
                go_ret2
                exact ⟨_, by rw [HV.out]; rfl, by rw [HV.out]; exact Reads.nil _, KW.out⟩
              · have h0 : N = 0 := by omega
                subst h0
                have HBAD := Lib.hid (show termBad p = false by unfold termBad; rw [HSN.out, HNE.out]; rfl)
                have HTL := Lib.hid (show termL p = (4, bytes t, ⟨#[]⟩) by
                  unfold termL; rw [if_pos HPT.out]; unfold Lib.trimPrefix; rw [if_pos HPT.out]
                  have : p.drop [(45 : UInt8)].length = t := HTAIL.out
                  rw [this]; rfl)
                have hex : (bytes p).extract 1 p.length = bytes t := by rw [bytes_from, HTAIL.out]
                have hle1 : (1 : Int) ≤ ((bytes p).size : Int) := by omega
                clear hb0 hb h1 h2
                go_wp2_with (first | (go_at_call 49; refine HSG.out.mono ?_; rintro e2 w2 ⟨rfl, rfl⟩) | (at_builtin; refine wpList_append_lies _ rfl (.tmp 64) (.tmp 68) _ rfl w1.heap.size 67 i0 _ 3 40 Tryd.underlying31 hi hz0 hz1 hz2' rfl (by decide) u5 k (rowCells TermLay (((partsOf s).take k).map termL)) rfl (HOWN.out.alloc _) ⟨wr.heap.size, 0, none⟩ 1 1 [.int .i64 4, .string (bytes t), .string ⟨#[]⟩] rfl rfl (World.news_of_block (cs := #[.int .i64 4, .string (bytes t), .string ⟨#[]⟩]) (t := 67) (fr := (0, 0)) (wr.alloc_heap_new _)) (one_iss _ _ _) (by decide) (by unfold maxLen; omega) (by omega) (by rw [World.size_alloc]; omega) (wr.heap.size + 1) (World.size_alloc _ _) ?_; intro gg cap1 w21 hown1 hgrow hg hlt1; have HOWN1 := Lib.hid hown1; have K21 := Lib.hid ((HB.out.trans (kept_alloc wr (.cells #[.int .i64 4, .string (bytes t), .string ⟨#[]⟩] 67))).grown hgrow (by rw [World.size_alloc]; omega) (fun k hk => (HOWN.out.lt k hk).1)); clear hown1 hgrow hg hlt1))
                go_roundw
                case rel =>
                  refine ⟨k + 1, by omega, by go_num, ?_, next_good HG.out HP.out HBAD.out, K21.out⟩
                  rw [take_snoc HP.out, List.map_append]
                  exact Own.snoc (x := termL p) (by rw [HTL.out]; exact HOWN1.out) (by rw [HT.out]) HO.out.2 (termL_fine hpl6)
                case measure => simp [intOf]; omega
            · have e45 : (((bytes p)[0].toNat : Int) == 45) = false := by rw [hb0]; exact byte_no hb
              have HPT := Lib.hid (show Lib.hasPrefix p [45] = false by rw [HPRE.out]; simpa using hb)
              by_cases h0 : N = 0
              · subst h0
                have HBAD := Lib.hid (show termBad p = false by unfold termBad; rw [HSN.out, HNE.out]; rfl)
                have HTL := Lib.hid (show termL p = (3, bytes p, ⟨#[]⟩) by
                  unfold termL; rw [if_neg (by rw [HPT.out]; decide), if_pos HSN.out]; rfl)
                clear hb0 hb h2
                go_wp2_with (first | (go_at_call 49; refine HSG.out.mono ?_; rintro e2 w2 ⟨rfl, rfl⟩) | (at_builtin; refine wpList_append_lies _ rfl (.tmp 73) (.tmp 76) _ rfl w1.heap.size 67 i0 _ 3 40 Tryd.underlying31 hi hz0 hz1 hz2' rfl (by decide) u5 k (rowCells TermLay (((partsOf s).take k).map termL)) rfl (HOWN.out.alloc _) ⟨wr.heap.size, 0, none⟩ 1 1 [.int .i64 3, .string (bytes p), .string ⟨#[]⟩] rfl rfl (World.news_of_block (cs := #[.int .i64 3, .string (bytes p), .string ⟨#[]⟩]) (t := 67) (fr := (0, 0)) (wr.alloc_heap_new _)) (one_iss _ _ _) (by decide) (by unfold maxLen; omega) (by omega) (by rw [World.size_alloc]; omega) (wr.heap.size + 1) (World.size_alloc _ _) ?_; intro gg cap1 w21 hown1 hgrow hg hlt1; have HOWN1 := Lib.hid hown1; have K21 := Lib.hid ((HB.out.trans (kept_alloc wr (.cells #[.int .i64 3, .string (bytes p), .string ⟨#[]⟩] 67))).grown hgrow (by rw [World.size_alloc]; omega) (fun k hk => (HOWN.out.lt k hk).1)); clear hown1 hgrow hg hlt1))
                go_roundw
                case rel =>
                  refine ⟨k + 1, by omega, by go_num, ?_, next_good HG.out HP.out HBAD.out, K21.out⟩
                  rw [take_snoc HP.out, List.map_append]
                  exact Own.snoc (x := termL p) (by rw [HTL.out]; exact HOWN1.out) (by rw [HT.out]) HO.out.2 (termL_fine hpl6)
                case measure => simp [intOf]; omega
              · obtain rfl : N = 1 := by omega
                have HBAD := Lib.hid (show termBad p = false by unfold termBad; rw [HSN.out, HNE.out, HPT.out]; rfl)
                have haf : a = firstS p := by rw [← HAT.out]; unfold atK; rw [List.drop_zero, if_neg (by rw [HSN.out]; decide)]; omega
                have hal : a < p.length := by rw [haf]; exact first_lt (by rw [HSN.out]; decide)
                have hal' : a < (bytes p).size := by omega
                have hba : (bytes p)[a] = p[a] := bytes_at p a hal hal'
                have hag : p[a]? = some p[a] := List.getElem?_eq_getElem hal
                have HT1 := Lib.hid (term_one HSN.out HPT.out)
                rw [← haf, hag] at HT1
                have hx1 : (bytes p).extract 0 a = bytes (p.take a) := bytes_upto p a
                have hx2 : (bytes p).extract (a + 1) p.length = bytes (p.drop (a + 1)) := bytes_from p (a + 1)
                have ha1 : (a : Int) + 1 ≤ (p.length : Int) := by omega
                have ha2 : ((a : Int) + 1).toNat = a + 1 := by omega
                have ha3 : (a : Int) ≤ (p.length : Int) := by omega
                have ha4 : (a : Int) < (p.length : Int) := by omega
                clear hb0 hb h2 h0 haf hag
                by_cases h58 : p[a] = 58
                · have e58 : (((bytes p)[a].toNat : Int) == 58) = true := by rw [hba]; exact byte_yes h58
                  have HTL := Lib.hid (show termL p = (1, bytes (p.take a), bytes (p.drop (a + 1))) by rw [HT1.out, if_pos (by rw [h58])])
                  clear hba h58
                  obtain ⟨q, hq⟩ : ∃ q : Nat, q = a + 1 := ⟨_, rfl⟩
                  have q1 : (a : Int) + 1 = (q : Int) := by omega
                  have q2 : IntKind.i64.wrap (q : Int) = (q : Int) := by rw [IntKind.wrap_i64]; omega
                  have q3 : (q : Int) ≤ (p.length : Int) := by omega
                  have q4 : (q : Int) ≤ ((bytes p).size : Int) := by omega
                  have q5 : (a : Int) ≤ ((bytes p).size : Int) := by omega
                  have q6 : (bytes p).extract q p.length = bytes (p.drop (a + 1)) := by rw [hq]; exact hx2
                  clear hq hx2 ha1 ha2
                  go_wp2_with (go_at_call 49; refine HSG.out.mono ?_; rintro e2 w2 ⟨rfl, rfl⟩)
                  go_region_held3 (fun W => True) (trivial)
                    ((refine step_append_lies _ (by rfl) _ _ _ (by rfl) w1.heap.size 67 i0 _ 3 40 Tryd.underlying31 hi hz0 hz1 hz2' rfl (by decide) u5 k (rowCells TermLay (((partsOf s).take k).map termL)) (by rfl) ((HOWN.out.alloc _).drew) ⟨wr.heap.size, 0, none⟩ 1 1 [.int .i64 1, .string (bytes (p.take a)), .string (bytes (p.drop (a + 1)))] (by rfl) (by rfl) (World.news_of_block (cs := #[.int .i64 1, .string (bytes (p.take a)), .string (bytes (p.drop (a + 1)))]) (t := 67) (fr := (0, 0)) (heap_alloc_new wr _)) (one_iss _ _ _) (by decide) (by unfold maxLen; omega) (by omega) (by simp; omega) (wr.heap.size + 1) (by simp) ?_; intro gg cap1 w3 hown1 hgrow hat hlt1))
                  all_goals
                    go_wp2
                    go_roundw
                    case rel =>
                      refine ⟨k + 1, by omega, by go_num, ?_, next_good HG.out HP.out HBAD.out, (HB.out.trans ((kept_alloc wr (.cells #[.int .i64 1, .string (bytes (p.take a)), .string (bytes (p.drop (a + 1)))] 67)).trans (Kept.drewN _ 1))).grown hgrow (by simp; omega) (fun j hj => (HOWN.out.lt j hj).1)⟩
                      rw [take_snoc HP.out, List.map_append]
                      exact Own.snoc (x := termL p) (by rw [HTL.out]; exact hown1) (by rw [HT.out]) HO.out.2 (termL_fine hpl6)
                    case measure => simp [intOf]; omega
                · have e58 : (((bytes p)[a].toNat : Int) == 58) = false := by rw [hba]; exact byte_no h58
                  have HTL := Lib.hid (show termL p = (2, bytes (p.take a), bytes (p.drop (a + 1))) by rw [HT1.out, if_neg (by simpa using h58)])
                  clear hba h58
                  obtain ⟨q, hq⟩ : ∃ q : Nat, q = a + 1 := ⟨_, rfl⟩
                  have q1 : (a : Int) + 1 = (q : Int) := by omega
                  have q2 : IntKind.i64.wrap (q : Int) = (q : Int) := by rw [IntKind.wrap_i64]; omega
                  have q3 : (q : Int) ≤ (p.length : Int) := by omega
                  have q4 : (q : Int) ≤ ((bytes p).size : Int) := by omega
                  have q5 : (a : Int) ≤ ((bytes p).size : Int) := by omega
                  have q6 : (bytes p).extract q p.length = bytes (p.drop (a + 1)) := by rw [hq]; exact hx2
                  clear hq hx2 ha1 ha2
                  go_wp2_with (go_at_call 49; refine HSG.out.mono ?_; rintro e2 w2 ⟨rfl, rfl⟩)
                  go_region_held3 (fun W => True) (trivial)
                    ((refine step_append_lies _ (by rfl) _ _ _ (by rfl) w1.heap.size 67 i0 _ 3 40 Tryd.underlying31 hi hz0 hz1 hz2' rfl (by decide) u5 k (rowCells TermLay (((partsOf s).take k).map termL)) (by rfl) ((HOWN.out.alloc _).drew) ⟨wr.heap.size, 0, none⟩ 1 1 [.int .i64 2, .string (bytes (p.take a)), .string (bytes (p.drop (a + 1)))] (by rfl) (by rfl) (World.news_of_block (cs := #[.int .i64 2, .string (bytes (p.take a)), .string (bytes (p.drop (a + 1)))]) (t := 67) (fr := (0, 0)) (heap_alloc_new wr _)) (one_iss _ _ _) (by decide) (by unfold maxLen; omega) (by omega) (by simp; omega) (wr.heap.size + 1) (by simp) ?_; intro gg cap1 w3 hown1 hgrow hat hlt1))
                  all_goals
                    go_wp2
                    go_roundw
                    case rel =>
                      refine ⟨k + 1, by omega, by go_num, ?_, next_good HG.out HP.out HBAD.out, (HB.out.trans ((kept_alloc wr (.cells #[.int .i64 2, .string (bytes (p.take a)), .string (bytes (p.drop (a + 1)))] 67)).trans (Kept.drewN _ 1))).grown hgrow (by simp; omega) (fun j hj => (HOWN.out.lt j hj).1)⟩
                      rw [take_snoc HP.out, List.map_append]
                      exact Own.snoc (x := termL p) (by rw [HTL.out]; exact hown1) (by rw [HT.out]) HO.out.2 (termL_fine hpl6)
                    case measure => simp [intOf]; omega
      · have HK := Lib.hid (show (partsOf s).take k = partsOf s from List.take_of_length_le (by rw [HPS.out]; omega))
        have ho' := ho
        rw [HK.out] at ho' hgood
        have HANY := Lib.hid (show (partsOf s).any termBad = false by
          rw [List.any_eq_false]
          intro p hp
          rw [hgood p hp]; decide)
        obtain ⟨av, cv, rfl, h1, h2, h3⟩ := ho'.at_
        have HO' := Lib.hid ho'
        have HCHK := Lib.hid (refCheckSel_any av _ cv _ wr h3)
        obtain ⟨L, hL⟩ : ∃ L, (partsOf s).map termL = L := ⟨_, rfl⟩
        rw [hL] at HCHK HO' ⊢
        clear ho ho' hgood hB h1 h2 h3
        by_cases hc : chkL L = 0
        · have HV := Lib.hid (show parsedT s = (0, L) by rw [← HFULL.out]; unfold fullG; rw [if_neg HD.out, if_neg (by rw [HANY.out]; decide), hL, if_neg (by rw [hc]; decide)])
          have hc' : (chkL L != 0) = false := by simpa using hc
          clear hc hL
          go_wp2_with fail
          refine HCHK.out.mono ?_
          rintro e2 w2 ⟨rfl, k2⟩
          have K2 := Lib.hid k2
          clear k2
          go_wp2
          go_ret2
          exact ⟨.slice av L.length cv, by simp [HV.out], by rw [HV.out]; exact (HO'.out.kept K2.out).reads, KW.out.trans (Below.mono K2.out KW.out.size)⟩
        · have HV := Lib.hid (show parsedT s = (chkL L, []) by rw [← HFULL.out]; unfold fullG; rw [if_neg HD.out, if_neg (by rw [HANY.out]; decide), hL, if_pos hc])
          have hc' : (chkL L != 0) = true := by simpa using hc
          clear hc hL
          go_wp2_with fail
          refine HCHK.out.mono ?_
          rintro e2 w2 ⟨rfl, k2⟩
          have K2 := Lib.hid k2
          clear k2
          go_wp2
          go_ret2
          exact ⟨.slice none 0 0, by simp [HV.out], by rw [HV.out]; exact Reads.nil _, KW.out.trans (Below.mono K2.out KW.out.size)⟩

end Go.Proofs.YtmmjcomoabfmnaaDoor
