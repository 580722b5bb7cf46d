/- The reference's ParseSet. -/
import Derived.Test.YtmmjcomoabfmnaaDoorLabRefMath
import Derived.Test.YtmmjcomoabfmnaaDoorLabOf
namespace Go.Proofs.YtmmjcomoabfmnaaDoor
open Go.RowKit
set_option linter.unusedVariables false

set_option maxRecDepth 100000 in
set_option maxHeartbeats 4000000 in
theorem refParseSet_any (s : List UInt8) (w : World) (hs : s.length ≤ 1000) :
    Calls Tryd.prog 29 #[.string (bytes s)] w (Got PairLay (parsedP s).1 (parsedP s).2 w) := by
  have HFULL := Lib.hid (show fullG pairBad pairL chkS s = parsedP s from full_parsed chkS_long s)
  by_cases hd : s = [45]
  · subst hd
    have e : ((bytes [45]).toList == [45]) = true := by rw [bytes_toList]; rfl
    go_enter Tryd.func29, Tryd.ntmps29
    go_wp2
    go_ret2
    exact ⟨_, rfl, Reads.nil _, Kept.refl _⟩
  · have e : ((bytes s).toList == [45]) = false := by rw [bytes_toList]; simpa using hd
    have HD := Lib.hid hd
    obtain ⟨i0, hi, hz0, hz1, hz2'⟩ := info_parts refInfoP
    clear hd
    go_enter Tryd.func29, Tryd.ntmps29
    go_wp2_with fail
    refine (splitR 44 s _ (by omega) rfl).mono ?_
    rintro e1 w1 ⟨v, rfl, r, k1⟩
    have K1 := Lib.hid k1
    obtain ⟨a4, c4, rfl, hc4, hm4, q4⟩ := r.at_
    clear r
    have Q4 := Lib.hid q4
    obtain ⟨n, hn⟩ : ∃ n, (splitB 44 s).length = n := ⟨_, rfl⟩
    have hn1 : n ≤ 1001 := by have := splitB_len 44 s; omega
    have HN := Lib.hid hn
    rw [hn] at Q4 ⊢
    have HPS := Lib.hid (show (partsOf s).length = n by rw [← hn]; unfold splitB; rw [List.length_map, partsAt_comma])
    clear k1 q4 hn hc4 hm4
    go_wp2
    go_loopw [5, 6] (fun v i wr => ∃ k : Nat, k ≤ n ∧ i = .int .i64 k ∧ Own PairLay 66 wr w1.heap.size v ((((partsOf s).take k).map pairL)) ∧ (∀ p ∈ (partsOf s).take k, pairBad p = false) ∧ Kept w1 wr) (fun _ i _ => n - (intOf i).toNat)
    case atStart => exact ⟨0, Nat.zero_le _, rfl, Own.nil _ _ _, by simp, Kept.refl _⟩
    case round =>
      obtain ⟨k, hk, rfl, ho, hgood, hB⟩ := hrel
      have HO := Lib.hid ho
      have HB := Lib.hid hB
      have HG := Lib.hid hgood
      have KW := Lib.hid (show Below w.heap.size w wr from K1.out.trans hB)
      by_cases hlt : k < n
      · obtain ⟨b4, o4, rfl⟩ : ∃ b off, a4 = some ⟨b, off, none⟩ := by
          rcases Q4.out.form with h | h
          · omega
          · exact h
        obtain ⟨x, hx, hd, hb, hz, c1⟩ := (Q4.out.kept hB).str hlt
        obtain ⟨p, hp, rfl⟩ : ∃ p, (partsOf s)[k]? = some p ∧ bytes p = x := by
          unfold splitB at hx
          rw [List.getElem?_map, partsAt_comma] at hx
          cases hpk : (partsOf s)[k]? with
          | none => rw [hpk] at hx; cases hx
          | some p => rw [hpk] at hx; exact ⟨p, rfl, by simpa using hx⟩
        have HP := Lib.hid hp
        have hpl : p.length ≤ 1000 := Nat.le_trans (part_len s p (List.mem_of_getElem? hp)) hs
        clear ho hgood hB hx hd hz hp
        go_wp2_with fail
        refine (splitR 58 p _ (by omega) rfl).mono ?_
        rintro e2 w2 ⟨v2, rfl, r2, k2⟩
        have R2 := Lib.hid r2
        obtain ⟨a5, c5, rfl, hc5, hm5, q5⟩ := r2.at_
        have HOLD := Lib.hid HO.out
        clear r2
        have HO := Lib.hid (HO.out.kept k2)
        have KW := Lib.hid (KW.out.trans (Below.mono k2 KW.out.size))
        have HB := Lib.hid (HB.out.trans k2)
        clear k2
        by_cases hbad : pairBad p = false
        · have HBAD := Lib.hid hbad
          have hsp : splitB 58 p = [(pairL p).1, (pairL p).2] := by unfold splitB; rw [pair_parts p hbad]; rfl
          rw [hsp] at q5 ⊢
          obtain ⟨x, y, hxy⟩ : ∃ x y, pairL p = (x, y) := ⟨_, _, rfl⟩
          have HXY := Lib.hid hxy
          rw [hxy] at q5 ⊢
          obtain ⟨b5, o5, rfl⟩ : ∃ b off, a5 = some ⟨b, off, none⟩ := by
            rcases q5.form with h | h
            · cases h
            · exact h
          obtain ⟨x', hx', _, hb5, hzx, d1⟩ := q5.str (show 0 < 2 by decide)
          obtain rfl : x = x' := by simpa using hx'
          obtain ⟨y', hy', _, _, hzy, d2⟩ := q5.str (show 1 < 2 by decide)
          obtain rfl : y = y' := by simpa using hy'
          have d1 : w2.cell? ⟨b5, o5, none⟩ = some (.string x) := d1
          have HT := Lib.hid (show ((((partsOf s).take k).map pairL)).length = k by rw [List.length_map, List.length_take, HPS.out]; omega)
          have HOWN := Lib.hid (show w2.ownsRow w1.heap.size 66 2 u5 k (rowCells PairLay (((partsOf s).take k).map pairL)) by have := HO.out.1; rw [HT.out] at this; exact this)
          have HD1 := Lib.hid d1
          have HD2 := Lib.hid d2
          have hbs : w1.heap.size ≤ w2.heap.size := HB.out.size
          have HNE := Lib.hid (show u5.ownBlock ≠ some b5 by
            intro e
            have h1 := (HOLD.out.1.lt b5 e).2
            have h2 := (R2.out.1.lt b5 rfl).1
            omega)
          have HBASE := Lib.hid (show w1.heap.size ≤ (w2.alloc (.cells #[.string x, .string y] 66)).drew.heap.size by simp; omega)
          have HKD := Lib.hid (show Kept w1 ((w2.alloc (.cells #[.string x, .string y] 66)).drew) from HB.out.trans ((kept_alloc w2 _).trans (Kept.drewN _ 1)))
          clear hbad hsp q5 hxy hx' hy'
          go_wp2_with fail
          go_region_held3 (fun W => W.cell? ⟨b5, o5, none⟩ = some (.string x) ∧ W.cell? ⟨b5, o5 + 1, none⟩ = some (.string y))
            (first
              | go_keep
              | (go_split_ands
                 refine ⟨?_, ?_⟩
                 · (refine (hgrow.cell_far ⟨b5, o5, none⟩ (by simp; omega) (Ne.symm HNE.out)).trans ?_; assumption)
                 · (refine (hgrow.cell_far ⟨b5, o5 + 1, none⟩ (by simp; omega) (Ne.symm HNE.out)).trans ?_; assumption)))
            ((refine step_append_lies _ (by rfl) _ _ _ (by rfl) w1.heap.size 66 i0 _ 2 32 Tryd.underlying29 hi hz0 hz1 hz2' rfl (by decide) u5 k (rowCells PairLay (((partsOf s).take k).map pairL)) (by rfl) ((HOWN.out.alloc _).drew)
                  ⟨w2.heap.size, 0, none⟩ 1 1 [.string x, .string y] (by rfl) (by rfl) (World.news_of_block (cs := #[.string x, .string y]) (t := 66) (fr := (0, 0)) (heap_alloc_new w2 _)) (one_ss x y)
                  (by decide) (by unfold maxLen; omega) (by omega) (by simp; omega) (w2.heap.size + 1) (by simp) ?_; intro gg cap1 w3 hown1 hgrow hat hlt1))
          all_goals
            go_wp2
            go_roundw
            case rel =>
              refine ⟨k + 1, by omega, by go_num, ?_, next_good HG.out HP.out HBAD.out, HKD.out.grown hgrow HBASE.out (fun j hj => (HOWN.out.lt j hj).1)⟩
              rw [take_snoc HP.out, List.map_append]
              exact Own.snoc (x := pairL p) (by rw [HXY.out]; exact hown1) (by rw [HT.out]) HO.out.2 (by rw [HXY.out]; exact ⟨hzx, hzy⟩)
            case measure => simp [intOf]; omega
        · have HBAD := Lib.hid (show pairBad p = true by simpa using hbad)
          have hl2 : (splitB 58 p).length ≠ 2 := by unfold splitB; rw [List.length_map]; exact pair_bad_len p HBAD.out
          have e3 : (((splitB 58 p).length : Int) != 2) = true := by
            have : ((splitB 58 p).length : Int) ≠ 2 := by omega
            simpa using this
          have HV := Lib.hid (show parsedP s = (2, []) by
            rw [← HFULL.out]; unfold fullG
            rw [if_neg HD.out, if_pos (by rw [List.any_eq_true]; exact ⟨p, List.mem_of_getElem? HP.out, HBAD.out⟩)])
          clear hbad hl2
          go_wp2
          go_ret2
          exact ⟨_, by rw [HV.out]; rfl, by rw [HV.out]; exact Reads.nil _, KW.out⟩
      · have HK := Lib.hid (show (partsOf s).take k = partsOf s from List.take_of_length_le (by rw [HPS.out]; omega))
        have ho' := ho
        rw [HK.out] at ho' hgood
        have HANY := Lib.hid (show (partsOf s).any pairBad = false by
          rw [List.any_eq_false]
          intro p hp
          rw [hgood p hp]; decide)
        obtain ⟨av, cv, rfl, h1, h2, h3⟩ := ho'.at_
        have HO' := Lib.hid ho'
        have HCHK := Lib.hid (refCheckSet_any av _ cv _ wr h3)
        obtain ⟨L, hL⟩ : ∃ L, (partsOf s).map pairL = L := ⟨_, rfl⟩
        rw [hL] at HCHK HO' ⊢
        clear ho ho' hgood hB h1 h2 h3
        by_cases hc : chkS L = 0
        · have HV := Lib.hid (show parsedP s = (0, L) by rw [← HFULL.out]; unfold fullG; rw [if_neg HD.out, if_neg (by rw [HANY.out]; decide), hL, if_neg (by rw [hc]; decide)])
          have hc' : (chkS L != 0) = false := by simpa using hc
          clear hc hL
          go_wp2_with fail
          refine HCHK.out.mono ?_
          rintro e2 w2 ⟨rfl, k2⟩
          have K2 := Lib.hid k2
          clear k2
          go_wp2
          go_ret2
          exact ⟨.slice av L.length cv, by simp [HV.out], by rw [HV.out]; exact (HO'.out.kept K2.out).reads, KW.out.trans (Below.mono K2.out KW.out.size)⟩
        · have HV := Lib.hid (show parsedP s = (chkS L, []) by rw [← HFULL.out]; unfold fullG; rw [if_neg HD.out, if_neg (by rw [HANY.out]; decide), hL, if_pos hc])
          have hc' : (chkS L != 0) = true := by simpa using hc
          clear hc hL
          go_wp2_with fail
          refine HCHK.out.mono ?_
          rintro e2 w2 ⟨rfl, k2⟩
          have K2 := Lib.hid k2
          clear k2
          go_wp2
          go_ret2
          exact ⟨.slice none 0 0, by simp [HV.out], by rw [HV.out]; exact Reads.nil _, KW.out.trans (Below.mono K2.out KW.out.size)⟩

end Go.Proofs.YtmmjcomoabfmnaaDoor
