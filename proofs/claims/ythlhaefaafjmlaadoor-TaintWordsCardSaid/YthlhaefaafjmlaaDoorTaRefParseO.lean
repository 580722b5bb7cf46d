/- The reference's ParseTols. -/
import Derived.Test.YthlhaefaafjmlaaDoorTaRefMath
import Derived.Test.YthlhaefaafjmlaaDoorTaRefChk
import Derived.Test.YthlhaefaafjmlaaDoorTaOf
import Derived.Test.YthlhaefaafjmlaaDoorTaReads
import Derived.StillTailTactics
import Derived.Deep.RegionHeld3
import Derived.RegionTactic
import Derived.ChangeAlike
namespace Go.Proofs.YthlhaefaafjmlaaDoor
open Go.RowKit
set_option linter.unusedVariables false

set_option maxRecDepth 100000 in
set_option maxHeartbeats 4000000 in
theorem refParseO_any (s : List UInt8) (w : World) (hs : s.length ≤ 1000) :
    Calls Tryd.prog 32 #[.string (bytes s)] w (Got TaLay (parsedO s).1 (parsedO s).2 w) := by
  have HFULL := Lib.hid (show fullG readOBad readO chkO s = parsedO s from full_parsed chkO_long s)
  by_cases hd : s = [45]
  · subst hd
    have e : ((bytes [45]).toList == [45]) = true := by rw [bytes_toList]; rfl
    go_enter Tryd.func32, Tryd.ntmps32
    go_wp2
    go_ret2
    exact ⟨_, rfl, Reads.nil _, Kept.refl _⟩
  · have e : ((bytes s).toList == [45]) = false := by rw [bytes_toList]; simpa using hd
    have HD := Lib.hid hd
    obtain ⟨i0, hi, hz0, hz1, hz2'⟩ := info_parts refInfoO
    clear hd
    go_enter Tryd.func32, Tryd.ntmps32
    go_wp2_with fail
    refine (splitR 44 s _ (by omega) rfl).mono ?_
    rintro e1 w1 ⟨v, rfl, r, k1⟩
    have K1 := Lib.hid k1
    obtain ⟨a4, c4, rfl, hc4, hm4, q4⟩ := r.at_
    clear r
    have Q4 := Lib.hid q4
    obtain ⟨n, hn⟩ : ∃ n, (splitB 44 s).length = n := ⟨_, rfl⟩
    have hn1 : n ≤ 1001 := by have := splitB_len 44 s; omega
    have HN := Lib.hid hn
    rw [hn] at Q4 ⊢
    have HPS := Lib.hid (show (partsOf s).length = n by rw [← hn]; unfold splitB; rw [List.length_map, partsAt_comma])
    clear k1 q4 hn hc4 hm4
    go_wp2
    go_loopw [5, 6] (fun v i wr => ∃ k : Nat, k ≤ n ∧ i = .int .i64 k ∧ Own TaLay 69 wr w1.heap.size v ((((partsOf s).take k).map readO)) ∧ (∀ p ∈ (partsOf s).take k, readOBad p = false) ∧ Kept w1 wr) (fun _ i _ => n - (intOf i).toNat)
    case atStart => exact ⟨0, Nat.zero_le _, rfl, Own.nil _ _ _, by simp, Kept.refl _⟩
    case round =>
      obtain ⟨k, hk, rfl, ho, hgood, hB⟩ := hrel
      have HO := Lib.hid ho
      have HB := Lib.hid hB
      have HG := Lib.hid hgood
      have KW := Lib.hid (show Below w.heap.size w wr from K1.out.trans hB)
      by_cases hlt : k < n
      · obtain ⟨b4, o4, rfl⟩ : ∃ b off, a4 = some ⟨b, off, none⟩ := by
          rcases Q4.out.form with h | h
          · omega
          · exact h
        obtain ⟨x, hx, hd, hb, hz, c1⟩ := (Q4.out.kept hB).str hlt
        obtain ⟨p, hp, rfl⟩ : ∃ p, (partsOf s)[k]? = some p ∧ bytes p = x := by
          unfold splitB at hx
          rw [List.getElem?_map, partsAt_comma] at hx
          cases hpk : (partsOf s)[k]? with
          | none => rw [hpk] at hx; cases hx
          | some p => rw [hpk] at hx; exact ⟨p, rfl, by simpa using hx⟩
        have HP := Lib.hid hp
        have hpl : p.length ≤ 1000 := Nat.le_trans (part_len s p (List.mem_of_getElem? hp)) hs
        clear ho hgood hB hx hd hz hp
        go_wp2_with fail
        refine (splitR 58 p _ (by omega) rfl).mono ?_
        rintro e2 w2 ⟨v2, rfl, r2, k2⟩
        have R2 := Lib.hid r2
        obtain ⟨a5, c5, rfl, hc5, hm5, q5⟩ := r2.at_
        have HOLD := Lib.hid HO.out
        clear r2
        have HO := Lib.hid (HO.out.kept k2)
        have KW := Lib.hid (KW.out.trans (Below.mono k2 KW.out.size))
        have HB := Lib.hid (HB.out.trans k2)
        have c1w := cell_later k2 c1
        clear k2
        have c1 := c1w
        by_cases hbad : readOBad p = false
        · have HBAD := Lib.hid hbad
          have hb3 := hbad
          unfold readOBad at hb3
          rw [Bool.or_eq_false_iff, Bool.or_eq_false_iff] at hb3
          have hp0 : p ≠ [] := by simpa using hb3.1.1
          have hpre := hb3.1.2
          have hcnt : ¬ 1 < Lib.countByte p 58 := by simpa using hb3.2
          have e0 : ((bytes p).toList == ([] : List UInt8)) = false := by rw [bytes_toList]; simpa using hp0
          obtain ⟨kk, hkk⟩ : ∃ z, (Lib.cut p [58]).1 = z := ⟨_, rfl⟩
          obtain ⟨vv, hvv⟩ : ∃ z, (Lib.cut p [58]).2.1 = z := ⟨_, rfl⟩
          have hcl := cut_le p [58]
          rw [hkk, hvv] at hcl
          have hk0 : kk ≠ [] := by
            rw [← hkk]; intro h
            rcases (first_empty p).1 h with g | g
            · exact hp0 g
            · rw [hpre] at g; cases g
          have ek : ((bytes kk).toList == ([] : List UInt8)) = false := by rw [bytes_toList]; simpa using hk0
          have HZK := Lib.hid (show (bytes kk).size ≤ maxLen by rw [bytes_size]; unfold maxLen; omega)
          have HZV := Lib.hid (show (bytes vv).size ≤ maxLen by rw [bytes_size]; unfold maxLen; omega)
          have HZE := Lib.hid (show (⟨#[]⟩ : ByteArray).size ≤ maxLen from Nat.zero_le _)
          have HT := Lib.hid (show ((((partsOf s).take k).map readO)).length = k by rw [List.length_map, List.length_take, HPS.out]; omega)
          have HOWN := Lib.hid (show w2.ownsRow w1.heap.size 69 3 u5 k (rowCells TaLay (((partsOf s).take k).map readO)) by have := HO.out.1; rw [HT.out] at this; exact this)
          have hbs : w1.heap.size ≤ w2.heap.size := HB.out.size
          by_cases h1 : Lib.countByte p 58 = 1
          · have hsp : splitB 58 p = [bytes kk, bytes vv] := by unfold splitB; rw [(parts_two h1).2, hkk, hvv]; rfl
            have hfd : (Lib.cut p [58]).2.2 = true := (parts_two h1).1
            rw [hsp] at q5 ⊢
            obtain ⟨b5, o5, rfl⟩ : ∃ b off, a5 = some ⟨b, off, none⟩ := by
              rcases q5.form with h | h
              · cases h
              · exact h
            obtain ⟨x', hx', _, hb5, hzx, d1⟩ := q5.str (show 0 < 2 by decide)
            obtain rfl : bytes kk = x' := by simpa using hx'
            have d1 : w2.cell? ⟨b5, o5, none⟩ = some (.string (bytes kk)) := d1
            obtain ⟨y', hy', _, _, hzy, d2⟩ := q5.str (show 1 < 2 by decide)
            obtain rfl : bytes vv = y' := by simpa using hy'
            by_cases h42 : kk = [42]
            · have HRA := Lib.hid (show readO p = (⟨#[]⟩, bytes vv, false) by unfold readO keyO; rw [hkk, hvv, hfd, if_pos h42]; rfl)
              have e42 : ((bytes kk).toList == [42]) = true := by rw [bytes_toList]; simpa using h42
              clear hbad hsp q5 hx' hy' hkk hvv hcl hp0 hpre hcnt hb3 hk0 h42 hfd h1
              go_wp2_with (at_builtin; refine wpList_append_lies _ rfl (.tmp 59) (.tmp 61) _ rfl w1.heap.size 69 i0 _ 3 40 Tryd.underlying29 hi hz0 hz1 hz2' rfl (by decide) u5 k (rowCells TaLay (((partsOf s).take k).map readO)) rfl (((HOWN.out.alloc _).alloc _)) ⟨w2.heap.size + 1, 0, none⟩ 1 1 [.string (⟨#[]⟩), .string (bytes vv), .bool false] rfl rfl (news3 w2 _ (.string (⟨#[]⟩)) (.string (bytes vv)) (.bool false) _) (one_ssb _ _ _) (by decide) (by unfold maxLen; omega) (by omega) (by simp; omega) (w2.heap.size + 2) (by simp) ?_; intro gg cap1 w3 hown1 hgrow hg hlt1; have HOWN1 := Lib.hid hown1; have K3 := Lib.hid ((HB.out.trans (((kept_alloc w2 (.cells #[.string (⟨#[]⟩), .string (bytes vv), .bool false] 69)).trans (kept_alloc _ (.cells #[.string (⟨#[]⟩), .string (bytes vv), .bool false] 69))))).grown hgrow (by simp; omega) (fun j hj => (HOWN.out.lt j hj).1)); clear hown1 hgrow hg hlt1)
              go_roundw
              case rel =>
                refine ⟨k + 1, by omega, by go_num, ?_, next_good HG.out HP.out HBAD.out, K3.out⟩
                rw [take_snoc HP.out, List.map_append]
                exact Own.snoc (x := readO p) (by rw [HRA.out]; exact HOWN1.out) (by rw [HT.out]) HO.out.2 (by rw [HRA.out]; exact ⟨HZE.out, HZV.out⟩)
              case measure => simp [intOf]; omega
            · have HRA := Lib.hid (show readO p = (bytes kk, bytes vv, false) by unfold readO keyO; rw [hkk, hvv, hfd, if_neg h42]; rfl)
              have e42 : ((bytes kk).toList == [42]) = false := by rw [bytes_toList]; simpa using h42
              clear hbad hsp q5 hx' hy' hkk hvv hcl hp0 hpre hcnt hb3 hk0 h42 hfd h1
              go_wp2_with (at_builtin; refine wpList_append_lies _ rfl (.tmp 59) (.tmp 61) _ rfl w1.heap.size 69 i0 _ 3 40 Tryd.underlying29 hi hz0 hz1 hz2' rfl (by decide) u5 k (rowCells TaLay (((partsOf s).take k).map readO)) rfl (((HOWN.out.alloc _).alloc _)) ⟨w2.heap.size + 1, 0, none⟩ 1 1 [.string (bytes kk), .string (bytes vv), .bool false] rfl rfl (news3 w2 _ (.string (bytes kk)) (.string (bytes vv)) (.bool false) _) (one_ssb _ _ _) (by decide) (by unfold maxLen; omega) (by omega) (by simp; omega) (w2.heap.size + 2) (by simp) ?_; intro gg cap1 w3 hown1 hgrow hg hlt1; have HOWN1 := Lib.hid hown1; have K3 := Lib.hid ((HB.out.trans (((kept_alloc w2 (.cells #[.string (bytes kk), .string (bytes vv), .bool false] 69)).trans (kept_alloc _ (.cells #[.string (bytes kk), .string (bytes vv), .bool false] 69))))).grown hgrow (by simp; omega) (fun j hj => (HOWN.out.lt j hj).1)); clear hown1 hgrow hg hlt1)
              go_roundw
              case rel =>
                refine ⟨k + 1, by omega, by go_num, ?_, next_good HG.out HP.out HBAD.out, K3.out⟩
                rw [take_snoc HP.out, List.map_append]
                exact Own.snoc (x := readO p) (by rw [HRA.out]; exact HOWN1.out) (by rw [HT.out]) HO.out.2 (by rw [HRA.out]; exact ⟨HZK.out, HZV.out⟩)
              case measure => simp [intOf]; omega
          · have hz1 : Lib.countByte p 58 = 0 := by omega
            have hl := parts_lone hz1
            have hkp : kk = p := by rw [← hkk, hl.1]
            have hvn : vv = [] := by rw [← hvv, hl.1]
            have hsp : splitB 58 p = [bytes kk] := by unfold splitB; rw [hl.2, hkp]; rfl
            have hfd : (Lib.cut p [58]).2.2 = false := by rw [hl.1]
            rw [hsp] at q5 ⊢
            obtain ⟨b5, o5, rfl⟩ : ∃ b off, a5 = some ⟨b, off, none⟩ := by
              rcases q5.form with h | h
              · cases h
              · exact h
            obtain ⟨x', hx', _, hb5, hzx, d1⟩ := q5.str (show 0 < 1 by decide)
            obtain rfl : bytes kk = x' := by simpa using hx'
            have d1 : w2.cell? ⟨b5, o5, none⟩ = some (.string (bytes kk)) := d1
            by_cases h42 : kk = [42]
            · have HRA := Lib.hid (show readO p = (⟨#[]⟩, ⟨#[]⟩, true) by unfold readO keyO; rw [hkk, hvv, hvn, hfd, if_pos h42]; rfl)
              have e42 : ((bytes kk).toList == [42]) = true := by rw [bytes_toList]; simpa using h42
              clear hkp hbad hsp q5 hx' hkk hvv hcl hp0 hpre hcnt hb3 hk0 h42 hfd hvn h1 hz1 hl
              go_wp2_with (at_builtin; refine wpList_append_lies _ rfl (.tmp 59) (.tmp 61) _ rfl w1.heap.size 69 i0 _ 3 40 Tryd.underlying29 hi hz0 hz1 hz2' rfl (by decide) u5 k (rowCells TaLay (((partsOf s).take k).map readO)) rfl (((HOWN.out.alloc _).alloc _)) ⟨w2.heap.size + 1, 0, none⟩ 1 1 [.string (⟨#[]⟩), .string (⟨#[]⟩), .bool true] rfl rfl (news3 w2 _ (.string (⟨#[]⟩)) (.string (⟨#[]⟩)) (.bool true) _) (one_ssb _ _ _) (by decide) (by unfold maxLen; omega) (by omega) (by simp; omega) (w2.heap.size + 2) (by simp) ?_; intro gg cap1 w3 hown1 hgrow hg hlt1; have HOWN1 := Lib.hid hown1; have K3 := Lib.hid ((HB.out.trans (((kept_alloc w2 (.cells #[.string (⟨#[]⟩), .string (⟨#[]⟩), .bool true] 69)).trans (kept_alloc _ (.cells #[.string (⟨#[]⟩), .string (⟨#[]⟩), .bool true] 69))))).grown hgrow (by simp; omega) (fun j hj => (HOWN.out.lt j hj).1)); clear hown1 hgrow hg hlt1)
              go_roundw
              case rel =>
                refine ⟨k + 1, by omega, by go_num, ?_, next_good HG.out HP.out HBAD.out, K3.out⟩
                rw [take_snoc HP.out, List.map_append]
                exact Own.snoc (x := readO p) (by rw [HRA.out]; exact HOWN1.out) (by rw [HT.out]) HO.out.2 (by rw [HRA.out]; exact ⟨HZE.out, HZE.out⟩)
              case measure => simp [intOf]; omega
            · have HRA := Lib.hid (show readO p = (bytes kk, ⟨#[]⟩, true) by unfold readO keyO; rw [hkk, hvv, hvn, hfd, if_neg h42]; rfl)
              have e42 : ((bytes kk).toList == [42]) = false := by rw [bytes_toList]; simpa using h42
              clear hkp hbad hsp q5 hx' hkk hvv hcl hp0 hpre hcnt hb3 hk0 h42 hfd hvn h1 hz1 hl
              go_wp2_with (at_builtin; refine wpList_append_lies _ rfl (.tmp 59) (.tmp 61) _ rfl w1.heap.size 69 i0 _ 3 40 Tryd.underlying29 hi hz0 hz1 hz2' rfl (by decide) u5 k (rowCells TaLay (((partsOf s).take k).map readO)) rfl (((HOWN.out.alloc _).alloc _)) ⟨w2.heap.size + 1, 0, none⟩ 1 1 [.string (bytes kk), .string (⟨#[]⟩), .bool true] rfl rfl (news3 w2 _ (.string (bytes kk)) (.string (⟨#[]⟩)) (.bool true) _) (one_ssb _ _ _) (by decide) (by unfold maxLen; omega) (by omega) (by simp; omega) (w2.heap.size + 2) (by simp) ?_; intro gg cap1 w3 hown1 hgrow hg hlt1; have HOWN1 := Lib.hid hown1; have K3 := Lib.hid ((HB.out.trans (((kept_alloc w2 (.cells #[.string (bytes kk), .string (⟨#[]⟩), .bool true] 69)).trans (kept_alloc _ (.cells #[.string (bytes kk), .string (⟨#[]⟩), .bool true] 69))))).grown hgrow (by simp; omega) (fun j hj => (HOWN.out.lt j hj).1)); clear hown1 hgrow hg hlt1)
              go_roundw
              case rel =>
                refine ⟨k + 1, by omega, by go_num, ?_, next_good HG.out HP.out HBAD.out, K3.out⟩
                rw [take_snoc HP.out, List.map_append]
                exact Own.snoc (x := readO p) (by rw [HRA.out]; exact HOWN1.out) (by rw [HT.out]) HO.out.2 (by rw [HRA.out]; exact ⟨HZK.out, HZE.out⟩)
              case measure => simp [intOf]; omega
        · have HBAD := Lib.hid (show readOBad p = true by simpa using hbad)
          have HV := Lib.hid (show parsedO s = (2, []) by
            rw [← HFULL.out]; unfold fullG
            rw [if_neg HD.out, if_pos (by rw [List.any_eq_true]; exact ⟨p, List.mem_of_getElem? HP.out, HBAD.out⟩)])
          have hcnt : (splitB 58 p).length = Lib.countByte p 58 + 1 := by unfold splitB; rw [List.length_map, parts_count]
          by_cases hp0 : p = []
          · have e0 : ((bytes p).toList == ([] : List UInt8)) = true := by rw [bytes_toList, hp0]; rfl
            clear hbad hp0 hcnt
            go_wp2
            go_ret2
            exact ⟨_, by rw [HV.out]; rfl, by rw [HV.out]; exact Reads.nil _, KW.out⟩
          · have e0 : ((bytes p).toList == ([] : List UInt8)) = false := by rw [bytes_toList]; simpa using hp0
            by_cases h2 : 1 < Lib.countByte p 58
            · obtain ⟨n2, hn2⟩ : ∃ n2, (splitB 58 p).length = n2 := ⟨_, rfl⟩
              rw [hn2] at q5 hcnt ⊢
              have h3 : (2 : Int) < (n2 : Int) := by omega
              clear hbad hp0 hcnt h2 q5 hn2
              go_wp2
              go_ret2
              exact ⟨_, by rw [HV.out]; rfl, by rw [HV.out]; exact Reads.nil _, KW.out⟩
            · have hpre : Lib.hasPrefix p [58] = true := by
                have h := HBAD.out
                unfold readOBad at h
                rw [decide_eq_false hp0, decide_eq_false h2] at h
                simpa using h
              have hk : (Lib.cut p [58]).1 = [] := (first_empty p).2 (.inr hpre)
              obtain ⟨t, ht⟩ : ∃ t, splitB 58 p = ⟨#[]⟩ :: t := by
                unfold splitB
                rw [cut_parts]
                split
                · rw [hk]; exact ⟨_, rfl⟩
                · rename_i hf
                  exfalso
                  cases p with
                  | nil => exact hp0 rfl
                  | cons b r =>
                    rw [cut_cons] at hf hk
                    by_cases hb : b = 58
                    · rw [if_pos hb] at hf; exact hf rfl
                    · rw [if_neg hb] at hk; cases hk
              obtain ⟨n2, hn2⟩ : ∃ n2, (splitB 58 p).length = n2 := ⟨_, rfl⟩
              have hn3 : 0 < n2 := by rw [← hn2, ht]; simp
              rw [hn2] at q5 hcnt ⊢
              rw [ht] at q5
              have h3 : ¬ (2 : Int) < (n2 : Int) := by omega
              obtain ⟨b5, o5, rfl⟩ : ∃ b off, a5 = some ⟨b, off, none⟩ := by
                rcases q5.form with h | h
                · omega
                · exact h
              obtain ⟨x', hx', _, hb5, hzx, d1⟩ := q5.str hn3
              obtain rfl : ⟨#[]⟩ = x' := by simpa using hx'
              have d1 : w2.cell? ⟨b5, o5, none⟩ = some (.string ⟨#[]⟩) := d1
              clear hbad hp0 hcnt h2 q5 hn2 hx' ht hk hpre
              go_wp2
              go_ret2
              exact ⟨_, by rw [HV.out]; rfl, by rw [HV.out]; exact Reads.nil _, KW.out⟩
      · have HK := Lib.hid (show (partsOf s).take k = partsOf s from List.take_of_length_le (by rw [HPS.out]; omega))
        have ho' := ho
        rw [HK.out] at ho' hgood
        have HANY := Lib.hid (show (partsOf s).any readOBad = false by
          rw [List.any_eq_false]
          intro p hp
          rw [hgood p hp]; decide)
        obtain ⟨av, cv, rfl, h1, h2, h3⟩ := ho'.at_
        have HO' := Lib.hid ho'
        have HCHK := Lib.hid (refCheckO_any av _ cv _ wr h3)
        obtain ⟨L, hL⟩ : ∃ L, (partsOf s).map readO = L := ⟨_, rfl⟩
        rw [hL] at HCHK HO' ⊢
        clear ho ho' hgood hB h1 h2 h3
        by_cases hc : chkO L = 0
        · have HV := Lib.hid (show parsedO s = (0, L) by rw [← HFULL.out]; unfold fullG; rw [if_neg HD.out, if_neg (by rw [HANY.out]; decide), hL, if_neg (by rw [hc]; decide)])
          have hc' : (chkO L != 0) = false := by simpa using hc
          clear hc hL
          go_wp2_with fail
          refine HCHK.out.mono ?_
          rintro e2 w2 ⟨rfl, k2⟩
          have K2 := Lib.hid k2
          clear k2
          go_wp2
          go_ret2
          exact ⟨.slice av L.length cv, by simp [HV.out], by rw [HV.out]; exact (HO'.out.kept K2.out).reads, KW.out.trans (Below.mono K2.out KW.out.size)⟩
        · have HV := Lib.hid (show parsedO s = (chkO L, []) by rw [← HFULL.out]; unfold fullG; rw [if_neg HD.out, if_neg (by rw [HANY.out]; decide), hL, if_pos hc])
          have hc' : (chkO L != 0) = true := by simpa using hc
          clear hc hL
          go_wp2_with fail
          refine HCHK.out.mono ?_
          rintro e2 w2 ⟨rfl, k2⟩
          have K2 := Lib.hid k2
          clear k2
          go_wp2
          go_ret2
          exact ⟨.slice none 0 0, by simp [HV.out], by rw [HV.out]; exact Reads.nil _, KW.out.trans (Below.mono K2.out KW.out.size)⟩

end Go.Proofs.YthlhaefaafjmlaaDoor
