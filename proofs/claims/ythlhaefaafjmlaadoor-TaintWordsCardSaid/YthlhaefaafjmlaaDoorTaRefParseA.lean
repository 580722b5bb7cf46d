/- The reference's ParseTaints. -/
import Derived.Test.YthlhaefaafjmlaaDoorTaRefMath
import Derived.Test.YthlhaefaafjmlaaDoorTaRefChk
import Derived.Test.YthlhaefaafjmlaaDoorTaOf
import Derived.Test.YthlhaefaafjmlaaDoorTaReads
import Derived.StillTailTactics
import Derived.Deep.RegionHeld3
import Derived.RegionTactic
import Derived.ChangeAlike
namespace Go.Proofs.YthlhaefaafjmlaaDoor
open Go.RowKit
set_option linter.unusedVariables false

set_option maxRecDepth 100000 in
set_option maxHeartbeats 4000000 in
theorem refParseA_any (s : List UInt8) (w : World) (hs : s.length ≤ 1000) :
    Calls Tryd.prog 31 #[.string (bytes s)] w (Got TaLay (parsedA s).1 (parsedA s).2 w) := by
  have HFULL := Lib.hid (show fullG readABad readA chkA s = parsedA s from full_parsed chkA_long s)
  by_cases hd : s = [45]
  · subst hd
    have e : ((bytes [45]).toList == [45]) = true := by rw [bytes_toList]; rfl
    go_enter Tryd.func31, Tryd.ntmps31
    go_wp2
    go_ret2
    exact ⟨_, rfl, Reads.nil _, Kept.refl _⟩
  · have e : ((bytes s).toList == [45]) = false := by rw [bytes_toList]; simpa using hd
    have HD := Lib.hid hd
    obtain ⟨i0, hi, hz0, hz1, hz2'⟩ := info_parts refInfoA
    clear hd
    go_enter Tryd.func31, Tryd.ntmps31
    go_wp2_with fail
    refine (splitR 44 s _ (by omega) rfl).mono ?_
    rintro e1 w1 ⟨v, rfl, r, k1⟩
    have K1 := Lib.hid k1
    obtain ⟨a4, c4, rfl, hc4, hm4, q4⟩ := r.at_
    clear r
    have Q4 := Lib.hid q4
    obtain ⟨n, hn⟩ : ∃ n, (splitB 44 s).length = n := ⟨_, rfl⟩
    have hn1 : n ≤ 1001 := by have := splitB_len 44 s; omega
    have HN := Lib.hid hn
    rw [hn] at Q4 ⊢
    have HPS := Lib.hid (show (partsOf s).length = n by rw [← hn]; unfold splitB; rw [List.length_map, partsAt_comma])
    clear k1 q4 hn hc4 hm4
    go_wp2
    go_loopw [5, 6] (fun v i wr => ∃ k : Nat, k ≤ n ∧ i = .int .i64 k ∧ Own TaLay 40 wr w1.heap.size v ((((partsOf s).take k).map readA)) ∧ (∀ p ∈ (partsOf s).take k, readABad p = false) ∧ Kept w1 wr) (fun _ i _ => n - (intOf i).toNat)
    case atStart => exact ⟨0, Nat.zero_le _, rfl, Own.nil _ _ _, by simp, Kept.refl _⟩
    case round =>
      obtain ⟨k, hk, rfl, ho, hgood, hB⟩ := hrel
      have HO := Lib.hid ho
      have HB := Lib.hid hB
      have HG := Lib.hid hgood
      have KW := Lib.hid (show Below w.heap.size w wr from K1.out.trans hB)
      by_cases hlt : k < n
      · obtain ⟨b4, o4, rfl⟩ : ∃ b off, a4 = some ⟨b, off, none⟩ := by
          rcases Q4.out.form with h | h
          · omega
          · exact h
        obtain ⟨x, hx, hd, hb, hz, c1⟩ := (Q4.out.kept hB).str hlt
        obtain ⟨p, hp, rfl⟩ : ∃ p, (partsOf s)[k]? = some p ∧ bytes p = x := by
          unfold splitB at hx
          rw [List.getElem?_map, partsAt_comma] at hx
          cases hpk : (partsOf s)[k]? with
          | none => rw [hpk] at hx; cases hx
          | some p => rw [hpk] at hx; exact ⟨p, rfl, by simpa using hx⟩
        have HP := Lib.hid hp
        have hpl : p.length ≤ 1000 := Nat.le_trans (part_len s p (List.mem_of_getElem? hp)) hs
        clear ho hgood hB hx hd hz hp
        go_wp2_with fail
        refine (splitR 58 p _ (by omega) rfl).mono ?_
        rintro e2 w2 ⟨v2, rfl, r2, k2⟩
        have R2 := Lib.hid r2
        obtain ⟨a5, c5, rfl, hc5, hm5, q5⟩ := r2.at_
        have HOLD := Lib.hid HO.out
        clear r2
        have HO := Lib.hid (HO.out.kept k2)
        have KW := Lib.hid (KW.out.trans (Below.mono k2 KW.out.size))
        have HB := Lib.hid (HB.out.trans k2)
        clear k2
        by_cases hbad : readABad p = false
        · have HBAD := Lib.hid hbad
          have hcount : Lib.countByte p 58 = 1 := by unfold readABad at hbad; simpa using hbad
          obtain ⟨kk, hkk⟩ : ∃ z, (Lib.cut p [58]).1 = z := ⟨_, rfl⟩
          obtain ⟨vv, hvv⟩ : ∃ z, (Lib.cut p [58]).2.1 = z := ⟨_, rfl⟩
          have hcl := cut_le p [58]
          rw [hkk, hvv] at hcl
          have hsp : splitB 58 p = [bytes kk, bytes vv] := by unfold splitB; rw [(parts_two hcount).2, hkk, hvv]; rfl
          rw [hsp] at q5 ⊢
          obtain ⟨b5, o5, rfl⟩ : ∃ b off, a5 = some ⟨b, off, none⟩ := by
            rcases q5.form with h | h
            · cases h
            · exact h
          obtain ⟨x', hx', _, hb5, hzx, d1⟩ := q5.str (show 0 < 2 by decide)
          obtain rfl : bytes kk = x' := by simpa using hx'
          obtain ⟨y', hy', _, _, hzy, d2⟩ := q5.str (show 1 < 2 by decide)
          obtain rfl : bytes vv = y' := by simpa using hy'
          have d1 : w2.cell? ⟨b5, o5, none⟩ = some (.string (bytes kk)) := d1
          have HT := Lib.hid (show ((((partsOf s).take k).map readA)).length = k by rw [List.length_map, List.length_take, HPS.out]; omega)
          have HOWN := Lib.hid (show w2.ownsRow w1.heap.size 40 3 u5 k (rowCells TaLay (((partsOf s).take k).map readA)) by have := HO.out.1; rw [HT.out] at this; exact this)
          have hbs : w1.heap.size ≤ w2.heap.size := HB.out.size
          have HZX := Lib.hid hzx
          have HZY := Lib.hid hzy
          by_cases hv0 : vv = []
          · subst hv0
            have HRA := Lib.hid (show readA p = (bytes kk, bytes [], false) by rw [readA_nil hcount hvv, hkk])
            have e0 : ((bytes []).toList == ([] : List UInt8)) = true := by rw [bytes_toList]; rfl
            clear hbad hsp q5 hx' hy' hcount hkk hvv hcl
            go_wp2_with fail
            go_region
            all_goals
              go_wp2_with (at_builtin; refine wpList_append_lies _ rfl (.tmp 57) (.tmp 59) _ rfl w1.heap.size 40 i0 _ 3 40 Tryd.underlying27 hi hz0 hz1 hz2' rfl (by decide) u5 k (rowCells TaLay (((partsOf s).take k).map readA)) rfl (((HOWN.out.alloc _).alloc _).drew) ⟨w2.heap.size + 1, 0, none⟩ 1 1 [.string (bytes kk), .string (bytes []), .bool false] rfl rfl (news3 w2 _ (.string (bytes kk)) (.string (bytes [])) (.bool false) _) (one_ssb _ _ _) (by decide) (by unfold maxLen; omega) (by omega) (by simp; omega) (w2.heap.size + 2) (by simp) ?_; intro gg cap1 w3 hown1 hgrow hg hlt1; have HOWN1 := Lib.hid hown1; have K3 := Lib.hid ((HB.out.trans (((kept_alloc w2 (.cells #[.string (bytes kk), .string (bytes []), .bool false] 40)).trans (kept_alloc _ (.cells #[.string (bytes kk), .string (bytes []), .bool false] 40))).trans (Kept.drewN _ 1))).grown hgrow (by simp; omega) (fun j hj => (HOWN.out.lt j hj).1)); clear hown1 hgrow hg hlt1)
              go_roundw
              case rel =>
                refine ⟨k + 1, by omega, by go_num, ?_, next_good HG.out HP.out HBAD.out, K3.out⟩
                rw [take_snoc HP.out, List.map_append]
                exact Own.snoc (x := readA p) (by rw [HRA.out]; exact HOWN1.out) (by rw [HT.out]) HO.out.2 (by rw [HRA.out]; exact ⟨HZX.out, HZY.out⟩)
              case measure => simp [intOf]; omega
          · obtain ⟨u, z, hz⟩ : ∃ u z, vv = u ++ [z] := ⟨_, _, (List.dropLast_concat_getLast hv0).symm⟩
            subst hz
            have e0 : ((bytes (u ++ [z])).toList == ([] : List UInt8)) = false := by rw [bytes_toList]; simp
            have hsz : (bytes (u ++ [z])).size = u.length + 1 := by rw [bytes_size]; simp
            obtain ⟨q, hq⟩ : ∃ q, u.length = q := ⟨_, rfl⟩
            rw [hq] at hsz
            have hq1 : q < (bytes (u ++ [z])).size := by omega
            have hsub : ((bytes (u ++ [z])).size : Int) - 1 = (q : Int) := by omega
            have hql : q ≤ 1000 := by rw [List.length_append, List.length_singleton, hq] at hcl; omega
            have hat : (bytes (u ++ [z]))[q] = z := by rw [bytes_at (u ++ [z]) q (by simp [hq]) hq1]; simp [← hq]
            have hex : (bytes (u ++ [z])).extract 0 q = bytes u := by rw [bytes_upto]; simp [← hq]
            have hle : (q : Int) ≤ ((bytes (u ++ [z])).size : Int) := by omega
            have HZU := Lib.hid (show (bytes u).size ≤ maxLen by rw [bytes_size, hq]; unfold maxLen; omega)
            by_cases h33 : z = 33
            · have HRA := Lib.hid (show readA p = (bytes kk, bytes u, true) by rw [readA_mark hcount (by rw [hvv, h33]), hkk])
              have e33 : (((bytes (u ++ [z]))[q].toNat : Int) == 33) = true := by rw [hat, h33]; rfl
              clear hbad hsp q5 hx' hy' hcount hkk hvv hcl hv0 hat h33 hsz
              go_wp2_with fail
              go_region
              all_goals
                go_wp2_with (at_builtin; refine wpList_append_lies _ rfl (.tmp 57) (.tmp 59) _ rfl w1.heap.size 40 i0 _ 3 40 Tryd.underlying27 hi hz0 hz1 hz2' rfl (by decide) u5 k (rowCells TaLay (((partsOf s).take k).map readA)) rfl (((HOWN.out.alloc _).alloc _).drew) ⟨w2.heap.size + 1, 0, none⟩ 1 1 [.string (bytes kk), .string (bytes u), .bool true] rfl rfl (news3 w2 _ (.string (bytes kk)) (.string (bytes u)) (.bool true) _) (one_ssb _ _ _) (by decide) (by unfold maxLen; omega) (by omega) (by simp; omega) (w2.heap.size + 2) (by simp) ?_; intro gg cap1 w3 hown1 hgrow hg hlt1; have HOWN1 := Lib.hid hown1; have K3 := Lib.hid ((HB.out.trans (((kept_alloc w2 (.cells #[.string (bytes kk), .string (bytes u), .bool true] 40)).trans (kept_alloc _ (.cells #[.string (bytes kk), .string (bytes u), .bool true] 40))).trans (Kept.drewN _ 1))).grown hgrow (by simp; omega) (fun j hj => (HOWN.out.lt j hj).1)); clear hown1 hgrow hg hlt1)
                go_roundw
                case rel =>
                  refine ⟨k + 1, by omega, by go_num, ?_, next_good HG.out HP.out HBAD.out, K3.out⟩
                  rw [take_snoc HP.out, List.map_append]
                  exact Own.snoc (x := readA p) (by rw [HRA.out]; exact HOWN1.out) (by rw [HT.out]) HO.out.2 (by rw [HRA.out]; exact ⟨HZX.out, HZU.out⟩)
                case measure => simp [intOf]; omega
            · have HRA := Lib.hid (show readA p = (bytes kk, bytes (u ++ [z]), false) by rw [readA_plain hcount hvv h33, hkk])
              have e33 : (((bytes (u ++ [z]))[q].toNat : Int) == 33) = false := by rw [hat]; exact byte_no h33
              clear hbad hsp q5 hx' hy' hcount hkk hvv hcl hv0 hat h33 hsz
              go_wp2_with fail
              go_region
              all_goals
                go_wp2_with (at_builtin; refine wpList_append_lies _ rfl (.tmp 57) (.tmp 59) _ rfl w1.heap.size 40 i0 _ 3 40 Tryd.underlying27 hi hz0 hz1 hz2' rfl (by decide) u5 k (rowCells TaLay (((partsOf s).take k).map readA)) rfl (((HOWN.out.alloc _).alloc _).drew) ⟨w2.heap.size + 1, 0, none⟩ 1 1 [.string (bytes kk), .string (bytes (u ++ [z])), .bool false] rfl rfl (news3 w2 _ (.string (bytes kk)) (.string (bytes (u ++ [z]))) (.bool false) _) (one_ssb _ _ _) (by decide) (by unfold maxLen; omega) (by omega) (by simp; omega) (w2.heap.size + 2) (by simp) ?_; intro gg cap1 w3 hown1 hgrow hg hlt1; have HOWN1 := Lib.hid hown1; have K3 := Lib.hid ((HB.out.trans (((kept_alloc w2 (.cells #[.string (bytes kk), .string (bytes (u ++ [z])), .bool false] 40)).trans (kept_alloc _ (.cells #[.string (bytes kk), .string (bytes (u ++ [z])), .bool false] 40))).trans (Kept.drewN _ 1))).grown hgrow (by simp; omega) (fun j hj => (HOWN.out.lt j hj).1)); clear hown1 hgrow hg hlt1)
                go_roundw
                case rel =>
                  refine ⟨k + 1, by omega, by go_num, ?_, next_good HG.out HP.out HBAD.out, K3.out⟩
                  rw [take_snoc HP.out, List.map_append]
                  exact Own.snoc (x := readA p) (by rw [HRA.out]; exact HOWN1.out) (by rw [HT.out]) HO.out.2 (by rw [HRA.out]; exact ⟨HZX.out, HZY.out⟩)
                case measure => simp [intOf]; omega
        · have HBAD := Lib.hid (show readABad p = true by simpa using hbad)
          have hl2 : (splitB 58 p).length ≠ 2 := by
            unfold splitB; rw [List.length_map, parts_count]
            intro h; have : Lib.countByte p 58 = 1 := by omega
            have h := HBAD.out; unfold readABad at h; simp [this] at h
          have e3 : (((splitB 58 p).length : Int) != 2) = true := by
            have : ((splitB 58 p).length : Int) ≠ 2 := by omega
            simpa using this
          have HV := Lib.hid (show parsedA s = (2, []) by
            rw [← HFULL.out]; unfold fullG
            rw [if_neg HD.out, if_pos (by rw [List.any_eq_true]; exact ⟨p, List.mem_of_getElem? HP.out, HBAD.out⟩)])
          clear hbad hl2
          go_wp2
          go_ret2
          exact ⟨_, by rw [HV.out]; rfl, by rw [HV.out]; exact Reads.nil _, KW.out⟩
      · have HK := Lib.hid (show (partsOf s).take k = partsOf s from List.take_of_length_le (by rw [HPS.out]; omega))
        have ho' := ho
        rw [HK.out] at ho' hgood
        have HANY := Lib.hid (show (partsOf s).any readABad = false by
          rw [List.any_eq_false]
          intro p hp
          rw [hgood p hp]; decide)
        obtain ⟨av, cv, rfl, h1, h2, h3⟩ := ho'.at_
        have HO' := Lib.hid ho'
        have HCHK := Lib.hid (refCheckA_any av _ cv _ wr h3)
        obtain ⟨L, hL⟩ : ∃ L, (partsOf s).map readA = L := ⟨_, rfl⟩
        rw [hL] at HCHK HO' ⊢
        clear ho ho' hgood hB h1 h2 h3
        by_cases hc : chkA L = 0
        · have HV := Lib.hid (show parsedA s = (0, L) by rw [← HFULL.out]; unfold fullG; rw [if_neg HD.out, if_neg (by rw [HANY.out]; decide), hL, if_neg (by rw [hc]; decide)])
          have hc' : (chkA L != 0) = false := by simpa using hc
          clear hc hL
          go_wp2_with fail
          refine HCHK.out.mono ?_
          rintro e2 w2 ⟨rfl, k2⟩
          have K2 := Lib.hid k2
          clear k2
          go_wp2
          go_ret2
          exact ⟨.slice av L.length cv, by simp [HV.out], by rw [HV.out]; exact (HO'.out.kept K2.out).reads, KW.out.trans (Below.mono K2.out KW.out.size)⟩
        · have HV := Lib.hid (show parsedA s = (chkA L, []) by rw [← HFULL.out]; unfold fullG; rw [if_neg HD.out, if_neg (by rw [HANY.out]; decide), hL, if_pos hc])
          have hc' : (chkA L != 0) = true := by simpa using hc
          clear hc hL
          go_wp2_with fail
          refine HCHK.out.mono ?_
          rintro e2 w2 ⟨rfl, k2⟩
          have K2 := Lib.hid k2
          clear k2
          go_wp2
          go_ret2
          exact ⟨.slice none 0 0, by simp [HV.out], by rw [HV.out]; exact Reads.nil _, KW.out.trans (Below.mono K2.out KW.out.size)⟩

end Go.Proofs.YthlhaefaafjmlaaDoor
