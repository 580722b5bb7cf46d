/- The reference's AddVec. -/
import Derived.Test.YtfpgekjhcfoohaaGreatShort
import Derived.Test.YtfpgekjhcfoohaaGreatRefVecBase
import Derived.Deep.RegionHeld3
set_option linter.unusedVariables false
namespace Go.Proofs.YtfpgekjhcfoohaaGreat.Vec
open Go.RowKit Go.Proofs.YtfpgekjhcfoohaaGreat
set_option maxRecDepth 100000 in
set_option maxHeartbeats 8000000 in
theorem raddv_any (a a' : Option Addr) (len cap len' cap' : Nat) (l l' : V) (w : World) (hr : VecAt w a len l) (hr' : VecAt w a' len' l') :
 Calls Tryz.prog 156 #[.slice a len cap, .slice a' len' cap'] w (Told (mergedV addF l l').1 (mergedV addF l l').2 w) := by
 have HA := lH hr
 have HB := lH hr'
 have HL := lH hr.1
 have HL' := lH hr'.1
 by_cases hc : bothV l l' = 0
 · obtain ⟨ha, hb⟩ := both_zero hc
   have HC := lH hc
   have HG := lH (check_good ha hr.2.2.1)
   have HG' := lH (check_good hb hr'.2.2.1)
   have h8 : len ≤ 8 := by have := check_len ha; rw [HL.out] at this; exact this
   have h8' : len' ≤ 8 := by have := check_len hb; rw [HL'.out] at this; exact this
   have HM := lH (merged_fold addF ha hb hr.2.2.1 hr'.2.2.1)
   have HP := lH (show ∀ n ∈ namesV (l.length + l'.length) l l', 0 < getV l n + getV l' n from fun n hn => names_pos HG.out HG'.out hn)
   obtain ⟨NS, hNS⟩ : ∃ NS, namesV (l.length + l'.length) l l' = NS := ⟨_, rfl⟩
   have hlen := names_len (l.length + l'.length) l l'
   have hn16 : NS.length ≤ 16 := by rw [hNS, HL.out, HL'.out] at hlen; omega
   rw [hNS] at HM HP
   have HNS := lH hNS
   obtain ⟨R, hR⟩ : ∃ R, foldAcc addF l l' NS [] = R := ⟨_, rfl⟩
   rw [hR] at HM
   have HRR := lH hR
   have HH8 := lH h8
   have HH8' := lH h8'
   obtain ⟨i0, hi, hz0, hz1, hz2⟩ := info_parts refInfo
   clear hr hr' hc ha hb hNS hR hlen h8 h8'
   go_enter Tryz.func156, Tryz.ntmps156
   go_wp2_with fail
   refine (rboth_any _ _ _ _ _ _ l l' _ HA.out HB.out).mono ?_
   rw [HC.out]
   rintro e1 w1 ⟨rfl, k1⟩
   have K1 := lH k1
   clear k1
   go_wp2_with fail
   refine (names_any _ _ _ _ _ _ l l' _ (HA.out.kept K1.out) (HB.out.kept K1.out) HH8.out HH8'.out).mono ?_
   rw [HNS.out]
   rintro e2 w2 ⟨x2, rfl, ho, k2⟩
   have HN2 := lH ho.2
   obtain ⟨s, scap, rfl, hs1, hs2, hrow⟩ := ho.reads
   have HROW := lH hrow
   have HSC := lH hs1
   have K2 := lH (K1.out.trans k2)
   obtain ⟨n, hn⟩ : ∃ n, NS.length = n := ⟨_, rfl⟩
   have HNL := lH hn
   rw [hn] at hn16 HROW ⊢
   clear k2 ho hrow hn hs1 hs2
   go_wp2
   go_loopw [8, 9] (fun v i wr => ∃ (k : Nat) (acc : V), k ≤ n ∧ i = .int .i64 k ∧ foldAcc addF l l' (NS.drop k) acc = R ∧ OwnV 193 wr w2.heap.size v acc ∧ Below w2.heap.size w2 wr ∧ acc.length ≤ k)
    (fun _ i _ => n - (intOf i).toNat)
   case atStart => exact ⟨0, [], Nat.zero_le _, rfl, HRR.out, OwnV.nil _ _ _, Below.refl _ _, Nat.le_refl _⟩
   case round =>
    obtain ⟨k, acc, hk, rfl, hres, ho, hB, hacc⟩ := hrel
    have HQ := lH hres
    have HO := lH ho
    have HB2 := lH hB
    clear hres ho
    by_cases hlt : k < n
    · obtain ⟨b, off, rfl⟩ : ∃ b off, s = some ⟨b, off, none⟩ := HROW.out.form.resolve_left (by omega)
      obtain ⟨x, hx, hdrop, hbx, hsz, c1⟩ := (HROW.out.kept hB).str hlt
      have HD := lH hdrop
      have HSZ := lH hsz
      have HS := lH (show ∀ W, Kept wr W → W.cell? ⟨b, off + k, none⟩ = some (.string x) from fun W kk => cell_later kk c1)
      have HX := lH (show 0 < getV l x + getV l' x from HP.out x (List.mem_of_getElem? hx))
      have HKA := lH (show ∀ W, Kept wr W → VecAt W a len l from fun W kk => HA.out.kept (K2.out.trans (Kept.trans hB kk)))
      have HKB := lH (show ∀ W, Kept wr W → VecAt W a' len' l' from fun W kk => HB.out.kept (K2.out.trans (Kept.trans hB kk)))
      obtain ⟨g1, hg1⟩ : ∃ g, getV l x = g := ⟨_, rfl⟩
      obtain ⟨g2, hg2⟩ : ∃ g, getV l' x = g := ⟨_, rfl⟩
      have HG1 := lH hg1
      have HG2 := lH hg2
      have B1 := lH (show 0 ≤ g1 ∧ g1 ≤ 9223372036854775807 by rw [← hg1]; exact get_bd x HG.out)
      have B2 := lH (show 0 ≤ g2 ∧ g2 ≤ 9223372036854775807 by rw [← hg2]; exact get_bd x HG'.out)
      rw [hg1, hg2] at HX
      obtain ⟨r1, r2, hr⟩ : ∃ r1 r2, addF g1 g2 = (r1, r2) := ⟨_, _, rfl⟩
      have QF := lH (show ∀ W, Calls Tryz.prog 180 #[.int .i64 g1, .int .i64 g2] W (Ans r1 r2 W) from fun W => by
       have := radd_f g1 g2 W B1.out B2.out
       rw [hr] at this
       exact this)
      have RB := lH (show 0 ≤ r1 ∧ r1 ≤ 9223372036854775807 by have := addF_bd B1.out B2.out; rw [hr] at this; exact this)
      have HF := lH (show addF (getV l x) (getV l' x) = (r1, r2) by rw [hg1, hg2]; exact hr)
      have HFR := lH hr
      have hk1 : (k : Int) < (n : Int) := by omega
      clear hB hx hdrop hsz hg1 hg2 hr
      by_cases hz : r2 = 0
      · subst hz
        have hy : r1 ≠ 0 := by
         have h1 := HX.out
         have h2 := HFR.out
         unfold addF at h2
         split at h2
         · have := (Prod.mk.inj h2).1; omega
         · have := (Prod.mk.inj h2).2; omega
        have HN := lH (show foldAcc addF l l' (NS.drop (k + 1)) (acc ++ [(x, r1)]) = R by
         have := fold_next (t := NS.drop (k + 1)) (acc := acc) HF.out
         unfold plusV at this
         rw [if_neg hy] at this
         rw [← this, ← HD.out]; exact HQ.out)
        clear hy
        go_wp2
        clear c1
        refine wp_region_held_drew (S := fun W => W.cell? ⟨b, off + k, none⟩ = some (.string x)) (by kernel_rfl) (HS.out _ (Kept.drew _)) (fun hHeld => ?_)
        refine tkH 0 (v := ?_) (y := Or.inl ⟨by rfl, (by intro W hSw; obtain c1 := hSw; go_simp <;> with_reducible rfl)⟩) (h := ?_)
        try simp only [nP]
        refine tkH 1 (v := ?_) (y := Or.inl ⟨by rfl, (by intro W hSw; obtain c1 := hSw; go_simp <;> with_reducible rfl)⟩) (h := ?_)
        try simp only [nP]
        refine tkH 2 (v := ?_) (y := Or.inl ⟨by rfl, (by intro W hSw; obtain c1 := hSw; go_simp <;> with_reducible rfl)⟩) (h := ?_)
        try simp only [nP]
        refine tkH 3 (v := ?_) (y := Or.inl ⟨by rfl, (by intro W hSw; obtain c1 := hSw; go_simp <;> with_reducible rfl)⟩) (h := ?_)
        try simp only [nP]
        refine tkH 4 (v := ?_) (y := Or.inl ⟨by rfl, (by intro W hSw; obtain c1 := hSw; go_simp <;> with_reducible rfl)⟩) (h := ?_)
        try simp only [nP]
        refine tkH 6 (v := ?_) (y := Or.inl ⟨by rfl, (by intro W hSw; obtain c1 := hSw; go_simp <;> with_reducible rfl)⟩) (h := ?_)
        try simp only [nP]
        refine tkH 7 (v := ?_) (y := Or.inl ⟨by rfl, (by intro W hSw; obtain c1 := hSw; go_simp <;> with_reducible rfl)⟩) (h := ?_)
        try simp only [nP]
        refine tkH 8 (v := ?_) (y := Or.inl ⟨by rfl, (by intro W hSw; obtain c1 := hSw; go_simp <;> with_reducible rfl)⟩) (h := ?_)
        try simp only [nP]
        refine tkH 9 (v := ?_) (y := Or.inl ⟨by rfl, (by intro W hSw; obtain c1 := hSw; go_simp <;> with_reducible rfl)⟩) (h := ?_)
        try simp only [nP]
        refine tkH 10 (v := ?_) (y := Or.inl ⟨by rfl, (by intro W hSw; obtain c1 := hSw; go_simp <;> with_reducible rfl)⟩) (h := ?_)
        try simp only [nP]
        refine rdH (rs := [5]) (h := coH (fun K9 hK9 => ?_) AllReadyH.nil)
        go_simp
        refine (rget_any _ _ _ l x _ (HKA.out _ (Kept.drew _))).mono ?_
        rintro e3 w3 ⟨rfl, kk⟩
        have J1 := lH ((Kept.drew _).trans kk)
        clear kk
        refine hK9.out _ _ (HS.out _ J1.out) (fun hHeld1 => ?_)
        clear hK9 K9
        try simp only [nP]
        refine rdH (rs := [11]) (h := coH (fun K9 hK9 => ?_) AllReadyH.nil)
        go_simp
        refine (rget_any _ _ _ l' x _ (HKB.out _ J1.out)).mono ?_
        rintro e4 w4 ⟨rfl, kk⟩
        have J2 := lH ((J1.out).trans kk)
        clear kk
        refine hK9.out _ _ (HS.out _ J2.out) (fun hHeld2 => ?_)
        clear hK9 K9
        try simp only [nP]
        rw [HG1.out, HG2.out]
        refine rdH (rs := [12]) (h := coH (fun K9 hK9 => ?_) AllReadyH.nil)
        go_simp
        refine (QF.out _).mono ?_
        rintro e5 w5 ⟨rfl, kk⟩
        have J3 := lH ((J2.out).trans kk)
        clear kk
        refine hK9.out _ _ (HS.out _ J3.out) (fun hHeld3 => ?_)
        clear hK9 K9
        try simp only [nP]
        refine tkH 13 (v := ?_) (y := Or.inl ⟨by rfl, (by intro W hSw; obtain c1 := hSw; go_simp <;> with_reducible rfl)⟩) (h := ?_)
        try simp only [nP]
        refine tkH 14 (v := ?_) (y := Or.inl ⟨by rfl, (by intro W hSw; obtain c1 := hSw; go_simp <;> with_reducible rfl)⟩) (h := ?_)
        try simp only [nP]
        refine tkH 15 (v := ?_) (y := Or.inl ⟨by rfl, (by intro W hSw; obtain c1 := hSw; go_simp <;> with_reducible rfl)⟩) (h := ?_)
        try simp only [nP]
        refine tkH 16 (v := ?_) (y := Or.inl ⟨by rfl, (by intro W hSw; obtain c1 := hSw; go_simp <;> with_reducible rfl)⟩) (h := ?_)
        try simp only [nP]
        refine tkH 17 (v := ?_) (y := Or.inl ⟨by rfl, (by intro W hSw; obtain c1 := hSw; go_simp <;> with_reducible rfl)⟩) (h := ?_)
        try simp only [nP]
        refine wpAnyH_done (by kernel_rfl) ?_ _
        have c1 := HS.out _ J3.out
        have B6 := lH (HB2.out.trans (Below.mono J3.out HB2.out.size))
        have O6 := lH (HO.out.kept J3.out)
        have HOL := lH (show (w5.alloc (.cells #[.string x, .int .i64 r1] 193)).ownsRow w2.heap.size 193 2 u8 acc.length (cellsOf acc) from (O6.out.1.alloc _))
        have HBS := lH (show w2.heap.size ≤ w5.heap.size from B6.out.size)
        go_wp2_with (at_builtin; refine wpList_append_lies _ rfl _ _ _ rfl w2.heap.size 193 i0 _ 2 24 Tryz.underlying64 hi hz0 hz1 hz2 rfl (by decide) u8 acc.length (cellsOf acc) rfl HOL.out ⟨w5.heap.size, 0, none⟩ 1 1 [.string x, .int .i64 r1] rfl rfl (news_two _ _ _ _) (cellsOf_one [(x, r1)]) (by decide) (by unfold maxLen; omega) (by omega) (by rw [World.size_alloc]; have := HBS.out; omega) (w5.heap.size + 1) (World.size_alloc _ _) ?_; intro g cap1 w7 hown1 hgrow hg hlt7; refine Hid.out ?_)
        refine lH ?_
        go_wp2
        go_roundw
        case rel =>
         refine ⟨k + 1, acc ++ [(x, r1)], by omega, by go_num, HN.out, ⟨?_, O6.out.2.snoc HSZ.out (by have := RB.out; omega) (by have := RB.out; omega)⟩, (B6.out.alloc HBS.out _).grown hgrow (by rw [World.size_alloc]; have := HBS.out; omega) (fun j hj => (HOL.out.lt j hj).1), by rw [List.length_append]; simp only [List.length_cons, List.length_nil]; omega⟩
         rw [List.length_append, cellsOf_append]; exact hown1
        case measure => simp [intOf]; omega
      · have hz' : (r2 == 0) = false := by simpa using hz
        have HE := lH (show mergedV addF l l' = (r2, []) by
         have : R = (r2, []) := by rw [← HQ.out, HD.out]; exact fold_bad HF.out hz
         rw [HM.out, this]
         simp only
         rw [if_pos hz])
        clear hz
        go_wp2
        clear c1
        refine wp_region_held_drew (S := fun W => W.cell? ⟨b, off + k, none⟩ = some (.string x)) (by kernel_rfl) (HS.out _ (Kept.drew _)) (fun hHeld => ?_)
        refine tkH 0 (v := ?_) (y := Or.inl ⟨by rfl, (by intro W hSw; obtain c1 := hSw; go_simp <;> with_reducible rfl)⟩) (h := ?_)
        try simp only [nP]
        refine tkH 1 (v := ?_) (y := Or.inl ⟨by rfl, (by intro W hSw; obtain c1 := hSw; go_simp <;> with_reducible rfl)⟩) (h := ?_)
        try simp only [nP]
        refine tkH 2 (v := ?_) (y := Or.inl ⟨by rfl, (by intro W hSw; obtain c1 := hSw; go_simp <;> with_reducible rfl)⟩) (h := ?_)
        try simp only [nP]
        refine tkH 3 (v := ?_) (y := Or.inl ⟨by rfl, (by intro W hSw; obtain c1 := hSw; go_simp <;> with_reducible rfl)⟩) (h := ?_)
        try simp only [nP]
        refine tkH 4 (v := ?_) (y := Or.inl ⟨by rfl, (by intro W hSw; obtain c1 := hSw; go_simp <;> with_reducible rfl)⟩) (h := ?_)
        try simp only [nP]
        refine tkH 6 (v := ?_) (y := Or.inl ⟨by rfl, (by intro W hSw; obtain c1 := hSw; go_simp <;> with_reducible rfl)⟩) (h := ?_)
        try simp only [nP]
        refine tkH 7 (v := ?_) (y := Or.inl ⟨by rfl, (by intro W hSw; obtain c1 := hSw; go_simp <;> with_reducible rfl)⟩) (h := ?_)
        try simp only [nP]
        refine tkH 8 (v := ?_) (y := Or.inl ⟨by rfl, (by intro W hSw; obtain c1 := hSw; go_simp <;> with_reducible rfl)⟩) (h := ?_)
        try simp only [nP]
        refine tkH 9 (v := ?_) (y := Or.inl ⟨by rfl, (by intro W hSw; obtain c1 := hSw; go_simp <;> with_reducible rfl)⟩) (h := ?_)
        try simp only [nP]
        refine tkH 10 (v := ?_) (y := Or.inl ⟨by rfl, (by intro W hSw; obtain c1 := hSw; go_simp <;> with_reducible rfl)⟩) (h := ?_)
        try simp only [nP]
        refine rdH (rs := [5]) (h := coH (fun K9 hK9 => ?_) AllReadyH.nil)
        go_simp
        refine (rget_any _ _ _ l x _ (HKA.out _ (Kept.drew _))).mono ?_
        rintro e3 w3 ⟨rfl, kk⟩
        have J1 := lH ((Kept.drew _).trans kk)
        clear kk
        refine hK9.out _ _ (HS.out _ J1.out) (fun hHeld1 => ?_)
        clear hK9 K9
        try simp only [nP]
        refine rdH (rs := [11]) (h := coH (fun K9 hK9 => ?_) AllReadyH.nil)
        go_simp
        refine (rget_any _ _ _ l' x _ (HKB.out _ J1.out)).mono ?_
        rintro e4 w4 ⟨rfl, kk⟩
        have J2 := lH ((J1.out).trans kk)
        clear kk
        refine hK9.out _ _ (HS.out _ J2.out) (fun hHeld2 => ?_)
        clear hK9 K9
        try simp only [nP]
        rw [HG1.out, HG2.out]
        refine rdH (rs := [12]) (h := coH (fun K9 hK9 => ?_) AllReadyH.nil)
        go_simp
        refine (QF.out _).mono ?_
        rintro e5 w5 ⟨rfl, kk⟩
        have J3 := lH ((J2.out).trans kk)
        clear kk
        refine hK9.out _ _ (HS.out _ J3.out) (fun hHeld3 => ?_)
        clear hK9 K9
        try simp only [nP]
        refine tkH 13 (v := ?_) (y := Or.inl ⟨by rfl, (by intro W hSw; obtain c1 := hSw; go_simp <;> with_reducible rfl)⟩) (h := ?_)
        try simp only [nP]
        refine tkH 14 (v := ?_) (y := Or.inl ⟨by rfl, (by intro W hSw; obtain c1 := hSw; go_simp <;> with_reducible rfl)⟩) (h := ?_)
        try simp only [nP]
        refine tkH 15 (v := ?_) (y := Or.inl ⟨by rfl, (by intro W hSw; obtain c1 := hSw; go_simp <;> with_reducible rfl)⟩) (h := ?_)
        try simp only [nP]
        refine tkH 16 (v := ?_) (y := Or.inl ⟨by rfl, (by intro W hSw; obtain c1 := hSw; go_simp <;> with_reducible rfl)⟩) (h := ?_)
        try simp only [nP]
        refine tkH 17 (v := ?_) (y := Or.inl ⟨by rfl, (by intro W hSw; obtain c1 := hSw; go_simp <;> with_reducible rfl)⟩) (h := ?_)
        try simp only [nP]
        refine wpAnyH_done (by kernel_rfl) ?_ _
        have c1 := HS.out _ J3.out
        have B6 := lH (HB2.out.trans (Below.mono J3.out HB2.out.size))
        have O6 := lH (HO.out.kept J3.out)
        go_wp2
        go_ret2
        rw [HE.out]
        exact Told.none (K2.out.trans B6.out)
    · have HE := lH (show R = (0, acc) by
       have e : NS.drop k = [] := List.drop_of_length_le (by rw [HNL.out]; omega)
       rw [← HQ.out, e]; rfl)
      have HKK := lH (K2.out.trans (show Kept w2 wr from hB))
      obtain ⟨av, cv, rfl, hv1, hv2, -⟩ := HO.out.at_
      have HBL := lH (OwnV.base_le HO.out K2.out.size)
      clear hB hv1 hv2
      by_cases h9 : acc.length ≤ 8
      · have HW := lH (show mergedV addF l l' = (0, acc) by
         rw [HM.out, HE.out]
         simp only
         rw [if_neg (by decide), if_neg (by omega)])
        have QW := lH (fun W => rwhole_ok av acc.length cv W h9)
        clear h9
        go_wp2_with fail
        refine (QW.out _).mono ?_
        rintro e9 w9 ⟨rfl, rfl⟩
        go_wp2
        go_ret2
        rw [HW.out]
        exact ⟨_, rfl, HBL.out, HKK.out⟩
      · have HW := lH (show mergedV addF l l' = (4, []) by
         rw [HM.out, HE.out]
         simp only
         rw [if_neg (by decide), if_pos (by omega)])
        have QW := lH (fun W => rwhole_long av acc.length cv W (by omega))
        clear h9
        go_wp2_with fail
        refine (QW.out _).mono ?_
        rintro e9 w9 ⟨rfl, rfl⟩
        go_wp2
        go_ret2
        rw [HW.out]
        exact Told.none HKK.out
 · have HE := lH (merged_both (f := addF) hc)
   obtain ⟨c, hc2⟩ : ∃ c, bothV l l' = c := ⟨_, rfl⟩
   rw [hc2] at HE hc
   have hc' : (c == 0) = false := by simpa using hc
   have HC := lH hc2
   clear hr hr' hc hc2
   go_enter Tryz.func156, Tryz.ntmps156
   go_wp2_with fail
   refine (rboth_any _ _ _ _ _ _ l l' _ HA.out HB.out).mono ?_
   rw [HC.out]
   rintro e1 w1 ⟨rfl, k1⟩
   have K1 := lH k1
   clear k1
   go_wp2
   go_ret2
   rw [HE.out]
   exact Told.none K1.out
theorem raddvR {v v' : Value} {l l' m : V} {c : Int} {w : World} (h : Reads w v l) (h' : Reads w v' l') (e : mergedV addF l l' = (c, m)) :
 Calls Tryz.prog 156 #[v, v'] w fun e w' => ∃ x, e = .returned (.tuple #[x, .int .i64 c]) ∧ Reads w' x m ∧ Kept w w' := by
 obtain ⟨a, cap, rfl, _, _, hb⟩ := h
 obtain ⟨a9, cap9, rfl, _, _, hr⟩ := h'
 refine (raddv_any a a9 _ cap _ cap9 l l' w hb hr).mono ?_
 rw [e]
 rintro e w' ⟨x, rfl, ho, k⟩
 exact ⟨x, rfl, ho.at_, k⟩
end Go.Proofs.YtfpgekjhcfoohaaGreat.Vec
