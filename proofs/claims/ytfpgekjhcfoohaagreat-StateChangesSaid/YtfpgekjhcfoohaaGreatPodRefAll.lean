/- The reference's CheckPods. -/
import Derived.Test.YtfpgekjhcfoohaaGreatShort
import Derived.Test.YtfpgekjhcfoohaaGreatPodRefChk
import Derived.Test.YtfpgekjhcfoohaaGreatPodP
set_option linter.unusedVariables false
namespace Go.Proofs.YtfpgekjhcfoohaaGreat
open Go.RowKit
set_option maxRecDepth 100000 in
set_option maxHeartbeats 8000000 in
theorem rcheckAllP_any (a : Option Addr) (len cap : Nat) (l : List Pd) (w : World) (hr : PodsAt w a len l) :
 Calls Tryz.prog 119 #[.slice a len cap] w (Say (.int .i64 (chkAllP l)) w) := by
 have hl := hr.1
 have hm := hr.2.1
 unfold maxLen at hm
 by_cases h32 : 128 < len
 · have HV := lH (show chkAllP l = 4 by unfold chkAllP; rw [if_pos (by omega)])
   clear hr hl
   go_enter Tryz.func119, Tryz.ntmps119
   go_wp2
   go_ret
   exact ⟨ret_i64 HV.out.symm, Kept.refl _⟩
 · have HV := lH (show chkAllP l = chkFromP none l by unfold chkAllP; rw [if_neg (by omega)])
   have h32' : len ≤ 128 := by omega
   by_cases h0 : len = 0
   · subst h0
     have HE := lH (show chkAllP l = 0 by rw [HV.out, List.eq_nil_of_length_eq_zero hl]; rfl)
     clear hr hl h32
     go_enter Tryz.func119, Tryz.ntmps119
     go_wp2
     refine wp_loop_rounds 1 ?_
     rw [rounds_succ]
     go_wp2
     go_ret
     exact ⟨ret_i64 HE.out.symm, Kept.refl _⟩
   · obtain ⟨b, off, rfl⟩ := hr.form.resolve_left h0
     have HR := lH hr
     have HL := lH hl
     clear hr hl h0 h32
     go_enter Tryz.func119, Tryz.ntmps119
     go_wp2
     go_loopw [3] (fun i wr => ∃ k : Nat, k ≤ len ∧ i = .int .i64 k ∧ chkFromP (prevPd l k) (l.drop k) = chkFromP none l ∧ Kept w wr) (fun i _ => len - (intOf i).toNat)
     case atStart => exact ⟨0, Nat.zero_le _, rfl, rfl, Kept.refl _⟩
     case round =>
      obtain ⟨k, hk, rfl, hrest, hK⟩ := hrel
      have HS := lH (HV.out.trans hrest.symm)
      have HT := lH hrest
      have HK := lH hK
      by_cases hlt : k < len
      · obtain ⟨n, a1, m1, c1, a2, m2, c2, a3, m3, c3, a4, m4, c4, hn, hd, hb, p0, p1, p2, p3, p4, p5, p6, p7, p8, p9, p10, hat⟩ := (HR.out.kept hK).at_ hlt
        have HAT := lH hat
        have HD := lH hd
        have HNX := lH (prevPd_succ hn)
        have HCK := lH (fun W (kk : Kept wr W) => rcheckP_any n (.slice a1 m1 c1) (.slice a2 m2 c2) (.slice a3 m3 c3) (.slice a4 m4 c4) W (HAT.out.kept kk))
        unfold PodV at HCK
        obtain ⟨ck, hck⟩ : ∃ x, chkPod n = x := ⟨_, rfl⟩
        have HCN := lH hck
        rw [hck] at HCK
        have hkk : (k : Int) < (len : Int) := by omega
        clear hrest hK hat hd hck
        by_cases z1 : ck = 0
        · subst z1
          by_cases h0 : k = 0
          · have hd0 : decide (0 < k) = false := by subst h0; decide
            have HP := lH (prevPd_zero (l := l) h0 n.name)
            clear h0
            go_wp2_with fail
            refine (HCK.out _ (Kept.refl _)).mono ?_
            rintro e w1 ⟨rfl, kk⟩
            have KW := lH kk
            clear kk
            go_wp2
            go_quiet (fail)
            go_wp2
            go_roundw
            case rel => exact ⟨k + 1, by omega, by go_num, (show chkFromP (prevPd l (k + 1)) (l.drop (k + 1)) = chkFromP none l by rw [← HT.out, HD.out, chkP_next HCN.out HP.out, HNX.out]), HK.out.trans (KW.out.trans (Kept.drewN _ _))⟩
            case measure => simp [intOf]; omega
          · have hd0 : decide (0 < k) = true := by simp; omega
            have g1 : 0 ≤ (k : Int) - 1 := by omega
            have g2 : (k : Int) - 1 < (len : Int) := by omega
            have g3 : ((k : Int) - 1).toNat = k - 1 := by omega
            obtain ⟨n9, _, _, _, _, _, _, _, _, _, _, _, _, hn9, -, hb9, o0, -⟩ := (HR.out.kept HK.out).at_ (show k - 1 < len by omega)
            have HP := lH (prevPd_some (l := l) h0 hn9 n.name)
            clear h0 hn9
            by_cases n3 : leS n.name n9.name = true
            · have n3' : (Op.bytesLess n.name.toList n9.name.toList || n.name.toList == n9.name.toList) = true := n3
              have N3 := lH n3
              clear n3
              go_wp2_with fail
              refine (HCK.out _ (Kept.refl _)).mono ?_
              rintro e w1 ⟨rfl, kk⟩
              have KW := lH kk
              have o1 := cell_later kk o0
              have p99 := cell_later kk p0
              clear kk
              go_wp2
              go_quiet (fail)
              go_wp2
              go_ret
              exact ⟨ret_i64 (show (13 : Int) = chkAllP l by rw [HS.out, HD.out, chkP_order HCN.out (HP.out.trans N3.out)]), HK.out.trans (KW.out.trans (Kept.drewN _ _))⟩
            · have n3 : leS n.name n9.name = false := by simpa using n3
              have n3' : (Op.bytesLess n.name.toList n9.name.toList || n.name.toList == n9.name.toList) = false := n3
              have N3 := lH n3
              clear n3
              go_wp2_with fail
              refine (HCK.out _ (Kept.refl _)).mono ?_
              rintro e w1 ⟨rfl, kk⟩
              have KW := lH kk
              have o1 := cell_later kk o0
              have p99 := cell_later kk p0
              clear kk
              go_wp2
              go_quiet (fail)
              go_wp2
              go_roundw
              case rel => exact ⟨k + 1, by omega, by go_num, (show chkFromP (prevPd l (k + 1)) (l.drop (k + 1)) = chkFromP none l by rw [← HT.out, HD.out, chkP_next HCN.out (HP.out.trans N3.out), HNX.out]), HK.out.trans (KW.out.trans (Kept.drewN _ _))⟩
              case measure => simp [intOf]; omega
        · have z1' : (ck != 0) = true := by simpa using z1
          have HB := lH (show chkAllP l = ck by rw [HS.out, HD.out, chkP_bad (by rw [HCN.out]; exact z1), HCN.out])
          clear z1
          go_wp2_with fail
          refine (HCK.out _ (Kept.refl _)).mono ?_
          rintro e w1 ⟨rfl, kk⟩
          have KW := lH kk
          clear kk
          go_wp2
          go_ret
          exact ⟨ret_i64 HB.out.symm, HK.out.trans KW.out⟩
      · have HE := lH (show chkAllP l = 0 by rw [HS.out, List.drop_of_length_le (by rw [HL.out]; omega)]; rfl)
        clear hrest hK
        go_wp2
        go_ret
        exact ⟨ret_i64 HE.out.symm, HK.out⟩
theorem rcheckAllPR {v : Value} {l : List Pd} {c : Int} {w : World} (h : PodsR w v l) (hc : chkAllP l = c) : Calls Tryz.prog 119 #[v] w (Say (.int .i64 c) w) := by
 subst hc
 obtain ⟨a, cap, rfl, _, _, hr⟩ := h
 exact rcheckAllP_any a _ cap l w hr
end Go.Proofs.YtfpgekjhcfoohaaGreat
