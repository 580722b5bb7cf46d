/- Package by package: contracts of the functions that the laws call. -/
import Derived.Test.YtfpgekjhcfoohaaGreatShort
import Derived.Test.YtfpgekjhcfoohaaGreatBudA
import Derived.Test.YtfpgekjhcfoohaaGreatPodRefChk
import Derived.Test.YtfpgekjhcfoohaaGreatPodOfAll
import Derived.Test.YtfpgekjhcfoohaaGreatLab
/- The reference's CheckBudget, CheckBudgets. -/
set_option linter.unusedVariables false
namespace Go.Proofs.YtfpgekjhcfoohaaGreat
open Go.RowKit
set_option maxRecDepth 100000 in
set_option maxHeartbeats 3200000 in
theorem rcheckB_any (n : Bd) (v1 : Value) (w : World) (h : BudAt w v1 n) :
 Calls Tryz.prog 155 #[BudV n v1] w (Say (.int .i64 (chkBud n)) w) := by
 obtain ⟨x0, l3, m⟩ := n
 obtain ⟨W0, hW0⟩ : ∃ Z, w.alloc (.cells #[.string x0, v1, .int .i64 m] 97) = Z := ⟨_, rfl⟩
 have hk0 : Kept w W0 := by rw [← hW0]; exact kept_alloc _ _
 have HC := lH (show ∀ W, Kept W0 W → W.cell? ⟨w.heap.size, 0, none⟩ = some (.string x0) ∧ W.cell? ⟨w.heap.size, 1, none⟩ = some (v1) ∧ W.cell? ⟨w.heap.size, 2, none⟩ = some (.int .i64 m) from fun W k => by
  have := freshN w (.string x0) [v1, .int .i64 m] 97 W (by rw [hW0]; exact k)
  exact ⟨this.at_ 0 _ rfl, this.at_ 1 _ rfl, this.at_ 2 _ rfl⟩)
 obtain ⟨y3, hy3⟩ : ∃ y, chkL l3 = y := ⟨_, rfl⟩
 obtain ⟨r0, hr0⟩ : ∃ r, isName x0 = r := ⟨_, rfl⟩
 have E3 := lH (refCheckSelR (h.sel.kept hk0) hy3)
 have N0 := lH (fun W => Vec.rnameR (w := W) h.name hr0)
 have HV := lH (show chkBud ⟨x0, l3, m⟩ = orL [if r0 = true then 0 else 3, y3, chkFloor m] by rw [← hy3, ← hr0]; rfl)
 have HK0 := lH hk0
 clear h hk0 hy3 hr0
 obtain ⟨c0, c1, c2⟩ := HC.out _ (Kept.refl _)
 unfold BudV
 dsimp only
 cases r0 with
 | false =>
  have HW := lH (show chkBud ⟨x0, l3, m⟩ = 3 by rw [HV.out]; rfl)
  go_enter Tryz.func155, Tryz.ntmps155
  go_wp2_with fail
  try rw [hW0]
  refine (N0.out _).mono ?_
  rintro e w1 ⟨rfl, rfl⟩
  go_wp2
  go_ret
  exact ⟨ret_i64 HW.out.symm, HK0.out⟩
 | true =>
  by_cases z : y3 = 0
  · subst z
    by_cases z1 : m < 0
    · have HW := lH (show chkBud ⟨x0, l3, m⟩ = 1 by rw [HV.out, show chkFloor m = 1 by unfold chkFloor; rw [if_pos (.inl z1)]]; rfl)
      go_enter Tryz.func155, Tryz.ntmps155
      go_wp2_with fail
      try rw [hW0]
      refine (N0.out _).mono ?_
      rintro e w1 ⟨rfl, rfl⟩
      go_wp2_with fail
      refine E3.out.mono ?_
      rintro e w2 ⟨rfl, k⟩
      obtain ⟨d0, d1, d2⟩ := HC.out _ k
      go_wp2
      go_ret
      exact ⟨ret_i64 HW.out.symm, HK0.out.trans k⟩
    · by_cases z2 : 128 < m
      · have HW := lH (show chkBud ⟨x0, l3, m⟩ = 1 by rw [HV.out, show chkFloor m = 1 by unfold chkFloor; rw [if_pos (.inr z2)]]; rfl)
        have z1' : 0 ≤ m := by omega
        clear z1
        go_enter Tryz.func155, Tryz.ntmps155
        go_wp2_with fail
        try rw [hW0]
        refine (N0.out _).mono ?_
        rintro e w1 ⟨rfl, rfl⟩
        go_wp2_with fail
        refine E3.out.mono ?_
        rintro e w2 ⟨rfl, k⟩
        obtain ⟨d0, d1, d2⟩ := HC.out _ k
        go_wp2
        go_ret
        exact ⟨ret_i64 HW.out.symm, HK0.out.trans k⟩
      · have HW := lH (show chkBud ⟨x0, l3, m⟩ = 0 by rw [HV.out, show chkFloor m = 0 by unfold chkFloor; rw [if_neg (by omega)]]; rfl)
        have z1' : 0 ≤ m := by omega
        have z2' : m ≤ 128 := by omega
        clear z1 z2
        go_enter Tryz.func155, Tryz.ntmps155
        go_wp2_with fail
        try rw [hW0]
        refine (N0.out _).mono ?_
        rintro e w1 ⟨rfl, rfl⟩
        go_wp2_with fail
        refine E3.out.mono ?_
        rintro e w2 ⟨rfl, k⟩
        obtain ⟨d0, d1, d2⟩ := HC.out _ k
        go_wp2
        go_ret
        exact ⟨ret_i64 HW.out.symm, HK0.out.trans k⟩
  · have HW := lH (show chkBud ⟨x0, l3, m⟩ = y3 by
     rw [HV.out]
     show (if (0 : Int) ≠ 0 then 0 else if y3 ≠ 0 then y3 else _) = y3
     rw [if_neg (by decide), if_pos z])
    have z' : (y3 != 0) = true := by simpa using z
    clear z
    go_enter Tryz.func155, Tryz.ntmps155
    go_wp2_with fail
    try rw [hW0]
    refine (N0.out _).mono ?_
    rintro e w1 ⟨rfl, rfl⟩
    go_wp2_with fail
    refine E3.out.mono ?_
    rintro e w2 ⟨rfl, k⟩
    go_wp2
    go_ret
    exact ⟨ret_i64 HW.out.symm, HK0.out.trans k⟩
set_option maxRecDepth 100000 in
set_option maxHeartbeats 8000000 in
theorem rcheckAllB_any (a : Option Addr) (len cap : Nat) (l : List Bd) (w : World) (hr : BudsAt w a len l) :
 Calls Tryz.prog 120 #[.slice a len cap] w (Say (.int .i64 (chkAllBd l)) w) := by
 have hl := hr.1
 have hm := hr.2.1
 unfold maxLen at hm
 by_cases h32 : 8 < len
 · have HV := lH (show chkAllBd l = 4 by unfold chkAllBd; rw [if_pos (by omega)])
   clear hr hl
   go_enter Tryz.func120, Tryz.ntmps120
   go_wp2
   go_ret
   exact ⟨ret_i64 HV.out.symm, Kept.refl _⟩
 · have HV := lH (show chkAllBd l = chkFromBd none l by unfold chkAllBd; rw [if_neg (by omega)])
   have h32' : len ≤ 8 := by omega
   by_cases h0 : len = 0
   · subst h0
     have HE := lH (show chkAllBd l = 0 by rw [HV.out, List.eq_nil_of_length_eq_zero hl]; rfl)
     clear hr hl h32
     go_enter Tryz.func120, Tryz.ntmps120
     go_wp2
     refine wp_loop_rounds 1 ?_
     rw [rounds_succ]
     go_wp2
     go_ret
     exact ⟨ret_i64 HE.out.symm, Kept.refl _⟩
   · obtain ⟨b, off, rfl⟩ := hr.form.resolve_left h0
     have HR := lH hr
     have HL := lH hl
     clear hr hl h0 h32
     go_enter Tryz.func120, Tryz.ntmps120
     go_wp2
     go_loopw [3] (fun i wr => ∃ k : Nat, k ≤ len ∧ i = .int .i64 k ∧ chkFromBd (prevBd l k) (l.drop k) = chkFromBd none l ∧ Kept w wr) (fun i _ => len - (intOf i).toNat)
     case atStart => exact ⟨0, Nat.zero_le _, rfl, rfl, Kept.refl _⟩
     case round =>
      obtain ⟨k, hk, rfl, hrest, hK⟩ := hrel
      have HS := lH (HV.out.trans hrest.symm)
      have HT := lH hrest
      have HK := lH hK
      by_cases hlt : k < len
      · obtain ⟨n, a1, m1, c1, hn, hd, hb, p0, p1, p2, hat⟩ := (HR.out.kept hK).at_ hlt
        have HAT := lH hat
        have HD := lH hd
        have HNX := lH (prevBd_succ hn)
        have HCK := lH (fun W (kk : Kept wr W) => rcheckB_any n (.slice a1 m1 c1) W (HAT.out.kept kk))
        unfold BudV at HCK
        obtain ⟨ck, hck⟩ : ∃ x, chkBud n = x := ⟨_, rfl⟩
        have HCN := lH hck
        rw [hck] at HCK
        have hkk : (k : Int) < (len : Int) := by omega
        clear hrest hK hat hd hck
        by_cases z1 : ck = 0
        · subst z1
          by_cases h0 : k = 0
          · have hd0 : decide (0 < k) = false := by subst h0; decide
            have HP := lH (prevBd_zero (l := l) h0 n.name)
            clear h0
            go_wp2_with fail
            refine (HCK.out _ (Kept.refl _)).mono ?_
            rintro e w1 ⟨rfl, kk⟩
            have KW := lH kk
            clear kk
            go_wp2
            go_quiet (fail)
            go_wp2
            go_roundw
            case rel => exact ⟨k + 1, by omega, by go_num, (show chkFromBd (prevBd l (k + 1)) (l.drop (k + 1)) = chkFromBd none l by rw [← HT.out, HD.out, chkBd_next HCN.out HP.out, HNX.out]), HK.out.trans (KW.out.trans (Kept.drewN _ _))⟩
            case measure => simp [intOf]; omega
          · have hd0 : decide (0 < k) = true := by simp; omega
            have g1 : 0 ≤ (k : Int) - 1 := by omega
            have g2 : (k : Int) - 1 < (len : Int) := by omega
            have g3 : ((k : Int) - 1).toNat = k - 1 := by omega
            obtain ⟨n9, _, _, _, hn9, -, hb9, o0, -⟩ := (HR.out.kept HK.out).at_ (show k - 1 < len by omega)
            have HP := lH (prevBd_some (l := l) h0 hn9 n.name)
            clear h0 hn9
            by_cases n3 : leS n.name n9.name = true
            · have n3' : (Op.bytesLess n.name.toList n9.name.toList || n.name.toList == n9.name.toList) = true := n3
              have N3 := lH n3
              clear n3
              go_wp2_with fail
              refine (HCK.out _ (Kept.refl _)).mono ?_
              rintro e w1 ⟨rfl, kk⟩
              have KW := lH kk
              have o1 := cell_later kk o0
              have p99 := cell_later kk p0
              clear kk
              go_wp2
              go_quiet (fail)
              go_wp2
              go_ret
              exact ⟨ret_i64 (show (13 : Int) = chkAllBd l by rw [HS.out, HD.out, chkBd_order HCN.out (HP.out.trans N3.out)]), HK.out.trans (KW.out.trans (Kept.drewN _ _))⟩
            · have n3 : leS n.name n9.name = false := by simpa using n3
              have n3' : (Op.bytesLess n.name.toList n9.name.toList || n.name.toList == n9.name.toList) = false := n3
              have N3 := lH n3
              clear n3
              go_wp2_with fail
              refine (HCK.out _ (Kept.refl _)).mono ?_
              rintro e w1 ⟨rfl, kk⟩
              have KW := lH kk
              have o1 := cell_later kk o0
              have p99 := cell_later kk p0
              clear kk
              go_wp2
              go_quiet (fail)
              go_wp2
              go_roundw
              case rel => exact ⟨k + 1, by omega, by go_num, (show chkFromBd (prevBd l (k + 1)) (l.drop (k + 1)) = chkFromBd none l by rw [← HT.out, HD.out, chkBd_next HCN.out (HP.out.trans N3.out), HNX.out]), HK.out.trans (KW.out.trans (Kept.drewN _ _))⟩
              case measure => simp [intOf]; omega
        · have z1' : (ck != 0) = true := by simpa using z1
          have HB := lH (show chkAllBd l = ck by rw [HS.out, HD.out, chkBd_bad (by rw [HCN.out]; exact z1), HCN.out])
          clear z1
          go_wp2_with fail
          refine (HCK.out _ (Kept.refl _)).mono ?_
          rintro e w1 ⟨rfl, kk⟩
          have KW := lH kk
          clear kk
          go_wp2
          go_ret
          exact ⟨ret_i64 HB.out.symm, HK.out.trans KW.out⟩
      · have HE := lH (show chkAllBd l = 0 by rw [HS.out, List.drop_of_length_le (by rw [HL.out]; omega)]; rfl)
        clear hrest hK
        go_wp2
        go_ret
        exact ⟨ret_i64 HE.out.symm, HK.out⟩
theorem rcheckAllBR {v : Value} {l : List Bd} {c : Int} {w : World} (h : BudsR w v l) (hc : chkAllBd l = c) : Calls Tryz.prog 120 #[v] w (Say (.int .i64 c) w) := by
 subst hc
 obtain ⟨a, cap, rfl, _, _, hr⟩ := h
 exact rcheckAllB_any a _ cap l w hr
open Go.RowKit
abbrev BX := Bd × SX
abbrev aggB (z : BX) : Value := BudV z.1 (slV z.2)
def At1 (w : World) (z : BX) : Prop := BudAt w (slV z.2) z.1
theorem BudAt.at1 {w : World} {n : Bd} {x1 : SX} (h : BudAt w (slV x1) n) : At1 w (n, x1) := h
set_option maxRecDepth 100000 in
set_option maxHeartbeats 8000000 in
theorem ofB_any (n : Bd) (v1 : Value) (w : World) (h : BudAt w v1 n) (hl : n.sel.length ≤ 1000000) :
 Calls Tryz.prog 103 #[BudV n v1] w fun e w' => ∃ z : BX, e = .returned (aggB z) ∧ z.1 = n ∧ At1 w' z ∧ Btw w.heap.size w'.heap.size z.2.1 ∧ Kept w w' := by
 have HH := lH h
 have E3 := lH (fun W (k : Kept w W) => (ofLO (h.sel.kept k) hl).mono fun _ _ => row_spelt)
 obtain ⟨⟨x0, l3, m⟩, hnn⟩ : ∃ m, m = n := ⟨n, rfl⟩
 subst hnn
 dsimp only at E3
 obtain ⟨W0, hW0⟩ : ∃ Z, (w.alloc (.cells #[.string x0, v1, .int .i64 m] 89)).alloc (.cells #[.string ⟨#[]⟩, .slice none 0 0, .int .i64 0] 97) = Z := ⟨_, rfl⟩
 have hk0 : Kept w W0 := by rw [← hW0]; exact kept_two _ _ _
 have hzs : W0.heap.size = w.heap.size + 2 := by rw [← hW0]; simp
 have HB := lH (show ∀ W, Kept W0 W → W.cell? ⟨w.heap.size, 0, none⟩ = some (.string x0) ∧ W.cell? ⟨w.heap.size, 1, none⟩ = some (v1) ∧ W.cell? ⟨w.heap.size, 2, none⟩ = some (.int .i64 m) from fun W k => by
  have := freshN w (.string x0) [v1, .int .i64 m] 89 W ((by rw [← hW0]; exact kept_alloc _ _ : Kept (w.alloc (.cells #[.string x0, v1, .int .i64 m] 89)) W0).trans k)
  exact ⟨this.at_ 0 _ rfl, this.at_ 1 _ rfl, this.at_ 2 _ rfl⟩)
 have HQ := lH (show ∀ W, Kept W0 W → CellsN (w.heap.size + 1) [.string ⟨#[]⟩, .slice none 0 0, .int .i64 0] W from fun W k => by
  have := freshN (w.alloc (.cells #[.string x0, v1, .int .i64 m] 89)) (.string ⟨#[]⟩) [.slice none 0 0, .int .i64 0] 97 W (by rw [hW0]; exact k)
  rw [World.size_alloc] at this
  exact this)
 have HZ := lH hzs
 have HK0 := lH hk0
 obtain ⟨b0, b1, b2⟩ := HB.out _ (Kept.refl _)
 clear h hl hk0 hzs
 unfold BudV
 dsimp only
 go_enter Tryz.func103, Tryz.ntmps103
 go_wp2
 try rw [hW0]
 clear hW0
 go_region_held3 (fun W => (W.cell? ⟨w.heap.size, 0, none⟩ = some (.string x0) ∧ W.cell? ⟨w.heap.size, 1, none⟩ = some (v1) ∧ W.cell? ⟨w.heap.size, 2, none⟩ = some (.int .i64 m)))
  (first | with_reducible exact HB.out _ K4.out | exact three_past (HB.out _ K4.out) (by omega) | exact HB.out _ (Kept.drew _))
  (first | (go_at_call 84; refine (E3.out _ (HK0.out.trans (Kept.drew _))).mono ?_; rintro e1 w4 ⟨b1, n1, d1, rfl, r1, g1, k1⟩; have K4 := lH (Kept.trans (Kept.drew _) k1); have G1 := lH (show Btw (w.heap.size + 2) w4.heap.size b1 from fun b o s e => ⟨Nat.le_trans (by rw [← HZ.out]; exact Below.size (Kept.drew _)) (g1 b o s e).1, (g1 b o s e).2⟩); have R1 := lH r1; clear k1 r1 g1; have HQ4 := lH (HQ.out _ K4.out); have z0 := HQ4.out.at_ 0 _ rfl; have f0 := HQ4.out.free 0; have z1 := HQ4.out.at_ 1 _ rfl; have f1 := HQ4.out.free 1; have z2 := HQ4.out.at_ 2 _ rfl; have f2 := HQ4.out.free 2))
 have P := lH (putN (vs := [.string x0, .slice b1 n1 d1, .int .i64 m]) HQ4.out rfl)
 go_wp2
 obtain ⟨WE, hWE⟩ : ∃ W, w4.setCells (w.heap.size + 1) 0 [.string x0, .slice b1 n1 d1, .int .i64 m] = W := ⟨_, rfl⟩
 have hWE2 : (((w4.setCell ⟨w.heap.size + 1, 0, none⟩ (.string x0)).setCell ⟨w.heap.size + 1, 1, none⟩ (.slice b1 n1 d1)).setCell ⟨w.heap.size + 1, 2, none⟩ (.int .i64 m)) = WE := hWE
 rw [hWE] at P
 rw [hWE2]
 clear hWE hWE2
 obtain ⟨PC, hsz, hbl, hkp⟩ := P.out
 refine bodyPost_ret (by simp [results, Tryz.results103, go_sem, PC.at_ 0 _ rfl, PC.at_ 1 _ rfl, PC.at_ 2 _ rfl]; try rfl) rfl ?_
 refine ⟨(⟨x0, l3, m⟩, (b1, n1, d1)), rfl, rfl, BudAt.at1 (BudAt.far (B := w.heap.size + 2) (n := ⟨x0, l3, m⟩) ⟨HH.out.name, HH.out.floor, R1.out⟩ hsz (fun b hb => hbl b (by omega)) G1.out.behind), ?_, hkp _ _ (Nat.le_succ _) (HK0.out.trans K4.out)⟩
 rw [hsz]
 exact G1.out.up (by omega) (Nat.le_refl _)
theorem one_bud0 (x : BX) (u : Value) (h : u ∈ [Value.string x.1.name, slV x.2, .int .i64 x.1.floor]) : u.oneCell' = true := by
 simp only [List.mem_cons, List.not_mem_nil, or_false] at h
 rcases h with rfl | rfl | rfl <;> rfl
def BudLay0 : Lay BX := { m := 3, cs := fun x => [.string x.1.name, slV x.2, .int .i64 x.1.floor], fine := fun _ => True, len := fun _ => rfl, one := one_bud0, pos := by decide }
def FarB (w : World) (v : Value) (l : List BX) : Prop := ∀ z ∈ l, At1 w z ∧ Btw 0 w.heap.size z.2.1 ∧ NotIn v z.2.1
theorem farB_grow {wr w1 w2 : World} {o : Obj} {v : Value} {l : List BX} {z0 : BX} {gg n cap : Nat} (hv : FarB wr v l) (k : Kept wr w1) (hz : At1 w1 z0) (hw : Btw wr.heap.size w1.heap.size z0.2.1) (hown : ∀ g, v.ownBlock = some g → g < wr.heap.size)
 (hgrow : (w1.alloc o).grownBy w2 v.ownBlock) (hat : v.ownBlock = some gg ∨ gg = w1.heap.size + 1) : FarB w2 (.slice (some ⟨gg, 0, none⟩) n cap) (l ++ [z0]) := by
 have hs := hgrow.size
 rw [World.size_alloc] at hs
 have hk := k.size
 have key : ∀ z, At1 w1 z → Btw 0 w1.heap.size z.2.1 → NotIn v z.2.1 → At1 w2 z ∧ Btw 0 w2.heap.size z.2.1 ∧ NotIn (.slice (some ⟨gg, 0, none⟩) n cap) z.2.1 := by
  intro z h3 hwz f1
  have ne : ∀ b, b < w1.heap.size → v.ownBlock ≠ some b → (Value.slice (some ⟨gg, 0, none⟩) n cap).ownBlock ≠ some b := by
   intro b hb hne e
   have e : some gg = some b := e
   rcases hat with hat | hat
   · exact hne (hat.trans e)
   · have : gg = b := Option.some.inj e
     omega
  have h3' := BudAt.kept h3 (kept_alloc w1 o)
  exact ⟨⟨h3'.name, h3'.floor, h3'.sel.grown hgrow (fun b off sp e => Ne.symm (f1 b off sp e))⟩, hwz.up (Nat.le_refl _) (by omega), fun b off sp e => ne b (hwz b off sp e).2 (f1 b off sp e)⟩
 intro z hzm
 rcases List.mem_append.1 hzm with hzm | hzm
 · obtain ⟨h0, h1, h2⟩ := hv z hzm
   exact key z (BudAt.kept h0 k) (h1.up (Nat.le_refl _) hk) h2
 · obtain rfl : z = z0 := by simpa using hzm
   exact key z hz (hw.up (Nat.zero_le _) (Nat.le_refl _)) (fun b off sp e f => by have := (hw b off sp e).1; have := hown b f; omega)
theorem buds_own {w : World} {T : TypeId} {B : Nat} {v : Value} {lx : List BX} (ho : Own BudLay0 T w B v lx) (hf : ∀ z ∈ lx, At1 w z) : BudsR w v (lx.map fun z => z.1) := by
 obtain ⟨a, cap, rfl, h1, h2, h3⟩ := ho.at_
 obtain ⟨g0, g1, g2, g3⟩ := h3
 refine ⟨a, cap, by rw [List.length_map], by rw [List.length_map]; exact h1, h2, rfl, by rw [List.length_map]; exact g1, ?_⟩
 rw [List.length_map]
 rcases g3 with g3 | ⟨b, off, rfl, hb, hc⟩
 · exact .inl g3
 · refine .inr ⟨b, off, rfl, hb, fun i n hi => ?_⟩
   rw [List.getElem?_map] at hi
   obtain ⟨z, hz, rfl⟩ := Option.map_eq_some_iff.1 hi
   exact ⟨slV z.2, hc i z 0 _ hz rfl, hc i z 1 _ hz rfl, hc i z 2 _ hz rfl, hf z (List.mem_of_getElem? hz)⟩
theorem infoRB : (Tryz.prog.info? 97).map (fun i => (i.zero, i.size, i.bytes)) = some (some (.agg #[.string ByteArray.empty, .slice none 0 0, .int .i64 0]), 3, 48) := by kernel_rfl
set_option maxRecDepth 100000 in
set_option maxHeartbeats 8000000 in
theorem ofAllB_any (a : Option Addr) (len cap : Nat) (l : List Bd) (w : World) (hr : BudsAt w a len l) (hlow : ∀ n ∈ l, n.sel.length ≤ 1000000) (hlen : len ≤ 1000) :
 Calls Tryz.prog 46 #[.slice a len cap] w fun e w' => ∃ v, e = .returned v ∧ BudsR w' v l ∧ Kept w w' := by
 have hl := hr.1
 have HLOW := lH hlow
 obtain ⟨i0, hi, hz0, hz1, hz2'⟩ := info_parts infoRB
 rcases hr.form with h0 | ⟨b, off, rfl⟩
 · subst h0
   have hl0 : l = [] := List.eq_nil_of_length_eq_zero hl
   subst hl0
   clear hr hl hi hz0 hz1 hz2' hlow
   go_enter Tryz.func46, Tryz.ntmps46
   go_wp2
   refine wp_loop_rounds 1 ?_
   rw [rounds_succ]
   go_wp2
   go_ret
   exact ⟨_, rfl, ⟨none, 0, rfl, Nat.le_refl _, by decide, rfl, by decide, .inl rfl⟩, Kept.refl _⟩
 · have HR := lH hr
   have HL := lH hl
   clear hr hl hlow
   go_enter Tryz.func46, Tryz.ntmps46
   go_wp2
   go_loopw [3, 4] (fun v i wr => ∃ k : Nat, k ≤ len ∧ i = .int .i64 k ∧ ∃ lx : List BX, (lx.map fun z => z.1) = l.take k ∧ Own BudLay0 97 wr w.heap.size v lx ∧ FarB wr v lx ∧ Below w.heap.size w wr) (fun _ i _ => len - (intOf i).toNat)
   case atStart => exact ⟨0, Nat.zero_le _, rfl, [], rfl, Own.nil _ _ _, (fun z h => by cases h), Below.refl _ _⟩
   case round =>
    obtain ⟨k, hk, rfl, lx, hlx, ho, hv, hB⟩ := hrel
    have HX := lH hlx
    have HO := lH ho
    have HV := lH hv
    have HB := lH hB
    have HT := lH (show lx.length = k by have := congrArg List.length hlx; rw [List.length_map, List.length_take, HL.out] at this; omega)
    have HOWN := lH (show wr.ownsRow w.heap.size 97 3 u3 k (rowCells BudLay0 lx) by have := HO.out.1; rw [HT.out] at this; exact this)
    have hbase : w.heap.size ≤ wr.heap.size := hB.size
    by_cases hlt : k < len
    · obtain ⟨n, a1, m1, c1, hn, hd, hb, p0, p1, p2, hat⟩ := (HR.out.kept hB).at_ hlt
      have HN := lH hn
      have HOF := lH (ofB_any n (.slice a1 m1 c1) wr hat (HLOW.out n (List.mem_of_getElem? hn)))
      have hk1 : (k : Int) < (len : Int) := by omega
      clear hlx ho hv hB hn hd hat
      go_wp2_with fail
      refine HOF.out.mono ?_
      rintro e w1 ⟨z, rfl, hz, h3, hwi, kk⟩
      have HZ := lH hz
      have H3 := lH h3
      have HW := lH hwi
      have KK := lH kk
      have hs1 : wr.heap.size ≤ w1.heap.size := kk.size
      have HOW2 := lH (show w1.ownsRow w.heap.size 97 3 u3 k (rowCells BudLay0 lx) by have := (HO.out.kept kk).1; rw [HT.out] at this; exact this)
      clear hz h3 hwi kk
      go_wp2_with (at_builtin; refine wpList_append_lies _ rfl _ _ _ rfl w.heap.size 97 i0 _ 3 48 Tryz.underlying33 hi hz0 hz1 hz2' rfl (by decide) u3 k (rowCells BudLay0 lx) rfl (HOW2.out.alloc _) ⟨w1.heap.size, 0, none⟩ 1 1 (BudLay0.cs z) rfl rfl (World.news_of_block (cs := #[.string z.1.name, slV z.2, .int .i64 z.1.floor]) (t := 97) (fr := (0, 0)) (heap_alloc_new w1 _)) (one_bud0 z) (by decide) (by unfold maxLen; omega) (by omega) (by simp; omega) (w1.heap.size + 1) (by simp) ?_; intro gg cap1 w2 hown1 hgrow hat hlt1)
      have HFAR := lH (farB_grow (n := k + 1) (cap := cap1) HV.out KK.out H3.out HW.out (fun g h => (HOWN.out.lt g h).2) hgrow hat)
      have HBW := lH ((HB.out.trans ((Below.mono KK.out hbase).trans (Below.mono (kept_alloc w1 _) (by omega)))).grown hgrow (by simp; omega) (fun j hj => (HOWN.out.lt j hj).1))
      go_wp2
      go_roundw
      case rel => exact ⟨k + 1, by omega, by go_num, lx ++ [z], by rw [List.map_append, HX.out, take_snoc HN.out, ← HZ.out]; rfl, Own.snoc hown1 (by rw [HT.out]) HO.out.2 trivial, HFAR.out, HBW.out⟩
      case measure => simp [intOf]; omega
    · have HK := lH (show l.take k = l by rw [List.take_of_length_le (by rw [HL.out]; omega)])
      have HRES := lH (show BudsR wr u3 l by have := buds_own HO.out (fun z hz => (HV.out z hz).1); rw [HX.out, HK.out] at this; exact this)
      clear hlx ho hv hB
      go_wp2
      go_ret
      exact ⟨_, rfl, HRES.out, HB.out⟩
theorem ofAllBR {v : Value} {l : List Bd} {w : World} (h : BudsR w v l) (hlow : ∀ n ∈ l, n.sel.length ≤ 1000000) (hlen : l.length ≤ 1000) :
 Calls Tryz.prog 46 #[v] w fun e w' => ∃ v, e = .returned v ∧ BudsR w' v l ∧ Kept w w' := by
 obtain ⟨a, cap, rfl, _, _, hr⟩ := h
 exact ofAllB_any a _ cap l w hr hlow hlen
open Go.RowKit
def fewBs (l : List Bd) : Bool := decide (l.length ≤ 20) && l.all fewBd
theorem fewBs_no {l : List Bd} {n : Bd} {k : Nat} (h : l[k]? = some n) (g : fewBd n = false) : fewBs l = false := by
 unfold fewBs
 have : l.all fewBd = false := by
  rw [List.all_eq_false]
  exact ⟨n, List.mem_of_getElem? h, by rw [g]; decide⟩
 rw [this]; simp
set_option maxRecDepth 100000 in
set_option maxHeartbeats 3200000 in
theorem fewBs_any (a : Option Addr) (len cap : Nat) (l : List Bd) (w : World) (hr : BudsAt w a len l) :
 Calls Tryz.prog 34 #[.slice a len cap] w (Say (.bool (fewBs l)) w) := by
 have hl := hr.1
 have hm := hr.2.1
 unfold maxLen at hm
 by_cases h20 : 20 < len
 · have HV := lH (show fewBs l = false by unfold fewBs; rw [hl]; simp; omega)
   clear hr hl
   go_enter Tryz.func34, Tryz.ntmps34
   go_wp2
   go_ret
   exact ⟨ret_bool HV.out.symm, Kept.refl _⟩
 · have h20' : len ≤ 20 := by omega
   by_cases h0 : len = 0
   · subst h0
     have HV := lH (show fewBs l = true by rw [List.eq_nil_of_length_eq_zero hl]; rfl)
     clear hr hl h20
     go_enter Tryz.func34, Tryz.ntmps34
     go_wp2
     refine wp_loop_rounds 1 ?_
     rw [rounds_succ]
     go_wp2
     go_ret
     exact ⟨ret_bool HV.out.symm, Kept.refl _⟩
   · obtain ⟨b, off, rfl⟩ := hr.form.resolve_left h0
     have HR := lH hr
     have HL := lH hl
     clear hr hl h0 h20
     go_enter Tryz.func34, Tryz.ntmps34
     go_wp2
     go_loopw [3] (fun i wr => ∃ k : Nat, k ≤ len ∧ i = .int .i64 k ∧ (∀ n ∈ l.take k, fewBd n = true) ∧ Kept w wr) (fun i _ => len - (intOf i).toNat)
     case atStart => exact ⟨0, Nat.zero_le _, rfl, (fun n h => by cases h), Kept.refl _⟩
     case round =>
      obtain ⟨k, hk, rfl, hrest, hK⟩ := hrel
      have HS := lH hrest
      have HK := lH hK
      by_cases hlt : k < len
      · obtain ⟨n, a1, m1, c1, hn, hd, hb, p0, p1, p2, hat⟩ := (HR.out.kept hK).at_ hlt
        have HN := lH hn
        have HAT := lH hat
        clear hrest hK hat hd hn
        by_cases z : 50 < n.name.size
        · have z1 : (50 : Int) < (n.name.size : Int) := by omega
          have HV := lH (show fewBs l = false from fewBs_no HN.out (by unfold fewBd; simp; omega))
          clear z
          go_wp2
          go_ret
          exact ⟨ret_bool HV.out.symm, HK.out⟩
        · have z1 : (n.name.size : Int) ≤ 50 := by omega
          have Z2 := lH (show n.name.size ≤ 50 by omega)
          clear z
          cases f : fewL n.sel with
          | false =>
           have HV := lH (show fewBs l = false from fewBs_no HN.out (by unfold fewBd; rw [f]; simp))
           have HF := lH (fewSelR HAT.out.sel)
           rw [f] at HF
           clear f
           go_wp2_with fail
           refine HF.out.mono ?_
           rintro e w1 ⟨rfl, rfl⟩
           go_wp2
           go_ret
           exact ⟨ret_bool HV.out.symm, HK.out⟩
          | true =>
           have HV := lH (show fewBd n = true by unfold fewBd; rw [f]; simp; exact Z2.out)
           have HF := lH (fewSelR HAT.out.sel)
           rw [f] at HF
           clear f
           go_wp2_with fail
           refine HF.out.mono ?_
           rintro e w1 ⟨rfl, rfl⟩
           go_wp2
           go_roundw
           case rel => exact ⟨k + 1, by omega, by go_num, (fun x hx => by
            rw [take_snoc HN.out] at hx
            rcases List.mem_append.1 hx with hx | hx
            · exact HS.out x hx
            · obtain rfl : x = n := by simpa using hx
              exact HV.out), HK.out⟩
           case measure => simp [intOf]; omega
      · have HV := lH (show fewBs l = true by
         have e : l.take k = l := List.take_of_length_le (by rw [HL.out]; omega)
         rw [e] at hrest
         unfold fewBs
         rw [List.all_eq_true.2 hrest, HL.out]; simp; omega)
        clear hrest hK
        go_wp2
        go_ret
        exact ⟨ret_bool HV.out.symm, HK.out⟩
theorem fewBsR {v : Value} {l : List Bd} {c : Bool} {w : World} (h : BudsR w v l) (hc : fewBs l = c) : Calls Tryz.prog 34 #[v] w (Say (.bool c) w) := by
 subst hc
 obtain ⟨a, cap, rfl, _, _, hr⟩ := h
 exact fewBs_any a _ cap l w hr
end Go.Proofs.YtfpgekjhcfoohaaGreat
