/- Package by package: contracts of the functions that the laws call. -/
import Derived.Test.YtfpgekjhcfoohaaGreatShort
import Derived.Test.YtfpgekjhcfoohaaGreatPodBase
import Derived.Test.YtfpgekjhcfoohaaGreatNodShort
import Derived.Test.YtfpgekjhcfoohaaGreatBase
import Derived.Test.YtfpgekjhcfoohaaGreatTai
import Derived.Test.YtfpgekjhcfoohaaGreatPodClone
import Derived.Deep.RegionHeld3
import Derived.Test.YtfpgekjhcfoohaaGreatNodA
/- A pod in words. -/
set_option linter.unusedVariables false
namespace Go.Proofs.YtfpgekjhcfoohaaGreat
open Go.RowKit
def fewPd (n : Pd) : Bool := decide (n.name.size ≤ 50) && (decide (n.owner.size ≤ 50) && (decide (n.key.size ≤ 50) && (decide (n.node.size ≤ 50) && (Vec.fewV n.need && (fewS n.labels && (fewL n.sel && fewN n.tols))))))
theorem fewPd_parts {n : Pd} (h : fewPd n = true) : n.name.size ≤ 50 ∧ n.owner.size ≤ 50 ∧ n.key.size ≤ 50 ∧ n.node.size ≤ 50 ∧ Vec.fewV n.need = true ∧ fewS n.labels = true ∧ fewL n.sel = true ∧ fewN n.tols = true := by
 unfold fewPd at h
 simpa only [Bool.and_eq_true, decide_eq_true_eq] using h
open Go.RowKit
theorem nameOfP_any (n : Pd) (v1 v2 v3 v4 : Value) (w : World) : Calls Tryz.prog 68 #[PodV n v1 v2 v3 v4] w fun e w' => e = .returned (.string n.name) ∧ Kept w w' := by
 unfold PodV
 go_enter Tryz.func68, Tryz.ntmps68
 go_wp2
 go_ret
 exact ⟨rfl, kept_alloc _ _⟩
def findP (l : List Pd) (x : ByteArray) : Option Pd := l.find? fun n => eqS n.name x
open Go.RowKit
def chkFromP : Option ByteArray → List Pd → Int
 | _, [] => 0
 | prev, n :: t => if chkPod n ≠ 0 then chkPod n else if Vec.behindB prev n.name = true then 13 else chkFromP (some n.name) t
def chkAllP (l : List Pd) : Int := if 128 < l.length then 4 else chkFromP none l
def prevPd (l : List Pd) (k : Nat) : Option ByteArray := if k = 0 then none else (l[k - 1]?).map Pd.name
theorem prevPd_zero {l : List Pd} {k : Nat} (h : k = 0) (s : ByteArray) : Vec.behindB (prevPd l k) s = false := by unfold prevPd; rw [if_pos h]; rfl
theorem prevPd_some {l : List Pd} {k : Nat} {n : Pd} (h : ¬ k = 0) (hn : l[k - 1]? = some n) (s : ByteArray) : Vec.behindB (prevPd l k) s = leS s n.name := by unfold prevPd; rw [if_neg h, hn]; rfl
theorem prevPd_succ {l : List Pd} {k : Nat} {n : Pd} (hn : l[k]? = some n) : prevPd l (k + 1) = some n.name := by unfold prevPd; rw [if_neg (by omega), Nat.add_sub_cancel, hn]; rfl
theorem chkP_bad {p : Option ByteArray} {n : Pd} {t : List Pd} (h : chkPod n ≠ 0) : chkFromP p (n :: t) = chkPod n := by rw [chkFromP, if_pos h]
theorem chkP_order {p : Option ByteArray} {n : Pd} {t : List Pd} (h : chkPod n = 0) (b : Vec.behindB p n.name = true) : chkFromP p (n :: t) = 13 := by rw [chkFromP, if_neg (by rw [h]; decide), if_pos b]
theorem chkP_next {p : Option ByteArray} {n : Pd} {t : List Pd} (h : chkPod n = 0) (b : Vec.behindB p n.name = false) : chkFromP p (n :: t) = chkFromP (some n.name) t := by rw [chkFromP, if_neg (by rw [h]; decide), if_neg (by rw [b]; decide)]
set_option maxRecDepth 100000 in
set_option maxHeartbeats 3200000 in
theorem rowsCheckP_any (a : Option Addr) (len cap : Nat) (l : List Pd) (w : World) (hr : PodsAt w a len l) :
 Calls Tryz.prog 150 #[.slice a len cap, .int .i64 128, .func (.func 68) #[] #[], .func (.func 18) #[] #[]] w (Say (.int .i64 (chkAllP l)) w) := by
 have hl := hr.1
 have hm := hr.2.1
 unfold maxLen at hm
 by_cases h32 : 128 < len
 · have HV := lH (show chkAllP l = 4 by unfold chkAllP; rw [if_pos (by omega)])
   clear hr hl
   go_enter Tryz.func150, Tryz.ntmps150
   go_wp2
   go_ret
   exact ⟨ret_i64 HV.out.symm, Kept.refl _⟩
 · have HV := lH (show chkAllP l = chkFromP none l by unfold chkAllP; rw [if_neg (by omega)])
   have h32' : len ≤ 128 := by omega
   by_cases h0 : len = 0
   · subst h0
     have HE := lH (show chkAllP l = 0 by rw [HV.out, List.eq_nil_of_length_eq_zero hl]; rfl)
     clear hr hl h32
     go_enter Tryz.func150, Tryz.ntmps150
     go_wp2
     refine wp_loop_rounds 1 ?_
     rw [rounds_succ]
     go_wp2
     go_ret
     exact ⟨ret_i64 HE.out.symm, Kept.refl _⟩
   · obtain ⟨b, off, rfl⟩ := hr.form.resolve_left h0
     have HR := lH hr
     have HL := lH hl
     clear hr hl h0 h32
     go_enter Tryz.func150, Tryz.ntmps150
     go_wp2
     go_loopw [18] (fun i wr => ∃ k : Nat, k ≤ len ∧ i = .int .i64 k ∧ chkFromP (prevPd l k) (l.drop k) = chkFromP none l ∧ Kept w wr) (fun i _ => len - (intOf i).toNat)
     case atStart => exact ⟨0, Nat.zero_le _, rfl, rfl, Kept.refl _⟩
     case round =>
      obtain ⟨k, hk, rfl, hrest, hK⟩ := hrel
      have HS := lH (HV.out.trans hrest.symm)
      have HT := lH hrest
      have HK := lH hK
      by_cases hlt : k < len
      · obtain ⟨n, a1, m1, c1, a2, m2, c2, a3, m3, c3, a4, m4, c4, hn, hd, hb, p0, p1, p2, p3, p4, p5, p6, p7, p8, p9, p10, hat⟩ := (HR.out.kept hK).at_ hlt
        have HAT := lH hat
        have HD := lH hd
        have HNX := lH (prevPd_succ hn)
        have HCK := lH (fun W (kk : Kept wr W) => checkP_any n (.slice a1 m1 c1) (.slice a2 m2 c2) (.slice a3 m3 c3) (.slice a4 m4 c4) W (HAT.out.kept kk))
        have HNA := lH (fun W => nameOfP_any n (.slice a1 m1 c1) (.slice a2 m2 c2) (.slice a3 m3 c3) (.slice a4 m4 c4) W)
        unfold PodV at HCK HNA
        obtain ⟨ck, hck⟩ : ∃ x, chkPod n = x := ⟨_, rfl⟩
        have HCN := lH hck
        rw [hck] at HCK
        have hkk : (k : Int) < (len : Int) := by omega
        clear hrest hK hat hd hck
        by_cases z1 : ck = 0
        · subst z1
          by_cases h0 : k = 0
          · have hd0 : decide (0 < k) = false := by subst h0; decide
            have HP := lH (prevPd_zero (l := l) h0 n.name)
            clear h0
            go_wp2_with fail
            refine (HCK.out _ (kept_alloc _ _)).mono ?_
            rintro e w1 ⟨rfl, kk⟩
            have KW := lH (Kept.trans (kept_alloc _ _) kk)
            have HBX := lH (fun W k => freshN wr (.string n.name) [.string n.owner, .int .i64 n.prio, .slice a1 m1 c1, .slice a2 m2 c2, .slice a3 m3 c3, .slice a4 m4 c4, .string n.key, .int .i64 n.most, .string n.node, .bool n.hold] 49 W (Kept.trans kk k))
            have y0 := (HBX.out w1 (Kept.refl _)).at_ 0 _ rfl
            have y1 := (HBX.out w1 (Kept.refl _)).at_ 1 _ rfl
            have y2 := (HBX.out w1 (Kept.refl _)).at_ 2 _ rfl
            have y3 := (HBX.out w1 (Kept.refl _)).at_ 3 _ rfl
            have y4 := (HBX.out w1 (Kept.refl _)).at_ 4 _ rfl
            have y5 := (HBX.out w1 (Kept.refl _)).at_ 5 _ rfl
            have y6 := (HBX.out w1 (Kept.refl _)).at_ 6 _ rfl
            have y7 := (HBX.out w1 (Kept.refl _)).at_ 7 _ rfl
            have y8 := (HBX.out w1 (Kept.refl _)).at_ 8 _ rfl
            have y9 := (HBX.out w1 (Kept.refl _)).at_ 9 _ rfl
            have y10 := (HBX.out w1 (Kept.refl _)).at_ 10 _ rfl
            clear kk
            go_wp2
            go_quiet (fail)
            go_wp2
            go_roundw
            case rel => exact ⟨k + 1, by omega, by go_num, (show chkFromP (prevPd l (k + 1)) (l.drop (k + 1)) = chkFromP none l by rw [← HT.out, HD.out, chkP_next HCN.out HP.out, HNX.out]), HK.out.trans (KW.out.trans (Kept.drewN _ _))⟩
            case measure => simp [intOf]; omega
          · have hd0 : decide (0 < k) = true := by simp; omega
            obtain ⟨q, hqk⟩ : ∃ q, k = q + 1 := ⟨k - 1, by omega⟩
            have g1 : (k : Int) - 1 = (q : Int) := by omega
            have gw : IntKind.i64.wrap (q : Int) = (q : Int) := by rw [IntKind.wrap_i64]; omega
            have g2 : (q : Int) < (len : Int) := by omega
            obtain ⟨n9, b1, h1, d1, b2, h2, d2, b3, h3, d3, b4, h4, d4, hn9, -, hb9, q0, q1, q2, q3, q4, q5, q6, q7, q8, q9, q10, -⟩ := (HR.out.kept HK.out).at_ (show q < len by omega)
            have HQK := lH hqk
            have hqk1 : k - 1 = q := by omega
            have HP := lH (prevPd_some (l := l) h0 (show l[k - 1]? = some n9 by rw [hqk1]; exact hn9) n.name)
            clear hqk hqk1
            have HNB := lH (fun W => nameOfP_any n9 (.slice b1 h1 d1) (.slice b2 h2 d2) (.slice b3 h3 d3) (.slice b4 h4 d4) W)
            unfold PodV at HNB
            clear h0 hn9
            by_cases n3 : leS n.name n9.name = true
            · have n3' : (Op.bytesLess n.name.toList n9.name.toList || n.name.toList == n9.name.toList) = true := n3
              have N3 := lH n3
              clear n3
              go_wp2_with fail
              refine (HCK.out _ (kept_alloc _ _)).mono ?_
              rintro e w1 ⟨rfl, kk⟩
              have KW := lH (Kept.trans (kept_alloc _ _) kk)
              have HBX := lH (fun W k => freshN wr (.string n.name) [.string n.owner, .int .i64 n.prio, .slice a1 m1 c1, .slice a2 m2 c2, .slice a3 m3 c3, .slice a4 m4 c4, .string n.key, .int .i64 n.most, .string n.node, .bool n.hold] 49 W (Kept.trans kk k))
              have y0 := (HBX.out w1 (Kept.refl _)).at_ 0 _ rfl
              have y1 := (HBX.out w1 (Kept.refl _)).at_ 1 _ rfl
              have y2 := (HBX.out w1 (Kept.refl _)).at_ 2 _ rfl
              have y3 := (HBX.out w1 (Kept.refl _)).at_ 3 _ rfl
              have y4 := (HBX.out w1 (Kept.refl _)).at_ 4 _ rfl
              have y5 := (HBX.out w1 (Kept.refl _)).at_ 5 _ rfl
              have y6 := (HBX.out w1 (Kept.refl _)).at_ 6 _ rfl
              have y7 := (HBX.out w1 (Kept.refl _)).at_ 7 _ rfl
              have y8 := (HBX.out w1 (Kept.refl _)).at_ 8 _ rfl
              have y9 := (HBX.out w1 (Kept.refl _)).at_ 9 _ rfl
              have y10 := (HBX.out w1 (Kept.refl _)).at_ 10 _ rfl
              have HO := lH (show ∀ W, Kept w1 W → (W.cell? ⟨wr.heap.size, 0, none⟩ = some (.string n.name) ∧ W.cell? ⟨wr.heap.size, 1, none⟩ = some (.string n.owner) ∧ W.cell? ⟨wr.heap.size, 2, none⟩ = some (.int .i64 n.prio) ∧ W.cell? ⟨wr.heap.size, 3, none⟩ = some (.slice a1 m1 c1) ∧ W.cell? ⟨wr.heap.size, 4, none⟩ = some (.slice a2 m2 c2) ∧ W.cell? ⟨wr.heap.size, 5, none⟩ = some (.slice a3 m3 c3) ∧ W.cell? ⟨wr.heap.size, 6, none⟩ = some (.slice a4 m4 c4) ∧ W.cell? ⟨wr.heap.size, 7, none⟩ = some (.string n.key) ∧ W.cell? ⟨wr.heap.size, 8, none⟩ = some (.int .i64 n.most) ∧ W.cell? ⟨wr.heap.size, 9, none⟩ = some (.string n.node) ∧ W.cell? ⟨wr.heap.size, 10, none⟩ = some (.bool n.hold)) ∧ (W.cell? ⟨b, off + q * 11, none⟩ = some (.string n9.name) ∧ W.cell? ⟨b, off + q * 11 + 1, none⟩ = some (.string n9.owner) ∧ W.cell? ⟨b, off + q * 11 + 2, none⟩ = some (.int .i64 n9.prio) ∧ W.cell? ⟨b, off + q * 11 + 3, none⟩ = some (.slice b1 h1 d1) ∧ W.cell? ⟨b, off + q * 11 + 4, none⟩ = some (.slice b2 h2 d2) ∧ W.cell? ⟨b, off + q * 11 + 5, none⟩ = some (.slice b3 h3 d3) ∧ W.cell? ⟨b, off + q * 11 + 6, none⟩ = some (.slice b4 h4 d4) ∧ W.cell? ⟨b, off + q * 11 + 7, none⟩ = some (.string n9.key) ∧ W.cell? ⟨b, off + q * 11 + 8, none⟩ = some (.int .i64 n9.most) ∧ W.cell? ⟨b, off + q * 11 + 9, none⟩ = some (.string n9.node) ∧ W.cell? ⟨b, off + q * 11 + 10, none⟩ = some (.bool n9.hold)) from fun W k => ⟨⟨(HBX.out W k).at_ 0 _ rfl, (HBX.out W k).at_ 1 _ rfl, (HBX.out W k).at_ 2 _ rfl, (HBX.out W k).at_ 3 _ rfl, (HBX.out W k).at_ 4 _ rfl, (HBX.out W k).at_ 5 _ rfl, (HBX.out W k).at_ 6 _ rfl, (HBX.out W k).at_ 7 _ rfl, (HBX.out W k).at_ 8 _ rfl, (HBX.out W k).at_ 9 _ rfl, (HBX.out W k).at_ 10 _ rfl⟩, ⟨cell_later (KW.out.trans k) q0, cell_later (KW.out.trans k) q1, cell_later (KW.out.trans k) q2, cell_later (KW.out.trans k) q3, cell_later (KW.out.trans k) q4, cell_later (KW.out.trans k) q5, cell_later (KW.out.trans k) q6, cell_later (KW.out.trans k) q7, cell_later (KW.out.trans k) q8, cell_later (KW.out.trans k) q9, cell_later (KW.out.trans k) q10⟩⟩)
              clear kk q0 q1 q2 q3 q4 q5 q6 q7 q8 q9 q10
              go_wp2
              go_region_held3 (fun W => (W.cell? ⟨wr.heap.size, 0, none⟩ = some (.string n.name) ∧ W.cell? ⟨wr.heap.size, 1, none⟩ = some (.string n.owner) ∧ W.cell? ⟨wr.heap.size, 2, none⟩ = some (.int .i64 n.prio) ∧ W.cell? ⟨wr.heap.size, 3, none⟩ = some (.slice a1 m1 c1) ∧ W.cell? ⟨wr.heap.size, 4, none⟩ = some (.slice a2 m2 c2) ∧ W.cell? ⟨wr.heap.size, 5, none⟩ = some (.slice a3 m3 c3) ∧ W.cell? ⟨wr.heap.size, 6, none⟩ = some (.slice a4 m4 c4) ∧ W.cell? ⟨wr.heap.size, 7, none⟩ = some (.string n.key) ∧ W.cell? ⟨wr.heap.size, 8, none⟩ = some (.int .i64 n.most) ∧ W.cell? ⟨wr.heap.size, 9, none⟩ = some (.string n.node) ∧ W.cell? ⟨wr.heap.size, 10, none⟩ = some (.bool n.hold)) ∧ (W.cell? ⟨b, off + q * 11, none⟩ = some (.string n9.name) ∧ W.cell? ⟨b, off + q * 11 + 1, none⟩ = some (.string n9.owner) ∧ W.cell? ⟨b, off + q * 11 + 2, none⟩ = some (.int .i64 n9.prio) ∧ W.cell? ⟨b, off + q * 11 + 3, none⟩ = some (.slice b1 h1 d1) ∧ W.cell? ⟨b, off + q * 11 + 4, none⟩ = some (.slice b2 h2 d2) ∧ W.cell? ⟨b, off + q * 11 + 5, none⟩ = some (.slice b3 h3 d3) ∧ W.cell? ⟨b, off + q * 11 + 6, none⟩ = some (.slice b4 h4 d4) ∧ W.cell? ⟨b, off + q * 11 + 7, none⟩ = some (.string n9.key) ∧ W.cell? ⟨b, off + q * 11 + 8, none⟩ = some (.int .i64 n9.most) ∧ W.cell? ⟨b, off + q * 11 + 9, none⟩ = some (.string n9.node) ∧ W.cell? ⟨b, off + q * 11 + 10, none⟩ = some (.bool n9.hold)))
               (first | exact HO.out _ (Kept.drew _) | exact HO.out _ J1.out | exact HO.out _ J2.out)
               (first | (go_at_call 68; refine (HNA.out _).mono ?_; rintro e1 w2 ⟨rfl, k1⟩; have J1 := lH ((Kept.drew _).trans k1); clear k1)
                      | (go_at_call 68; refine (HNB.out _).mono ?_; rintro e2 w3 ⟨rfl, k1⟩; have J2 := lH (J1.out.trans k1); clear k1))
              go_wp2
              go_ret
              exact ⟨ret_i64 (show (13 : Int) = chkAllP l by rw [HS.out, HD.out, chkP_order HCN.out (HP.out.trans N3.out)]), HK.out.trans (KW.out.trans J2.out)⟩
            · have n3 : leS n.name n9.name = false := by simpa using n3
              have n3' : (Op.bytesLess n.name.toList n9.name.toList || n.name.toList == n9.name.toList) = false := n3
              have N3 := lH n3
              clear n3
              go_wp2_with fail
              refine (HCK.out _ (kept_alloc _ _)).mono ?_
              rintro e w1 ⟨rfl, kk⟩
              have KW := lH (Kept.trans (kept_alloc _ _) kk)
              have HBX := lH (fun W k => freshN wr (.string n.name) [.string n.owner, .int .i64 n.prio, .slice a1 m1 c1, .slice a2 m2 c2, .slice a3 m3 c3, .slice a4 m4 c4, .string n.key, .int .i64 n.most, .string n.node, .bool n.hold] 49 W (Kept.trans kk k))
              have y0 := (HBX.out w1 (Kept.refl _)).at_ 0 _ rfl
              have y1 := (HBX.out w1 (Kept.refl _)).at_ 1 _ rfl
              have y2 := (HBX.out w1 (Kept.refl _)).at_ 2 _ rfl
              have y3 := (HBX.out w1 (Kept.refl _)).at_ 3 _ rfl
              have y4 := (HBX.out w1 (Kept.refl _)).at_ 4 _ rfl
              have y5 := (HBX.out w1 (Kept.refl _)).at_ 5 _ rfl
              have y6 := (HBX.out w1 (Kept.refl _)).at_ 6 _ rfl
              have y7 := (HBX.out w1 (Kept.refl _)).at_ 7 _ rfl
              have y8 := (HBX.out w1 (Kept.refl _)).at_ 8 _ rfl
              have y9 := (HBX.out w1 (Kept.refl _)).at_ 9 _ rfl
              have y10 := (HBX.out w1 (Kept.refl _)).at_ 10 _ rfl
              have HO := lH (show ∀ W, Kept w1 W → (W.cell? ⟨wr.heap.size, 0, none⟩ = some (.string n.name) ∧ W.cell? ⟨wr.heap.size, 1, none⟩ = some (.string n.owner) ∧ W.cell? ⟨wr.heap.size, 2, none⟩ = some (.int .i64 n.prio) ∧ W.cell? ⟨wr.heap.size, 3, none⟩ = some (.slice a1 m1 c1) ∧ W.cell? ⟨wr.heap.size, 4, none⟩ = some (.slice a2 m2 c2) ∧ W.cell? ⟨wr.heap.size, 5, none⟩ = some (.slice a3 m3 c3) ∧ W.cell? ⟨wr.heap.size, 6, none⟩ = some (.slice a4 m4 c4) ∧ W.cell? ⟨wr.heap.size, 7, none⟩ = some (.string n.key) ∧ W.cell? ⟨wr.heap.size, 8, none⟩ = some (.int .i64 n.most) ∧ W.cell? ⟨wr.heap.size, 9, none⟩ = some (.string n.node) ∧ W.cell? ⟨wr.heap.size, 10, none⟩ = some (.bool n.hold)) ∧ (W.cell? ⟨b, off + q * 11, none⟩ = some (.string n9.name) ∧ W.cell? ⟨b, off + q * 11 + 1, none⟩ = some (.string n9.owner) ∧ W.cell? ⟨b, off + q * 11 + 2, none⟩ = some (.int .i64 n9.prio) ∧ W.cell? ⟨b, off + q * 11 + 3, none⟩ = some (.slice b1 h1 d1) ∧ W.cell? ⟨b, off + q * 11 + 4, none⟩ = some (.slice b2 h2 d2) ∧ W.cell? ⟨b, off + q * 11 + 5, none⟩ = some (.slice b3 h3 d3) ∧ W.cell? ⟨b, off + q * 11 + 6, none⟩ = some (.slice b4 h4 d4) ∧ W.cell? ⟨b, off + q * 11 + 7, none⟩ = some (.string n9.key) ∧ W.cell? ⟨b, off + q * 11 + 8, none⟩ = some (.int .i64 n9.most) ∧ W.cell? ⟨b, off + q * 11 + 9, none⟩ = some (.string n9.node) ∧ W.cell? ⟨b, off + q * 11 + 10, none⟩ = some (.bool n9.hold)) from fun W k => ⟨⟨(HBX.out W k).at_ 0 _ rfl, (HBX.out W k).at_ 1 _ rfl, (HBX.out W k).at_ 2 _ rfl, (HBX.out W k).at_ 3 _ rfl, (HBX.out W k).at_ 4 _ rfl, (HBX.out W k).at_ 5 _ rfl, (HBX.out W k).at_ 6 _ rfl, (HBX.out W k).at_ 7 _ rfl, (HBX.out W k).at_ 8 _ rfl, (HBX.out W k).at_ 9 _ rfl, (HBX.out W k).at_ 10 _ rfl⟩, ⟨cell_later (KW.out.trans k) q0, cell_later (KW.out.trans k) q1, cell_later (KW.out.trans k) q2, cell_later (KW.out.trans k) q3, cell_later (KW.out.trans k) q4, cell_later (KW.out.trans k) q5, cell_later (KW.out.trans k) q6, cell_later (KW.out.trans k) q7, cell_later (KW.out.trans k) q8, cell_later (KW.out.trans k) q9, cell_later (KW.out.trans k) q10⟩⟩)
              clear kk q0 q1 q2 q3 q4 q5 q6 q7 q8 q9 q10
              go_wp2
              go_region_held3 (fun W => (W.cell? ⟨wr.heap.size, 0, none⟩ = some (.string n.name) ∧ W.cell? ⟨wr.heap.size, 1, none⟩ = some (.string n.owner) ∧ W.cell? ⟨wr.heap.size, 2, none⟩ = some (.int .i64 n.prio) ∧ W.cell? ⟨wr.heap.size, 3, none⟩ = some (.slice a1 m1 c1) ∧ W.cell? ⟨wr.heap.size, 4, none⟩ = some (.slice a2 m2 c2) ∧ W.cell? ⟨wr.heap.size, 5, none⟩ = some (.slice a3 m3 c3) ∧ W.cell? ⟨wr.heap.size, 6, none⟩ = some (.slice a4 m4 c4) ∧ W.cell? ⟨wr.heap.size, 7, none⟩ = some (.string n.key) ∧ W.cell? ⟨wr.heap.size, 8, none⟩ = some (.int .i64 n.most) ∧ W.cell? ⟨wr.heap.size, 9, none⟩ = some (.string n.node) ∧ W.cell? ⟨wr.heap.size, 10, none⟩ = some (.bool n.hold)) ∧ (W.cell? ⟨b, off + q * 11, none⟩ = some (.string n9.name) ∧ W.cell? ⟨b, off + q * 11 + 1, none⟩ = some (.string n9.owner) ∧ W.cell? ⟨b, off + q * 11 + 2, none⟩ = some (.int .i64 n9.prio) ∧ W.cell? ⟨b, off + q * 11 + 3, none⟩ = some (.slice b1 h1 d1) ∧ W.cell? ⟨b, off + q * 11 + 4, none⟩ = some (.slice b2 h2 d2) ∧ W.cell? ⟨b, off + q * 11 + 5, none⟩ = some (.slice b3 h3 d3) ∧ W.cell? ⟨b, off + q * 11 + 6, none⟩ = some (.slice b4 h4 d4) ∧ W.cell? ⟨b, off + q * 11 + 7, none⟩ = some (.string n9.key) ∧ W.cell? ⟨b, off + q * 11 + 8, none⟩ = some (.int .i64 n9.most) ∧ W.cell? ⟨b, off + q * 11 + 9, none⟩ = some (.string n9.node) ∧ W.cell? ⟨b, off + q * 11 + 10, none⟩ = some (.bool n9.hold)))
               (first | exact HO.out _ (Kept.drew _) | exact HO.out _ J1.out | exact HO.out _ J2.out)
               (first | (go_at_call 68; refine (HNA.out _).mono ?_; rintro e1 w2 ⟨rfl, k1⟩; have J1 := lH ((Kept.drew _).trans k1); clear k1)
                      | (go_at_call 68; refine (HNB.out _).mono ?_; rintro e2 w3 ⟨rfl, k1⟩; have J2 := lH (J1.out.trans k1); clear k1))
              go_wp2
              go_roundw
              case rel => exact ⟨k + 1, by omega, by go_num, (show chkFromP (prevPd l (k + 1)) (l.drop (k + 1)) = chkFromP none l by rw [← HT.out, HD.out, chkP_next HCN.out (HP.out.trans N3.out), HNX.out]), HK.out.trans (KW.out.trans J2.out)⟩
              case measure => simp [intOf]; omega
        · have z1' : (ck != 0) = true := by simpa using z1
          have HB := lH (show chkAllP l = ck by rw [HS.out, HD.out, chkP_bad (by rw [HCN.out]; exact z1), HCN.out])
          clear z1
          go_wp2_with fail
          refine (HCK.out _ (kept_alloc _ _)).mono ?_
          rintro e w1 ⟨rfl, kk⟩
          have KW := lH (Kept.trans (kept_alloc _ _) kk)
          have HBX := lH (fun W k => freshN wr (.string n.name) [.string n.owner, .int .i64 n.prio, .slice a1 m1 c1, .slice a2 m2 c2, .slice a3 m3 c3, .slice a4 m4 c4, .string n.key, .int .i64 n.most, .string n.node, .bool n.hold] 49 W (Kept.trans kk k))
          have y0 := (HBX.out w1 (Kept.refl _)).at_ 0 _ rfl
          have y1 := (HBX.out w1 (Kept.refl _)).at_ 1 _ rfl
          have y2 := (HBX.out w1 (Kept.refl _)).at_ 2 _ rfl
          have y3 := (HBX.out w1 (Kept.refl _)).at_ 3 _ rfl
          have y4 := (HBX.out w1 (Kept.refl _)).at_ 4 _ rfl
          have y5 := (HBX.out w1 (Kept.refl _)).at_ 5 _ rfl
          have y6 := (HBX.out w1 (Kept.refl _)).at_ 6 _ rfl
          have y7 := (HBX.out w1 (Kept.refl _)).at_ 7 _ rfl
          have y8 := (HBX.out w1 (Kept.refl _)).at_ 8 _ rfl
          have y9 := (HBX.out w1 (Kept.refl _)).at_ 9 _ rfl
          have y10 := (HBX.out w1 (Kept.refl _)).at_ 10 _ rfl
          clear kk
          go_wp2
          go_ret
          exact ⟨ret_i64 HB.out.symm, HK.out.trans KW.out⟩
      · have HE := lH (show chkAllP l = 0 by rw [HS.out, List.drop_of_length_le (by rw [HL.out]; omega)]; rfl)
        clear hrest hK
        go_wp2
        go_ret
        exact ⟨ret_i64 HE.out.symm, HK.out⟩
theorem checkAllP_any (a : Option Addr) (len cap : Nat) (l : List Pd) (w : World) (hr : PodsAt w a len l) :
 Calls Tryz.prog 115 #[.slice a len cap] w (Say (.int .i64 (chkAllP l)) w) := by
 have H := lH (rowsCheckP_any a len cap l w hr)
 clear hr
 go_enter Tryz.func115, Tryz.ntmps115
 go_wp2_with fail
 refine H.out.mono ?_
 rintro e w1 ⟨rfl, k⟩
 have K := lH k
 clear k
 go_wp2
 go_ret
 exact ⟨rfl, K.out⟩
open Go.RowKit
def sameT : TL → TL → Bool
 | [], [] => true
 | x :: s, y :: t => ((x.1 == y.1) && (eqS x.2.1 y.2.1 && eqS x.2.2 y.2.2)) && sameT s t
 | _, _ => false
theorem sameT_length : ∀ {l l' : TL}, l.length ≠ l'.length → sameT l l' = false
 | [], [], h => absurd rfl h
 | [], _ :: _, _ => rfl
 | _ :: _, [], _ => rfl
 | x :: s, y :: t, h => by rw [sameT, sameT_length (l := s) (l' := t) (fun e => h (by simp [e])), Bool.and_false]
theorem sameT_self : ∀ l : TL, sameT l l = true
 | [] => rfl
 | x :: t => by rw [sameT, sameT_self t, eqS_self, eqS_self]; simp
set_option maxHeartbeats 800000 in
theorem equalO_any (a a' : Option Addr) (len cap len' cap' : Nat) (l l' : NL) (w : World) (hr : RowAt TaLay w a len l) (hr' : RowAt TaLay w a' len' l') :
 Calls Tryz.prog 76 #[.slice a len cap, .slice a' len' cap'] w fun e w' => e = .returned (.bool (sameA l l')) ∧ Kept w w' := by
 have hl := hr.1
 have hm := hr.2.1
 have hl' := hr'.1
 have hm' := hr'.2.1
 unfold maxLen at hm hm'
 by_cases hll : len = len'
 · subst hll
   by_cases h0 : len = 0
   · subst h0
     have HE := lH (show sameA l l' = true by rw [List.eq_nil_of_length_eq_zero hl, List.eq_nil_of_length_eq_zero hl']; rfl)
     clear hr hl hr' hl'
     go_enter Tryz.func76, Tryz.ntmps76
     go_wp2
     refine wp_loop_rounds 1 ?_
     rw [rounds_succ]
     go_wp2
     go_ret
     exact ⟨ret_bool HE.out.symm, Kept.refl _⟩
   · obtain ⟨b, off, rfl⟩ : ∃ b off, a = some ⟨b, off, none⟩ := hr.form.resolve_left h0
     obtain ⟨b', off', rfl⟩ : ∃ b off, a' = some ⟨b, off, none⟩ := hr'.form.resolve_left h0
     have HR := lH hr
     have HL := lH hl
     have HR' := lH hr'
     have HL' := lH hl'
     clear hr hl hr' hl' h0
     go_enter Tryz.func76, Tryz.ntmps76
     go_wp2
     go_loopw [13] (fun i wr => ∃ k : Nat, k ≤ len ∧ i = .int .i64 k ∧ sameA (l.drop k) (l'.drop k) = sameA l l' ∧ Kept w wr) (fun i _ => len - (intOf i).toNat)
     case atStart => exact ⟨0, Nat.zero_le _, rfl, rfl, Kept.refl _⟩
     case round =>
      obtain ⟨k, hk, rfl, hrest, hK⟩ := hrel
      have HS := lH hrest
      have HK := lH hK
      by_cases hlt : k < len
      · obtain ⟨x, y, m, hx, hd, hb, _, _, c1, c2, c3⟩ := (HR.out.kept hK).tri hlt
        obtain ⟨x9, y9, m9, hx9, hd9, hb9, _, _, d1, d2, d3⟩ := (HR'.out.kept hK).tri hlt
        have HD := lH hd
        have HD9 := lH hd9
        clear hrest hK hx hx9 hd hd9
        by_cases e0 : eqS x x9 = true
        · have E0 := lH e0
          have e0' : (x.toList == x9.toList) = true := e0
          clear e0
          by_cases e1 : eqS y y9 = true
          · have E1 := lH e1
            have e1' : (y.toList == y9.toList) = true := e1
            clear e1
            by_cases e2 : (m == m9) = true
            · have E2 := lH e2
              have e2' : (m == m9) = true := e2
              clear e2
              have E := lH (show sameA (l.drop k) (l'.drop k) = sameA (l.drop (k + 1)) (l'.drop (k + 1)) by rw [HD.out, HD9.out, sameA, E0.out, E1.out, E2.out]; rfl)
              go_wp2
              go_quiet (fail)
              go_wp2
              go_roundw
              case rel => exact ⟨k + 1, by omega, by go_num, E.out.symm.trans HS.out, HK.out.trans (Kept.drewN _ _)⟩
              case measure => simp [intOf]; omega
            · have e2 : (m == m9) = false := by simpa using e2
              have E2 := lH e2
              have e2' : (m == m9) = false := e2
              clear e2
              have E := lH (show sameA (l.drop k) (l'.drop k) = false by rw [HD.out, HD9.out, sameA, E0.out, E1.out, E2.out]; rfl)
              go_wp2
              go_quiet (fail)
              go_wp2
              go_ret
              exact ⟨ret_bool (HS.out.symm.trans E.out).symm, HK.out.trans (Kept.drewN _ _)⟩
          · have e1 : eqS y y9 = false := by simpa using e1
            have E1 := lH e1
            have e1' : (y.toList == y9.toList) = false := e1
            clear e1
            have E := lH (show sameA (l.drop k) (l'.drop k) = false by rw [HD.out, HD9.out, sameA, E0.out, E1.out]; rfl)
            go_wp2
            go_quiet (fail)
            go_wp2
            go_ret
            exact ⟨ret_bool (HS.out.symm.trans E.out).symm, HK.out.trans (Kept.drewN _ _)⟩
        · have e0 : eqS x x9 = false := by simpa using e0
          have E0 := lH e0
          have e0' : (x.toList == x9.toList) = false := e0
          clear e0
          have E := lH (show sameA (l.drop k) (l'.drop k) = false by rw [HD.out, HD9.out, sameA, E0.out]; rfl)
          go_wp2
          go_quiet (fail)
          go_wp2
          go_ret
          exact ⟨ret_bool (HS.out.symm.trans E.out).symm, HK.out.trans (Kept.drewN _ _)⟩
      · have E := lH (show sameA (l.drop k) (l'.drop k) = true by
         rw [List.drop_of_length_le (by rw [HL.out]; omega), List.drop_of_length_le (by rw [HL'.out]; omega), sameA])
        clear hrest hK
        go_wp2
        go_ret
        exact ⟨ret_bool (HS.out.symm.trans E.out).symm, HK.out⟩
 · have HV := lH (show sameA l l' = false from sameA_length (by omega))
   clear hr hl hr' hl'
   have hn : ((len : Int) != (len' : Int)) = true := by
    simp only [bne_iff_ne, ne_eq]; omega
   clear hll
   go_enter Tryz.func76, Tryz.ntmps76
   go_wp2
   go_ret
   exact ⟨ret_bool HV.out.symm, Kept.refl _⟩
theorem equalOR {v v' : Value} {l l' : NL} {c : Bool} {w : World} (h : Reads TaLay w v l) (h' : Reads TaLay w v' l') (hc : sameA l l' = c) :
 Calls Tryz.prog 76 #[v, v'] w (Say (.bool c) w) := by
 subst hc
 obtain ⟨a, cap, rfl, _, _, hr⟩ := h
 obtain ⟨a', cap', rfl, _, _, hr'⟩ := h'
 exact equalO_any a a' _ cap _ cap' l l' w hr hr'
set_option maxHeartbeats 800000 in
theorem equalT_any (a a' : Option Addr) (len cap len' cap' : Nat) (l l' : TL) (w : World) (hr : RowAt TermLay w a len l) (hr' : RowAt TermLay w a' len' l') :
 Calls Tryz.prog 75 #[.slice a len cap, .slice a' len' cap'] w fun e w' => e = .returned (.bool (sameT l l')) ∧ Kept w w' := by
 have hl := hr.1
 have hm := hr.2.1
 have hl' := hr'.1
 have hm' := hr'.2.1
 unfold maxLen at hm hm'
 by_cases hll : len = len'
 · subst hll
   by_cases h0 : len = 0
   · subst h0
     have HE := lH (show sameT l l' = true by rw [List.eq_nil_of_length_eq_zero hl, List.eq_nil_of_length_eq_zero hl']; rfl)
     clear hr hl hr' hl'
     go_enter Tryz.func75, Tryz.ntmps75
     go_wp2
     refine wp_loop_rounds 1 ?_
     rw [rounds_succ]
     go_wp2
     go_ret
     exact ⟨ret_bool HE.out.symm, Kept.refl _⟩
   · obtain ⟨b, off, rfl⟩ : ∃ b off, a = some ⟨b, off, none⟩ := hr.form.resolve_left h0
     obtain ⟨b', off', rfl⟩ : ∃ b off, a' = some ⟨b, off, none⟩ := hr'.form.resolve_left h0
     have HR := lH hr
     have HL := lH hl
     have HR' := lH hr'
     have HL' := lH hl'
     clear hr hl hr' hl' h0
     go_enter Tryz.func75, Tryz.ntmps75
     go_wp2
     go_loopw [13] (fun i wr => ∃ k : Nat, k ≤ len ∧ i = .int .i64 k ∧ sameT (l.drop k) (l'.drop k) = sameT l l' ∧ Kept w wr) (fun i _ => len - (intOf i).toNat)
     case atStart => exact ⟨0, Nat.zero_le _, rfl, rfl, Kept.refl _⟩
     case round =>
      obtain ⟨k, hk, rfl, hrest, hK⟩ := hrel
      have HS := lH hrest
      have HK := lH hK
      by_cases hlt : k < len
      · obtain ⟨o, x, y, hx, hd, hb, _, _, _, c1, c2, c3⟩ := (HR.out.kept hK).term hlt
        obtain ⟨o9, x9, y9, hx9, hd9, hb9, _, _, _, d1, d2, d3⟩ := (HR'.out.kept hK).term hlt
        have HD := lH hd
        have HD9 := lH hd9
        clear hrest hK hx hx9 hd hd9
        by_cases e0 : (o == o9) = true
        · have E0 := lH e0
          have e0' : (o == o9) = true := e0
          clear e0
          by_cases e1 : eqS x x9 = true
          · have E1 := lH e1
            have e1' : (x.toList == x9.toList) = true := e1
            clear e1
            by_cases e2 : eqS y y9 = true
            · have E2 := lH e2
              have e2' : (y.toList == y9.toList) = true := e2
              clear e2
              have E := lH (show sameT (l.drop k) (l'.drop k) = sameT (l.drop (k + 1)) (l'.drop (k + 1)) by rw [HD.out, HD9.out, sameT, E0.out, E1.out, E2.out]; rfl)
              go_wp2
              go_quiet (fail)
              go_wp2
              go_roundw
              case rel => exact ⟨k + 1, by omega, by go_num, E.out.symm.trans HS.out, HK.out.trans (Kept.drewN _ _)⟩
              case measure => simp [intOf]; omega
            · have e2 : eqS y y9 = false := by simpa using e2
              have E2 := lH e2
              have e2' : (y.toList == y9.toList) = false := e2
              clear e2
              have E := lH (show sameT (l.drop k) (l'.drop k) = false by rw [HD.out, HD9.out, sameT, E0.out, E1.out, E2.out]; rfl)
              go_wp2
              go_quiet (fail)
              go_wp2
              go_ret
              exact ⟨ret_bool (HS.out.symm.trans E.out).symm, HK.out.trans (Kept.drewN _ _)⟩
          · have e1 : eqS x x9 = false := by simpa using e1
            have E1 := lH e1
            have e1' : (x.toList == x9.toList) = false := e1
            clear e1
            have E := lH (show sameT (l.drop k) (l'.drop k) = false by rw [HD.out, HD9.out, sameT, E0.out, E1.out]; rfl)
            go_wp2
            go_quiet (fail)
            go_wp2
            go_ret
            exact ⟨ret_bool (HS.out.symm.trans E.out).symm, HK.out.trans (Kept.drewN _ _)⟩
        · have e0 : (o == o9) = false := by simpa using e0
          have E0 := lH e0
          have e0' : (o == o9) = false := e0
          clear e0
          have E := lH (show sameT (l.drop k) (l'.drop k) = false by rw [HD.out, HD9.out, sameT, E0.out]; rfl)
          go_wp2
          go_quiet (fail)
          go_wp2
          go_ret
          exact ⟨ret_bool (HS.out.symm.trans E.out).symm, HK.out.trans (Kept.drewN _ _)⟩
      · have E := lH (show sameT (l.drop k) (l'.drop k) = true by
         rw [List.drop_of_length_le (by rw [HL.out]; omega), List.drop_of_length_le (by rw [HL'.out]; omega), sameT])
        clear hrest hK
        go_wp2
        go_ret
        exact ⟨ret_bool (HS.out.symm.trans E.out).symm, HK.out⟩
 · have HV := lH (show sameT l l' = false from sameT_length (by omega))
   clear hr hl hr' hl'
   have hn : ((len : Int) != (len' : Int)) = true := by
    simp only [bne_iff_ne, ne_eq]; omega
   clear hll
   go_enter Tryz.func75, Tryz.ntmps75
   go_wp2
   go_ret
   exact ⟨ret_bool HV.out.symm, Kept.refl _⟩
theorem equalTR {v v' : Value} {l l' : TL} {c : Bool} {w : World} (h : Reads TermLay w v l) (h' : Reads TermLay w v' l') (hc : sameT l l' = c) :
 Calls Tryz.prog 75 #[v, v'] w (Say (.bool c) w) := by
 subst hc
 obtain ⟨a, cap, rfl, _, _, hr⟩ := h
 obtain ⟨a', cap', rfl, _, _, hr'⟩ := h'
 exact equalT_any a a' _ cap _ cap' l l' w hr hr'
set_option maxHeartbeats 800000 in
theorem rsameO_any (a a' : Option Addr) (len cap len' cap' : Nat) (l l' : NL) (w : World) (hr : RowAt TaLay w a len l) (hr' : RowAt TaLay w a' len' l') :
 Calls Tryz.prog 101 #[.slice a len cap, .slice a' len' cap'] w fun e w' => e = .returned (.bool (sameA l l')) ∧ Kept w w' := by
 have hl := hr.1
 have hm := hr.2.1
 have hl' := hr'.1
 have hm' := hr'.2.1
 unfold maxLen at hm hm'
 by_cases hll : len = len'
 · subst hll
   by_cases h0 : len = 0
   · subst h0
     have HE := lH (show sameA l l' = true by rw [List.eq_nil_of_length_eq_zero hl, List.eq_nil_of_length_eq_zero hl']; rfl)
     clear hr hl hr' hl'
     go_enter Tryz.func101, Tryz.ntmps101
     go_wp2
     refine wp_loop_rounds 1 ?_
     rw [rounds_succ]
     go_wp2
     go_ret
     exact ⟨ret_bool HE.out.symm, Kept.refl _⟩
   · obtain ⟨b, off, rfl⟩ : ∃ b off, a = some ⟨b, off, none⟩ := hr.form.resolve_left h0
     obtain ⟨b', off', rfl⟩ : ∃ b off, a' = some ⟨b, off, none⟩ := hr'.form.resolve_left h0
     have HR := lH hr
     have HL := lH hl
     have HR' := lH hr'
     have HL' := lH hl'
     clear hr hl hr' hl' h0
     go_enter Tryz.func101, Tryz.ntmps101
     go_wp2
     go_loopw [5] (fun i wr => ∃ k : Nat, k ≤ len ∧ i = .int .i64 k ∧ sameA (l.drop k) (l'.drop k) = sameA l l' ∧ Kept w wr) (fun i _ => len - (intOf i).toNat)
     case atStart => exact ⟨0, Nat.zero_le _, rfl, rfl, Kept.refl _⟩
     case round =>
      obtain ⟨k, hk, rfl, hrest, hK⟩ := hrel
      have HS := lH hrest
      have HK := lH hK
      by_cases hlt : k < len
      · obtain ⟨x, y, m, hx, hd, hb, _, _, c1, c2, c3⟩ := (HR.out.kept hK).tri hlt
        obtain ⟨x9, y9, m9, hx9, hd9, hb9, _, _, d1, d2, d3⟩ := (HR'.out.kept hK).tri hlt
        have HD := lH hd
        have HD9 := lH hd9
        clear hrest hK hx hx9 hd hd9
        by_cases e0 : eqS x x9 = true
        · have E0 := lH e0
          have e0' : (x.toList == x9.toList) = true := e0
          clear e0
          by_cases e1 : eqS y y9 = true
          · have E1 := lH e1
            have e1' : (y.toList == y9.toList) = true := e1
            clear e1
            by_cases e2 : (m == m9) = true
            · have E2 := lH e2
              have e2' : (m == m9) = true := e2
              clear e2
              have E := lH (show sameA (l.drop k) (l'.drop k) = sameA (l.drop (k + 1)) (l'.drop (k + 1)) by rw [HD.out, HD9.out, sameA, E0.out, E1.out, E2.out]; rfl)
              go_wp2
              go_quiet (fail)
              go_wp2
              go_roundw
              case rel => exact ⟨k + 1, by omega, by go_num, E.out.symm.trans HS.out, HK.out.trans (Kept.drewN _ _)⟩
              case measure => simp [intOf]; omega
            · have e2 : (m == m9) = false := by simpa using e2
              have E2 := lH e2
              have e2' : (m == m9) = false := e2
              clear e2
              have E := lH (show sameA (l.drop k) (l'.drop k) = false by rw [HD.out, HD9.out, sameA, E0.out, E1.out, E2.out]; rfl)
              go_wp2
              go_quiet (fail)
              go_wp2
              go_ret
              exact ⟨ret_bool (HS.out.symm.trans E.out).symm, HK.out.trans (Kept.drewN _ _)⟩
          · have e1 : eqS y y9 = false := by simpa using e1
            have E1 := lH e1
            have e1' : (y.toList == y9.toList) = false := e1
            clear e1
            have E := lH (show sameA (l.drop k) (l'.drop k) = false by rw [HD.out, HD9.out, sameA, E0.out, E1.out]; rfl)
            go_wp2
            go_quiet (fail)
            go_wp2
            go_ret
            exact ⟨ret_bool (HS.out.symm.trans E.out).symm, HK.out.trans (Kept.drewN _ _)⟩
        · have e0 : eqS x x9 = false := by simpa using e0
          have E0 := lH e0
          have e0' : (x.toList == x9.toList) = false := e0
          clear e0
          have E := lH (show sameA (l.drop k) (l'.drop k) = false by rw [HD.out, HD9.out, sameA, E0.out]; rfl)
          go_wp2
          go_quiet (fail)
          go_wp2
          go_ret
          exact ⟨ret_bool (HS.out.symm.trans E.out).symm, HK.out.trans (Kept.drewN _ _)⟩
      · have E := lH (show sameA (l.drop k) (l'.drop k) = true by
         rw [List.drop_of_length_le (by rw [HL.out]; omega), List.drop_of_length_le (by rw [HL'.out]; omega), sameA])
        clear hrest hK
        go_wp2
        go_ret
        exact ⟨ret_bool (HS.out.symm.trans E.out).symm, HK.out⟩
 · have HV := lH (show sameA l l' = false from sameA_length (by omega))
   clear hr hl hr' hl'
   have hn : ((len : Int) != (len' : Int)) = true := by
    simp only [bne_iff_ne, ne_eq]; omega
   clear hll
   go_enter Tryz.func101, Tryz.ntmps101
   go_wp2
   go_ret
   exact ⟨ret_bool HV.out.symm, Kept.refl _⟩
theorem rsameOR {v v' : Value} {l l' : NL} {c : Bool} {w : World} (h : Reads TaLay w v l) (h' : Reads TaLay w v' l') (hc : sameA l l' = c) :
 Calls Tryz.prog 101 #[v, v'] w (Say (.bool c) w) := by
 subst hc
 obtain ⟨a, cap, rfl, _, _, hr⟩ := h
 obtain ⟨a', cap', rfl, _, _, hr'⟩ := h'
 exact rsameO_any a a' _ cap _ cap' l l' w hr hr'
set_option maxHeartbeats 800000 in
theorem rsameT_any (a a' : Option Addr) (len cap len' cap' : Nat) (l l' : TL) (w : World) (hr : RowAt TermLay w a len l) (hr' : RowAt TermLay w a' len' l') :
 Calls Tryz.prog 43 #[.slice a len cap, .slice a' len' cap'] w fun e w' => e = .returned (.bool (sameT l l')) ∧ Kept w w' := by
 have hl := hr.1
 have hm := hr.2.1
 have hl' := hr'.1
 have hm' := hr'.2.1
 unfold maxLen at hm hm'
 by_cases hll : len = len'
 · subst hll
   by_cases h0 : len = 0
   · subst h0
     have HE := lH (show sameT l l' = true by rw [List.eq_nil_of_length_eq_zero hl, List.eq_nil_of_length_eq_zero hl']; rfl)
     clear hr hl hr' hl'
     go_enter Tryz.func43, Tryz.ntmps43
     go_wp2
     refine wp_loop_rounds 1 ?_
     rw [rounds_succ]
     go_wp2
     go_ret
     exact ⟨ret_bool HE.out.symm, Kept.refl _⟩
   · obtain ⟨b, off, rfl⟩ : ∃ b off, a = some ⟨b, off, none⟩ := hr.form.resolve_left h0
     obtain ⟨b', off', rfl⟩ : ∃ b off, a' = some ⟨b, off, none⟩ := hr'.form.resolve_left h0
     have HR := lH hr
     have HL := lH hl
     have HR' := lH hr'
     have HL' := lH hl'
     clear hr hl hr' hl' h0
     go_enter Tryz.func43, Tryz.ntmps43
     go_wp2
     go_loopw [5] (fun i wr => ∃ k : Nat, k ≤ len ∧ i = .int .i64 k ∧ sameT (l.drop k) (l'.drop k) = sameT l l' ∧ Kept w wr) (fun i _ => len - (intOf i).toNat)
     case atStart => exact ⟨0, Nat.zero_le _, rfl, rfl, Kept.refl _⟩
     case round =>
      obtain ⟨k, hk, rfl, hrest, hK⟩ := hrel
      have HS := lH hrest
      have HK := lH hK
      by_cases hlt : k < len
      · obtain ⟨o, x, y, hx, hd, hb, _, _, _, c1, c2, c3⟩ := (HR.out.kept hK).term hlt
        obtain ⟨o9, x9, y9, hx9, hd9, hb9, _, _, _, d1, d2, d3⟩ := (HR'.out.kept hK).term hlt
        have HD := lH hd
        have HD9 := lH hd9
        clear hrest hK hx hx9 hd hd9
        by_cases e0 : (o == o9) = true
        · have E0 := lH e0
          have e0' : (o == o9) = true := e0
          clear e0
          by_cases e1 : eqS x x9 = true
          · have E1 := lH e1
            have e1' : (x.toList == x9.toList) = true := e1
            clear e1
            by_cases e2 : eqS y y9 = true
            · have E2 := lH e2
              have e2' : (y.toList == y9.toList) = true := e2
              clear e2
              have E := lH (show sameT (l.drop k) (l'.drop k) = sameT (l.drop (k + 1)) (l'.drop (k + 1)) by rw [HD.out, HD9.out, sameT, E0.out, E1.out, E2.out]; rfl)
              go_wp2
              go_quiet (fail)
              go_wp2
              go_roundw
              case rel => exact ⟨k + 1, by omega, by go_num, E.out.symm.trans HS.out, HK.out.trans (Kept.drewN _ _)⟩
              case measure => simp [intOf]; omega
            · have e2 : eqS y y9 = false := by simpa using e2
              have E2 := lH e2
              have e2' : (y.toList == y9.toList) = false := e2
              clear e2
              have E := lH (show sameT (l.drop k) (l'.drop k) = false by rw [HD.out, HD9.out, sameT, E0.out, E1.out, E2.out]; rfl)
              go_wp2
              go_quiet (fail)
              go_wp2
              go_ret
              exact ⟨ret_bool (HS.out.symm.trans E.out).symm, HK.out.trans (Kept.drewN _ _)⟩
          · have e1 : eqS x x9 = false := by simpa using e1
            have E1 := lH e1
            have e1' : (x.toList == x9.toList) = false := e1
            clear e1
            have E := lH (show sameT (l.drop k) (l'.drop k) = false by rw [HD.out, HD9.out, sameT, E0.out, E1.out]; rfl)
            go_wp2
            go_quiet (fail)
            go_wp2
            go_ret
            exact ⟨ret_bool (HS.out.symm.trans E.out).symm, HK.out.trans (Kept.drewN _ _)⟩
        · have e0 : (o == o9) = false := by simpa using e0
          have E0 := lH e0
          have e0' : (o == o9) = false := e0
          clear e0
          have E := lH (show sameT (l.drop k) (l'.drop k) = false by rw [HD.out, HD9.out, sameT, E0.out]; rfl)
          go_wp2
          go_quiet (fail)
          go_wp2
          go_ret
          exact ⟨ret_bool (HS.out.symm.trans E.out).symm, HK.out.trans (Kept.drewN _ _)⟩
      · have E := lH (show sameT (l.drop k) (l'.drop k) = true by
         rw [List.drop_of_length_le (by rw [HL.out]; omega), List.drop_of_length_le (by rw [HL'.out]; omega), sameT])
        clear hrest hK
        go_wp2
        go_ret
        exact ⟨ret_bool (HS.out.symm.trans E.out).symm, HK.out⟩
 · have HV := lH (show sameT l l' = false from sameT_length (by omega))
   clear hr hl hr' hl'
   have hn : ((len : Int) != (len' : Int)) = true := by
    simp only [bne_iff_ne, ne_eq]; omega
   clear hll
   go_enter Tryz.func43, Tryz.ntmps43
   go_wp2
   go_ret
   exact ⟨ret_bool HV.out.symm, Kept.refl _⟩
theorem rsameTR {v v' : Value} {l l' : TL} {c : Bool} {w : World} (h : Reads TermLay w v l) (h' : Reads TermLay w v' l') (hc : sameT l l' = c) :
 Calls Tryz.prog 43 #[v, v'] w (Say (.bool c) w) := by
 subst hc
 obtain ⟨a, cap, rfl, _, _, hr⟩ := h
 obtain ⟨a', cap', rfl, _, _, hr'⟩ := h'
 exact rsameT_any a a' _ cap _ cap' l l' w hr hr'
open Go.RowKit
def samePd (n m : Pd) : Bool := (eqS n.name m.name && (eqS n.owner m.owner && ((n.prio == m.prio) && (Vec.sameFrom n.need m.need && (sameP n.labels m.labels && (sameT n.sel m.sel && (sameA n.tols m.tols && (eqS n.key m.key && ((n.most == m.most) && (eqS n.node m.node && (n.hold == m.hold)))))))))))
theorem samePd_self (n : Pd) : samePd n n = true := by
 unfold samePd
 rw [eqS_self, eqS_self, Vec.same_self, sameP_self, sameT_self, sameA_self, eqS_self, eqS_self]; simp
set_option maxRecDepth 100000 in
set_option maxHeartbeats 8000000 in
theorem samePod_any (n m : Pd) (v1 v2 v3 v4 u1 u2 u3 u4 : Value) (w : World) (h : PodAt w v1 v2 v3 v4 n) (g : PodAt w u1 u2 u3 u4 m) :
 Calls Tryz.prog 21 #[PodV n v1 v2 v3 v4, PodV m u1 u2 u3 u4] w (Say (.bool (samePd n m)) w) := by
 have HH := lH h
 have GG := lH g
 obtain ⟨b0, hb0⟩ : ∃ b, eqS n.name m.name = b := ⟨_, rfl⟩
 obtain ⟨b1, hb1⟩ : ∃ b, eqS n.owner m.owner = b := ⟨_, rfl⟩
 obtain ⟨b2, hb2⟩ : ∃ b, (n.prio == m.prio) = b := ⟨_, rfl⟩
 obtain ⟨b3, hb3⟩ : ∃ b, Vec.sameFrom n.need m.need = b := ⟨_, rfl⟩
 obtain ⟨b4, hb4⟩ : ∃ b, sameP n.labels m.labels = b := ⟨_, rfl⟩
 obtain ⟨b5, hb5⟩ : ∃ b, sameT n.sel m.sel = b := ⟨_, rfl⟩
 obtain ⟨b6, hb6⟩ : ∃ b, sameA n.tols m.tols = b := ⟨_, rfl⟩
 obtain ⟨b7, hb7⟩ : ∃ b, eqS n.key m.key = b := ⟨_, rfl⟩
 obtain ⟨b8, hb8⟩ : ∃ b, (n.most == m.most) = b := ⟨_, rfl⟩
 obtain ⟨b9, hb9⟩ : ∃ b, eqS n.node m.node = b := ⟨_, rfl⟩
 obtain ⟨b10, hb10⟩ : ∃ b, (n.hold == m.hold) = b := ⟨_, rfl⟩
 have HV0 := lH (show samePd n m = (b0 && (b1 && (b2 && (b3 && (b4 && (b5 && (b6 && (b7 && (b8 && (b9 && b10)))))))))) by unfold samePd; rw [hb0, hb1, hb2, hb3, hb4, hb5, hb6, hb7, hb8, hb9, hb10])
 have t0 : (n.name.toList == m.name.toList) = b0 := hb0
 have t1 : (n.owner.toList == m.owner.toList) = b1 := hb1
 have t2 : (n.prio == m.prio) = b2 := hb2
 have t7 : (n.key.toList == m.key.toList) = b7 := hb7
 have t8 : (n.most == m.most) = b8 := hb8
 have t9 : (n.node.toList == m.node.toList) = b9 := hb9
 have t10 : (n.hold == m.hold) = b10 := hb10
 have B3 := lH hb3
 have B4 := lH hb4
 have B5 := lH hb5
 have B6 := lH hb6
 obtain ⟨W0, hW0⟩ : ∃ W0, (w.alloc (.cells #[.string n.name, .string n.owner, .int .i64 n.prio, v1, v2, v3, v4, .string n.key, .int .i64 n.most, .string n.node, .bool n.hold] 49)).alloc (.cells #[.string m.name, .string m.owner, .int .i64 m.prio, u1, u2, u3, u4, .string m.key, .int .i64 m.most, .string m.node, .bool m.hold] 49) = W0 := ⟨_, rfl⟩
 have hk0 : Kept w W0 := by rw [← hW0]; exact kept_two _ _ _
 have HK0 := lH hk0
 have HC := lH (show ∀ W, Kept W0 W → (W.cell? ⟨w.heap.size, 0, none⟩ = some (.string n.name) ∧ W.cell? ⟨w.heap.size, 1, none⟩ = some (.string n.owner) ∧ W.cell? ⟨w.heap.size, 2, none⟩ = some (.int .i64 n.prio) ∧ W.cell? ⟨w.heap.size, 3, none⟩ = some (v1) ∧ W.cell? ⟨w.heap.size, 4, none⟩ = some (v2) ∧ W.cell? ⟨w.heap.size, 5, none⟩ = some (v3) ∧ W.cell? ⟨w.heap.size, 6, none⟩ = some (v4) ∧ W.cell? ⟨w.heap.size, 7, none⟩ = some (.string n.key) ∧ W.cell? ⟨w.heap.size, 8, none⟩ = some (.int .i64 n.most) ∧ W.cell? ⟨w.heap.size, 9, none⟩ = some (.string n.node) ∧ W.cell? ⟨w.heap.size, 10, none⟩ = some (.bool n.hold)) ∧ (W.cell? ⟨(w.heap.size + 1), 0, none⟩ = some (.string m.name) ∧ W.cell? ⟨(w.heap.size + 1), 1, none⟩ = some (.string m.owner) ∧ W.cell? ⟨(w.heap.size + 1), 2, none⟩ = some (.int .i64 m.prio) ∧ W.cell? ⟨(w.heap.size + 1), 3, none⟩ = some (u1) ∧ W.cell? ⟨(w.heap.size + 1), 4, none⟩ = some (u2) ∧ W.cell? ⟨(w.heap.size + 1), 5, none⟩ = some (u3) ∧ W.cell? ⟨(w.heap.size + 1), 6, none⟩ = some (u4) ∧ W.cell? ⟨(w.heap.size + 1), 7, none⟩ = some (.string m.key) ∧ W.cell? ⟨(w.heap.size + 1), 8, none⟩ = some (.int .i64 m.most) ∧ W.cell? ⟨(w.heap.size + 1), 9, none⟩ = some (.string m.node) ∧ W.cell? ⟨(w.heap.size + 1), 10, none⟩ = some (.bool m.hold)) from fun W k => by
  have c := freshN w (.string n.name) [.string n.owner, .int .i64 n.prio, v1, v2, v3, v4, .string n.key, .int .i64 n.most, .string n.node, .bool n.hold] 49 W (by rw [← hW0] at k; exact (kept_alloc _ _).trans k)
  have d := freshN (w.alloc (.cells #[.string n.name, .string n.owner, .int .i64 n.prio, v1, v2, v3, v4, .string n.key, .int .i64 n.most, .string n.node, .bool n.hold] 49)) (.string m.name) [.string m.owner, .int .i64 m.prio, u1, u2, u3, u4, .string m.key, .int .i64 m.most, .string m.node, .bool m.hold] 49 W (by rw [hW0]; exact k)
  rw [World.size_alloc] at d
  exact ⟨⟨c.at_ 0 _ rfl, c.at_ 1 _ rfl, c.at_ 2 _ rfl, c.at_ 3 _ rfl, c.at_ 4 _ rfl, c.at_ 5 _ rfl, c.at_ 6 _ rfl, c.at_ 7 _ rfl, c.at_ 8 _ rfl, c.at_ 9 _ rfl, c.at_ 10 _ rfl⟩, d.at_ 0 _ rfl, d.at_ 1 _ rfl, d.at_ 2 _ rfl, d.at_ 3 _ rfl, d.at_ 4 _ rfl, d.at_ 5 _ rfl, d.at_ 6 _ rfl, d.at_ 7 _ rfl, d.at_ 8 _ rfl, d.at_ 9 _ rfl, d.at_ 10 _ rfl⟩)
 obtain ⟨⟨c0, c1, c2, c3, c4, c5, c6, c7, c8, c9, c10⟩, d0, d1, d2, d3, d4, d5, d6, d7, d8, d9, d10⟩ := HC.out _ (Kept.refl _)
 clear hb0 hb1 hb2 hb3 hb4 hb5 hb6 hb7 hb8 hb9 hb10 hk0 h g
 unfold PodV
 cases b0 with
 | false =>
  have HV := lH (show samePd n m = false by rw [HV0.out]; simp)
  go_enter Tryz.func21, Tryz.ntmps21
  have K := lH (Kept.refl W0)
  go_wp2
  try rw [hW0]
  go_ret
  exact ⟨ret_bool HV.out.symm, HK0.out.trans K.out⟩
 | true =>
  cases b1 with
  | false =>
   have HV := lH (show samePd n m = false by rw [HV0.out]; simp)
   go_enter Tryz.func21, Tryz.ntmps21
   have K := lH (Kept.refl W0)
   go_wp2
   try rw [hW0]
   go_ret
   exact ⟨ret_bool HV.out.symm, HK0.out.trans K.out⟩
  | true =>
   cases b2 with
   | false =>
    have HV := lH (show samePd n m = false by rw [HV0.out]; simp)
    go_enter Tryz.func21, Tryz.ntmps21
    have K := lH (Kept.refl W0)
    go_wp2
    try rw [hW0]
    go_ret
    exact ⟨ret_bool HV.out.symm, HK0.out.trans K.out⟩
   | true =>
    cases b3 with
    | false =>
     have HV := lH (show samePd n m = false by rw [HV0.out]; simp)
     go_enter Tryz.func21, Tryz.ntmps21
     have K := lH (Kept.refl W0)
     go_wp2_with fail
     try rw [hW0]
     refine (Vec.sameR (HH.out.need.kept (HK0.out.trans K.out)) (GG.out.need.kept (HK0.out.trans K.out)) B3.out).mono ?_
     rintro e w3 ⟨rfl, k3⟩
     have K := lH (K.out.trans k3)
     clear k3 c0 d0 c1 d1 c2 d2 c3 d3 c4 d4 c5 d5 c6 d6 c7 d7 c8 d8 c9 d9 c10 d10
     obtain ⟨⟨c0, c1, c2, c3, c4, c5, c6, c7, c8, c9, c10⟩, d0, d1, d2, d3, d4, d5, d6, d7, d8, d9, d10⟩ := HC.out _ K.out
     go_wp2
     go_ret
     exact ⟨ret_bool HV.out.symm, HK0.out.trans K.out⟩
    | true =>
     cases b4 with
     | false =>
      have HV := lH (show samePd n m = false by rw [HV0.out]; simp)
      go_enter Tryz.func21, Tryz.ntmps21
      have K := lH (Kept.refl W0)
      go_wp2_with fail
      try rw [hW0]
      refine (Vec.sameR (HH.out.need.kept (HK0.out.trans K.out)) (GG.out.need.kept (HK0.out.trans K.out)) B3.out).mono ?_
      rintro e w3 ⟨rfl, k3⟩
      have K := lH (K.out.trans k3)
      clear k3 c0 d0 c1 d1 c2 d2 c3 d3 c4 d4 c5 d5 c6 d6 c7 d7 c8 d8 c9 d9 c10 d10
      obtain ⟨⟨c0, c1, c2, c3, c4, c5, c6, c7, c8, c9, c10⟩, d0, d1, d2, d3, d4, d5, d6, d7, d8, d9, d10⟩ := HC.out _ K.out
      go_wp2_with fail
      refine (equalPR (HH.out.labels.kept (HK0.out.trans K.out)) (GG.out.labels.kept (HK0.out.trans K.out)) B4.out).mono ?_
      rintro e w4 ⟨rfl, k4⟩
      have K := lH (K.out.trans k4)
      clear k4 c0 d0 c1 d1 c2 d2 c3 d3 c4 d4 c5 d5 c6 d6 c7 d7 c8 d8 c9 d9 c10 d10
      obtain ⟨⟨c0, c1, c2, c3, c4, c5, c6, c7, c8, c9, c10⟩, d0, d1, d2, d3, d4, d5, d6, d7, d8, d9, d10⟩ := HC.out _ K.out
      go_wp2
      go_ret
      exact ⟨ret_bool HV.out.symm, HK0.out.trans K.out⟩
     | true =>
      cases b5 with
      | false =>
       have HV := lH (show samePd n m = false by rw [HV0.out]; simp)
       go_enter Tryz.func21, Tryz.ntmps21
       have K := lH (Kept.refl W0)
       go_wp2_with fail
       try rw [hW0]
       refine (Vec.sameR (HH.out.need.kept (HK0.out.trans K.out)) (GG.out.need.kept (HK0.out.trans K.out)) B3.out).mono ?_
       rintro e w3 ⟨rfl, k3⟩
       have K := lH (K.out.trans k3)
       clear k3 c0 d0 c1 d1 c2 d2 c3 d3 c4 d4 c5 d5 c6 d6 c7 d7 c8 d8 c9 d9 c10 d10
       obtain ⟨⟨c0, c1, c2, c3, c4, c5, c6, c7, c8, c9, c10⟩, d0, d1, d2, d3, d4, d5, d6, d7, d8, d9, d10⟩ := HC.out _ K.out
       go_wp2_with fail
       refine (equalPR (HH.out.labels.kept (HK0.out.trans K.out)) (GG.out.labels.kept (HK0.out.trans K.out)) B4.out).mono ?_
       rintro e w4 ⟨rfl, k4⟩
       have K := lH (K.out.trans k4)
       clear k4 c0 d0 c1 d1 c2 d2 c3 d3 c4 d4 c5 d5 c6 d6 c7 d7 c8 d8 c9 d9 c10 d10
       obtain ⟨⟨c0, c1, c2, c3, c4, c5, c6, c7, c8, c9, c10⟩, d0, d1, d2, d3, d4, d5, d6, d7, d8, d9, d10⟩ := HC.out _ K.out
       go_wp2_with fail
       refine (equalTR (HH.out.sel.kept (HK0.out.trans K.out)) (GG.out.sel.kept (HK0.out.trans K.out)) B5.out).mono ?_
       rintro e w5 ⟨rfl, k5⟩
       have K := lH (K.out.trans k5)
       clear k5 c0 d0 c1 d1 c2 d2 c3 d3 c4 d4 c5 d5 c6 d6 c7 d7 c8 d8 c9 d9 c10 d10
       obtain ⟨⟨c0, c1, c2, c3, c4, c5, c6, c7, c8, c9, c10⟩, d0, d1, d2, d3, d4, d5, d6, d7, d8, d9, d10⟩ := HC.out _ K.out
       go_wp2
       go_ret
       exact ⟨ret_bool HV.out.symm, HK0.out.trans K.out⟩
      | true =>
       cases b6 with
       | false =>
        have HV := lH (show samePd n m = false by rw [HV0.out]; simp)
        go_enter Tryz.func21, Tryz.ntmps21
        have K := lH (Kept.refl W0)
        go_wp2_with fail
        try rw [hW0]
        refine (Vec.sameR (HH.out.need.kept (HK0.out.trans K.out)) (GG.out.need.kept (HK0.out.trans K.out)) B3.out).mono ?_
        rintro e w3 ⟨rfl, k3⟩
        have K := lH (K.out.trans k3)
        clear k3 c0 d0 c1 d1 c2 d2 c3 d3 c4 d4 c5 d5 c6 d6 c7 d7 c8 d8 c9 d9 c10 d10
        obtain ⟨⟨c0, c1, c2, c3, c4, c5, c6, c7, c8, c9, c10⟩, d0, d1, d2, d3, d4, d5, d6, d7, d8, d9, d10⟩ := HC.out _ K.out
        go_wp2_with fail
        refine (equalPR (HH.out.labels.kept (HK0.out.trans K.out)) (GG.out.labels.kept (HK0.out.trans K.out)) B4.out).mono ?_
        rintro e w4 ⟨rfl, k4⟩
        have K := lH (K.out.trans k4)
        clear k4 c0 d0 c1 d1 c2 d2 c3 d3 c4 d4 c5 d5 c6 d6 c7 d7 c8 d8 c9 d9 c10 d10
        obtain ⟨⟨c0, c1, c2, c3, c4, c5, c6, c7, c8, c9, c10⟩, d0, d1, d2, d3, d4, d5, d6, d7, d8, d9, d10⟩ := HC.out _ K.out
        go_wp2_with fail
        refine (equalTR (HH.out.sel.kept (HK0.out.trans K.out)) (GG.out.sel.kept (HK0.out.trans K.out)) B5.out).mono ?_
        rintro e w5 ⟨rfl, k5⟩
        have K := lH (K.out.trans k5)
        clear k5 c0 d0 c1 d1 c2 d2 c3 d3 c4 d4 c5 d5 c6 d6 c7 d7 c8 d8 c9 d9 c10 d10
        obtain ⟨⟨c0, c1, c2, c3, c4, c5, c6, c7, c8, c9, c10⟩, d0, d1, d2, d3, d4, d5, d6, d7, d8, d9, d10⟩ := HC.out _ K.out
        go_wp2_with fail
        refine (equalOR (HH.out.tols.kept (HK0.out.trans K.out)) (GG.out.tols.kept (HK0.out.trans K.out)) B6.out).mono ?_
        rintro e w6 ⟨rfl, k6⟩
        have K := lH (K.out.trans k6)
        clear k6 c0 d0 c1 d1 c2 d2 c3 d3 c4 d4 c5 d5 c6 d6 c7 d7 c8 d8 c9 d9 c10 d10
        obtain ⟨⟨c0, c1, c2, c3, c4, c5, c6, c7, c8, c9, c10⟩, d0, d1, d2, d3, d4, d5, d6, d7, d8, d9, d10⟩ := HC.out _ K.out
        go_wp2
        go_ret
        exact ⟨ret_bool HV.out.symm, HK0.out.trans K.out⟩
       | true =>
        cases b7 with
        | false =>
         have HV := lH (show samePd n m = false by rw [HV0.out]; simp)
         go_enter Tryz.func21, Tryz.ntmps21
         have K := lH (Kept.refl W0)
         go_wp2_with fail
         try rw [hW0]
         refine (Vec.sameR (HH.out.need.kept (HK0.out.trans K.out)) (GG.out.need.kept (HK0.out.trans K.out)) B3.out).mono ?_
         rintro e w3 ⟨rfl, k3⟩
         have K := lH (K.out.trans k3)
         clear k3 c0 d0 c1 d1 c2 d2 c3 d3 c4 d4 c5 d5 c6 d6 c7 d7 c8 d8 c9 d9 c10 d10
         obtain ⟨⟨c0, c1, c2, c3, c4, c5, c6, c7, c8, c9, c10⟩, d0, d1, d2, d3, d4, d5, d6, d7, d8, d9, d10⟩ := HC.out _ K.out
         go_wp2_with fail
         refine (equalPR (HH.out.labels.kept (HK0.out.trans K.out)) (GG.out.labels.kept (HK0.out.trans K.out)) B4.out).mono ?_
         rintro e w4 ⟨rfl, k4⟩
         have K := lH (K.out.trans k4)
         clear k4 c0 d0 c1 d1 c2 d2 c3 d3 c4 d4 c5 d5 c6 d6 c7 d7 c8 d8 c9 d9 c10 d10
         obtain ⟨⟨c0, c1, c2, c3, c4, c5, c6, c7, c8, c9, c10⟩, d0, d1, d2, d3, d4, d5, d6, d7, d8, d9, d10⟩ := HC.out _ K.out
         go_wp2_with fail
         refine (equalTR (HH.out.sel.kept (HK0.out.trans K.out)) (GG.out.sel.kept (HK0.out.trans K.out)) B5.out).mono ?_
         rintro e w5 ⟨rfl, k5⟩
         have K := lH (K.out.trans k5)
         clear k5 c0 d0 c1 d1 c2 d2 c3 d3 c4 d4 c5 d5 c6 d6 c7 d7 c8 d8 c9 d9 c10 d10
         obtain ⟨⟨c0, c1, c2, c3, c4, c5, c6, c7, c8, c9, c10⟩, d0, d1, d2, d3, d4, d5, d6, d7, d8, d9, d10⟩ := HC.out _ K.out
         go_wp2_with fail
         refine (equalOR (HH.out.tols.kept (HK0.out.trans K.out)) (GG.out.tols.kept (HK0.out.trans K.out)) B6.out).mono ?_
         rintro e w6 ⟨rfl, k6⟩
         have K := lH (K.out.trans k6)
         clear k6 c0 d0 c1 d1 c2 d2 c3 d3 c4 d4 c5 d5 c6 d6 c7 d7 c8 d8 c9 d9 c10 d10
         obtain ⟨⟨c0, c1, c2, c3, c4, c5, c6, c7, c8, c9, c10⟩, d0, d1, d2, d3, d4, d5, d6, d7, d8, d9, d10⟩ := HC.out _ K.out
         go_wp2
         go_ret
         exact ⟨ret_bool HV.out.symm, HK0.out.trans K.out⟩
        | true =>
         cases b8 with
         | false =>
          have HV := lH (show samePd n m = false by rw [HV0.out]; simp)
          go_enter Tryz.func21, Tryz.ntmps21
          have K := lH (Kept.refl W0)
          go_wp2_with fail
          try rw [hW0]
          refine (Vec.sameR (HH.out.need.kept (HK0.out.trans K.out)) (GG.out.need.kept (HK0.out.trans K.out)) B3.out).mono ?_
          rintro e w3 ⟨rfl, k3⟩
          have K := lH (K.out.trans k3)
          clear k3 c0 d0 c1 d1 c2 d2 c3 d3 c4 d4 c5 d5 c6 d6 c7 d7 c8 d8 c9 d9 c10 d10
          obtain ⟨⟨c0, c1, c2, c3, c4, c5, c6, c7, c8, c9, c10⟩, d0, d1, d2, d3, d4, d5, d6, d7, d8, d9, d10⟩ := HC.out _ K.out
          go_wp2_with fail
          refine (equalPR (HH.out.labels.kept (HK0.out.trans K.out)) (GG.out.labels.kept (HK0.out.trans K.out)) B4.out).mono ?_
          rintro e w4 ⟨rfl, k4⟩
          have K := lH (K.out.trans k4)
          clear k4 c0 d0 c1 d1 c2 d2 c3 d3 c4 d4 c5 d5 c6 d6 c7 d7 c8 d8 c9 d9 c10 d10
          obtain ⟨⟨c0, c1, c2, c3, c4, c5, c6, c7, c8, c9, c10⟩, d0, d1, d2, d3, d4, d5, d6, d7, d8, d9, d10⟩ := HC.out _ K.out
          go_wp2_with fail
          refine (equalTR (HH.out.sel.kept (HK0.out.trans K.out)) (GG.out.sel.kept (HK0.out.trans K.out)) B5.out).mono ?_
          rintro e w5 ⟨rfl, k5⟩
          have K := lH (K.out.trans k5)
          clear k5 c0 d0 c1 d1 c2 d2 c3 d3 c4 d4 c5 d5 c6 d6 c7 d7 c8 d8 c9 d9 c10 d10
          obtain ⟨⟨c0, c1, c2, c3, c4, c5, c6, c7, c8, c9, c10⟩, d0, d1, d2, d3, d4, d5, d6, d7, d8, d9, d10⟩ := HC.out _ K.out
          go_wp2_with fail
          refine (equalOR (HH.out.tols.kept (HK0.out.trans K.out)) (GG.out.tols.kept (HK0.out.trans K.out)) B6.out).mono ?_
          rintro e w6 ⟨rfl, k6⟩
          have K := lH (K.out.trans k6)
          clear k6 c0 d0 c1 d1 c2 d2 c3 d3 c4 d4 c5 d5 c6 d6 c7 d7 c8 d8 c9 d9 c10 d10
          obtain ⟨⟨c0, c1, c2, c3, c4, c5, c6, c7, c8, c9, c10⟩, d0, d1, d2, d3, d4, d5, d6, d7, d8, d9, d10⟩ := HC.out _ K.out
          go_wp2
          go_ret
          exact ⟨ret_bool HV.out.symm, HK0.out.trans K.out⟩
         | true =>
          cases b9 with
          | false =>
           have HV := lH (show samePd n m = false by rw [HV0.out]; simp)
           go_enter Tryz.func21, Tryz.ntmps21
           have K := lH (Kept.refl W0)
           go_wp2_with fail
           try rw [hW0]
           refine (Vec.sameR (HH.out.need.kept (HK0.out.trans K.out)) (GG.out.need.kept (HK0.out.trans K.out)) B3.out).mono ?_
           rintro e w3 ⟨rfl, k3⟩
           have K := lH (K.out.trans k3)
           clear k3 c0 d0 c1 d1 c2 d2 c3 d3 c4 d4 c5 d5 c6 d6 c7 d7 c8 d8 c9 d9 c10 d10
           obtain ⟨⟨c0, c1, c2, c3, c4, c5, c6, c7, c8, c9, c10⟩, d0, d1, d2, d3, d4, d5, d6, d7, d8, d9, d10⟩ := HC.out _ K.out
           go_wp2_with fail
           refine (equalPR (HH.out.labels.kept (HK0.out.trans K.out)) (GG.out.labels.kept (HK0.out.trans K.out)) B4.out).mono ?_
           rintro e w4 ⟨rfl, k4⟩
           have K := lH (K.out.trans k4)
           clear k4 c0 d0 c1 d1 c2 d2 c3 d3 c4 d4 c5 d5 c6 d6 c7 d7 c8 d8 c9 d9 c10 d10
           obtain ⟨⟨c0, c1, c2, c3, c4, c5, c6, c7, c8, c9, c10⟩, d0, d1, d2, d3, d4, d5, d6, d7, d8, d9, d10⟩ := HC.out _ K.out
           go_wp2_with fail
           refine (equalTR (HH.out.sel.kept (HK0.out.trans K.out)) (GG.out.sel.kept (HK0.out.trans K.out)) B5.out).mono ?_
           rintro e w5 ⟨rfl, k5⟩
           have K := lH (K.out.trans k5)
           clear k5 c0 d0 c1 d1 c2 d2 c3 d3 c4 d4 c5 d5 c6 d6 c7 d7 c8 d8 c9 d9 c10 d10
           obtain ⟨⟨c0, c1, c2, c3, c4, c5, c6, c7, c8, c9, c10⟩, d0, d1, d2, d3, d4, d5, d6, d7, d8, d9, d10⟩ := HC.out _ K.out
           go_wp2_with fail
           refine (equalOR (HH.out.tols.kept (HK0.out.trans K.out)) (GG.out.tols.kept (HK0.out.trans K.out)) B6.out).mono ?_
           rintro e w6 ⟨rfl, k6⟩
           have K := lH (K.out.trans k6)
           clear k6 c0 d0 c1 d1 c2 d2 c3 d3 c4 d4 c5 d5 c6 d6 c7 d7 c8 d8 c9 d9 c10 d10
           obtain ⟨⟨c0, c1, c2, c3, c4, c5, c6, c7, c8, c9, c10⟩, d0, d1, d2, d3, d4, d5, d6, d7, d8, d9, d10⟩ := HC.out _ K.out
           go_wp2
           go_ret
           exact ⟨ret_bool HV.out.symm, HK0.out.trans K.out⟩
          | true =>
           cases b10 with
           | false =>
            have HV := lH (show samePd n m = false by rw [HV0.out]; simp)
            go_enter Tryz.func21, Tryz.ntmps21
            have K := lH (Kept.refl W0)
            go_wp2_with fail
            try rw [hW0]
            refine (Vec.sameR (HH.out.need.kept (HK0.out.trans K.out)) (GG.out.need.kept (HK0.out.trans K.out)) B3.out).mono ?_
            rintro e w3 ⟨rfl, k3⟩
            have K := lH (K.out.trans k3)
            clear k3 c0 d0 c1 d1 c2 d2 c3 d3 c4 d4 c5 d5 c6 d6 c7 d7 c8 d8 c9 d9 c10 d10
            obtain ⟨⟨c0, c1, c2, c3, c4, c5, c6, c7, c8, c9, c10⟩, d0, d1, d2, d3, d4, d5, d6, d7, d8, d9, d10⟩ := HC.out _ K.out
            go_wp2_with fail
            refine (equalPR (HH.out.labels.kept (HK0.out.trans K.out)) (GG.out.labels.kept (HK0.out.trans K.out)) B4.out).mono ?_
            rintro e w4 ⟨rfl, k4⟩
            have K := lH (K.out.trans k4)
            clear k4 c0 d0 c1 d1 c2 d2 c3 d3 c4 d4 c5 d5 c6 d6 c7 d7 c8 d8 c9 d9 c10 d10
            obtain ⟨⟨c0, c1, c2, c3, c4, c5, c6, c7, c8, c9, c10⟩, d0, d1, d2, d3, d4, d5, d6, d7, d8, d9, d10⟩ := HC.out _ K.out
            go_wp2_with fail
            refine (equalTR (HH.out.sel.kept (HK0.out.trans K.out)) (GG.out.sel.kept (HK0.out.trans K.out)) B5.out).mono ?_
            rintro e w5 ⟨rfl, k5⟩
            have K := lH (K.out.trans k5)
            clear k5 c0 d0 c1 d1 c2 d2 c3 d3 c4 d4 c5 d5 c6 d6 c7 d7 c8 d8 c9 d9 c10 d10
            obtain ⟨⟨c0, c1, c2, c3, c4, c5, c6, c7, c8, c9, c10⟩, d0, d1, d2, d3, d4, d5, d6, d7, d8, d9, d10⟩ := HC.out _ K.out
            go_wp2_with fail
            refine (equalOR (HH.out.tols.kept (HK0.out.trans K.out)) (GG.out.tols.kept (HK0.out.trans K.out)) B6.out).mono ?_
            rintro e w6 ⟨rfl, k6⟩
            have K := lH (K.out.trans k6)
            clear k6 c0 d0 c1 d1 c2 d2 c3 d3 c4 d4 c5 d5 c6 d6 c7 d7 c8 d8 c9 d9 c10 d10
            obtain ⟨⟨c0, c1, c2, c3, c4, c5, c6, c7, c8, c9, c10⟩, d0, d1, d2, d3, d4, d5, d6, d7, d8, d9, d10⟩ := HC.out _ K.out
            go_wp2
            go_ret
            exact ⟨ret_bool HV.out.symm, HK0.out.trans K.out⟩
           | true =>
            have HV := lH (show samePd n m = true by rw [HV0.out]; rfl)
            go_enter Tryz.func21, Tryz.ntmps21
            have K := lH (Kept.refl W0)
            go_wp2_with fail
            try rw [hW0]
            refine (Vec.sameR (HH.out.need.kept (HK0.out.trans K.out)) (GG.out.need.kept (HK0.out.trans K.out)) B3.out).mono ?_
            rintro e w3 ⟨rfl, k3⟩
            have K := lH (K.out.trans k3)
            clear k3 c0 d0 c1 d1 c2 d2 c3 d3 c4 d4 c5 d5 c6 d6 c7 d7 c8 d8 c9 d9 c10 d10
            obtain ⟨⟨c0, c1, c2, c3, c4, c5, c6, c7, c8, c9, c10⟩, d0, d1, d2, d3, d4, d5, d6, d7, d8, d9, d10⟩ := HC.out _ K.out
            go_wp2_with fail
            refine (equalPR (HH.out.labels.kept (HK0.out.trans K.out)) (GG.out.labels.kept (HK0.out.trans K.out)) B4.out).mono ?_
            rintro e w4 ⟨rfl, k4⟩
            have K := lH (K.out.trans k4)
            clear k4 c0 d0 c1 d1 c2 d2 c3 d3 c4 d4 c5 d5 c6 d6 c7 d7 c8 d8 c9 d9 c10 d10
            obtain ⟨⟨c0, c1, c2, c3, c4, c5, c6, c7, c8, c9, c10⟩, d0, d1, d2, d3, d4, d5, d6, d7, d8, d9, d10⟩ := HC.out _ K.out
            go_wp2_with fail
            refine (equalTR (HH.out.sel.kept (HK0.out.trans K.out)) (GG.out.sel.kept (HK0.out.trans K.out)) B5.out).mono ?_
            rintro e w5 ⟨rfl, k5⟩
            have K := lH (K.out.trans k5)
            clear k5 c0 d0 c1 d1 c2 d2 c3 d3 c4 d4 c5 d5 c6 d6 c7 d7 c8 d8 c9 d9 c10 d10
            obtain ⟨⟨c0, c1, c2, c3, c4, c5, c6, c7, c8, c9, c10⟩, d0, d1, d2, d3, d4, d5, d6, d7, d8, d9, d10⟩ := HC.out _ K.out
            go_wp2_with fail
            refine (equalOR (HH.out.tols.kept (HK0.out.trans K.out)) (GG.out.tols.kept (HK0.out.trans K.out)) B6.out).mono ?_
            rintro e w6 ⟨rfl, k6⟩
            have K := lH (K.out.trans k6)
            clear k6 c0 d0 c1 d1 c2 d2 c3 d3 c4 d4 c5 d5 c6 d6 c7 d7 c8 d8 c9 d9 c10 d10
            obtain ⟨⟨c0, c1, c2, c3, c4, c5, c6, c7, c8, c9, c10⟩, d0, d1, d2, d3, d4, d5, d6, d7, d8, d9, d10⟩ := HC.out _ K.out
            go_wp2
            go_ret
            exact ⟨ret_bool HV.out.symm, HK0.out.trans K.out⟩
theorem samePodR {v u : Value} {n m : Pd} {b : Bool} {w : World} (h : PodR w v n) (g : PodR w u m) (hb : samePd n m = b) : Calls Tryz.prog 21 #[v, u] w (Say (.bool b) w) := by
 subst hb
 obtain ⟨v1, v2, v3, v4, rfl, h⟩ := h
 obtain ⟨u1, u2, u3, u4, rfl, g⟩ := g
 exact samePod_any n m v1 v2 v3 v4 u1 u2 u3 u4 w h g
end Go.Proofs.YtfpgekjhcfoohaaGreat
