/- Rows of pods: whether they may stand so. -/
import Derived.Test.YtjihpbbeoiddkaaGreatPodFind
namespace Go.Proofs.YtjihpbbeoiddkaaGreat
open Go.RowKit
set_option linter.unusedVariables false

def chkFromP : Option ByteArray → List Pd → Int
  | _, [] => 0
  | prev, n :: t => if chkPod n ≠ 0 then chkPod n else if Vec.behindB prev n.name = true then 13 else chkFromP (some n.name) t
def chkAllP (l : List Pd) : Int := if 128 < l.length then 4 else chkFromP none l
def prevPd (l : List Pd) (k : Nat) : Option ByteArray := if k = 0 then none else (l[k - 1]?).map Pd.name
theorem prevPd_zero {l : List Pd} {k : Nat} (h : k = 0) (s : ByteArray) : Vec.behindB (prevPd l k) s = false := by unfold prevPd; rw [if_pos h]; rfl
theorem prevPd_some {l : List Pd} {k : Nat} {n : Pd} (h : ¬ k = 0) (hn : l[k - 1]? = some n) (s : ByteArray) : Vec.behindB (prevPd l k) s = leS s n.name := by unfold prevPd; rw [if_neg h, hn]; rfl
theorem prevPd_succ {l : List Pd} {k : Nat} {n : Pd} (hn : l[k]? = some n) : prevPd l (k + 1) = some n.name := by unfold prevPd; rw [if_neg (by omega), Nat.add_sub_cancel, hn]; rfl
theorem chkP_bad {p : Option ByteArray} {n : Pd} {t : List Pd} (h : chkPod n ≠ 0) : chkFromP p (n :: t) = chkPod n := by rw [chkFromP, if_pos h]
theorem chkP_order {p : Option ByteArray} {n : Pd} {t : List Pd} (h : chkPod n = 0) (b : Vec.behindB p n.name = true) : chkFromP p (n :: t) = 13 := by rw [chkFromP, if_neg (by rw [h]; decide), if_pos b]
theorem chkP_next {p : Option ByteArray} {n : Pd} {t : List Pd} (h : chkPod n = 0) (b : Vec.behindB p n.name = false) : chkFromP p (n :: t) = chkFromP (some n.name) t := by rw [chkFromP, if_neg (by rw [h]; decide), if_neg (by rw [b]; decide)]

set_option maxRecDepth 100000 in
set_option maxHeartbeats 3200000 in
theorem rowsCheckP_any (a : Option Addr) (len cap : Nat) (l : List Pd) (w : World) (hr : PodsAt w a len l) :
    Calls Tryz.prog 150 #[.slice a len cap, .int .i64 128, .func (.func 68) #[] #[], .func (.func 18) #[] #[]] w (Say (.int .i64 (chkAllP l)) w) := by
  have hl := hr.1
  have hm := hr.2.1
  unfold maxLen at hm
  by_cases h32 : 128 < len
  · have HV := Lib.hid (show chkAllP l = 4 by unfold chkAllP; rw [if_pos (by omega)])
    clear hr hl
    go_enter Tryz.func150, Tryz.ntmps150
    go_wp2
    go_ret
    exact ⟨ret_i64 HV.out.symm, Kept.refl _⟩
  · have HV := Lib.hid (show chkAllP l = chkFromP none l by unfold chkAllP; rw [if_neg (by omega)])
    have h32' : len ≤ 128 := by omega
    by_cases h0 : len = 0
    · subst h0
      have HE := Lib.hid (show chkAllP l = 0 by rw [HV.out, List.eq_nil_of_length_eq_zero hl]; rfl)
      clear hr hl h32
      go_enter Tryz.func150, Tryz.ntmps150
      go_wp2
      refine wp_loop_rounds 1 ?_
      rw [rounds_succ]
      go_wp2
      go_ret
      exact ⟨ret_i64 HE.out.symm, Kept.refl _⟩
    · obtain ⟨b, off, rfl⟩ := hr.form.resolve_left h0
      have HR := Lib.hid hr
      have HL := Lib.hid hl
      clear hr hl h0 h32
      go_enter Tryz.func150, Tryz.ntmps150
      go_wp2
      go_loopw [18] (fun i wr => ∃ k : Nat, k ≤ len ∧ i = .int .i64 k ∧ chkFromP (prevPd l k) (l.drop k) = chkFromP none l ∧ Kept w wr) (fun i _ => len - (intOf i).toNat)
      case atStart => exact ⟨0, Nat.zero_le _, rfl, rfl, Kept.refl _⟩
      case round =>
        obtain ⟨k, hk, rfl, hrest, hK⟩ := hrel
        have HS := Lib.hid (HV.out.trans hrest.symm)
        have HT := Lib.hid hrest
        have HK := Lib.hid hK
        by_cases hlt : k < len
        · obtain ⟨n, a1, m1, c1, a2, m2, c2, a3, m3, c3, a4, m4, c4, hn, hd, hb, p0, p1, p2, p3, p4, p5, p6, p7, p8, p9, p10, hat⟩ := (HR.out.kept hK).at_ hlt
          have HAT := Lib.hid hat
          have HD := Lib.hid hd
          have HNX := Lib.hid (prevPd_succ hn)
          have HCK := Lib.hid (fun W (kk : Kept wr W) => checkP_any n (.slice a1 m1 c1) (.slice a2 m2 c2) (.slice a3 m3 c3) (.slice a4 m4 c4) W (HAT.out.kept kk))
          have HNA := Lib.hid (fun W => nameOfP_any n (.slice a1 m1 c1) (.slice a2 m2 c2) (.slice a3 m3 c3) (.slice a4 m4 c4) W)
          unfold PodV at HCK HNA
          obtain ⟨ck, hck⟩ : ∃ x, chkPod n = x := ⟨_, rfl⟩
          have HCN := Lib.hid hck
          rw [hck] at HCK
          have hkk : (k : Int) < (len : Int) := by omega
          clear hrest hK hat hd hck
          by_cases z1 : ck = 0
          · subst z1
            by_cases h0 : k = 0
            · have hd0 : decide (0 < k) = false := by subst h0; decide
              have HP := Lib.hid (prevPd_zero (l := l) h0 n.name)
              clear h0
              go_wp2_with fail
              refine (HCK.out _ (kept_alloc _ _)).mono ?_
              rintro e w1 ⟨rfl, kk⟩
              have KW := Lib.hid (Kept.trans (kept_alloc _ _) kk)
              have HBX := Lib.hid (fun W k => freshN wr (.string n.name) [.string n.owner, .int .i64 n.prio, .slice a1 m1 c1, .slice a2 m2 c2, .slice a3 m3 c3, .slice a4 m4 c4, .string n.key, .int .i64 n.most, .string n.node, .bool n.hold] 49 W (Kept.trans kk k))
              have y0 := (HBX.out w1 (Kept.refl _)).at_ 0 _ rfl
              have y1 := (HBX.out w1 (Kept.refl _)).at_ 1 _ rfl
              have y2 := (HBX.out w1 (Kept.refl _)).at_ 2 _ rfl
              have y3 := (HBX.out w1 (Kept.refl _)).at_ 3 _ rfl
              have y4 := (HBX.out w1 (Kept.refl _)).at_ 4 _ rfl
              have y5 := (HBX.out w1 (Kept.refl _)).at_ 5 _ rfl
              have y6 := (HBX.out w1 (Kept.refl _)).at_ 6 _ rfl
              have y7 := (HBX.out w1 (Kept.refl _)).at_ 7 _ rfl
              have y8 := (HBX.out w1 (Kept.refl _)).at_ 8 _ rfl
              have y9 := (HBX.out w1 (Kept.refl _)).at_ 9 _ rfl
              have y10 := (HBX.out w1 (Kept.refl _)).at_ 10 _ rfl
              clear kk
              go_wp2
              go_quiet (fail)
              go_wp2
              go_roundw
              case rel => exact ⟨k + 1, by omega, by go_num, (show chkFromP (prevPd l (k + 1)) (l.drop (k + 1)) = chkFromP none l by rw [← HT.out, HD.out, chkP_next HCN.out HP.out, HNX.out]), HK.out.trans (KW.out.trans (Kept.drewN _ _))⟩
              case measure => simp [intOf]; omega
            · have hd0 : decide (0 < k) = true := by simp; omega
              obtain ⟨q, hqk⟩ : ∃ q, k = q + 1 := ⟨k - 1, by omega⟩
              have g1 : (k : Int) - 1 = (q : Int) := by omega
              have gw : IntKind.i64.wrap (q : Int) = (q : Int) := by rw [IntKind.wrap_i64]; omega
              have g2 : (q : Int) < (len : Int) := by omega
              obtain ⟨n9, b1, h1, d1, b2, h2, d2, b3, h3, d3, b4, h4, d4, hn9, -, hb9, q0, q1, q2, q3, q4, q5, q6, q7, q8, q9, q10, -⟩ := (HR.out.kept HK.out).at_ (show q < len by omega)
              have HQK := Lib.hid hqk
              have hqk1 : k - 1 = q := by omega
              have HP := Lib.hid (prevPd_some (l := l) h0 (show l[k - 1]? = some n9 by rw [hqk1]; exact hn9) n.name)
              clear hqk hqk1
              have HNB := Lib.hid (fun W => nameOfP_any n9 (.slice b1 h1 d1) (.slice b2 h2 d2) (.slice b3 h3 d3) (.slice b4 h4 d4) W)
              unfold PodV at HNB
              clear h0 hn9
              by_cases n3 : leS n.name n9.name = true
              · have n3' : (Op.bytesLess n.name.toList n9.name.toList || n.name.toList == n9.name.toList) = true := n3
                have N3 := Lib.hid n3
                clear n3
                go_wp2_with fail
                refine (HCK.out _ (kept_alloc _ _)).mono ?_
                rintro e w1 ⟨rfl, kk⟩
                have KW := Lib.hid (Kept.trans (kept_alloc _ _) kk)
                have HBX := Lib.hid (fun W k => freshN wr (.string n.name) [.string n.owner, .int .i64 n.prio, .slice a1 m1 c1, .slice a2 m2 c2, .slice a3 m3 c3, .slice a4 m4 c4, .string n.key, .int .i64 n.most, .string n.node, .bool n.hold] 49 W (Kept.trans kk k))
                have y0 := (HBX.out w1 (Kept.refl _)).at_ 0 _ rfl
                have y1 := (HBX.out w1 (Kept.refl _)).at_ 1 _ rfl
                have y2 := (HBX.out w1 (Kept.refl _)).at_ 2 _ rfl
                have y3 := (HBX.out w1 (Kept.refl _)).at_ 3 _ rfl
                have y4 := (HBX.out w1 (Kept.refl _)).at_ 4 _ rfl
                have y5 := (HBX.out w1 (Kept.refl _)).at_ 5 _ rfl
                have y6 := (HBX.out w1 (Kept.refl _)).at_ 6 _ rfl
                have y7 := (HBX.out w1 (Kept.refl _)).at_ 7 _ rfl
                have y8 := (HBX.out w1 (Kept.refl _)).at_ 8 _ rfl
                have y9 := (HBX.out w1 (Kept.refl _)).at_ 9 _ rfl
                have y10 := (HBX.out w1 (Kept.refl _)).at_ 10 _ rfl
                have HO := Lib.hid (show ∀ W, Kept w1 W → (W.cell? ⟨wr.heap.size, 0, none⟩ = some (.string n.name) ∧ W.cell? ⟨wr.heap.size, 1, none⟩ = some (.string n.owner) ∧ W.cell? ⟨wr.heap.size, 2, none⟩ = some (.int .i64 n.prio) ∧ W.cell? ⟨wr.heap.size, 3, none⟩ = some (.slice a1 m1 c1) ∧ W.cell? ⟨wr.heap.size, 4, none⟩ = some (.slice a2 m2 c2) ∧ W.cell? ⟨wr.heap.size, 5, none⟩ = some (.slice a3 m3 c3) ∧ W.cell? ⟨wr.heap.size, 6, none⟩ = some (.slice a4 m4 c4) ∧ W.cell? ⟨wr.heap.size, 7, none⟩ = some (.string n.key) ∧ W.cell? ⟨wr.heap.size, 8, none⟩ = some (.int .i64 n.most) ∧ W.cell? ⟨wr.heap.size, 9, none⟩ = some (.string n.node) ∧ W.cell? ⟨wr.heap.size, 10, none⟩ = some (.bool n.hold)) ∧ (W.cell? ⟨b, off + q * 11, none⟩ = some (.string n9.name) ∧ W.cell? ⟨b, off + q * 11 + 1, none⟩ = some (.string n9.owner) ∧ W.cell? ⟨b, off + q * 11 + 2, none⟩ = some (.int .i64 n9.prio) ∧ W.cell? ⟨b, off + q * 11 + 3, none⟩ = some (.slice b1 h1 d1) ∧ W.cell? ⟨b, off + q * 11 + 4, none⟩ = some (.slice b2 h2 d2) ∧ W.cell? ⟨b, off + q * 11 + 5, none⟩ = some (.slice b3 h3 d3) ∧ W.cell? ⟨b, off + q * 11 + 6, none⟩ = some (.slice b4 h4 d4) ∧ W.cell? ⟨b, off + q * 11 + 7, none⟩ = some (.string n9.key) ∧ W.cell? ⟨b, off + q * 11 + 8, none⟩ = some (.int .i64 n9.most) ∧ W.cell? ⟨b, off + q * 11 + 9, none⟩ = some (.string n9.node) ∧ W.cell? ⟨b, off + q * 11 + 10, none⟩ = some (.bool n9.hold)) from fun W k => ⟨⟨(HBX.out W k).at_ 0 _ rfl, (HBX.out W k).at_ 1 _ rfl, (HBX.out W k).at_ 2 _ rfl, (HBX.out W k).at_ 3 _ rfl, (HBX.out W k).at_ 4 _ rfl, (HBX.out W k).at_ 5 _ rfl, (HBX.out W k).at_ 6 _ rfl, (HBX.out W k).at_ 7 _ rfl, (HBX.out W k).at_ 8 _ rfl, (HBX.out W k).at_ 9 _ rfl, (HBX.out W k).at_ 10 _ rfl⟩, ⟨cell_later (KW.out.trans k) q0, cell_later (KW.out.trans k) q1, cell_later (KW.out.trans k) q2, cell_later (KW.out.trans k) q3, cell_later (KW.out.trans k) q4, cell_later (KW.out.trans k) q5, cell_later (KW.out.trans k) q6, cell_later (KW.out.trans k) q7, cell_later (KW.out.trans k) q8, cell_later (KW.out.trans k) q9, cell_later (KW.out.trans k) q10⟩⟩)
                clear kk q0 q1 q2 q3 q4 q5 q6 q7 q8 q9 q10
                go_wp2
                go_region_held3 (fun W => (W.cell? ⟨wr.heap.size, 0, none⟩ = some (.string n.name) ∧ W.cell? ⟨wr.heap.size, 1, none⟩ = some (.string n.owner) ∧ W.cell? ⟨wr.heap.size, 2, none⟩ = some (.int .i64 n.prio) ∧ W.cell? ⟨wr.heap.size, 3, none⟩ = some (.slice a1 m1 c1) ∧ W.cell? ⟨wr.heap.size, 4, none⟩ = some (.slice a2 m2 c2) ∧ W.cell? ⟨wr.heap.size, 5, none⟩ = some (.slice a3 m3 c3) ∧ W.cell? ⟨wr.heap.size, 6, none⟩ = some (.slice a4 m4 c4) ∧ W.cell? ⟨wr.heap.size, 7, none⟩ = some (.string n.key) ∧ W.cell? ⟨wr.heap.size, 8, none⟩ = some (.int .i64 n.most) ∧ W.cell? ⟨wr.heap.size, 9, none⟩ = some (.string n.node) ∧ W.cell? ⟨wr.heap.size, 10, none⟩ = some (.bool n.hold)) ∧ (W.cell? ⟨b, off + q * 11, none⟩ = some (.string n9.name) ∧ W.cell? ⟨b, off + q * 11 + 1, none⟩ = some (.string n9.owner) ∧ W.cell? ⟨b, off + q * 11 + 2, none⟩ = some (.int .i64 n9.prio) ∧ W.cell? ⟨b, off + q * 11 + 3, none⟩ = some (.slice b1 h1 d1) ∧ W.cell? ⟨b, off + q * 11 + 4, none⟩ = some (.slice b2 h2 d2) ∧ W.cell? ⟨b, off + q * 11 + 5, none⟩ = some (.slice b3 h3 d3) ∧ W.cell? ⟨b, off + q * 11 + 6, none⟩ = some (.slice b4 h4 d4) ∧ W.cell? ⟨b, off + q * 11 + 7, none⟩ = some (.string n9.key) ∧ W.cell? ⟨b, off + q * 11 + 8, none⟩ = some (.int .i64 n9.most) ∧ W.cell? ⟨b, off + q * 11 + 9, none⟩ = some (.string n9.node) ∧ W.cell? ⟨b, off + q * 11 + 10, none⟩ = some (.bool n9.hold)))
                  (first | exact HO.out _ (Kept.drew _) | exact HO.out _ J1.out | exact HO.out _ J2.out)
                  (first | (go_at_call 68; refine (HNA.out _).mono ?_; rintro e1 w2 ⟨rfl, k1⟩; have J1 := Lib.hid ((Kept.drew _).trans k1); clear k1)
                         | (go_at_call 68; refine (HNB.out _).mono ?_; rintro e2 w3 ⟨rfl, k1⟩; have J2 := Lib.hid (J1.out.trans k1); clear k1))
                go_wp2
                go_ret
                exact ⟨ret_i64 (show (13 : Int) = chkAllP l by rw [HS.out, HD.out, chkP_order HCN.out (HP.out.trans N3.out)]), HK.out.trans (KW.out.trans J2.out)⟩
              · have n3 : leS n.name n9.name = false := by simpa using n3
                have n3' : (Op.bytesLess n.name.toList n9.name.toList || n.name.toList == n9.name.toList) = false := n3
                have N3 := Lib.hid n3
                clear n3
                go_wp2_with fail
                refine (HCK.out _ (kept_alloc _ _)).mono ?_
                rintro e w1 ⟨rfl, kk⟩
                have KW := Lib.hid (Kept.trans (kept_alloc _ _) kk)
                have HBX := Lib.hid (fun W k => freshN wr (.string n.name) [.string n.owner, .int .i64 n.prio, .slice a1 m1 c1, .slice a2 m2 c2, .slice a3 m3 c3, .slice a4 m4 c4, .string n.key, .int .i64 n.most, .string n.node, .bool n.hold] 49 W (Kept.trans kk k))
                have y0 := (HBX.out w1 (Kept.refl _)).at_ 0 _ rfl
                have y1 := (HBX.out w1 (Kept.refl _)).at_ 1 _ rfl
                have y2 := (HBX.out w1 (Kept.refl _)).at_ 2 _ rfl
                have y3 := (HBX.out w1 (Kept.refl _)).at_ 3 _ rfl
                have y4 := (HBX.out w1 (Kept.refl _)).at_ 4 _ rfl
                have y5 := (HBX.out w1 (Kept.refl _)).at_ 5 _ rfl
                have y6 := (HBX.out w1 (Kept.refl _)).at_ 6 _ rfl
                have y7 := (HBX.out w1 (Kept.refl _)).at_ 7 _ rfl
                have y8 := (HBX.out w1 (Kept.refl _)).at_ 8 _ rfl
                have y9 := (HBX.out w1 (Kept.refl _)).at_ 9 _ rfl
                have y10 := (HBX.out w1 (Kept.refl _)).at_ 10 _ rfl
                have HO := Lib.hid (show ∀ W, Kept w1 W → (W.cell? ⟨wr.heap.size, 0, none⟩ = some (.string n.name) ∧ W.cell? ⟨wr.heap.size, 1, none⟩ = some (.string n.owner) ∧ W.cell? ⟨wr.heap.size, 2, none⟩ = some (.int .i64 n.prio) ∧ W.cell? ⟨wr.heap.size, 3, none⟩ = some (.slice a1 m1 c1) ∧ W.cell? ⟨wr.heap.size, 4, none⟩ = some (.slice a2 m2 c2) ∧ W.cell? ⟨wr.heap.size, 5, none⟩ = some (.slice a3 m3 c3) ∧ W.cell? ⟨wr.heap.size, 6, none⟩ = some (.slice a4 m4 c4) ∧ W.cell? ⟨wr.heap.size, 7, none⟩ = some (.string n.key) ∧ W.cell? ⟨wr.heap.size, 8, none⟩ = some (.int .i64 n.most) ∧ W.cell? ⟨wr.heap.size, 9, none⟩ = some (.string n.node) ∧ W.cell? ⟨wr.heap.size, 10, none⟩ = some (.bool n.hold)) ∧ (W.cell? ⟨b, off + q * 11, none⟩ = some (.string n9.name) ∧ W.cell? ⟨b, off + q * 11 + 1, none⟩ = some (.string n9.owner) ∧ W.cell? ⟨b, off + q * 11 + 2, none⟩ = some (.int .i64 n9.prio) ∧ W.cell? ⟨b, off + q * 11 + 3, none⟩ = some (.slice b1 h1 d1) ∧ W.cell? ⟨b, off + q * 11 + 4, none⟩ = some (.slice b2 h2 d2) ∧ W.cell? ⟨b, off + q * 11 + 5, none⟩ = some (.slice b3 h3 d3) ∧ W.cell? ⟨b, off + q * 11 + 6, none⟩ = some (.slice b4 h4 d4) ∧ W.cell? ⟨b, off + q * 11 + 7, none⟩ = some (.string n9.key) ∧ W.cell? ⟨b, off + q * 11 + 8, none⟩ = some (.int .i64 n9.most) ∧ W.cell? ⟨b, off + q * 11 + 9, none⟩ = some (.string n9.node) ∧ W.cell? ⟨b, off + q * 11 + 10, none⟩ = some (.bool n9.hold)) from fun W k => ⟨⟨(HBX.out W k).at_ 0 _ rfl, (HBX.out W k).at_ 1 _ rfl, (HBX.out W k).at_ 2 _ rfl, (HBX.out W k).at_ 3 _ rfl, (HBX.out W k).at_ 4 _ rfl, (HBX.out W k).at_ 5 _ rfl, (HBX.out W k).at_ 6 _ rfl, (HBX.out W k).at_ 7 _ rfl, (HBX.out W k).at_ 8 _ rfl, (HBX.out W k).at_ 9 _ rfl, (HBX.out W k).at_ 10 _ rfl⟩, ⟨cell_later (KW.out.trans k) q0, cell_later (KW.out.trans k) q1, cell_later (KW.out.trans k) q2, cell_later (KW.out.trans k) q3, cell_later (KW.out.trans k) q4, cell_later (KW.out.trans k) q5, cell_later (KW.out.trans k) q6, cell_later (KW.out.trans k) q7, cell_later (KW.out.trans k) q8, cell_later (KW.out.trans k) q9, cell_later (KW.out.trans k) q10⟩⟩)
                clear kk q0 q1 q2 q3 q4 q5 q6 q7 q8 q9 q10
                go_wp2
                go_region_held3 (fun W => (W.cell? ⟨wr.heap.size, 0, none⟩ = some (.string n.name) ∧ W.cell? ⟨wr.heap.size, 1, none⟩ = some (.string n.owner) ∧ W.cell? ⟨wr.heap.size, 2, none⟩ = some (.int .i64 n.prio) ∧ W.cell? ⟨wr.heap.size, 3, none⟩ = some (.slice a1 m1 c1) ∧ W.cell? ⟨wr.heap.size, 4, none⟩ = some (.slice a2 m2 c2) ∧ W.cell? ⟨wr.heap.size, 5, none⟩ = some (.slice a3 m3 c3) ∧ W.cell? ⟨wr.heap.size, 6, none⟩ = some (.slice a4 m4 c4) ∧ W.cell? ⟨wr.heap.size, 7, none⟩ = some (.string n.key) ∧ W.cell? ⟨wr.heap.size, 8, none⟩ = some (.int .i64 n.most) ∧ W.cell? ⟨wr.heap.size, 9, none⟩ = some (.string n.node) ∧ W.cell? ⟨wr.heap.size, 10, none⟩ = some (.bool n.hold)) ∧ (W.cell? ⟨b, off + q * 11, none⟩ = some (.string n9.name) ∧ W.cell? ⟨b, off + q * 11 + 1, none⟩ = some (.string n9.owner) ∧ W.cell? ⟨b, off + q * 11 + 2, none⟩ = some (.int .i64 n9.prio) ∧ W.cell? ⟨b, off + q * 11 + 3, none⟩ = some (.slice b1 h1 d1) ∧ W.cell? ⟨b, off + q * 11 + 4, none⟩ = some (.slice b2 h2 d2) ∧ W.cell? ⟨b, off + q * 11 + 5, none⟩ = some (.slice b3 h3 d3) ∧ W.cell? ⟨b, off + q * 11 + 6, none⟩ = some (.slice b4 h4 d4) ∧ W.cell? ⟨b, off + q * 11 + 7, none⟩ = some (.string n9.key) ∧ W.cell? ⟨b, off + q * 11 + 8, none⟩ = some (.int .i64 n9.most) ∧ W.cell? ⟨b, off + q * 11 + 9, none⟩ = some (.string n9.node) ∧ W.cell? ⟨b, off + q * 11 + 10, none⟩ = some (.bool n9.hold)))
                  (first | exact HO.out _ (Kept.drew _) | exact HO.out _ J1.out | exact HO.out _ J2.out)
                  (first | (go_at_call 68; refine (HNA.out _).mono ?_; rintro e1 w2 ⟨rfl, k1⟩; have J1 := Lib.hid ((Kept.drew _).trans k1); clear k1)
                         | (go_at_call 68; refine (HNB.out _).mono ?_; rintro e2 w3 ⟨rfl, k1⟩; have J2 := Lib.hid (J1.out.trans k1); clear k1))
                go_wp2
                go_roundw
                case rel => exact ⟨k + 1, by omega, by go_num, (show chkFromP (prevPd l (k + 1)) (l.drop (k + 1)) = chkFromP none l by rw [← HT.out, HD.out, chkP_next HCN.out (HP.out.trans N3.out), HNX.out]), HK.out.trans (KW.out.trans J2.out)⟩
                case measure => simp [intOf]; omega
          · have z1' : (ck != 0) = true := by simpa using z1
            have HB := Lib.hid (show chkAllP l = ck by rw [HS.out, HD.out, chkP_bad (by rw [HCN.out]; exact z1), HCN.out])
            clear z1
            go_wp2_with fail
            refine (HCK.out _ (kept_alloc _ _)).mono ?_
            rintro e w1 ⟨rfl, kk⟩
            have KW := Lib.hid (Kept.trans (kept_alloc _ _) kk)
            have HBX := Lib.hid (fun W k => freshN wr (.string n.name) [.string n.owner, .int .i64 n.prio, .slice a1 m1 c1, .slice a2 m2 c2, .slice a3 m3 c3, .slice a4 m4 c4, .string n.key, .int .i64 n.most, .string n.node, .bool n.hold] 49 W (Kept.trans kk k))
            have y0 := (HBX.out w1 (Kept.refl _)).at_ 0 _ rfl
            have y1 := (HBX.out w1 (Kept.refl _)).at_ 1 _ rfl
            have y2 := (HBX.out w1 (Kept.refl _)).at_ 2 _ rfl
            have y3 := (HBX.out w1 (Kept.refl _)).at_ 3 _ rfl
            have y4 := (HBX.out w1 (Kept.refl _)).at_ 4 _ rfl
            have y5 := (HBX.out w1 (Kept.refl _)).at_ 5 _ rfl
            have y6 := (HBX.out w1 (Kept.refl _)).at_ 6 _ rfl
            have y7 := (HBX.out w1 (Kept.refl _)).at_ 7 _ rfl
            have y8 := (HBX.out w1 (Kept.refl _)).at_ 8 _ rfl
            have y9 := (HBX.out w1 (Kept.refl _)).at_ 9 _ rfl
            have y10 := (HBX.out w1 (Kept.refl _)).at_ 10 _ rfl
            clear kk
            go_wp2
            go_ret
            exact ⟨ret_i64 HB.out.symm, HK.out.trans KW.out⟩
        · have HE := Lib.hid (show chkAllP l = 0 by rw [HS.out, List.drop_of_length_le (by rw [HL.out]; omega)]; rfl)
          clear hrest hK
          go_wp2
          go_ret
          exact ⟨ret_i64 HE.out.symm, HK.out⟩
theorem checkAllP_any (a : Option Addr) (len cap : Nat) (l : List Pd) (w : World) (hr : PodsAt w a len l) :
    Calls Tryz.prog 115 #[.slice a len cap] w (Say (.int .i64 (chkAllP l)) w) := by
  have H := Lib.hid (rowsCheckP_any a len cap l w hr)
  clear hr
  go_enter Tryz.func115, Tryz.ntmps115
  go_wp2_with fail
  refine H.out.mono ?_
  rintro e w1 ⟨rfl, k⟩
  have K := Lib.hid k
  clear k
  go_wp2
  go_ret
  exact ⟨rfl, K.out⟩
end Go.Proofs.YtjihpbbeoiddkaaGreat
