/- PodRows: the walk. -/
import Derived.Test.YtflllkpnkcmegaaGreatDoorPodOfAll
import Derived.Test.YtflllkpnkcmegaaGreatDoorPodRefFind
import Derived.Test.YtflllkpnkcmegaaGreatDoorPodRefAll
import Derived.Test.YtflllkpnkcmegaaGreatDoorPodRefEq
import Derived.Test.YtflllkpnkcmegaaGreatDoorPodEq
import Derived.Test.YtflllkpnkcmegaaGreatDoorPodFew
import Derived.Test.YtflllkpnkcmegaaGreatDoorPodLow
import Derived.Test.YtflllkpnkcmegaaGreatDoorPodKnown
namespace Go.Proofs.YtflllkpnkcmegaaGreatDoor
open Go.RowKit
set_option linter.unusedVariables false

theorem rfind_kP {a : Option Addr} {len cap : Nat} {l : List Pd} {y : ByteArray} {b : Bool} {x0 x1 x3 x5 : ByteArray} {x2 x4 : Int} {x6 : Bool} {l1 : Vec.V} {l2 : PL} {l3 : TL} {l4 : NL} {w : World} {v : Value} (hr : PodsR w v l) (h : (findP l y).getD Pd.zero = ⟨x0, x1, x2, l1, l2, l3, l4, x3, x4, x5, x6⟩) (hb : (findP l y).isSome = b) :
    Calls Tryz.prog 26 #[v, .string y] w fun e w' => ∃ b1 n1 d1 b2 n2 d2 b3 n3 d3 b4 n4 d4, e = .returned (.tuple #[.agg #[.string x0, .string x1, .int .i64 x2, .slice b1 n1 d1, .slice b2 n2 d2, .slice b3 n3 d3, .slice b4 n4 d4, .string x3, .int .i64 x4, .string x5, .bool x6], .bool b]) ∧ PodAt w' (.slice b1 n1 d1) (.slice b2 n2 d2) (.slice b3 n3 d3) (.slice b4 n4 d4) ⟨x0, x1, x2, l1, l2, l3, l4, x3, x4, x5, x6⟩ ∧ Kept w w' := by
  subst hb
  refine (rfindPR hr).mono ?_
  rintro e w' ⟨v, rfl, hn, k⟩
  rw [h] at hn
  obtain ⟨v1, v2, v3, v4, rfl, h⟩ := hn
  obtain ⟨b1, n1, d1, b2, n2, d2, b3, n3, d3, b4, n4, d4, rfl, rfl, rfl, rfl⟩ := h.spelt
  exact ⟨_, _, _, _, _, _, _, _, _, _, _, _, rfl, h, k⟩
theorem find_lowP {l : List Pd} {x : ByteArray} (h : ∀ n ∈ l, LowPd n) : LowPd ((findP l x).getD Pd.zero) := by
  cases hf : findP l x with
  | none => exact ⟨by decide, by decide, by decide, by decide⟩
  | some n => exact h n (List.mem_of_find?_eq_some hf)

set_option maxRecDepth 100000 in
set_option maxHeartbeats 8000000 in
theorem PodRows_walk (v0 : Value) (l : List Pd) (s1 : ByteArray) (w : World) (hE : EnvP w) (h0 : PodsR w v0 l) (hs1 : s1.size ≤ maxLen) :
    Calls Tryz.prog 4 #[v0, .string s1] w fun e w' => e = .returned (.bool true) ∧ Kept w w' := by
  obtain ⟨a, cap, rfl, hcap, hmax, hr⟩ := h0
  obtain ⟨len, hlen⟩ : ∃ k, l.length = k := ⟨_, rfl⟩
  rw [hlen] at hr hcap ⊢
  have HK := Lib.hid (Pk.known_any w hE)
  have HR := Lib.hid hr
  have HLEN := Lib.hid hlen
  have hm := hr.2.1
  unfold maxLen at hm hs1
  have HCAP := Lib.hid hcap
  have HMAX := Lib.hid hmax
  clear hE hr hcap hmax
  by_cases h40 : len ≤ 140
  · have h40' : (len : Int) ≤ 140 := by omega
    go_enter Tryz.func4, Tryz.ntmps4
    go_wp2_with fail
    refine (HK.out).mono ?_
    rintro e w1 ⟨rfl, k⟩
    have K1 := Lib.hid k
    have HR := Lib.hid (HR.out.kept k)
    clear k
    go_wp2
    go_loopw [5] (fun i wr => ∃ k : Nat, k ≤ len ∧ i = .int .i64 k ∧ (∀ n ∈ l.take k, fewPd n = true) ∧ Kept w1 wr) (fun i _ => len - (intOf i).toNat)
    case atStart => exact ⟨0, Nat.zero_le _, rfl, (fun n h => by simp at h), Kept.refl _⟩
    case round =>
      obtain ⟨k, hk, rfl, hfew, hK⟩ := hrel
      have HFEW := Lib.hid hfew
      have HK2 := Lib.hid hK
      by_cases hlt : k < len
      · have hr' := HR.out.kept hK
        obtain ⟨b, off, rfl⟩ : ∃ b off, a = some ⟨b, off, none⟩ := hr'.form.resolve_left (by omega)
        obtain ⟨n, a1, m1, c1, a2, m2, c2, a3, m3, c3, a4, m4, c4, hn, hd, hb, p0, p1, p2, p3, p4, p5, p6, p7, p8, p9, p10, hat⟩ := hr'.at_ hlt
        have HN := Lib.hid hn
        obtain ⟨fb, hfb⟩ : ∃ x, fewPd n = x := ⟨_, rfl⟩
        have HFW := Lib.hid (fewPd_any n (.slice a1 m1 c1) (.slice a2 m2 c2) (.slice a3 m3 c3) (.slice a4 m4 c4) wr hat)
        rw [hfb] at HFW
        have HFB := Lib.hid hfb
        unfold PodV at HFW
        have hk1 : (k : Int) < (len : Int) := by omega
        clear hfew hK hr' hn hd hat hfb
        cases fb with
        | false =>
          go_wp2_with fail
          refine HFW.out.mono ?_
          rintro e w2 ⟨rfl, kk⟩
          have K3 := Lib.hid (K1.out.trans (HK2.out.trans kk))
          clear kk
          go_wp2
          go_ret
          exact ⟨rfl, K3.out⟩
        | true =>
          go_wp2_with fail
          refine HFW.out.mono ?_
          rintro e w2 ⟨rfl, kk⟩
          have K3 := Lib.hid (HK2.out.trans kk)
          clear kk
          go_wp2
          go_roundw
          case rel => exact ⟨k + 1, by omega, by go_num, few_nextP HN.out HFEW.out HFB.out, K3.out⟩
          case measure => simp [intOf]; omega
      · have hall : ∀ n ∈ l, fewPd n = true := by
          have := hfew
          rw [List.take_of_length_le (by rw [HLEN.out]; omega)] at this
          exact this
        have hlow : ∀ n ∈ l, LowPd n := fun n h => few_lowP (hall n h)
        have HLOW := Lib.hid hlow
        have K := Lib.hid (K1.out.trans hK)
        have HRW := Lib.hid (HR.out.kept hK)
        have HL40 := Lib.hid (show l.length ≤ 1000 by rw [HLEN.out]; omega)
        obtain ⟨ck, hck⟩ : ∃ x, chkAllP l = x := ⟨_, rfl⟩
        have HCK := Lib.hid hck
        have HOF := Lib.hid (ofAllP_any a len cap l wr (HR.out.kept hK) hlow (by omega))
        have hcc : (ck == ck) = true := beq_self_eq_true _
        have hcn : (ck != ck) = false := by simp
        clear hfew hK hall hlow hck
        go_wp2_with fail
        refine HOF.out.mono ?_
        rintro e w2 ⟨vx, rfl, hx, kk⟩
        have RX := Lib.hid hx
        have K := Lib.hid (K.out.trans kk)
        have HRW := Lib.hid (HRW.out.kept kk)
        clear hx kk HOF
        go_wp2_with fail
        refine (rcheckAllPR RX.out HCK.out).mono ?_
        rintro e w3 ⟨rfl, kk⟩
        have K := Lib.hid (K.out.trans kk)
        have HRW := Lib.hid (HRW.out.kept kk)
        have RX := Lib.hid (RX.out.kept kk)
        clear kk
        have HCA := Lib.hid (checkAllP_any a len cap l w3 HRW.out)
        rw [HCK.out] at HCA
        go_wp2_with fail
        refine HCA.out.mono ?_
        rintro e w4 ⟨rfl, kk⟩
        have K := Lib.hid (K.out.trans kk)
        have HRW := Lib.hid (HRW.out.kept kk)
        have RX := Lib.hid (RX.out.kept kk)
        clear kk HCA
        by_cases z : ck = 0
        · subst z
          obtain ⟨nn, hnn⟩ : ∃ x, (findP l s1).getD Pd.zero = x := ⟨_, rfl⟩
          obtain ⟨bb, hbb⟩ : ∃ x, (findP l s1).isSome = x := ⟨_, rfl⟩
          have hnl : LowPd nn := by rw [← hnn]; exact find_lowP HLOW.out
          obtain ⟨z0, z1, z2, l1, l2, l3, l4, z3, z4, z5, z6⟩ := nn
          have HNL := Lib.hid hnl
          have HNN := Lib.hid hnn
          have HBB := Lib.hid hbb
          have hbe : (bb == bb) = true := beq_self_eq_true _
          clear hnl hnn hbb
          go_wp2_with fail
          refine (Pk.find_k (b := bb) HRW.out HLOW.out HNN.out HBB.out).mono ?_
          rintro e w5 ⟨a1, m1, c1, a2, m2, c2, a3, m3, c3, a4, m4, c4, rfl, hn, kk⟩
          have K := Lib.hid (K.out.trans kk)
          have RN := Lib.hid hn
          have RX := Lib.hid (RX.out.kept kk)
          clear kk hn
          go_wp2_with fail
          refine (rfind_kP (a := a) (len := len) (cap := cap) (b := bb) (RX.out.kept (kept_alloc _ _)) HNN.out HBB.out).mono ?_
          rintro e w6 ⟨b1, n1, d1, b2, n2, d2, b3, n3, d3, b4, n4, d4, rfl, hn, kk⟩
          have K := Lib.hid (K.out.trans (Kept.trans (kept_alloc _ _) kk))
          have RN := Lib.hid (RN.out.kept (Kept.trans (kept_alloc _ _) kk))
          have C1 := Lib.hid (show CellsN w5.heap.size [.string z0, .string z1, .int .i64 z2, .slice a1 m1 c1, .slice a2 m2 c2, .slice a3 m3 c3, .slice a4 m4 c4, .string z3, .int .i64 z4, .string z5, .bool z6] w6 from freshN w5 (.string z0) [.string z1, .int .i64 z2, .slice a1 m1 c1, .slice a2 m2 c2, .slice a3 m3 c3, .slice a4 m4 c4, .string z3, .int .i64 z4, .string z5, .bool z6] _ w6 kk)
          have RM := Lib.hid hn
          clear kk hn RX
          obtain ⟨W0, hW0⟩ : ∃ W, w6.alloc (.cells #[.string z0, .string z1, .int .i64 z2, .slice b1 n1 d1, .slice b2 n2 d2, .slice b3 n3 d3, .slice b4 n4 d4, .string z3, .int .i64 z4, .string z5, .bool z6] 38) = W := ⟨_, rfl⟩
          have k0 : Kept w6 W0 := by rw [← hW0]; exact kept_alloc _ _
          have K := Lib.hid (K.out.trans k0)
          have RN := Lib.hid (show PodR W0 (.agg #[.string z0, .string z1, .int .i64 z2, .slice a1 m1 c1, .slice a2 m2 c2, .slice a3 m3 c3, .slice a4 m4 c4, .string z3, .int .i64 z4, .string z5, .bool z6]) ⟨z0, z1, z2, l1, l2, l3, l4, z3, z4, z5, z6⟩ from ⟨_, _, _, _, rfl, RN.out.kept k0⟩)
          have RM := Lib.hid (show PodR W0 (.agg #[.string z0, .string z1, .int .i64 z2, .slice b1 n1 d1, .slice b2 n2 d2, .slice b3 n3 d3, .slice b4 n4 d4, .string z3, .int .i64 z4, .string z5, .bool z6]) ⟨z0, z1, z2, l1, l2, l3, l4, z3, z4, z5, z6⟩ from ⟨_, _, _, _, rfl, RM.out.kept k0⟩)
          have HS := Lib.hid (show ∀ W, Kept W0 W → (W.cell? ⟨w5.heap.size, 0, none⟩ = some (.string z0) ∧ W.cell? ⟨w5.heap.size, 1, none⟩ = some (.string z1) ∧ W.cell? ⟨w5.heap.size, 2, none⟩ = some (.int .i64 z2) ∧ W.cell? ⟨w5.heap.size, 3, none⟩ = some (.slice a1 m1 c1) ∧ W.cell? ⟨w5.heap.size, 4, none⟩ = some (.slice a2 m2 c2) ∧ W.cell? ⟨w5.heap.size, 5, none⟩ = some (.slice a3 m3 c3) ∧ W.cell? ⟨w5.heap.size, 6, none⟩ = some (.slice a4 m4 c4) ∧ W.cell? ⟨w5.heap.size, 7, none⟩ = some (.string z3) ∧ W.cell? ⟨w5.heap.size, 8, none⟩ = some (.int .i64 z4) ∧ W.cell? ⟨w5.heap.size, 9, none⟩ = some (.string z5) ∧ W.cell? ⟨w5.heap.size, 10, none⟩ = some (.bool z6)) ∧ (W.cell? ⟨w6.heap.size, 0, none⟩ = some (.string z0) ∧ W.cell? ⟨w6.heap.size, 1, none⟩ = some (.string z1) ∧ W.cell? ⟨w6.heap.size, 2, none⟩ = some (.int .i64 z2) ∧ W.cell? ⟨w6.heap.size, 3, none⟩ = some (.slice b1 n1 d1) ∧ W.cell? ⟨w6.heap.size, 4, none⟩ = some (.slice b2 n2 d2) ∧ W.cell? ⟨w6.heap.size, 5, none⟩ = some (.slice b3 n3 d3) ∧ W.cell? ⟨w6.heap.size, 6, none⟩ = some (.slice b4 n4 d4) ∧ W.cell? ⟨w6.heap.size, 7, none⟩ = some (.string z3) ∧ W.cell? ⟨w6.heap.size, 8, none⟩ = some (.int .i64 z4) ∧ W.cell? ⟨w6.heap.size, 9, none⟩ = some (.string z5) ∧ W.cell? ⟨w6.heap.size, 10, none⟩ = some (.bool z6)) from fun W kk => by
            have c1 := C1.out.kept (k0.trans kk)
            have c2 := freshN w6 (.string z0) [.string z1, .int .i64 z2, .slice b1 n1 d1, .slice b2 n2 d2, .slice b3 n3 d3, .slice b4 n4 d4, .string z3, .int .i64 z4, .string z5, .bool z6] 38 W (by rw [hW0]; exact kk)
            exact ⟨⟨c1.at_ 0 _ rfl, c1.at_ 1 _ rfl, c1.at_ 2 _ rfl, c1.at_ 3 _ rfl, c1.at_ 4 _ rfl, c1.at_ 5 _ rfl, c1.at_ 6 _ rfl, c1.at_ 7 _ rfl, c1.at_ 8 _ rfl, c1.at_ 9 _ rfl, c1.at_ 10 _ rfl⟩, ⟨c2.at_ 0 _ rfl, c2.at_ 1 _ rfl, c2.at_ 2 _ rfl, c2.at_ 3 _ rfl, c2.at_ 4 _ rfl, c2.at_ 5 _ rfl, c2.at_ 6 _ rfl, c2.at_ 7 _ rfl, c2.at_ 8 _ rfl, c2.at_ 9 _ rfl, c2.at_ 10 _ rfl⟩⟩)
          clear C1 k0 HRW HR
          go_wp2
          try rw [hW0]
          clear hW0
          obtain ⟨⟨y0, y1, y2, y3, y4, y5, y6, y7, y8, y9, y10⟩, x0, x1, x2, x3, x4, x5, x6, x7, x8, x9, x10⟩ := HS.out _ (Kept.refl _)
          first | (go_region_held3 (fun W => (W.cell? ⟨w5.heap.size, 0, none⟩ = some (.string z0) ∧ W.cell? ⟨w5.heap.size, 1, none⟩ = some (.string z1) ∧ W.cell? ⟨w5.heap.size, 2, none⟩ = some (.int .i64 z2) ∧ W.cell? ⟨w5.heap.size, 3, none⟩ = some (.slice a1 m1 c1) ∧ W.cell? ⟨w5.heap.size, 4, none⟩ = some (.slice a2 m2 c2) ∧ W.cell? ⟨w5.heap.size, 5, none⟩ = some (.slice a3 m3 c3) ∧ W.cell? ⟨w5.heap.size, 6, none⟩ = some (.slice a4 m4 c4) ∧ W.cell? ⟨w5.heap.size, 7, none⟩ = some (.string z3) ∧ W.cell? ⟨w5.heap.size, 8, none⟩ = some (.int .i64 z4) ∧ W.cell? ⟨w5.heap.size, 9, none⟩ = some (.string z5) ∧ W.cell? ⟨w5.heap.size, 10, none⟩ = some (.bool z6)) ∧ (W.cell? ⟨w6.heap.size, 0, none⟩ = some (.string z0) ∧ W.cell? ⟨w6.heap.size, 1, none⟩ = some (.string z1) ∧ W.cell? ⟨w6.heap.size, 2, none⟩ = some (.int .i64 z2) ∧ W.cell? ⟨w6.heap.size, 3, none⟩ = some (.slice b1 n1 d1) ∧ W.cell? ⟨w6.heap.size, 4, none⟩ = some (.slice b2 n2 d2) ∧ W.cell? ⟨w6.heap.size, 5, none⟩ = some (.slice b3 n3 d3) ∧ W.cell? ⟨w6.heap.size, 6, none⟩ = some (.slice b4 n4 d4) ∧ W.cell? ⟨w6.heap.size, 7, none⟩ = some (.string z3) ∧ W.cell? ⟨w6.heap.size, 8, none⟩ = some (.int .i64 z4) ∧ W.cell? ⟨w6.heap.size, 9, none⟩ = some (.string z5) ∧ W.cell? ⟨w6.heap.size, 10, none⟩ = some (.bool z6)))
            (first | exact HS.out _ (Kept.drew _) | exact HS.out _ J1.out | exact HS.out _ J2.out)
            (first | (go_at_call 12; refine (ofPdR (RN.out.kept (Kept.drew _)) HNL.out).mono ?_; rintro e1 w7 ⟨vo, rfl, ro, k1⟩; have J1 := Lib.hid ((Kept.drew _).trans k1); have RO := Lib.hid ro; clear k1 ro)
                   | (go_at_call 16; refine (rsamePodR RO.out (RM.out.kept J1.out) (samePd_self ⟨z0, z1, z2, l1, l2, l3, l4, z3, z4, z5, z6⟩)).mono ?_; rintro e2 w8 ⟨rfl, k2⟩; have J2 := Lib.hid (J1.out.trans k2); clear k2)) ) | fail
          all_goals
            go_wp2
            go_ret
            exact ⟨rfl, K.out.trans J2.out⟩
        · have z' : (ck != 0) = true := by simpa using z
          go_wp2
          go_ret
          exact ⟨rfl, K.out⟩
  · have h40' : (140 : Int) < (len : Int) := by omega
    go_enter Tryz.func4, Tryz.ntmps4
    go_wp2_with fail
    refine (HK.out).mono ?_
    rintro e w1 ⟨rfl, k⟩
    have K := Lib.hid (k)
    clear k
    go_wp2
    go_ret
    exact ⟨rfl, K.out⟩

end Go.Proofs.YtflllkpnkcmegaaGreatDoor
