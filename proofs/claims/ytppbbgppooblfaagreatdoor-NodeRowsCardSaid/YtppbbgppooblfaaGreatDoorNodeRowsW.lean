/- NodeRows: the walk. -/
import Derived.Test.YtppbbgppooblfaaGreatDoorNodOfAll
import Derived.Test.YtppbbgppooblfaaGreatDoorNodRefFind
import Derived.Test.YtppbbgppooblfaaGreatDoorNodFew
import Derived.Test.YtppbbgppooblfaaGreatDoorNodB
import Derived.Test.YtppbbgppooblfaaGreatDoorNodC
namespace Go.Proofs.YtppbbgppooblfaaGreatDoor
open Go.RowKit
set_option linter.unusedVariables false

theorem rfind_k {a : Option Addr} {len cap : Nat} {l : List Nod} {y : ByteArray} {n : Nod} {b : Bool} {x : ByteArray} {cd : Bool} {w : World} {v : Value} (hr : NodesR w v l) (h : (findN l y).getD Nod.zero = n) (hb : (findN l y).isSome = b) (hx : n.name = x) (hc : n.cordon = cd) :
    Calls Tryz.prog 55 #[v, .string y] w fun e w' => ∃ a1 m1 c1 a2 m2 c2 a3 m3 c3, e = .returned (.tuple #[.agg #[.string x, .slice a1 m1 c1, .slice a2 m2 c2, .slice a3 m3 c3, .bool cd], .bool b]) ∧ NodAt w' (.slice a1 m1 c1) (.slice a2 m2 c2) (.slice a3 m3 c3) n ∧ Kept w w' := by
  subst hx; subst hc; subst hb; subst h
  refine (rfindR hr).mono ?_
  rintro e w' ⟨v, rfl, hn, k⟩
  obtain ⟨v1, v2, v3, rfl, h⟩ := hn
  obtain ⟨a1, d1, e1, q1⟩ := h.cap
  obtain ⟨a2, d2, e2, q2⟩ := h.labels
  obtain ⟨a3, d3, e3, q3⟩ := h.taints
  subst e1; subst e2; subst e3
  exact ⟨_, _, _, _, _, _, _, _, _, rfl, h, k⟩
theorem find_low {l : List Nod} {x : ByteArray} (h : ∀ n ∈ l, LowNod n) : LowNod ((findN l x).getD Nod.zero) := by
  cases hf : findN l x with
  | none => exact ⟨by decide, by decide, by decide⟩
  | some n => exact h n (List.mem_of_find?_eq_some hf)

theorem few_next {l : List Nod} {k : Nat} {n : Nod} (hn : l[k]? = some n) (h : ∀ x ∈ l.take k, fewNod x = true) (hf : fewNod n = true) : ∀ x ∈ l.take (k + 1), fewNod x = true := by
  intro x hx
  rw [take_snoc hn] at hx
  rcases List.mem_append.1 hx with hx | hx
  · exact h x hx
  · obtain rfl : x = n := by simpa using hx
    exact hf

set_option maxRecDepth 100000 in
set_option maxHeartbeats 8000000 in
theorem NodeRows_walk (v0 : Value) (l : List Nod) (s1 : ByteArray) (w : World) (hE : Vec.EnvT w) (h0 : NodesR w v0 l) (hs1 : s1.size ≤ maxLen) :
    Calls Tryz.prog 7 #[v0, .string s1] w fun e w' => e = .returned (.bool true) ∧ Kept w w' := by
  obtain ⟨a, cap, rfl, hcap, hmax, hr⟩ := h0
  obtain ⟨len, hlen⟩ : ∃ k, l.length = k := ⟨_, rfl⟩
  rw [hlen] at hr hcap ⊢
  have HK := Lib.hid (Nk.known_any w hE)
  have HR := Lib.hid hr
  have HLEN := Lib.hid hlen
  have hm := hr.2.1
  unfold maxLen at hm hs1
  have HCAP := Lib.hid hcap
  have HMAX := Lib.hid hmax
  clear hE hr hcap hmax
  by_cases h40 : len ≤ 40
  · have h40' : (len : Int) ≤ 40 := by omega
    go_enter Tryz.func7, Tryz.ntmps7
    go_wp2_with fail
    refine (HK.out).mono ?_
    rintro e w1 ⟨rfl, k⟩
    have K1 := Lib.hid k
    have HR := Lib.hid (HR.out.kept k)
    clear k
    go_wp2
    go_loopw [5] (fun i wr => ∃ k : Nat, k ≤ len ∧ i = .int .i64 k ∧ (∀ n ∈ l.take k, fewNod n = true) ∧ Kept w1 wr) (fun i _ => len - (intOf i).toNat)
    case atStart => exact ⟨0, Nat.zero_le _, rfl, (fun n h => by simp at h), Kept.refl _⟩
    case round =>
      obtain ⟨k, hk, rfl, hfew, hK⟩ := hrel
      have HFEW := Lib.hid hfew
      have HK2 := Lib.hid hK
      by_cases hlt : k < len
      · have hr' := HR.out.kept hK
        obtain ⟨b, off, rfl⟩ : ∃ b off, a = some ⟨b, off, none⟩ := hr'.form.resolve_left (by omega)
        obtain ⟨n, a1, m1, c1, a2, m2, c2, a3, m3, c3, hn, hd, hb, p0, p1, p2, p3, p4, hat⟩ := hr'.at_ hlt
        have HN := Lib.hid hn
        obtain ⟨fb, hfb⟩ : ∃ x, fewNod n = x := ⟨_, rfl⟩
        have HFW := Lib.hid (fewNod_any n (.slice a1 m1 c1) (.slice a2 m2 c2) (.slice a3 m3 c3) wr hat)
        rw [hfb] at HFW
        have HFB := Lib.hid hfb
        unfold NodV at HFW
        have hk1 : (k : Int) < (len : Int) := by omega
        clear hfew hK hr' hn hd hat hfb
        cases fb with
        | false =>
          go_wp2_with fail
          refine HFW.out.mono ?_
          rintro e w2 ⟨rfl, kk⟩
          have K3 := Lib.hid (K1.out.trans (HK2.out.trans kk))
          clear kk
          go_wp2
          go_ret
          exact ⟨rfl, K3.out⟩
        | true =>
          go_wp2_with fail
          refine HFW.out.mono ?_
          rintro e w2 ⟨rfl, kk⟩
          have K3 := Lib.hid (HK2.out.trans kk)
          clear kk
          go_wp2
          go_roundw
          case rel => exact ⟨k + 1, by omega, by go_num, few_next HN.out HFEW.out HFB.out, K3.out⟩
          case measure => simp [intOf]; omega
      · have hall : ∀ n ∈ l, fewNod n = true := by
          have := hfew
          rw [List.take_of_length_le (by rw [HLEN.out]; omega)] at this
          exact this
        have hlow : ∀ n ∈ l, LowNod n := fun n h => few_low (hall n h)
        have HLOW := Lib.hid hlow
        have K := Lib.hid (K1.out.trans hK)
        have HRW := Lib.hid (HR.out.kept hK)
        have HL40 := Lib.hid (show l.length ≤ 1000 by rw [HLEN.out]; omega)
        obtain ⟨ck, hck⟩ : ∃ x, chkAllN l = x := ⟨_, rfl⟩
        have HCK := Lib.hid hck
        have HOF := Lib.hid (ofAll_any a len cap l wr (HR.out.kept hK) hlow (by omega))
        have hcc : (ck == ck) = true := beq_self_eq_true _
        have hcn : (ck != ck) = false := by simp
        clear hfew hK hall hlow hck
        go_wp2_with fail
        refine HOF.out.mono ?_
        rintro e w2 ⟨vx, rfl, hx, kk⟩
        have RX := Lib.hid hx
        have K := Lib.hid (K.out.trans kk)
        have HRW := Lib.hid (HRW.out.kept kk)
        clear hx kk HOF
        go_wp2_with fail
        refine (rcheckAllR RX.out HCK.out).mono ?_
        rintro e w3 ⟨rfl, kk⟩
        have K := Lib.hid (K.out.trans kk)
        have HRW := Lib.hid (HRW.out.kept kk)
        have RX := Lib.hid (RX.out.kept kk)
        clear kk
        have HCA := Lib.hid (checkAll_any a len cap l w3 HRW.out)
        rw [HCK.out] at HCA
        go_wp2_with fail
        refine HCA.out.mono ?_
        rintro e w4 ⟨rfl, kk⟩
        have K := Lib.hid (K.out.trans kk)
        have HRW := Lib.hid (HRW.out.kept kk)
        have RX := Lib.hid (RX.out.kept kk)
        clear kk HCA
        by_cases z : ck = 0
        · subst z
          obtain ⟨nn, hnn⟩ : ∃ x, (findN l s1).getD Nod.zero = x := ⟨_, rfl⟩
          obtain ⟨bb, hbb⟩ : ∃ x, (findN l s1).isSome = x := ⟨_, rfl⟩
          have hnl : LowNod nn := by rw [← hnn]; exact find_low HLOW.out
          obtain ⟨nm, l1, l2, l3, cd⟩ := nn
          have HNL := Lib.hid hnl
          have HNN := Lib.hid hnn
          have HBB := Lib.hid hbb
          have hbe : (bb == bb) = true := beq_self_eq_true _
          clear hnl hnn hbb
          go_wp2_with fail
          refine (Nk.find_k (x := nm) (cd := cd) (b := bb) HRW.out HLOW.out HNN.out HBB.out rfl rfl).mono ?_
          rintro e w5 ⟨a1, m1, c1, a2, m2, c2, a3, m3, c3, rfl, hn, kk⟩
          have K := Lib.hid (K.out.trans kk)
          have RN := Lib.hid hn
          have RX := Lib.hid (RX.out.kept kk)
          clear kk hn
          go_wp2_with fail
          refine (rfind_k (a := a) (len := len) (cap := cap) (x := nm) (cd := cd) (b := bb) (RX.out.kept (kept_alloc _ _)) HNN.out HBB.out rfl rfl).mono ?_
          rintro e w6 ⟨b1, n1, d1, b2, n2, d2, b3, n3, d3, rfl, hn, kk⟩
          have K := Lib.hid (K.out.trans (Kept.trans (kept_alloc _ _) kk))
          have RN := Lib.hid (RN.out.kept (Kept.trans (kept_alloc _ _) kk))
          have C1 := Lib.hid (show Cells5 w5.heap.size _ _ _ _ _ w6 from fresh5 w5 _ _ _ _ _ _ w6 kk)
          have RM := Lib.hid hn
          clear kk hn RX
          obtain ⟨W0, hW0⟩ : ∃ W, w6.alloc (.cells #[.string nm, .slice b1 n1 d1, .slice b2 n2 d2, .slice b3 n3 d3, .bool cd] 58) = W := ⟨_, rfl⟩
          have k0 : Kept w6 W0 := by rw [← hW0]; exact kept_alloc _ _
          have K := Lib.hid (K.out.trans k0)
          have RN := Lib.hid (show NodR W0 (.agg #[.string nm, .slice a1 m1 c1, .slice a2 m2 c2, .slice a3 m3 c3, .bool cd]) ⟨nm, l1, l2, l3, cd⟩ from ⟨_, _, _, rfl, RN.out.kept k0⟩)
          have RM := Lib.hid (show NodR W0 (.agg #[.string nm, .slice b1 n1 d1, .slice b2 n2 d2, .slice b3 n3 d3, .bool cd]) ⟨nm, l1, l2, l3, cd⟩ from ⟨_, _, _, rfl, RM.out.kept k0⟩)
          have HS := Lib.hid (show ∀ W, Kept W0 W → ((W.cell? ⟨w5.heap.size, 0, none⟩ = some (.string nm) ∧ W.cell? ⟨w5.heap.size, 1, none⟩ = some (.slice a1 m1 c1) ∧ W.cell? ⟨w5.heap.size, 2, none⟩ = some (.slice a2 m2 c2) ∧ W.cell? ⟨w5.heap.size, 3, none⟩ = some (.slice a3 m3 c3) ∧ W.cell? ⟨w5.heap.size, 4, none⟩ = some (.bool cd)) ∧ W.cell? ⟨w6.heap.size, 0, none⟩ = some (.string nm) ∧ W.cell? ⟨w6.heap.size, 1, none⟩ = some (.slice b1 n1 d1) ∧ W.cell? ⟨w6.heap.size, 2, none⟩ = some (.slice b2 n2 d2) ∧ W.cell? ⟨w6.heap.size, 3, none⟩ = some (.slice b3 n3 d3) ∧ W.cell? ⟨w6.heap.size, 4, none⟩ = some (.bool cd)) from fun W kk =>
            ⟨(C1.out.kept (k0.trans kk)).1, (fresh5 w6 _ _ _ _ _ 58 W (by rw [hW0]; exact kk)).1⟩)
          clear C1 k0 HRW HR
          go_wp2
          try rw [hW0]
          clear hW0
          obtain ⟨⟨y0, y1, y2, y3, y4⟩, x0, x1, x2, x3, x4⟩ := HS.out _ (Kept.refl _)
          first | (go_region_held3 (fun W => ((W.cell? ⟨w5.heap.size, 0, none⟩ = some (.string nm) ∧ W.cell? ⟨w5.heap.size, 1, none⟩ = some (.slice a1 m1 c1) ∧ W.cell? ⟨w5.heap.size, 2, none⟩ = some (.slice a2 m2 c2) ∧ W.cell? ⟨w5.heap.size, 3, none⟩ = some (.slice a3 m3 c3) ∧ W.cell? ⟨w5.heap.size, 4, none⟩ = some (.bool cd)) ∧ W.cell? ⟨w6.heap.size, 0, none⟩ = some (.string nm) ∧ W.cell? ⟨w6.heap.size, 1, none⟩ = some (.slice b1 n1 d1) ∧ W.cell? ⟨w6.heap.size, 2, none⟩ = some (.slice b2 n2 d2) ∧ W.cell? ⟨w6.heap.size, 3, none⟩ = some (.slice b3 n3 d3) ∧ W.cell? ⟨w6.heap.size, 4, none⟩ = some (.bool cd)))
            (first | exact HS.out _ (Kept.drew _) | exact HS.out _ J1.out | exact HS.out _ J2.out)
            (first | (go_at_call 42; refine (ofNR (RN.out.kept (Kept.drew _)) HNL.out).mono ?_; rintro e1 w7 ⟨vo, rfl, ro, k1⟩; have J1 := Lib.hid ((Kept.drew _).trans k1); have RO := Lib.hid ro; clear k1 ro)
                   | (go_at_call 46; refine (rsameNodR RO.out (RM.out.kept J1.out) (sameN_self ⟨nm, l1, l2, l3, cd⟩)).mono ?_; rintro e2 w8 ⟨rfl, k2⟩; have J2 := Lib.hid (J1.out.trans k2); clear k2)) ) | fail
          all_goals
            go_wp2
            go_ret
            exact ⟨rfl, K.out.trans J2.out⟩
        · have z' : (ck != 0) = true := by simpa using z
          go_wp2
          go_ret
          exact ⟨rfl, K.out⟩
  · have h40' : (40 : Int) < (len : Int) := by omega
    go_enter Tryz.func7, Tryz.ntmps7
    go_wp2_with fail
    refine (HK.out).mono ?_
    rintro e w1 ⟨rfl, k⟩
    have K := Lib.hid (k)
    clear k
    go_wp2
    go_ret
    exact ⟨rfl, K.out⟩

end Go.Proofs.YtppbbgppooblfaaGreatDoor
