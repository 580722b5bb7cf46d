/- BudgetAny: the walk. -/
import Derived.Test.YtflllkpnkcmegaaGreatDoorBudA
import Derived.Test.YtflllkpnkcmegaaGreatDoorBudR
import Derived.Test.YtflllkpnkcmegaaGreatDoorPodRefAll
import Derived.Test.YtflllkpnkcmegaaGreatDoorPodFew
import Derived.Test.YtflllkpnkcmegaaGreatDoorPodLow
namespace Go.Proofs.YtflllkpnkcmegaaGreatDoor
open Go.RowKit
set_option linter.unusedVariables false

theorem chkBd_mem : ∀ {p : Option ByteArray} {l : List Bd}, chkFromBd p l = 0 → ∀ n ∈ l, chkBud n = 0
  | _, [], _, n, h => by cases h
  | p, x :: t, h, n, hn => by
    rw [chkFromBd] at h
    by_cases z : chkBud x = 0
    · rw [if_neg (by rw [z]; decide)] at h
      by_cases y : Vec.behindB p x.name = true
      · rw [if_pos y] at h; cases h
      · rw [if_neg y] at h
        rcases List.mem_cons.1 hn with e | hn
        · rw [e]; exact z
        · exact chkBd_mem h n hn
    · rw [if_pos z] at h; exact absurd h z
theorem chkAllBd_mem {l : List Bd} (h : chkAllBd l = 0) : ∀ n ∈ l, chkBud n = 0 := by
  unfold chkAllBd at h
  split at h
  · cases h
  · exact chkBd_mem h
theorem bud_ops {n : Bd} (h : chkBud n = 0) : ∀ x ∈ n.sel, 1 ≤ x.1 ∧ x.1 ≤ 4 := by
  have hc := or_zero h _ (show chkL n.sel ∈ [chkBName n.name, chkL n.sel, chkFloor n.floor] by simp)
  exact fun x hx => (term_told (chk_terms hc x hx)).2.2.2
theorem few_sel {n : Bd} (h : fewBd n = true) : n.sel.length ≤ 1000000 := by
  have := (fewL_parts (fewBd_parts h).2).1; omega
theorem ofAllB_k {a : Option Addr} {len cap : Nat} {l : List Bd} {w : World} (hr : BudsAt w a len l) (hlow : ∀ n ∈ l, n.sel.length ≤ 1000000) (hlen : len ≤ 1000) :
    Calls Tryz.prog 29 #[.slice a len cap] w fun e w' => ∃ x c, e = .returned (.slice x len c) ∧ len ≤ c ∧ c ≤ maxLen ∧ BudsAt w' x len l ∧ Kept w w' := by
  refine (ofAllB_any a len cap l w hr hlow hlen).mono ?_
  rintro e w' ⟨v, rfl, h, k⟩
  obtain ⟨x, c, rfl, h1, h2, h3⟩ := h
  rw [hr.1] at h1 h3 ⊢
  exact ⟨x, c, rfl, h1, h2, h3, k⟩
theorem ofAllP_k {a : Option Addr} {len cap : Nat} {l : List Pd} {w : World} (hr : PodsAt w a len l) (hlow : ∀ n ∈ l, LowPd n) (hlen : len ≤ 1000) :
    Calls Tryz.prog 22 #[.slice a len cap] w fun e w' => ∃ x c, e = .returned (.slice x len c) ∧ len ≤ c ∧ c ≤ maxLen ∧ PodsAt w' x len l ∧ Kept w w' := by
  refine (ofAllP_any a len cap l w hr hlow hlen).mono ?_
  rintro e w' ⟨v, rfl, h, k⟩
  obtain ⟨x, c, rfl, h1, h2, h3⟩ := h
  rw [hr.1] at h1 h3 ⊢
  exact ⟨x, c, rfl, h1, h2, h3, k⟩
theorem names_k {v u : Value} {l : List ByteArray} {w : World} (h : Reads StrLay w v l) (h9 : Reads StrLay w u l) : Calls Tryz.prog 38 #[v, u] w (Say (.bool true) w) := namesR h h9

set_option maxRecDepth 100000 in
set_option maxHeartbeats 16000000 in
theorem BudgetAny_walk (v0 : Value) (bs : List Bd) (v1 : Value) (l : List Pd) (s2 : ByteArray) (w : World) (hE : EnvP w) (h0 : BudsR w v0 bs) (h1 : PodsR w v1 l) (hs2 : s2.size ≤ maxLen) :
    Calls Tryz.prog 7 #[v0, v1, .string s2] w fun e w' => e = .returned (.bool true) ∧ Kept w w' := by
  obtain ⟨a, cap, rfl, hc1, hc2, hb⟩ := h0
  obtain ⟨a9, cap9, rfl, hd1, hd2, hr⟩ := h1
  obtain ⟨len, hlen⟩ : ∃ n, bs.length = n := ⟨_, rfl⟩
  obtain ⟨len9, hlen9⟩ : ∃ n, l.length = n := ⟨_, rfl⟩
  rw [hlen] at hb hc1 ⊢
  rw [hlen9] at hr hd1 ⊢
  have HLEN := Lib.hid hlen
  have HLEN9 := Lib.hid hlen9
  have hm := hb.2.1
  have hm9 := hr.2.1
  unfold maxLen at hm hm9
  have HE := Lib.hid hE
  have HB := Lib.hid hb
  have HCC := Lib.hid (And.intro hd1 hd2)
  have HR := Lib.hid hr
  have HKN := Lib.hid (Bk.known_any w hE)
  obtain ⟨fb, hfb⟩ : ∃ f, fewBs bs = f := ⟨_, rfl⟩
  have FB := Lib.hid hfb
  have HFW := Lib.hid (fun W (k : Kept w W) => fewBs_any a len cap bs W (HB.out.kept k))
  rw [hfb] at HFW
  clear hE hb hr hlen hlen9 hfb hc1 hc2 hd1 hd2
  cases fb with
  | false =>
    go_enter Tryz.func7, Tryz.ntmps7
    go_wp2_with fail
    refine (HKN.out).mono ?_
    rintro e w1 ⟨rfl, k⟩
    have K := Lib.hid k
    clear k
    go_wp2_with fail
    refine (HFW.out _ K.out).mono ?_
    rintro e w2 ⟨rfl, k⟩
    have K := Lib.hid (K.out.trans k)
    clear k
    go_wp2
    go_ret
    exact ⟨rfl, K.out⟩
  | true =>
    have HFB := Lib.hid (fewBs_parts FB.out)
    by_cases h40 : 40 < len9
    · have h40 : (40 : Int) < (len9 : Int) := by omega
      go_enter Tryz.func7, Tryz.ntmps7
      go_wp2_with fail
      refine (HKN.out).mono ?_
      rintro e w1 ⟨rfl, k⟩
      have K := Lib.hid k
      clear k
      go_wp2_with fail
      refine (HFW.out _ K.out).mono ?_
      rintro e w2 ⟨rfl, k⟩
      have K := Lib.hid (K.out.trans k)
      clear k
      go_wp2
      go_ret
      exact ⟨rfl, K.out⟩
    · have h40 : len9 ≤ 40 := by omega
      have h40i : (len9 : Int) ≤ 40 := by omega
      have h20 : len ≤ 20 := by have := HFB.out.1; rw [HLEN.out] at this; exact this
      go_enter Tryz.func7, Tryz.ntmps7
      go_wp2_with fail
      refine (HKN.out).mono ?_
      rintro e w1 ⟨rfl, k⟩
      have K := Lib.hid k
      clear k
      go_wp2_with fail
      refine (HFW.out _ K.out).mono ?_
      rintro e w2 ⟨rfl, k⟩
      have K := Lib.hid (K.out.trans k)
      clear k
      go_wp2
      obtain ⟨wk, hwk⟩ : ∃ W, W = w2 := ⟨w2, rfl⟩
      subst hwk
      go_loopw [7] (fun i wr => ∃ k : Nat, k ≤ len9 ∧ i = .int .i64 k ∧ (∀ n ∈ l.take k, fewPd n = true) ∧ Kept wk wr) (fun i _ => len9 - (intOf i).toNat)
      case atStart => exact ⟨0, Nat.zero_le _, rfl, (fun n h => by simp at h), Kept.refl _⟩
      case round =>
        obtain ⟨k, hk, rfl, hfew, hK⟩ := hrel
        have HFEW := Lib.hid hfew
        have HK2 := Lib.hid hK
        by_cases hlt : k < len9
        · have hr' := HR.out.kept (K.out.trans hK)
          obtain ⟨b, off, rfl⟩ : ∃ b off, a9 = some ⟨b, off, none⟩ := hr'.form.resolve_left (by omega)
          obtain ⟨n, a1, m1, c1, a2, m2, c2, a3, m3, c3, a4, m4, c4, hn, hd, hb, p0, p1, p2, p3, p4, p5, p6, p7, p8, p9, p10, hat⟩ := hr'.at_ hlt
          have HN := Lib.hid hn
          obtain ⟨fb, hfb⟩ : ∃ x, fewPd n = x := ⟨_, rfl⟩
          have HFW := Lib.hid (fewPd_any n (.slice a1 m1 c1) (.slice a2 m2 c2) (.slice a3 m3 c3) (.slice a4 m4 c4) wr hat)
          rw [hfb] at HFW
          have HFB2 := Lib.hid hfb
          unfold PodV at HFW
          have hk1 : (k : Int) < (len9 : Int) := by omega
          clear hfew hK hr' hn hd hat hfb
          cases fb with
          | false =>
            go_wp2_with fail
            refine HFW.out.mono ?_
            rintro e w3 ⟨rfl, kk⟩
            have K3 := Lib.hid (K.out.trans (HK2.out.trans kk))
            clear kk
            go_wp2
            go_ret
            exact ⟨rfl, K3.out⟩
          | true =>
            go_wp2_with fail
            refine HFW.out.mono ?_
            rintro e w3 ⟨rfl, kk⟩
            have K3 := Lib.hid (HK2.out.trans kk)
            clear kk
            go_wp2
            go_roundw
            case rel => exact ⟨k + 1, by omega, by go_num, few_nextP HN.out HFEW.out HFB2.out, K3.out⟩
            case measure => simp [intOf]; omega
        · have hall : ∀ n ∈ l, fewPd n = true := by
            have := hfew
            rw [List.take_of_length_le (by rw [HLEN9.out]; omega)] at this
            exact this
          have HLOW := Lib.hid (show ∀ n ∈ l, LowPd n from fun n h => few_lowP (hall n h))
          have HLB := Lib.hid (show ∀ n ∈ bs, n.sel.length ≤ 1000000 from fun n h => few_sel (HFB.out.2 n h))
          have K := Lib.hid (K.out.trans hK)
          obtain ⟨ck, hck⟩ : ∃ x, chkAllBd bs = x := ⟨_, rfl⟩
          obtain ⟨cp, hcp⟩ : ∃ x, chkAllP l = x := ⟨_, rfl⟩
          have HCK := Lib.hid hck
          have HCP := Lib.hid hcp
          skip
          have hcn : (ck != ck) = false := by simp
          clear hfew hK hall hck hcp
          go_wp2_with fail
          refine (ofAllB_k (HB.out.kept K.out) HLB.out (by omega)).mono ?_
          rintro e w3 ⟨ax, cx, rfl, hx1, hx2, hx, k⟩
          have HX := Lib.hid hx
          have HX1 := Lib.hid hx1
          clear hx hx1 hx2
          have K := Lib.hid (K.out.trans k)
          clear k
          go_wp2_with fail
          refine (ofAllP_k (HR.out.kept K.out) HLOW.out (by omega)).mono ?_
          rintro e w4 ⟨ay, cy, rfl, hy1, hy2, hy, k⟩
          have HX := Lib.hid (HX.out.kept k)
          have HY := Lib.hid hy
          have HCY := Lib.hid (And.intro hy1 hy2)
          clear hy hy1 hy2
          have K := Lib.hid (K.out.trans k)
          clear k
          have RB := Lib.hid (rcheckAllB_any ax len cx bs w4 HX.out)
          rw [HCK.out] at RB
          go_wp2_with fail
          refine (RB.out).mono ?_
          rintro e w5 ⟨rfl, k⟩
          have HX := Lib.hid (HX.out.kept k)
          have HY := Lib.hid (HY.out.kept k)
          clear RB
          have K := Lib.hid (K.out.trans k)
          clear k
          have RB := Lib.hid (checkAllB_any a len cap bs w5 (HB.out.kept K.out))
          rw [HCK.out] at RB
          go_wp2_with fail
          refine (RB.out).mono ?_
          rintro e w6 ⟨rfl, k⟩
          have HX := Lib.hid (HX.out.kept k)
          have HY := Lib.hid (HY.out.kept k)
          clear RB
          have K := Lib.hid (K.out.trans k)
          clear k
          by_cases z : ck = 0
          rotate_left
          · have z' : (ck != 0) = true := by simpa using z
            clear z
            go_wp2
            go_ret
            exact ⟨rfl, K.out⟩
          · subst z
            have RB := Lib.hid (rcheckAllP_any ay len9 cy l w6 HY.out)
            rw [HCP.out] at RB
            go_wp2_with fail
            refine (RB.out).mono ?_
            rintro e w7 ⟨rfl, k⟩
            have HX := Lib.hid (HX.out.kept k)
            have HY := Lib.hid (HY.out.kept k)
            clear RB
            have K := Lib.hid (K.out.trans k)
            clear k
            by_cases z : cp = 0
            rotate_left
            · have z' : (cp != 0) = true := by simpa using z
              clear z
              go_wp2
              go_ret
              exact ⟨rfl, K.out⟩
            · subst z
              have HMEM := Lib.hid (chkAllBd_mem HCK.out)
              have HPR := Lib.hid (show ∀ W, Kept w W → PodsR W (.slice a9 len9 cap9) l from fun W kk => ⟨a9, cap9, by rw [HLEN9.out], by rw [HLEN9.out]; exact HCC.out.1, HCC.out.2, by rw [HLEN9.out]; exact HR.out.kept kk⟩)
              have HPY := Lib.hid (show ∀ W, Kept w7 W → PodsR W (.slice ay len9 cy) l from fun W kk => ⟨ay, cy, by rw [HLEN9.out], by rw [HLEN9.out]; exact HCY.out.1, HCY.out.2, by rw [HLEN9.out]; exact HY.out.kept kk⟩)
              go_wp2
              go_loopw [11] (fun i wr => ∃ k : Nat, k ≤ len ∧ i = .int .i64 k ∧ Kept w7 wr) (fun i _ => len - (intOf i).toNat)
              case atStart => exact ⟨0, Nat.zero_le _, rfl, Kept.refl _⟩
              case round =>
                obtain ⟨k, hk, rfl, hK⟩ := hrel
                have HK2 := Lib.hid hK
                have HX2 := Lib.hid (HX.out.kept hK)
                have HB2 := Lib.hid (HB.out.kept (K.out.trans hK))
                have HY2 := Lib.hid (HY.out.kept hK)
                have HR2 := Lib.hid (HR.out.kept (K.out.trans hK))
                have HE2 := Lib.hid (HE.out.kept (K.out.trans hK))
                by_cases hlt : k < len
                · skip
                  obtain ⟨b, off, rfl⟩ : ∃ b off, a = some ⟨b, off, none⟩ := HB2.out.form.resolve_left (by omega)
                  obtain ⟨bx, ox, rfl⟩ : ∃ b off, ax = some ⟨b, off, none⟩ := HX2.out.form.resolve_left (by omega)
                  obtain ⟨n, a1, m1, c1, hn, hd, hb, p0, p1, p2, hat⟩ := HB2.out.at_ hlt
                  obtain ⟨n9, d1, e1, f1, hn9, hd9, hb9, q0, q1, q2, hat9⟩ := HX2.out.at_ hlt
                  obtain rfl : n9 = n := by rw [hn] at hn9; exact (Option.some.inj hn9).symm
                  have HMN := Lib.hid (HMEM.out n9 (List.mem_of_getElem? hn))
                  have HFN := Lib.hid (HFB.out.2 n9 (List.mem_of_getElem? hn))
                  have HS := Lib.hid (show ∀ W, Kept wr W → W.cell? ⟨b, off + k * 3, none⟩ = some (.string n9.name) ∧ W.cell? ⟨b, off + k * 3 + 1, none⟩ = some (.slice a1 m1 c1) ∧ W.cell? ⟨b, off + k * 3 + 2, none⟩ = some (.int .i64 n9.floor) ∧ W.cell? ⟨bx, ox + k * 3, none⟩ = some (.string n9.name) ∧ W.cell? ⟨bx, ox + k * 3 + 1, none⟩ = some (.slice d1 e1 f1) ∧ W.cell? ⟨bx, ox + k * 3 + 2, none⟩ = some (.int .i64 n9.floor) from fun W kk => ⟨cell_later kk p0, cell_later kk p1, cell_later kk p2, cell_later kk q0, cell_later kk q1, cell_later kk q2⟩)
                  have R1 := Lib.hid (fun W (kk : Kept wr W) => show BudR W (.agg #[.string n9.name, .slice a1 m1 c1, .int .i64 n9.floor]) n9 from ⟨_, rfl, hat.kept kk⟩)
                  have R2 := Lib.hid (fun W (kk : Kept wr W) => show BudR W (.agg #[.string n9.name, .slice d1 e1 f1, .int .i64 n9.floor]) n9 from ⟨_, rfl, hat9.kept kk⟩)
                  obtain ⟨ct, hct⟩ : ∃ c, cntB n9 l = c := ⟨_, rfl⟩
                  have HCT := Lib.hid hct
                  obtain ⟨t, ht⟩ : ∃ c, textBd n9 = c := ⟨_, rfl⟩
                  have HT := Lib.hid ht
                  have e1x : ((ct : Int) != (ct : Int)) = false := by simp
                  have e2x : (t.toList != t.toList) = false := by simp
                  have hk1 : (k : Int) < (len : Int) := by omega
                  have PR := Lib.hid (fun W (kk : Kept wr W) => show PodsR W (.slice a9 len9 cap9) l from HPR.out _ (K.out.trans (HK2.out.trans kk)))
                  have PY := Lib.hid (fun W (kk : Kept wr W) => show PodsR W (.slice ay len9 cy) l from HPY.out _ (HK2.out.trans kk))
                  clear hK hn hd hat hn9 hd9 hat9 hct ht p0 p1 p2 q0 q1 q2
                  go_wp2
                  refine wp_region_held_drew (S := fun W => W.cell? ⟨b, off + k * 3, none⟩ = some (.string n9.name) ∧ W.cell? ⟨b, off + k * 3 + 1, none⟩ = some (.slice a1 m1 c1) ∧ W.cell? ⟨b, off + k * 3 + 2, none⟩ = some (.int .i64 n9.floor) ∧ W.cell? ⟨bx, ox + k * 3, none⟩ = some (.string n9.name) ∧ W.cell? ⟨bx, ox + k * 3 + 1, none⟩ = some (.slice d1 e1 f1) ∧ W.cell? ⟨bx, ox + k * 3 + 2, none⟩ = some (.int .i64 n9.floor)) (by kernel_rfl) (HS.out _ (Kept.drew _)) (fun hHeld => ?_)
                  refine wpAnyH_take (i := 0) (v := ?_) (by rw [List.getElem?_toArray]; exact rfl) (by kernel_rfl) (by kernel_rfl) (by kernel_rfl) (by exact fun _ _ _ h => h) (Or.inl ⟨by rfl, (by intro W hSw; obtain ⟨o0, o1, o2, o3, o4, o5⟩ := hSw; go_simp <;> with_reducible rfl)⟩) (by assumption) ?_
                  try simp only [Act.put, List.setIfInBounds_toArray, List.set_cons_zero, List.set_cons_succ]
                  refine wpAnyH_take (i := 1) (v := ?_) (by rw [List.getElem?_toArray]; exact rfl) (by kernel_rfl) (by kernel_rfl) (by kernel_rfl) (by exact fun _ _ _ h => h) (Or.inl ⟨by rfl, (by intro W hSw; obtain ⟨o0, o1, o2, o3, o4, o5⟩ := hSw; go_simp <;> with_reducible rfl)⟩) (by assumption) ?_
                  try simp only [Act.put, List.setIfInBounds_toArray, List.set_cons_zero, List.set_cons_succ]
                  refine wpAnyH_take (i := 2) (v := ?_) (by rw [List.getElem?_toArray]; exact rfl) (by kernel_rfl) (by kernel_rfl) (by kernel_rfl) (by exact fun _ _ _ h => h) (Or.inl ⟨by rfl, (by intro W hSw; obtain ⟨o0, o1, o2, o3, o4, o5⟩ := hSw; go_simp <;> with_reducible rfl)⟩) (by assumption) ?_
                  try simp only [Act.put, List.setIfInBounds_toArray, List.set_cons_zero, List.set_cons_succ]
                  refine wpAnyH_take (i := 3) (v := ?_) (by rw [List.getElem?_toArray]; exact rfl) (by kernel_rfl) (by kernel_rfl) (by kernel_rfl) (by exact fun _ _ _ h => h) (Or.inl ⟨by rfl, (by intro W hSw; obtain ⟨o0, o1, o2, o3, o4, o5⟩ := hSw; go_simp <;> with_reducible rfl)⟩) (by assumption) ?_
                  try simp only [Act.put, List.setIfInBounds_toArray, List.set_cons_zero, List.set_cons_succ]
                  refine wpAnyH_take (i := 4) (v := ?_) (by rw [List.getElem?_toArray]; exact rfl) (by kernel_rfl) (by kernel_rfl) (by kernel_rfl) (by exact fun _ _ _ h => h) (Or.inl ⟨by rfl, (by intro W hSw; obtain ⟨o0, o1, o2, o3, o4, o5⟩ := hSw; go_simp <;> with_reducible rfl)⟩) (by assumption) ?_
                  try simp only [Act.put, List.setIfInBounds_toArray, List.set_cons_zero, List.set_cons_succ]
                  refine wpAnyH_take (i := 6) (v := ?_) (by rw [List.getElem?_toArray]; exact rfl) (by kernel_rfl) (by kernel_rfl) (by kernel_rfl) (by exact fun _ _ _ h => h) (Or.inl ⟨by rfl, (by intro W hSw; obtain ⟨o0, o1, o2, o3, o4, o5⟩ := hSw; go_simp <;> with_reducible rfl)⟩) (by assumption) ?_
                  try simp only [Act.put, List.setIfInBounds_toArray, List.set_cons_zero, List.set_cons_succ]
                  refine wpAnyH_take (i := 7) (v := ?_) (by rw [List.getElem?_toArray]; exact rfl) (by kernel_rfl) (by kernel_rfl) (by kernel_rfl) (by exact fun _ _ _ h => h) (Or.inl ⟨by rfl, (by intro W hSw; obtain ⟨o0, o1, o2, o3, o4, o5⟩ := hSw; go_simp <;> with_reducible rfl)⟩) (by assumption) ?_
                  try simp only [Act.put, List.setIfInBounds_toArray, List.set_cons_zero, List.set_cons_succ]
                  refine wpAnyH_take (i := 8) (v := ?_) (by rw [List.getElem?_toArray]; exact rfl) (by kernel_rfl) (by kernel_rfl) (by kernel_rfl) (by exact fun _ _ _ h => h) (Or.inl ⟨by rfl, (by intro W hSw; obtain ⟨o0, o1, o2, o3, o4, o5⟩ := hSw; go_simp <;> with_reducible rfl)⟩) (by assumption) ?_
                  try simp only [Act.put, List.setIfInBounds_toArray, List.set_cons_zero, List.set_cons_succ]
                  refine wpAnyH_take (i := 9) (v := ?_) (by rw [List.getElem?_toArray]; exact rfl) (by kernel_rfl) (by kernel_rfl) (by kernel_rfl) (by exact fun _ _ _ h => h) (Or.inl ⟨by rfl, (by intro W hSw; obtain ⟨o0, o1, o2, o3, o4, o5⟩ := hSw; go_simp <;> with_reducible rfl)⟩) (by assumption) ?_
                  try simp only [Act.put, List.setIfInBounds_toArray, List.set_cons_zero, List.set_cons_succ]
                  refine wpAnyH_take (i := 10) (v := ?_) (by rw [List.getElem?_toArray]; exact rfl) (by kernel_rfl) (by kernel_rfl) (by kernel_rfl) (by exact fun _ _ _ h => h) (Or.inl ⟨by rfl, (by intro W hSw; obtain ⟨o0, o1, o2, o3, o4, o5⟩ := hSw; go_simp <;> with_reducible rfl)⟩) (by assumption) ?_
                  try simp only [Act.put, List.setIfInBounds_toArray, List.set_cons_zero, List.set_cons_succ]
                  refine wpAnyH_ready (rs := [5]) (by kernel_rfl) (by simp) (AllReadyH.cons (by rw [List.getElem?_toArray]; exact rfl) (fun K9 hK9 => ?_) AllReadyH.nil)
                  go_simp
                  refine (countBR (R1.out _ (Kept.drew _)) (PR.out _ (Kept.drew _)) HCT.out).mono ?_
                  rintro e1 x1 ⟨rfl, kk⟩
                  have J1 := Lib.hid ((Kept.drew _).trans kk)
                  clear kk
                  refine hK9.out _ _ (HS.out _ J1.out) (fun hHeld1 => ?_)
                  clear hK9 K9
                  try simp only [Act.put, List.setIfInBounds_toArray, List.set_cons_zero, List.set_cons_succ]
                  refine wpAnyH_ready (rs := [11]) (by kernel_rfl) (by simp) (AllReadyH.cons (by rw [List.getElem?_toArray]; exact rfl) (fun K9 hK9 => ?_) AllReadyH.nil)
                  go_simp
                  refine (rcountBR (R2.out _ J1.out) (PY.out _ J1.out) HCT.out).mono ?_
                  rintro e1 x2 ⟨rfl, kk⟩
                  have J2 := Lib.hid ((J1.out).trans kk)
                  clear kk
                  refine hK9.out _ _ (HS.out _ J2.out) (fun hHeld2 => ?_)
                  clear hK9 K9
                  try simp only [Act.put, List.setIfInBounds_toArray, List.set_cons_zero, List.set_cons_succ]
                  refine wpAnyH_take (i := 12) (v := ?_) (by rw [List.getElem?_toArray]; exact rfl) (by kernel_rfl) (by kernel_rfl) (by kernel_rfl) (by exact fun _ _ _ h => h) (Or.inl ⟨by rfl, (by intro W hSw; obtain ⟨o0, o1, o2, o3, o4, o5⟩ := hSw; go_simp <;> with_reducible rfl)⟩) (by assumption) ?_
                  try simp only [Act.put, List.setIfInBounds_toArray, List.set_cons_zero, List.set_cons_succ]
                  refine wpAnyH_take (i := 13) (v := ?_) (by rw [List.getElem?_toArray]; exact rfl) (by kernel_rfl) (by kernel_rfl) (by kernel_rfl) (by exact fun _ _ _ h => h) (Or.inl ⟨by rfl, (by intro W hSw; obtain ⟨o0, o1, o2, o3, o4, o5⟩ := hSw; go_simp <;> with_reducible rfl)⟩) (by assumption) ?_
                  try simp only [Act.put, List.setIfInBounds_toArray, List.set_cons_zero, List.set_cons_succ]
                  refine wpAnyH_take (i := 14) (v := ?_) (by rw [List.getElem?_toArray]; exact rfl) (by kernel_rfl) (by kernel_rfl) (by kernel_rfl) (by exact fun _ _ _ h => h) (Or.inl ⟨by rfl, (by intro W hSw; obtain ⟨o0, o1, o2, o3, o4, o5⟩ := hSw; go_simp <;> with_reducible rfl)⟩) (by assumption) ?_
                  try simp only [Act.put, List.setIfInBounds_toArray, List.set_cons_zero, List.set_cons_succ]
                  refine wpAnyH_take (i := 15) (v := ?_) (by rw [List.getElem?_toArray]; exact rfl) (by kernel_rfl) (by kernel_rfl) (by kernel_rfl) (by exact fun _ _ _ h => h) (Or.inl ⟨by rfl, (by intro W hSw; obtain ⟨o0, o1, o2, o3, o4, o5⟩ := hSw; go_simp <;> with_reducible rfl)⟩) (by assumption) ?_
                  try simp only [Act.put, List.setIfInBounds_toArray, List.set_cons_zero, List.set_cons_succ]
                  refine wpAnyH_take (i := 16) (v := ?_) (by rw [List.getElem?_toArray]; exact rfl) (by kernel_rfl) (by kernel_rfl) (by kernel_rfl) (by exact fun _ _ _ h => h) (Or.inl ⟨by rfl, (by intro W hSw; obtain ⟨o0, o1, o2, o3, o4, o5⟩ := hSw; go_simp <;> with_reducible rfl)⟩) (by assumption) ?_
                  try simp only [Act.put, List.setIfInBounds_toArray, List.set_cons_zero, List.set_cons_succ]
                  refine wpAnyH_take (i := 17) (v := ?_) (by rw [List.getElem?_toArray]; exact rfl) (by kernel_rfl) (by kernel_rfl) (by kernel_rfl) (by exact fun _ _ _ h => h) (Or.inl ⟨by rfl, (by intro W hSw; obtain ⟨o0, o1, o2, o3, o4, o5⟩ := hSw; go_simp <;> with_reducible rfl)⟩) (by assumption) ?_
                  try simp only [Act.put, List.setIfInBounds_toArray, List.set_cons_zero, List.set_cons_succ]
                  refine wpAnyH_take (i := 19) (v := ?_) (by rw [List.getElem?_toArray]; exact rfl) (by kernel_rfl) (by kernel_rfl) (by kernel_rfl) (by exact fun _ _ _ h => h) (Or.inl ⟨by rfl, (by intro W hSw; obtain ⟨o0, o1, o2, o3, o4, o5⟩ := hSw; go_simp <;> with_reducible rfl)⟩) (by assumption) ?_
                  try simp only [Act.put, List.setIfInBounds_toArray, List.set_cons_zero, List.set_cons_succ]
                  refine wpAnyH_take (i := 20) (v := ?_) (by rw [List.getElem?_toArray]; exact rfl) (by kernel_rfl) (by kernel_rfl) (by kernel_rfl) (by exact fun _ _ _ h => h) (Or.inl ⟨by rfl, (by intro W hSw; obtain ⟨o0, o1, o2, o3, o4, o5⟩ := hSw; go_simp <;> with_reducible rfl)⟩) (by assumption) ?_
                  try simp only [Act.put, List.setIfInBounds_toArray, List.set_cons_zero, List.set_cons_succ]
                  refine wpAnyH_take (i := 21) (v := ?_) (by rw [List.getElem?_toArray]; exact rfl) (by kernel_rfl) (by kernel_rfl) (by kernel_rfl) (by exact fun _ _ _ h => h) (Or.inl ⟨by rfl, (by intro W hSw; obtain ⟨o0, o1, o2, o3, o4, o5⟩ := hSw; go_simp <;> with_reducible rfl)⟩) (by assumption) ?_
                  try simp only [Act.put, List.setIfInBounds_toArray, List.set_cons_zero, List.set_cons_succ]
                  refine wpAnyH_take (i := 22) (v := ?_) (by rw [List.getElem?_toArray]; exact rfl) (by kernel_rfl) (by kernel_rfl) (by kernel_rfl) (by exact fun _ _ _ h => h) (Or.inl ⟨by rfl, (by intro W hSw; obtain ⟨o0, o1, o2, o3, o4, o5⟩ := hSw; go_simp <;> with_reducible rfl)⟩) (by assumption) ?_
                  try simp only [Act.put, List.setIfInBounds_toArray, List.set_cons_zero, List.set_cons_succ]
                  refine wpAnyH_ready (rs := [18]) (by kernel_rfl) (by simp) (AllReadyH.cons (by rw [List.getElem?_toArray]; exact rfl) (fun K9 hK9 => ?_) AllReadyH.nil)
                  go_simp
                  refine (textBdR (HE2.out.kept J2.out).toEnvT (R1.out _ J2.out) HFN.out HT.out).mono ?_
                  rintro e1 x3 ⟨rfl, kk⟩
                  have J3 := Lib.hid ((J2.out).trans kk)
                  clear kk
                  refine hK9.out _ _ (HS.out _ J3.out) (fun hHeld3 => ?_)
                  clear hK9 K9
                  try simp only [Act.put, List.setIfInBounds_toArray, List.set_cons_zero, List.set_cons_succ]
                  refine wpAnyH_ready (rs := [23]) (by kernel_rfl) (by simp) (AllReadyH.cons (by rw [List.getElem?_toArray]; exact rfl) (fun K9 hK9 => ?_) AllReadyH.nil)
                  go_simp
                  refine (rtextBdR (R2.out _ J3.out) HFN.out (bud_ops HMN.out) HT.out).mono ?_
                  rintro e1 x4 ⟨rfl, kk⟩
                  have J4 := Lib.hid ((J3.out).trans kk)
                  clear kk
                  refine hK9.out _ _ (HS.out _ J4.out) (fun hHeld4 => ?_)
                  clear hK9 K9
                  try simp only [Act.put, List.setIfInBounds_toArray, List.set_cons_zero, List.set_cons_succ]
                  refine wpAnyH_take (i := 24) (v := ?_) (by rw [List.getElem?_toArray]; exact rfl) (by kernel_rfl) (by kernel_rfl) (by kernel_rfl) (by exact fun _ _ _ h => h) (Or.inl ⟨by rfl, (by intro W hSw; obtain ⟨o0, o1, o2, o3, o4, o5⟩ := hSw; go_simp <;> with_reducible rfl)⟩) (by assumption) ?_
                  try simp only [Act.put, List.setIfInBounds_toArray, List.set_cons_zero, List.set_cons_succ]
                  refine wpAnyH_take (i := 25) (v := ?_) (by rw [List.getElem?_toArray]; exact rfl) (by kernel_rfl) (by kernel_rfl) (by kernel_rfl) (by exact fun _ _ _ h => h) (Or.inl ⟨by rfl, (by intro W hSw; obtain ⟨o0, o1, o2, o3, o4, o5⟩ := hSw; go_simp <;> with_reducible rfl)⟩) (by assumption) ?_
                  try simp only [Act.put, List.setIfInBounds_toArray, List.set_cons_zero, List.set_cons_succ]
                  refine wpAnyH_done (by kernel_rfl) ?_ _
                  go_wp2
                  go_roundw
                  case rel => exact ⟨k + 1, by omega, by go_num, HK2.out.trans J4.out⟩
                  case measure => simp [intOf]; omega
                · have K := Lib.hid (K.out.trans hK)
                  obtain ⟨⟨y1, y2⟩, hy⟩ : ∃ y, alwB bs l s2 = y := ⟨_, rfl⟩
                  have HAW := Lib.hid hy
                  have HA1 := Lib.hid (alw_any a a9 len cap len9 cap9 bs l s2 wr HB2.out HR2.out HLOW.out)
                  rw [hy] at HA1
                  dsimp only at HA1
                  clear hK hy
                  go_wp2_with fail
                  refine (HA1.out).mono ?_
                  rintro e x5 ⟨rfl, k⟩
                  have HA2 := Lib.hid (ralw_any ax ay len cx len9 cy bs l s2 x5 (HX2.out.kept k) (HY2.out.kept k))
                  rw [HAW.out] at HA2
                  dsimp only at HA2
                  have HX3 := Lib.hid (HX2.out.kept k)
                  have HY3 := Lib.hid (HY2.out.kept k)
                  have K := Lib.hid (K.out.trans k)
                  clear k
                  go_wp2_with fail
                  refine (HA2.out).mono ?_
                  rintro e x6 ⟨rfl, k⟩
                  have HX3 := Lib.hid (HX3.out.kept k)
                  have HY3 := Lib.hid (HY3.out.kept k)
                  have K := Lib.hid (K.out.trans k)
                  clear k
                  have e3x : (y1.toList == y1.toList) = true := by simp
                  have e4x : (y2 == y2) = true := by simp
                  obtain ⟨nm, hnm⟩ : ∃ y, brkB bs l = y := ⟨_, rfl⟩
                  have HB3 := Lib.hid (brk_any a a9 len cap len9 cap9 bs l x6 (HB.out.kept K.out) (HR.out.kept K.out) (by omega))
                  rw [hnm] at HB3
                  have HNM := Lib.hid hnm
                  clear hnm
                  go_wp2_with fail
                  refine (HB3.out).mono ?_
                  rintro e x7 ⟨v7, rfl, h7, k⟩
                  have HO7 := Lib.hid h7
                  have HB4 := Lib.hid (rbrk_any ax ay len cx len9 cy bs l x7 (HX3.out.kept k) (HY3.out.kept k) (by omega))
                  rw [HNM.out] at HB4
                  clear h7
                  have K := Lib.hid (K.out.trans k)
                  clear k
                  go_wp2_with fail
                  refine (HB4.out).mono ?_
                  rintro e x8 ⟨v8, rfl, h8, k⟩
                  have HO8 := Lib.hid (HO7.out.reads.kept k)
                  have HO9 := Lib.hid h8.reads
                  clear h8
                  have K := Lib.hid (K.out.trans k)
                  clear k
                  go_wp2_with fail
                  refine (names_k HO8.out HO9.out).mono ?_
                  rintro e x9 ⟨rfl, k⟩
                  have K := Lib.hid (K.out.trans k)
                  clear k
                  go_wp2
                  go_ret
                  exact ⟨rfl, K.out⟩

end Go.Proofs.YtflllkpnkcmegaaGreatDoor
