/- BudgetGoes: the walk. -/
import Derived.Test.YtflllkpnkcmegaaGreatDoorBudgetAnyW
import Derived.Test.YtflllkpnkcmegaaGreatDoorBudGoesM
import Derived.Deep.RegionHeld3
import Derived.OpenShut
namespace Go.Proofs.YtflllkpnkcmegaaGreatDoor
open Go.RowKit
set_option linter.unusedVariables false

theorem ofAllP_m {a : Option Addr} {len cap : Nat} {l : List Pd} {w : World} (hr : PodsAt w a len l) (hlow : ∀ n ∈ l, MemPd n) (hlen : len ≤ 1000) :
    Calls Tryz.prog 22 #[.slice a len cap] w fun e w' => ∃ x c, e = .returned (.slice x len c) ∧ len ≤ c ∧ c ≤ maxLen ∧ PodsAt w' x len l ∧ Kept w w' := by
  refine (ofAllP_anyM a len cap l w hr hlow hlen).mono ?_
  rintro e w' ⟨v, rfl, h, k⟩
  obtain ⟨x, c, rfl, h1, h2, h3⟩ := h
  rw [hr.1] at h1 h3 ⊢
  exact ⟨x, c, rfl, h1, h2, h3, k⟩
theorem goes_true {bs : List Bd} {l : List Pd} {k : Nat} {p : Pd} {y : ByteArray} (hc : chkAllP l = 0) (h : l[k]? = some p) (hy : alwB bs l p.name = (y, true)) : brkB bs (cutP l k) = brkB bs l := by
  cases hf : forB bs l p with
  | none => exact goes_free h hf
  | some b =>
    rw [alw_some' hc h hf] at hy
    cases (Prod.mk.inj hy).2
theorem goes_false {bs : List Bd} {l : List Pd} {k : Nat} {p : Pd} {y : ByteArray} (hc : chkAllP l = 0) (h : l[k]? = some p) (hy : alwB bs l p.name = (y, false)) : 0 < (brkB bs (cutP l k)).length := by
  cases hf : forB bs l p with
  | none =>
    rw [alw_none' hc h hf] at hy
    cases (Prod.mk.inj hy).2
  | some b => exact goes_hit h hf
theorem src_tail {W : World} {b off len9 cap9 k0 : Nat} {lx : List PX} (h : RowAt PodLay0 W (some ⟨b, off + (k0 + 1) * 11, none⟩) (len9 - (k0 + 1)) (lx.drop (k0 + 1))) (hc : len9 ≤ cap9) :
    AppSrc W (.slice (if cap9 = k0 + 1 then some ⟨b, off, none⟩ else some ⟨b, off + (k0 + 1) * 11, none⟩) (len9 - (k0 + 1)) (cap9 - (k0 + 1))) (len9 - (k0 + 1)) (rowCells PodLay0 (lx.drop (k0 + 1))) := by
  by_cases z : cap9 = k0 + 1
  · rw [if_pos z]
    have hl : (lx.drop (k0 + 1)) = [] := List.eq_nil_of_length_eq_zero (by rw [h.1]; omega)
    rw [hl]
    exact .inl ⟨_, _, rfl, fun j u hu => by simp [rowCells] at hu⟩
  · rw [if_neg z]
    exact RowAt.src h
theorem rem_nat {n : Int} {m : Nat} (h : 0 ≤ n ∧ n ≤ 255) (hm : 0 < m) : ∃ k : Nat, k < m ∧ n.tmod (m : Int) = (k : Int) := by
  obtain ⟨j, rfl⟩ := Int.eq_ofNat_of_zero_le h.1
  exact ⟨j % m, Nat.mod_lt _ hm, rfl⟩

set_option maxRecDepth 100000 in
set_option maxHeartbeats 16000000 in
theorem BudgetGoes_walk (v0 : Value) (bs : List Bd) (v1 : Value) (l : List Pd) (n2 : Int) (w : World) (hE : EnvP w) (h0 : BudsR w v0 bs) (h1 : PodsR w v1 l) (h2 : (Lit.int .u8 n2).wf = true) (hmem : l.length ≤ 40 → ∀ p ∈ l, MemPd p) :
    Calls Tryz.prog 8 #[v0, v1, .int .u8 n2] w fun e w' => e = .returned (.bool true) ∧ Kept w w' := by
  have hn2 := bounds_u8 h2
  clear h2
  have HN2 := Lib.hid hn2
  obtain ⟨a, cap, rfl, hc1, hc2, hb⟩ := h0
  obtain ⟨a9, cap9, rfl, hd1, hd2, hr⟩ := h1
  have HMEM := Lib.hid hmem
  obtain ⟨len, hlen⟩ : ∃ n, bs.length = n := ⟨_, rfl⟩
  obtain ⟨len9, hlen9⟩ : ∃ n, l.length = n := ⟨_, rfl⟩
  rw [hlen] at hb hc1 ⊢
  rw [hlen9] at hr hd1 HMEM ⊢
  have HLEN := Lib.hid hlen
  have HLEN9 := Lib.hid hlen9
  have hm := hb.2.1
  have hm9 := hr.2.1
  unfold maxLen at hm hm9
  have HE := Lib.hid hE
  have HB := Lib.hid hb
  have HCC := Lib.hid (And.intro hd1 hd2)
  have HCB := Lib.hid (And.intro hc1 hc2)
  have HR := Lib.hid hr
  have HKN := Lib.hid (Bk.known_any w hE)
  obtain ⟨fb, hfb⟩ : ∃ f, fewBs bs = f := ⟨_, rfl⟩
  have FB := Lib.hid hfb
  have HFW := Lib.hid (fun W (k : Kept w W) => fewBs_any a len cap bs W (HB.out.kept k))
  rw [hfb] at HFW
  clear hE hb hr hlen hlen9 hfb hc1 hc2 hd1 hd2 hmem
  cases fb with
  | false =>
    go_enter Tryz.func8, Tryz.ntmps8
    go_wp2_with fail
    refine (HKN.out).mono ?_
    rintro e w1 ⟨rfl, k⟩
    have K := Lib.hid k
    clear k
    go_wp2_with fail
    refine (HFW.out _ K.out).mono ?_
    rintro e w2 ⟨rfl, k⟩
    have K := Lib.hid (K.out.trans k)
    clear k
    go_wp2
    go_ret
    exact ⟨rfl, K.out⟩
  | true =>
    have HFB := Lib.hid (fewBs_parts FB.out)
    by_cases h1 : len9 < 1
    · have h1i : (len9 : Int) < 1 := by omega
      go_enter Tryz.func8, Tryz.ntmps8
      go_wp2_with fail
      refine (HKN.out).mono ?_
      rintro e w1 ⟨rfl, k⟩
      have K := Lib.hid k
      clear k
      go_wp2_with fail
      refine (HFW.out _ K.out).mono ?_
      rintro e w2 ⟨rfl, k⟩
      have K := Lib.hid (K.out.trans k)
      clear k
      go_wp2
      go_ret
      exact ⟨rfl, K.out⟩
    by_cases h40 : 40 < len9
    · have h40i : (40 : Int) < (len9 : Int) := by omega
      have h1i : (1 : Int) ≤ (len9 : Int) := by omega
      go_enter Tryz.func8, Tryz.ntmps8
      go_wp2_with fail
      refine (HKN.out).mono ?_
      rintro e w1 ⟨rfl, k⟩
      have K := Lib.hid k
      clear k
      go_wp2_with fail
      refine (HFW.out _ K.out).mono ?_
      rintro e w2 ⟨rfl, k⟩
      have K := Lib.hid (K.out.trans k)
      clear k
      go_wp2
      go_ret
      exact ⟨rfl, K.out⟩
    have h40 : len9 ≤ 40 := by omega
    have h1 : 1 ≤ len9 := by omega
    have h40i : (len9 : Int) ≤ 40 := by omega
    have h1i : (1 : Int) ≤ (len9 : Int) := by omega
    have h20 : len ≤ 20 := by have := HFB.out.1; rw [HLEN.out] at this; exact this
    have HLB := Lib.hid (show ∀ n ∈ bs, n.sel.length ≤ 1000000 from fun n h => few_sel (HFB.out.2 n h))
    obtain ⟨ck, hck⟩ : ∃ x, chkAllBd bs = x := ⟨_, rfl⟩
    obtain ⟨cp, hcp⟩ : ∃ x, chkAllP l = x := ⟨_, rfl⟩
    have HCK := Lib.hid hck
    have HCP := Lib.hid hcp
    clear hck hcp
    go_enter Tryz.func8, Tryz.ntmps8
    go_wp2_with fail
    refine (HKN.out).mono ?_
    rintro e w1 ⟨rfl, k⟩
    have K := Lib.hid k
    clear k
    go_wp2_with fail
    refine (HFW.out _ K.out).mono ?_
    rintro e w2 ⟨rfl, k⟩
    have K := Lib.hid (K.out.trans k)
    clear k
    go_wp2_with fail
    refine (ofAllB_k (HB.out.kept K.out) HLB.out (by omega)).mono ?_
    rintro e w3 ⟨ax, cx, rfl, hx1, hx2, hx, k⟩
    have HX := Lib.hid hx
    clear hx hx1 hx2
    have K := Lib.hid (K.out.trans k)
    clear k
    have RB := Lib.hid (rcheckAllB_any ax len cx bs w3 HX.out)
    rw [HCK.out] at RB
    go_wp2_with fail
    refine (RB.out).mono ?_
    rintro e w4 ⟨rfl, k⟩
    clear RB HX
    have K := Lib.hid (K.out.trans k)
    clear k
    by_cases z : ck = 0
    rotate_left
    · have z' : (ck != 0) = true := by simpa using z
      have z2 : (ck == 0) = false := by simpa using z
      clear z
      go_wp2
      go_ret
      exact ⟨rfl, K.out⟩
    subst z
    go_wp2_with fail
    refine (ofAllP_m (HR.out.kept K.out) (HMEM.out h40) (by omega)).mono ?_
    rintro e w5 ⟨ay, cy, rfl, hy1, hy2, hy, k⟩
    have HY := Lib.hid hy
    clear hy hy1 hy2
    have K := Lib.hid (K.out.trans k)
    clear k
    have RB := Lib.hid (rcheckAllP_any ay len9 cy l w5 HY.out)
    rw [HCP.out] at RB
    go_wp2_with fail
    refine (RB.out).mono ?_
    rintro e w6 ⟨rfl, k⟩
    clear RB HY
    have K := Lib.hid (K.out.trans k)
    clear k
    by_cases z : cp = 0
    rotate_left
    · have z' : (cp != 0) = true := by simpa using z
      have z2 : (cp == 0) = false := by simpa using z
      clear z
      go_wp2
      go_ret
      exact ⟨rfl, K.out⟩
    subst z
    have HLOW := Lib.hid (show ∀ n ∈ l, LowPd n from fun n h => chk_lowP ((chkAllP_rows HCP.out).1 n h))
    obtain ⟨k0, hk0, hkr⟩ := rem_nat HN2.out (show 0 < len9 by omega)
    have hz9 : ¬ (len9 : Int) = 0 := by omega
    have hz9b : ((len9 : Int) == 0) = false := by simp; omega
    have hki : (k0 : Int) < (len9 : Int) := by omega
    obtain ⟨nm, hnm⟩ : ∃ y, brkB bs l = y := ⟨_, rfl⟩
    have HNM := Lib.hid hnm
    have HB3 := Lib.hid (brk_any a a9 len cap len9 cap9 bs l w6 (HB.out.kept K.out) (HR.out.kept K.out) (by omega))
    rw [hnm] at HB3
    clear hnm
    go_wp2_with fail
    refine (HB3.out).mono ?_
    rintro e w7 ⟨v7, rfl, h7, k⟩
    have HO7 := Lib.hid h7.reads
    clear h7 HB3
    have K := Lib.hid (K.out.trans k)
    clear k
    obtain ⟨b, off, rfl⟩ : ∃ b off, a9 = some ⟨b, off, none⟩ := HR.out.form.resolve_left (by omega)
    obtain ⟨n, a1, m1, c1, a2, m2, c2, a3, m3, c3, a4, m4, c4, hn, hd, hb, p0, p1, p2, p3, p4, p5, p6, p7, p8, p9, p10, hat⟩ := (HR.out.kept K.out).at_ hk0
    have HN := Lib.hid hn
    clear hn hd hat p1 p2 p3 p4 p5 p6 p7 p8 p9 p10
    obtain ⟨⟨y1, y2⟩, hy⟩ : ∃ y, alwB bs l n.name = y := ⟨_, rfl⟩
    have HAW := Lib.hid hy
    have HA1 := Lib.hid (alw_any a (some ⟨b, off, none⟩) len cap len9 cap9 bs l n.name w7 (HB.out.kept K.out) (HR.out.kept K.out) HLOW.out)
    rw [hy] at HA1
    dsimp only at HA1
    clear hy
    go_wp2_with fail
    refine (HA1.out).mono ?_
    rintro e w8 ⟨rfl, k⟩
    have HO7 := Lib.hid (HO7.out.kept k)
    clear p0 hb
    have K := Lib.hid (K.out.trans k)
    clear k
    obtain ⟨lx, hlx, hrow, hat4⟩ := pods_px (HR.out.kept K.out)
    have HLX := Lib.hid hlx
    have HAT := Lib.hid hat4
    have hxl : lx.length = len9 := hrow.1
    have HRP := Lib.hid (hrow.preP (k := k0) (by omega))
    have HRQ := Lib.hid (hrow.postP (k := k0 + 1) (by omega))
    have HXL := Lib.hid hxl
    have hk40 : k0 ≤ 40 := by omega
    have hkc : k0 ≤ cap9 := by have := HCC.out.1; omega
    have hk1 : k0 + 1 ≤ len9 := by omega
    have hkc1 : k0 + 1 ≤ cap9 := by have := HCC.out.1; omega
    have hkI : ((k0 : Int) + 1).toNat = k0 + 1 := by omega
    have hkw : IntKind.i64.wrap ((k0 : Int) + 1) = (k0 : Int) + 1 := IntWalk.i64_in _ (by omega)
    have hk0i : (0 : Int) ≤ (k0 : Int) + 1 := by omega
    have hk9i : (k0 : Int) + 1 ≤ (len9 : Int) := by omega
    have HC9 := Lib.hid HCC.out.1
    have hcap : len9 ≤ cap9 := HCC.out.1
    clear hlx hrow hat4 hxl
    go_wp2
    refine wp_region_held_drew (S := fun W => Kept w8 W) (by kernel_rfl) (Kept.drew _) (fun hHeld => ?_)
    refine wpAnyH_take (i := 1) (v := ?_) (by rw [List.getElem?_toArray]; exact rfl) (by kernel_rfl) (by kernel_rfl) (by kernel_rfl) (by exact fun _ _ _ h => h) (Or.inl ⟨by rfl, (by intro W hSw; obtain hSx := hSw; go_simp <;> with_reducible rfl)⟩) (by assumption) ?_
    try simp only [Act.put, List.setIfInBounds_toArray, List.set_cons_zero, List.set_cons_succ]
    refine wpAnyH_take (i := 2) (v := ?_) (by rw [List.getElem?_toArray]; exact rfl) (by kernel_rfl) (by kernel_rfl) (by kernel_rfl) (by exact fun _ _ _ h => h) (Or.inl ⟨by rfl, (by intro W hSw; obtain hSx := hSw; go_simp <;> with_reducible rfl)⟩) (by assumption) ?_
    try simp only [Act.put, List.setIfInBounds_toArray, List.set_cons_zero, List.set_cons_succ]
    refine wpAnyH_take (i := 3) (v := ?_) (by rw [List.getElem?_toArray]; exact rfl) (by kernel_rfl) (by kernel_rfl) (by kernel_rfl) (by exact fun _ _ _ h => h) (Or.inl ⟨by rfl, (by intro W hSw; obtain hSx := hSw; go_simp <;> with_reducible rfl)⟩) (by assumption) ?_
    try simp only [Act.put, List.setIfInBounds_toArray, List.set_cons_zero, List.set_cons_succ]
    refine wpAnyH_take (i := 5) (v := ?_) (by rw [List.getElem?_toArray]; exact rfl) (by kernel_rfl) (by kernel_rfl) (by kernel_rfl) (by exact fun _ _ _ h => h) (Or.inl ⟨by rfl, (by intro W hSw; obtain hSx := hSw; go_simp <;> with_reducible rfl)⟩) (by assumption) ?_
    try simp only [Act.put, List.setIfInBounds_toArray, List.set_cons_zero, List.set_cons_succ]
    refine wpAnyH_take (i := 6) (v := ?_) (by rw [List.getElem?_toArray]; exact rfl) (by kernel_rfl) (by kernel_rfl) (by kernel_rfl) (by exact fun _ _ _ h => h) (Or.inl ⟨by rfl, (by intro W hSw; obtain hSx := hSw; go_simp <;> with_reducible rfl)⟩) (by assumption) ?_
    try simp only [Act.put, List.setIfInBounds_toArray, List.set_cons_zero, List.set_cons_succ]
    refine wpAnyH_take (i := 7) (v := ?_) (by rw [List.getElem?_toArray]; exact rfl) (by kernel_rfl) (by kernel_rfl) (by kernel_rfl) (by exact fun _ _ _ h => h) (Or.inl ⟨by rfl, (by intro W hSw; obtain hSx := hSw; go_simp <;> with_reducible rfl)⟩) (by assumption) ?_
    try simp only [Act.put, List.setIfInBounds_toArray, List.set_cons_zero, List.set_cons_succ]
    refine wpAnyH_take (i := 8) (v := ?_) (by rw [List.getElem?_toArray]; exact rfl) (by kernel_rfl) (by kernel_rfl) (by kernel_rfl) (by exact fun _ _ _ h => h) (Or.inl ⟨by rfl, (by intro W hSw; obtain hSx := hSw; go_simp <;> with_reducible rfl)⟩) (by assumption) ?_
    try simp only [Act.put, List.setIfInBounds_toArray, List.set_cons_zero, List.set_cons_succ]
    refine wpAnyH_ready (rs := [0]) (by kernel_rfl) (by simp) (AllReadyH.cons (by rw [List.getElem?_toArray]; exact rfl) (fun K9 hK9 => ?_) AllReadyH.nil)
    go_simp
    refine hK9.out _ _ ((Kept.drew _).trans (kept_alloc _ _)) (fun hHeld1 => ?_)
    clear hK9 K9
    try simp only [Act.put, List.setIfInBounds_toArray, List.set_cons_zero, List.set_cons_succ]
    refine wpAnyH_ready (rs := [4]) (by kernel_rfl) (by simp) (AllReadyH.cons (by rw [List.getElem?_toArray]; exact rfl) (fun K9 hK9 => ?_) AllReadyH.nil)
    refine step_app_own kindPod _ rfl (.tmp 59) (.tmp 62) rfl w8.heap.size (Below.size hHeld1) _ 0 0 [] rfl ?_ _ k0 (rowCells PodLay0 (lx.take k0)) rfl ?_ (rowCells_one _ _) (RowAt.src (HRP.out.kept hHeld1)) (by unfold maxLen; omega) (by omega) ?_
    · first | exact own_empty w8 _ _ _ (Nat.le_refl _) | exact own_empty w8.drew _ _ _ (Nat.le_refl _) | exact own_empty_at (w8.alloc _) _ _ _ (Nat.le_refl _) _ (by simp)
    · rw [rowCells_length, List.length_take, HXL.out, Nat.min_eq_left (by omega)]; rfl
    rintro g1 cap1 W2 ho1 hd1 hg1
    simp only [Nat.zero_add, List.nil_append] at ho1 ⊢
    have HOW1 := Lib.hid ho1
    have HK2 := Lib.hid (Below.trans hHeld1 hd1)
    refine hK9.out _ _ (HK2.out) (fun hHeld2 => ?_)
    clear hK9 K9 ho1 hd1 hg1
    try simp only [Act.put, List.setIfInBounds_toArray, List.set_cons_zero, List.set_cons_succ]
    refine wpAnyH_ready (rs := [9]) (by kernel_rfl) (by simp) (AllReadyH.cons (by rw [List.getElem?_toArray]; exact rfl) (fun K9 hK9 => ?_) AllReadyH.nil)
    refine step_app_own kindPod _ rfl (.tmp 63) (.tmp 67) rfl w8.heap.size (Below.size hHeld2) _ k0 _ (rowCells PodLay0 (lx.take k0)) rfl HOW1.out _ (len9 - (k0 + 1)) (rowCells PodLay0 (lx.drop (k0 + 1))) rfl ?_ (rowCells_one _ _) ?_ (by unfold maxLen; omega) (by omega) ?_
    · rw [rowCells_length, List.length_drop, HXL.out]; rfl
    · exact src_tail (by have := HRQ.out.kept hHeld2; rw [HXL.out] at this; exact this) HC9.out
    rintro g2 cap2 W3 ho2 hd2 hg2
    have HOW2 := Lib.hid ho2
    have HK3 := Lib.hid (Below.trans hHeld2 hd2)
    refine hK9.out _ _ (HK3.out) (fun hHeld3 => ?_)
    clear hK9 K9 ho2 hd2 hg2
    try simp only [Act.put, List.setIfInBounds_toArray, List.set_cons_zero, List.set_cons_succ]
    refine wpAnyH_take (i := 10) (v := ?_) (by rw [List.getElem?_toArray]; exact rfl) (by kernel_rfl) (by kernel_rfl) (by kernel_rfl) (by exact fun _ _ _ h => h) (Or.inl ⟨by rfl, (by intro W hSw; obtain hSx := hSw; go_simp <;> with_reducible rfl)⟩) (by assumption) ?_
    try simp only [Act.put, List.setIfInBounds_toArray, List.set_cons_zero, List.set_cons_succ]
    refine wpAnyH_done (by kernel_rfl) ?_ _
    obtain ⟨A2, hA2⟩ : ∃ A, (if cap9 = k0 + 1 then some (⟨b, off, none⟩ : Addr) else some ⟨b, off + (k0 + 1) * 11, none⟩) = A := ⟨_, rfl⟩
    rw [hA2]
    clear hA2
    have HP := Lib.hid (show PodsR W3 (.slice (some ⟨g2, 0, none⟩) (k0 + (len9 - (k0 + 1))) cap2) (cutP l k0) by
      have ho : Own PodLay0 30 W3 w8.heap.size (.slice (some ⟨g2, 0, none⟩) (k0 + (len9 - (k0 + 1))) cap2) (cutP lx k0) := by
        refine ⟨?_, fun _ _ => trivial⟩
        have hl : (cutP lx k0).length = k0 + (len9 - (k0 + 1)) := by
          unfold cutP
          rw [List.length_append, List.length_take, List.length_drop, HXL.out]; omega
        rw [hl]
        unfold cutP
        rw [rowCells_append]
        exact HOW2.out
      have := pods_own ho (fun z hz => PodAt.kept (HAT.out z (cutP_mem hz)) HK3.out)
      rw [cutP_map, HLX.out] at this
      exact this)
    have HO7 := Lib.hid (HO7.out.kept HK3.out)
    have K := Lib.hid (K.out.trans HK3.out)
    obtain ⟨nx, hnx⟩ : ∃ x, brkB bs (cutP l k0) = x := ⟨_, rfl⟩
    have HNX := Lib.hid hnx
    have HB9 := Lib.hid (brkR (x := nx) (show BudsR W3 (.slice a len cap) bs from ⟨a, cap, by rw [HLEN.out], by rw [HLEN.out]; exact HCB.out.1, HCB.out.2, by rw [HLEN.out]; exact HB.out.kept K.out⟩) HP.out (by rw [HLEN.out]; omega) hnx)
    clear hnx hHeld hHeld1 hHeld2 hHeld3
    go_wp2_with fail
    refine (HB9.out).mono ?_
    rintro e w9 ⟨v9, rfl, h9, k⟩
    have HO7 := Lib.hid (HO7.out.kept k)
    have HO9 := Lib.hid h9
    clear h9
    have K := Lib.hid (K.out.trans k)
    clear k
    cases y2 with
    | true =>
      have HQ := Lib.hid (show nx = nm by rw [← HNX.out, ← HNM.out]; exact goes_true HCP.out HN.out HAW.out)
      have HO10 := Lib.hid (show Reads StrLay w9 v9 nm by have := HO9.out; rw [HQ.out] at this; exact this)
      go_wp2_with fail
      refine (names_k HO7.out HO10.out).mono ?_
      rintro e w10 ⟨rfl, k⟩
      have K := Lib.hid (K.out.trans k)
      clear k
      go_wp2
      go_ret
      exact ⟨rfl, K.out⟩
    | false =>
      have HQ := Lib.hid (show 0 < nx.length by rw [← HNX.out]; exact goes_false HCP.out HN.out HAW.out)
      obtain ⟨a10, c10, rfl, -, -, -⟩ := HO9.out
      obtain ⟨m10, hm10⟩ : ∃ m, nx.length = m := ⟨_, rfl⟩
      rw [hm10] at HQ ⊢
      have hq := HQ.out
      have hq1 : (0 : Int) < (m10 : Int) := by omega
      clear hm10
      go_wp2
      go_ret
      exact ⟨rfl, K.out⟩

end Go.Proofs.YtflllkpnkcmegaaGreatDoor
