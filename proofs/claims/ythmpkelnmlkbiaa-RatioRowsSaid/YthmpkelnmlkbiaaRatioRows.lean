/- RatioRows: any numbers: the least, the greatest, their mean, in order: over what the reference's Sort does. -/
import Derived.Test.YthmpkelnmlkbiaaFltKnownW
import Derived.Test.YthmpkelnmlkbiaaFltGrw
import Derived.Test.YthmpkelnmlkbiaaStab60
import Derived.Test.YthmpkelnmlkbiaaFltOpen
namespace Go.Proofs.Ythmpkelnmlkbiaa
open Go.RowKit Go.Sort
set_option linter.unusedVariables false

/-- Two rows in order with the same floats are alike place by place. -/
theorem asc_alike {s t l : List Nat} (hs : s.Perm l) (ht : t.Perm l) (ha : Asc s) (hb : Asc t) {i : Nat} (hi : i < l.length) : cp (s.getD i 0) (t.getD i 0) = 0 := by
  have pw : ∀ u : List Nat, Asc u → (u.map key).Pairwise (· ≤ ·) := fun u hu => by
    rw [List.pairwise_iff_getElem]
    intro a b ha' hb' hab
    have := hu a b hab (by simpa using hb')
    simp only [List.length_map] at ha' hb'
    simpa [List.getD, ha', hb'] using this
  have he : s.map key = t.map key :=
    List.Perm.eq_of_pairwise (le := fun a b => a ≤ b) (fun a b _ _ h1 h2 => Int.le_antisymm h1 h2) (pw s ha) (pw t hb) ((hs.trans ht.symm).map key)
  have l1 := hs.length_eq
  have l2 := ht.length_eq
  rw [cp_zero]
  have e1 : (s.map key)[i]? = (t.map key)[i]? := by rw [he]
  have g1 : i < s.length := by omega
  have g2 : i < t.length := by omega
  simp only [List.getElem?_map, List.getElem?_eq_getElem g1, List.getElem?_eq_getElem g2, Option.map_some, Option.some.injEq] at e1
  simpa [List.getD, g1, g2] using e1

theorem alike_grown2 (x y : Nat) (w : World) : ∀ (n : Nat) (os : Array Obj), Calls Try.prog 15 #[.float .f64 x, .float .f64 y] (grow (w.drewN n) os) fun e w'' => e = .returned (.bool (decide (cp x y = 0))) ∧ ∃ q os', w'' = grow ((grow (w.drewN n) os).drewN q) os' := fun n os => by
  refine (alike_any x y _).mono ?_
  rintro e w' ⟨rfl, q, rfl⟩
  exact ⟨rfl, q, #[], by rw [grow_empty]⟩
theorem cell_g2 {w w1 : World} {b off i : Nat} {v : Value} (k : Kept w w1) (hb : b < w.heap.size) (h : w.cell? ⟨b, off + i, none⟩ = some v) : ∀ (n : Nat) (os : Array Obj), (grow (w1.drewN n) os).cell? ⟨b, off + i, none⟩ = some v := fun n os =>
  (Below.cell (k.trans (kept_grow w1 n os)) (p := ⟨b, off + i, none⟩) hb).trans h

theorem frow_cells {w : World} {a : Option Addr} {len : Nat} {l : List Nat} (h : FRow w a len l) (h0 : len ≠ 0) : ∃ b off, a = some ⟨b, off, none⟩ ∧ b < w.heap.size ∧ ∀ i, i < len → w.cell? ⟨b, off + i, none⟩ = some (.float .f64 (l.getD i 0)) := by
  rcases h.2.2.2 with g | g
  · exact absurd g h0
  · exact g

set_option maxRecDepth 1000000 in
set_option maxHeartbeats 8000000 in
theorem ratioRows_of (hS : ∀ (a : Option Addr) (len cap : Nat) (l : List Nat) (w : World), FRow w a len l → len ≤ 60 → Calls Try.prog 21 #[.slice a len cap] w (SRT l w))
    (a : Option Addr) (len cap : Nat) (l : List Nat) (w : World) (hr : FRow w a len l) :
    Calls Try.prog 5 #[.slice a len cap] w fun e w' => e = .returned (.bool true) ∧ Below w.heap.size w w' := by
  have mixed := mixed_on
  have hm := hr.2.1
  unfold maxLen at hm
  by_cases h60 : 60 < len
  · clear hr hS
    have h60z : (60 : Int) < (len : Int) := by omega
    go_enter Try.func5, Try.ntmps5
    go_wp2_with fail
    refine (known_any _).mono ?_
    rintro e w0 ⟨rfl, k0⟩
    have K0 := Lib.hid k0
    clear k0
    go_wp2_with fail
    go_ret
    exact ⟨rfl, K0.out⟩
  have h60z : ¬ (60 : Int) < (len : Int) := by omega
  have HS := Lib.hid hS
  have HL : Hid (l.length = len) := hr.1
  have FR : Hid (FRow w a len l) := hr
  clear hr hS
  go_enter Try.func5, Try.ntmps5
  go_wp2_with fail
  refine (known_any _).mono ?_
  rintro e w0 ⟨rfl, k0⟩
  have K0 := Lib.hid k0
  clear k0
  go_wp2_with fail
  refine (sort_any stable_any (by omega) a len cap l _ (FR.out.kept K0.out) (by omega)).mono ?_
  rintro e w1 ⟨a1, c1, s, rfl, hf, hp, ha, hk⟩
  rw [HL.out] at hf ⊢
  have F1 : Hid (FRow w1 a1 len s) := hf
  have HP : Hid (s.Perm l) := hp
  have HA : Hid (Asc s) := ha
  have K1 := Lib.hid (K0.out.trans hk)
  clear hf hp ha hk
  go_wp2_with fail
  refine (HS.out a len cap l _ (FR.out.kept K1.out) (by omega)).mono ?_
  rintro e w2 ⟨a2, c2, t, rfl, hf, hp, ha, hk⟩
  rw [HL.out] at hf ⊢
  have F2 : Hid (FRow w2 a2 len t) := hf
  have F1' : Hid (FRow w2 a1 len s) := F1.out.kept hk
  have HQ : Hid (t.Perm l) := hp
  have HB : Hid (Asc t) := ha
  have K2 := Lib.hid (K1.out.trans hk)
  clear hf hp ha hk HS
  have q0 : ((len : Int) != (len : Int)) = false := by simp
  go_wp2_with fail
  go_loopg [5] len (fun g1 vi wr => ∃ i : Nat, vi = .int .i64 i ∧ i ≤ len ∧ len - i ≤ g1 ∧ Hid (Kept w2 wr))
  case atStart => exact ⟨0, rfl, by omega, by omega, Kept.refl _⟩
  case round =>
    obtain ⟨i, rfl, hi, hg1, KW⟩ := hrel
    by_cases hlt : i < len
    · have hltz : (i : Int) < (len : Int) := by omega
      obtain ⟨b1, o1, rfl, hb1, hc1⟩ := frow_cells F1'.out (by omega)
      obtain ⟨b2, o2, rfl, hb2, hc2⟩ := frow_cells F2.out (by omega)
      have l1 := cell_g2 KW.out hb1 (hc1 i hlt)
      have l2 := cell_g2 KW.out hb2 (hc2 i hlt)
      have hz : decide (cp (s.getD i 0) (t.getD i 0) = 0) = true := decide_eq_true (asc_alike HP.out HQ.out HA.out HB.out (by rw [HL.out]; exact hlt))
      have cz := alike_grown2 (s.getD i 0) (t.getD i 0) wr
      rw [hz] at cz
      generalize s.getD i 0 = x at l1 cz
      generalize t.getD i 0 = y at l2 cz
      clear hb1 hb2 hc1 hc2 hz
      go_wp2_with fail
      go_quiet_grown (first | (go_at_call 15; refine Calls.grown_of (cz _ _)))
      have K3 : Hid (Kept w2 (grow (wr.drewN nq) osq)) := KW.out.trans (kept_grow _ _ _)
      clear l1 l2 cz KW
      generalize grow (wr.drewN nq) osq = w3 at K3 ⊢
      clear nq osq
      go_wp2
      go_roundg (len - (i + 1))
      case measure => omega
      case rel => exact ⟨i + 1, by go_num, by omega, Nat.le_refl _, K3.out⟩
    · have ei : i = len := by omega
      subst ei
      have KL : Hid (Kept w wr) := K2.out.trans KW.out
      clear KW
      have hz : ¬ (i : Int) < (i : Int) := by omega
      go_wp2_with fail
      refine (least_any a i cap l _ (FR.out.kept KL.out)).mono ?_
      rintro e w3 ⟨r1, rfl, hr1, hk⟩
      have K3 := Lib.hid (KL.out.trans hk)
      have R1 := Lib.hid hr1
      clear hr1 hk
      go_wp2_with fail
      refine (rleast_any a i cap l _ (FR.out.kept K3.out)).mono ?_
      rintro e w4 ⟨r2, rfl, hr2, hk⟩
      have K4 := Lib.hid (K3.out.trans hk)
      have E1 := Lib.hid (low_alike R1.out hr2)
      clear hr2 hk
      go_wp2_with fail
      refine (alike_any r1 r2 _).mono ?_
      rintro e w5 h
      obtain ⟨rfl, hk⟩ := h.kept
      rw [show decide (cp r1 r2 = 0) = true from decide_eq_true E1.out]
      have K5 := Lib.hid (K4.out.trans hk)
      clear h hk
      go_wp2_with fail
      refine (most_any a i cap l _ (FR.out.kept K5.out)).mono ?_
      rintro e w6 ⟨r3, rfl, hr1, hk⟩
      have K6 := Lib.hid (K5.out.trans hk)
      have R3 := Lib.hid hr1
      clear hr1 hk
      go_wp2_with fail
      refine (rmost_any a i cap l _ (FR.out.kept K6.out)).mono ?_
      rintro e w7 ⟨r4, rfl, hr2, hk⟩
      have K7 := Lib.hid (K6.out.trans hk)
      have E2 := Lib.hid (high_alike R3.out hr2)
      clear hr2 hk
      go_wp2_with fail
      refine (alike_any r3 r4 _).mono ?_
      rintro e w8 h
      obtain ⟨rfl, hk⟩ := h.kept
      rw [show decide (cp r3 r4 = 0) = true from decide_eq_true E2.out]
      have K8 := Lib.hid (K7.out.trans hk)
      clear h hk
      go_wp2_with fail
      refine (mean_any a i cap l _ (FR.out.kept K8.out)).mono ?_
      rintro e w9 ⟨r5, rfl, hr1, _, hk⟩
      have K9 := Lib.hid (K8.out.trans hk)
      have R5 := Lib.hid hr1
      clear hr1 hk
      go_wp2_with fail
      refine (rmean_any a i cap l _ (FR.out.kept K9.out)).mono ?_
      rintro e w10 ⟨r6, rfl, hr2, _, hk⟩
      have K10 := Lib.hid (K9.out.trans hk)
      have E3 := Lib.hid (nrm_alike (R5.out.trans hr2.symm))
      clear hr2 hk
      go_wp2_with fail
      refine (alike_any r5 r6 _).mono ?_
      rintro e w11 h
      obtain ⟨rfl, hk⟩ := h.kept
      rw [show decide (cp r5 r6 = 0) = true from decide_eq_true E3.out]
      have K11 := Lib.hid (K10.out.trans hk)
      clear h hk
      go_wp2_with fail
      go_ret
      exact ⟨rfl, K11.out⟩

end Go.Proofs.Ythmpkelnmlkbiaa
