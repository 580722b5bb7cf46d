/- RatioSorted: in order each is not ahead of the one ahead of it; nothing came, nothing went. -/
import Derived.Test.YthmpkelnmlkbiaaFltKnownW
import Derived.Test.YthmpkelnmlkbiaaFltGrw
import Derived.Test.YthmpkelnmlkbiaaStab60
import Derived.Test.YthmpkelnmlkbiaaFltOpen
namespace Go.Proofs.Ythmpkelnmlkbiaa
open Go.RowKit Go.Sort
set_option linter.unusedVariables false

/-- How many of the first k are alike to z. -/
def cntTo (l : List Nat) (z : Nat) : Nat → Nat
  | 0 => 0
  | k + 1 => cntTo l z k + if cp (l.getD k 0) z = 0 then 1 else 0
theorem cntTo_le (l : List Nat) (z : Nat) : ∀ k, cntTo l z k ≤ k
  | 0 => Nat.le_refl _
  | k + 1 => by have := cntTo_le l z k; rw [cntTo]; split <;> omega
theorem cntTo_take (l : List Nat) (z : Nat) : ∀ k, k ≤ l.length → cntTo l z k = (l.take k).countP (fun x => decide (cp x z = 0))
  | 0, _ => by simp [cntTo]
  | k + 1, h => by
    rw [cntTo, cntTo_take l z k (by omega), List.take_succ_eq_append_getElem (by omega), List.countP_append]
    have e : l.getD k 0 = l[k] := by simp [List.getD, show k < l.length by omega]
    rw [e]
    by_cases g : cp l[k] z = 0
    · simp [g]
    · simp [g]
theorem cntTo_perm {s l : List Nat} (h : s.Perm l) (z n : Nat) (hs : s.length = n) (hl : l.length = n) : cntTo s z n = cntTo l z n := by
  rw [cntTo_take s z n (by omega), cntTo_take l z n (by omega), List.take_of_length_le (by omega), List.take_of_length_le (by omega)]
  exact h.countP_eq _

theorem cp_asc {s : List Nat} (h : Asc s) {i : Nat} (h0 : 0 < i) (hi : i < s.length) : ¬ 0 < cp (s.getD (i - 1) 0) (s.getD i 0) := by
  have := h (i - 1) i (by omega) hi
  unfold cp; omega

theorem asc_first {s l : List Nat} (h : Asc s) (hp : s.Perm l) (h0 : 0 < l.length) : cp (s.getD 0 0) (lowV l l.length) = 0 := by
  have hlen := hp.length_eq
  obtain ⟨n, hn⟩ : ∃ n, l.length = n + 1 := ⟨l.length - 1, by omega⟩
  have hL := lowV_low l n
  rw [← hn] at hL
  obtain ⟨⟨j, hj, e⟩, h2⟩ := hL
  rw [cp_zero]
  have m1 : l.getD j 0 ∈ s := hp.mem_iff.2 (getD_mem hj)
  obtain ⟨i, hi, ei⟩ := List.getElem_of_mem m1
  have a1 : key (s.getD 0 0) ≤ key (l.getD j 0) := by
    have e1 : s.getD i 0 = l.getD j 0 := by rw [← ei]; simp [List.getD, hi]
    rw [← e1]
    by_cases hz : i = 0
    · rw [hz]; exact Int.le_refl _
    · exact h 0 i (by omega) hi
  have m2 : s.getD 0 0 ∈ l := hp.mem_iff.1 (getD_mem (by omega))
  obtain ⟨i2, hi2, ei2⟩ := List.getElem_of_mem m2
  have a2 := h2 i2 hi2
  have e2 : l.getD i2 0 = s.getD 0 0 := by rw [← ei2]; simp [List.getD, hi2]
  rw [e2] at a2
  rw [e]
  rw [e] at a2
  omega

theorem asc_last {s l : List Nat} (h : Asc s) (hp : s.Perm l) (h0 : 0 < l.length) : cp (s.getD (l.length - 1) 0) (highV l l.length) = 0 := by
  have hlen := hp.length_eq
  obtain ⟨n, hn⟩ : ∃ n, l.length = n + 1 := ⟨l.length - 1, by omega⟩
  have hL := highV_high l n
  rw [← hn] at hL
  obtain ⟨⟨j, hj, e⟩, h2⟩ := hL
  rw [cp_zero]
  have m1 : l.getD j 0 ∈ s := hp.mem_iff.2 (getD_mem hj)
  obtain ⟨i, hi, ei⟩ := List.getElem_of_mem m1
  have a1 : key (l.getD j 0) ≤ key (s.getD (l.length - 1) 0) := by
    have e1 : s.getD i 0 = l.getD j 0 := by rw [← ei]; simp [List.getD, hi]
    rw [← e1]
    by_cases hz : i = l.length - 1
    · rw [hz]; exact Int.le_refl _
    · exact h i (l.length - 1) (by omega) (by omega)
  have m2 : s.getD (l.length - 1) 0 ∈ l := hp.mem_iff.1 (getD_mem (by omega))
  obtain ⟨i2, hi2, ei2⟩ := List.getElem_of_mem m2
  have a2 := h2 i2 hi2
  have e2 : l.getD i2 0 = s.getD (l.length - 1) 0 := by rw [← ei2]; simp [List.getD, hi2]
  rw [e2] at a2
  rw [e]
  rw [e] at a2
  omega

theorem cmp_grown (x y : Nat) (w : World) : ∀ (n : Nat) (os : Array Obj), Calls Try.prog 13 #[.float .f64 x, .float .f64 y] (grow (w.drewN n) os) fun e w'' => e = .returned (.int .i64 (cp x y)) ∧ ∃ q os', w'' = grow ((grow (w.drewN n) os).drewN q) os' := fun n os => by
  refine (compare_any x y _).mono ?_
  rintro e w' h
  obtain ⟨rfl, q, os', rfl⟩ := h.grw
  exact ⟨rfl, q, os', rfl⟩
theorem alike_grown (x y : Nat) (w : World) : ∀ (n : Nat) (os : Array Obj), Calls Try.prog 15 #[.float .f64 x, .float .f64 y] (grow (w.drewN n) os) fun e w'' => e = .returned (.bool (decide (cp x y = 0))) ∧ ∃ q os', w'' = grow ((grow (w.drewN n) os).drewN q) os' := fun n os => by
  refine (alike_any x y _).mono ?_
  rintro e w' ⟨rfl, q, rfl⟩
  exact ⟨rfl, q, #[], by rw [grow_empty]⟩
theorem least_grown (a : Option Addr) (len cap : Nat) (l : List Nat) (w : World) (hr : FRow w a len l) (h0 : 0 < len) : ∀ (n : Nat) (os : Array Obj), Calls Try.prog 22 #[.slice a len cap] (grow (w.drewN n) os) fun e w'' => e = .returned (.float .f64 (lowV l len)) ∧ ∃ q os', w'' = grow ((grow (w.drewN n) os).drewN q) os' := fun n os =>
  (least_grw a len cap l _ (hr.kept (kept_grow w n os)) h0).mono fun e w' ⟨he, q, os', hw⟩ => ⟨he, q, os', hw⟩
theorem most_grown (a : Option Addr) (len cap : Nat) (l : List Nat) (w : World) (hr : FRow w a len l) (h0 : 0 < len) : ∀ (n : Nat) (os : Array Obj), Calls Try.prog 24 #[.slice a len cap] (grow (w.drewN n) os) fun e w'' => e = .returned (.float .f64 (highV l len)) ∧ ∃ q os', w'' = grow ((grow (w.drewN n) os).drewN q) os' := fun n os =>
  (most_grw a len cap l _ (hr.kept (kept_grow w n os)) h0).mono fun e w' ⟨he, q, os', hw⟩ => ⟨he, q, os', hw⟩

/-- A cell of a row, in every world that has grown of this one. -/
theorem cell_g {w w1 : World} {b off i : Nat} {v : Value} (k : Kept w w1) (hb : b < w.heap.size) (h : w.cell? ⟨b, off + i, none⟩ = some v) : ∀ (n : Nat) (os : Array Obj), (grow (w1.drewN n) os).cell? ⟨b, off + i, none⟩ = some v := fun n os =>
  (Below.cell (k.trans (kept_grow w1 n os)) (p := ⟨b, off + i, none⟩) hb).trans h

set_option maxRecDepth 1000000 in
set_option maxHeartbeats 8000000 in
theorem ratioSorted_walk (a : Option Addr) (len cap : Nat) (l : List Nat) (w : World) (hr : FRow w a len l) :
    Calls Try.prog 7 #[.slice a len cap] w fun e w' => e = .returned (.bool true) ∧ Below w.heap.size w w' := by
  have mixed := mixed_on
  have hm := hr.2.1
  unfold maxLen at hm
  by_cases h40 : 40 < len
  · clear hr
    have h40z : (40 : Int) < (len : Int) := by omega
    go_enter Try.func7, Try.ntmps7
    go_wp2_with fail
    refine (known_any _).mono ?_
    rintro e w0 ⟨rfl, k0⟩
    have K0 := Lib.hid k0
    clear k0
    go_wp2_with fail
    go_ret
    exact ⟨rfl, K0.out⟩
  have h40z : ¬ (40 : Int) < (len : Int) := by omega
  have HL : Hid (l.length = len) := hr.1
  have FR : Hid (FRow w a len l) := hr
  clear hr
  go_enter Try.func7, Try.ntmps7
  go_wp2_with fail
  refine (known_any _).mono ?_
  rintro e w0 ⟨rfl, k0⟩
  have K0 := Lib.hid k0
  clear k0
  go_wp2_with fail
  refine (sort_any stable_any (by omega) a len cap l _ (FR.out.kept K0.out) (by omega)).mono ?_
  rintro e w1 ⟨a1, c1, s, rfl, hf, hp, ha, hk⟩
  rw [HL.out] at hf ⊢
  have F1 : Hid (FRow w1 a1 len s) := hf
  have HP : Hid (s.Perm l) := hp
  have HA : Hid (Asc s) := ha
  have HSL : Hid (s.length = len) := hf.1
  have K1 := Lib.hid (K0.out.trans hk)
  have FL1 : Hid (FRow w1 a len l) := (FR.out.kept K0.out).kept hk
  have q0 : ((len : Int) != (len : Int)) = false := by simp
  clear hf hp ha hk
  by_cases h0 : len = 0
  · subst h0
    go_wp2_with fail
    refine wp_loop_rounds 1 ?_
    rw [rounds_succ]
    go_wp2_with fail
    go_big_region_o
    go_wp2
    go_ret
    exact ⟨rfl, K1.out.drew 1⟩
  obtain ⟨b1, o1, rfl, hb1, hc1⟩ : ∃ b off, a1 = some ⟨b, off, none⟩ ∧ b < w1.heap.size ∧ ∀ i, i < len → w1.cell? ⟨b, off + i, none⟩ = some (.float .f64 (s.getD i 0)) := by
    rcases F1.out.2.2.2 with h | h
    · omega
    · exact h
  obtain ⟨b2, o2, rfl, hb2, hc2⟩ : ∃ b off, a = some ⟨b, off, none⟩ ∧ b < w1.heap.size ∧ ∀ i, i < len → w1.cell? ⟨b, off + i, none⟩ = some (.float .f64 (l.getD i 0)) := by
    rcases FL1.out.2.2.2 with h | h
    · omega
    · exact h
  have B1 := Lib.hid hb1
  have B2 := Lib.hid hb2
  have C1 := Lib.hid hc1
  have C2 := Lib.hid hc2
  clear hb1 hb2 hc1 hc2
  go_wp2_with fail
  go_loopg [4] len (fun g1 vi wr => ∃ i : Nat, vi = .int .i64 i ∧ i ≤ len ∧ len - i ≤ g1 ∧ Hid (Kept w1 wr))
  case atStart => exact ⟨0, rfl, by omega, by omega, Kept.refl _⟩
  case round =>
    obtain ⟨i, rfl, hi, hg1, KW⟩ := hrel
    by_cases hlt : i < len
    · have hltz : (i : Int) < (len : Int) := by omega
      obtain ⟨z, ez⟩ : ∃ z, s.getD i 0 = z := ⟨_, rfl⟩
      have EZ := Lib.hid ez
      clear ez
      go_wp2_with fail
      go_loopg [5, 6, 7] len (fun g2 va vb vk wr => ∃ k : Nat, va = .int .i64 (cntTo s z k : Nat) ∧ vb = .int .i64 (cntTo l z k : Nat) ∧ vk = .int .i64 k ∧ k ≤ len ∧ len - k ≤ g2 ∧ Hid (Kept w1 wr))
      case atStart => exact ⟨0, rfl, rfl, rfl, by omega, by omega, KW.out⟩
      case round =>
        clear KW
        obtain ⟨k, rfl, rfl, rfl, hk, hg2, KW⟩ := hrel
        by_cases hkl : k < len
        · have hkz : (k : Int) < (len : Int) := by omega
          obtain ⟨x, ex⟩ : ∃ x, s.getD k 0 = x := ⟨_, rfl⟩
          obtain ⟨y, ey⟩ : ∃ y, l.getD k 0 = y := ⟨_, rfl⟩
          have l1 := cell_g KW.out B1.out (C1.out k hkl)
          have l2 := cell_g KW.out B1.out (C1.out i hlt)
          rw [ex] at l1
          rw [EZ.out] at l2
          have cz := cmp_grown x z wr
          have n1 := cntTo_le s z k
          have n2 := cntTo_le l z k
          have E1 := Lib.hid (show cntTo s z (k + 1) = cntTo s z k + if cp x z = 0 then 1 else 0 by rw [cntTo, ex])
          have E2 := Lib.hid (show cntTo l z (k + 1) = cntTo l z k + if cp y z = 0 then 1 else 0 by rw [cntTo, ey])
          have EY := Lib.hid ey
          clear ex ey
          obtain ⟨p, ep⟩ : ∃ p, cp x z = p := ⟨_, rfl⟩
          obtain ⟨q, eq⟩ : ∃ p, cp y z = p := ⟨_, rfl⟩
          rw [ep] at cz E1
          rw [eq] at E2
          have EQ := Lib.hid eq
          clear ep eq
          obtain ⟨m1, e1⟩ : ∃ m, cntTo s z k = m := ⟨_, rfl⟩
          obtain ⟨m2, e2⟩ : ∃ m, cntTo l z k = m := ⟨_, rfl⟩
          rw [e1] at E1 n1 ⊢
          rw [e2] at E2 n2 ⊢
          clear e1 e2
          go_wp2_with fail
          go_quiet_grown (first | (go_at_call 13; refine Calls.grown_of (cz _ _)))
          have K2 : Hid (Kept w1 (grow (wr.drewN nq) osq)) := KW.out.trans (kept_grow _ _ _)
          clear l1 l2 cz KW
          generalize grow (wr.drewN nq) osq = w2 at K2 ⊢
          clear nq osq
          by_cases hp : p = 0
          · have bp : (p == 0) = true := by simp [hp]
            have HP0 := Lib.hid hp
            clear hp
            go_wp2_with fail
            have l3 := cell_g K2.out B2.out (C2.out k hkl)
            have l4 := cell_g K2.out B1.out (C1.out i hlt)
            rw [EY.out] at l3
            rw [EZ.out] at l4
            have cz := cmp_grown y z w2
            rw [EQ.out] at cz
            go_quiet_grown (first | (go_at_call 13; refine Calls.grown_of (cz _ _)))
            have K3 : Hid (Kept w1 (grow (w2.drewN nq) osq)) := K2.out.trans (kept_grow _ _ _)
            clear l3 l4 cz
            generalize grow (w2.drewN nq) osq = w3 at K3 ⊢
            clear nq osq
            have hp := HP0.out
            by_cases hq : q = 0
            · have bq : (q == 0) = true := by simp [hq]
              go_wp2
              go_roundg (len - (k + 1))
              case measure => omega
              case rel => exact ⟨k + 1, by rw [E1.out]; rw [if_pos hp]; go_num, by rw [E2.out, if_pos hq]; go_num, by go_num, by omega, Nat.le_refl _, K3.out⟩
            · have bq : (q == 0) = false := by simp [hq]
              go_wp2
              go_roundg (len - (k + 1))
              case measure => omega
              case rel => exact ⟨k + 1, by rw [E1.out]; rw [if_pos hp]; go_num, by rw [E2.out, if_neg hq]; rfl, by go_num, by omega, Nat.le_refl _, K3.out⟩
          · have bp : (p == 0) = false := by simp [hp]
            have HP0 := Lib.hid hp
            clear hp
            go_wp2_with fail
            have l3 := cell_g K2.out B2.out (C2.out k hkl)
            have l4 := cell_g K2.out B1.out (C1.out i hlt)
            rw [EY.out] at l3
            rw [EZ.out] at l4
            have cz := cmp_grown y z w2
            rw [EQ.out] at cz
            go_quiet_grown (first | (go_at_call 13; refine Calls.grown_of (cz _ _)))
            have K3 : Hid (Kept w1 (grow (w2.drewN nq) osq)) := K2.out.trans (kept_grow _ _ _)
            clear l3 l4 cz
            generalize grow (w2.drewN nq) osq = w3 at K3 ⊢
            clear nq osq
            have hp := HP0.out
            by_cases hq : q = 0
            · have bq : (q == 0) = true := by simp [hq]
              go_wp2
              go_roundg (len - (k + 1))
              case measure => omega
              case rel => exact ⟨k + 1, by rw [E1.out]; rw [if_neg hp]; rfl, by rw [E2.out, if_pos hq]; go_num, by go_num, by omega, Nat.le_refl _, K3.out⟩
            · have bq : (q == 0) = false := by simp [hq]
              go_wp2
              go_roundg (len - (k + 1))
              case measure => omega
              case rel => exact ⟨k + 1, by rw [E1.out]; rw [if_neg hp]; rfl, by rw [E2.out, if_neg hq]; rfl, by go_num, by omega, Nat.le_refl _, K3.out⟩
        · have hkz : ¬ (k : Int) < (len : Int) := by omega
          have ek : k = len := by omega
          subst ek
          have ec := cntTo_perm HP.out z k HSL.out HL.out
          obtain ⟨m, em⟩ : ∃ m, cntTo l z k = m := ⟨_, rfl⟩
          rw [ec, em]
          clear ec em
          have q1 : ((m : Int) != (m : Int)) = false := by simp
          by_cases i0 : i = 0
          · subst i0
            go_wp2_with fail
            go_big_region_o
            have K3 : Hid (Kept w1 wr.drew) := KW.out.drew 1
            generalize wr.drew = w3 at K3 ⊢
            clear KW
            go_wp2
            go_roundg (k - (0 + 1))
            case measure => omega
            case rel => exact ⟨1, by go_num, by omega, by omega, K3.out⟩
          · obtain ⟨jN, rfl⟩ : ∃ j, i = j + 1 := ⟨i - 1, by omega⟩
            obtain ⟨kN, hkN⟩ : ∃ q, q = jN + 1 := ⟨_, rfl⟩
            have hgt : (0 : Int) < (jN : Int) + 1 := by omega
            have ea : ((jN : Int) + 1).toNat = kN := by omega
            have pa : (0 : Int) ≤ (jN : Int) + 1 := by omega
            have ba : (jN : Int) + 1 < (k : Int) := by omega
            have bk : (jN : Int) < (k : Int) := by omega
            have ra : IntKind.i64.wrap (jN : Int) = (jN : Int) := by rw [IntKind.wrap_i64]; omega
            obtain ⟨x, ex⟩ : ∃ x, s.getD jN 0 = x := ⟨_, rfl⟩
            have l1 := cell_g KW.out B1.out (C1.out jN (by omega))
            have l2 := cell_g KW.out B1.out (C1.out (jN + 1) (by omega))
            rw [ex] at l1
            rw [EZ.out, ← hkN] at l2
            have cz := cmp_grown x z wr
            have hno : ¬ 0 < cp x z := by
              have := cp_asc HA.out (i := jN + 1) (by omega) (by rw [HSL.out]; omega)
              rw [EZ.out, show jN + 1 - 1 = jN from by omega, ex] at this
              exact this
            clear ex hkN
            obtain ⟨p, ep⟩ : ∃ p, cp x z = p := ⟨_, rfl⟩
            rw [ep] at cz hno
            clear ep
            go_wp2_with fail
            go_quiet_grown (first | (go_at_call 13; refine Calls.grown_of (cz _ _)))
            have K3 : Hid (Kept w1 (grow (wr.drewN nq) osq)) := KW.out.trans (kept_grow _ _ _)
            clear l1 l2 cz KW
            generalize grow (wr.drewN nq) osq = w3 at K3 ⊢
            clear nq osq ea
            go_wp2
            go_roundg (k - (jN + 1 + 1))
            case measure => omega
            case rel => exact ⟨jN + 1 + 1, by first | go_num | (congr 1; omega), by omega, Nat.le_refl _, K3.out⟩
    · have hltz : ¬ (i : Int) < (len : Int) := by omega
      have ei : i = len := by omega
      subst ei
      obtain ⟨n, hn⟩ : ∃ n, n + 1 = i := ⟨i - 1, by omega⟩
      have q1 : ((i : Int) == 0) = false := by simp; omega
      have en : (i : Int) - 1 = (n : Int) := by omega
      have bn : (n : Int) < (i : Int) := by omega
      have bnn : n < i := by omega
      have rn : IntKind.i64.wrap (n : Int) = (n : Int) := by rw [IntKind.wrap_i64]; omega
      have rn2 : IntKind.i64.wrap ((i : Int) - 1) = (n : Int) := by rw [IntKind.wrap_i64]; omega
      have b0 : (0 : Int) < (i : Int) := by omega
      have b00 : 0 < i := by omega
      obtain ⟨x, ex⟩ : ∃ x, s.getD 0 0 = x := ⟨_, rfl⟩
      obtain ⟨y, ey⟩ : ∃ y, s.getD n 0 = y := ⟨_, rfl⟩
      have l1 := cell_g KW.out B1.out (C1.out 0 (by omega))
      have l2 := cell_g KW.out B1.out (C1.out n (by omega))
      rw [ex, Nat.add_zero] at l1
      rw [ey] at l2
      have cl := least_grown (some ⟨b2, o2, none⟩) i cap l wr (FL1.out.kept KW.out) (by omega)
      have cm := most_grown (some ⟨b2, o2, none⟩) i cap l wr (FL1.out.kept KW.out) (by omega)
      have c1' := alike_grown x (lowV l i) wr
      have c2' := alike_grown y (highV l i) wr
      have f1 : decide (cp x (lowV l i) = 0) = true := by
        have := asc_first HA.out HP.out (by rw [HL.out]; omega)
        rw [HL.out, ex] at this; exact decide_eq_true this
      have f2 : decide (cp y (highV l i) = 0) = true := by
        have := asc_last HA.out HP.out (by rw [HL.out]; omega)
        rw [HL.out, show i - 1 = n from by omega, ey] at this; exact decide_eq_true this
      rw [f1] at c1'
      rw [f2] at c2'
      clear f1 f2 ex ey
      generalize lowV l i = u at cl c1'
      generalize highV l i = v at cm c2'
      go_wp2_with fail
      go_quiet_grown (first | (go_at_call 22; refine Calls.grown_of (cl _ _)) | (go_at_call 24; refine Calls.grown_of (cm _ _)) | (go_at_call 15; first | refine Calls.grown_of (c1' _ _) | refine Calls.grown_of (c2' _ _)))
      have K3 : Hid (Kept w1 (grow (wr.drewN nq) osq)) := KW.out.trans (kept_grow _ _ _)
      clear l1 l2 cl cm c1' c2' KW
      generalize grow (wr.drewN nq) osq = w3 at K3 ⊢
      clear nq osq
      go_wp2
      go_ret
      exact ⟨rfl, K1.out.trans K3.out⟩

end Go.Proofs.Ythmpkelnmlkbiaa
