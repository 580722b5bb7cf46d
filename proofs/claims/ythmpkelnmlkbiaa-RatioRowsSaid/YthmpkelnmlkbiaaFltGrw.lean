/- The least and the greatest as one value each, and that the world only grows. -/
import Derived.Test.YthmpkelnmlkbiaaFltLeast
namespace Go.Proofs.Ythmpkelnmlkbiaa
open Go.RowKit Go.Sort
set_option linter.unusedVariables false

/-- Some draws, some blocks laid behind. -/
def Grw (w w' : World) : Prop := ∃ q os, w' = grow (w.drewN q) os
theorem Grw.refl (w : World) : Grw w w := ⟨0, #[], by rw [grow_empty]; rfl⟩
theorem Grw.grown {w W : World} (h : Grw w W) (n : Nat) (os : Array Obj) : Grw w (grow (W.drewN n) os) := by
  obtain ⟨q, os0, rfl⟩ := h
  exact ⟨q + n, os0 ++ os, by show grow (grow ((w.drewN q).drewN n) os0) os = _; rw [grow_grow, World.drewN_drewN]⟩
theorem Grw.trans {a b c : World} (h : Grw a b) (k : Grw b c) : Grw a c := by
  obtain ⟨q, os, rfl⟩ := k
  exact h.grown q os
theorem Grw.alloc (w : World) (o : Obj) : Grw w (w.alloc o) := ⟨0, #[o], alloc_eq_grow _ _⟩
theorem kept_grow (w : World) (n : Nat) (os : Array Obj) : Kept w (grow (w.drewN n) os) := Go.Lib.below_grow w.heap.size w (Nat.le_refl _) n os
theorem Grw.kept {w w' : World} (h : Grw w w') : Kept w w' := by
  obtain ⟨q, os, rfl⟩ := h
  exact kept_grow w q os
theorem CP.grw {x y : Nat} {w : World} {e : Ending} {w' : World} (h : CP x y w e w') : e = .returned (.int .i64 (cp x y)) ∧ Grw w w' := by
  obtain ⟨rfl, c, t, rfl⟩ := h
  exact ⟨rfl, Grw.alloc _ _⟩

def lowV (l : List Nat) : Nat → Nat
  | 0 => l.getD 0 0
  | k + 1 => if cp (l.getD k 0) (lowV l k) < 0 then l.getD k 0 else lowV l k
def highV (l : List Nat) : Nat → Nat
  | 0 => l.getD 0 0
  | k + 1 => if 0 < cp (l.getD k 0) (highV l k) then l.getD k 0 else highV l k
theorem lowV_low (l : List Nat) : ∀ k, Low l (k + 1) (lowV l (k + 1))
  | 0 => by rw [lowV, lowV, cp_self, if_neg (by omega)]; exact low_one l
  | k + 1 => by
    rw [lowV]
    split
    · rename_i h; exact low_take (lowV_low l k) h
    · rename_i h; exact low_skip (lowV_low l k) rfl (by omega)
theorem highV_high (l : List Nat) : ∀ k, High l (k + 1) (highV l (k + 1))
  | 0 => by rw [highV, highV, cp_self, if_neg (by omega)]; exact high_one l
  | k + 1 => by
    rw [highV]
    split
    · rename_i h; exact high_take (highV_high l k) h
    · rename_i h; exact high_skip (highV_high l k) rfl (by omega)


set_option maxHeartbeats 800000 in
theorem minf_grw (a : Option Addr) (len cap : Nat) (l : List Nat) (w : World) (hr : FRow w a len l) (h0 : 0 < len) :
    Calls Try.prog 37 #[.slice a len cap, .func (.func 13) #[] #[]] w fun e w' => e = .returned (.float .f64 (lowV l len)) ∧ Grw w w' := by
  obtain ⟨hl, hm, hx, hc⟩ := hr
  unfold maxLen at hm
  rcases hc with rfl | ⟨b, off, rfl, hb, hc⟩
  · omega
  · have HC := Lib.hid hc
    have HB := Lib.hid hb
    have c0 := hc 0 h0
    rw [Nat.add_zero] at c0
    have ec := enters_compare
    clear hc hb hx hl
    have V1 : lowV l 1 = l.getD 0 0 := by rw [lowV, lowV, cp_self, if_neg (by omega)]
    obtain ⟨z, hz⟩ : ∃ z, l.getD 0 0 = z := ⟨_, rfl⟩
    rw [hz] at c0 V1
    have HZ := Lib.hid V1
    clear hz V1
    go_enter Try.func37, Try.ntmps37
    go_wp2
    go_loopw [5, 6] (fun m i wr => ∃ k r : Nat, 1 ≤ k ∧ k ≤ len ∧ i = .int .i64 k ∧ m = .float .f64 r ∧ lowV l k = r ∧ Grw w wr) (fun _ i _ => len - (intOf i).toNat)
    case atStart => exact ⟨1, z, by omega, by omega, rfl, rfl, HZ.out, Grw.refl _⟩
    case round =>
      obtain ⟨k, r, hk1, hk, rfl, rfl, hd, hkw⟩ := hrel
      have HD := Lib.hid hd
      have HK := Lib.hid hkw
      clear hd hkw
      by_cases hlt : k < len
      · have c := (Below.cell HK.out.kept (p := ⟨b, off + k, none⟩) HB.out).trans (HC.out k hlt)
        obtain ⟨x, ex⟩ : ∃ x, l.getD k 0 = x := ⟨_, rfl⟩
        rw [ex] at c
        have EX := Lib.hid ex
        have CM := Lib.hid (compare_any x r)
        clear ex
        by_cases hcp : cp x r < 0
        · have HH := Lib.hid (show lowV l (k + 1) = x by rw [lowV, HD.out, EX.out, if_pos hcp])
          go_wp2_with fail
          refine (CM.out _).mono ?_
          rintro e w1 h
          obtain ⟨rfl, hk1⟩ := h.grw
          have K2 := Lib.hid (HK.out.trans hk1)
          have c1 := (Below.cell hk1.kept (p := ⟨b, off + k, none⟩) (Nat.lt_of_lt_of_le HB.out HK.out.kept.size)).trans c
          clear c hk1 h
          generalize hq : cp x r = q at hcp
          have HQ := Lib.hid hq
          clear hq
          go_wp2
          go_roundw
          case rel => exact ⟨k + 1, x, by omega, by omega, by go_num, rfl, HH.out, K2.out⟩
          case measure => simp [intOf]; omega
        · have HH := Lib.hid (show lowV l (k + 1) = r by rw [lowV, HD.out, EX.out, if_neg hcp])
          go_wp2_with fail
          refine (CM.out _).mono ?_
          rintro e w1 h
          obtain ⟨rfl, hk1⟩ := h.grw
          have K2 := Lib.hid (HK.out.trans hk1)
          clear c hk1 h
          generalize hq : cp x r = q at hcp
          have HQ := Lib.hid hq
          clear hq
          go_wp2
          go_roundw
          case rel => exact ⟨k + 1, r, by omega, by omega, by go_num, rfl, HH.out, K2.out⟩
          case measure => simp [intOf]; omega
      · have ek : k = len := by omega
        subst ek
        go_wp2
        go_ret
        exact ⟨by rw [HD.out]; rfl, HK.out⟩

theorem least_grw (a : Option Addr) (len cap : Nat) (l : List Nat) (w : World) (hr : FRow w a len l) (h0 : 0 < len) :
    Calls Try.prog 22 #[.slice a len cap] w fun e w' => e = .returned (.float .f64 (lowV l len)) ∧ Grw w w' := by
  have hm := hr.2.1
  unfold maxLen at hm
  have HM := Lib.hid (minf_grw a len cap l w hr h0)
  have hb0 : ((len : Int) == 0) = false := by simp; omega
  generalize lowV l len = z at HM ⊢
  clear hr
  go_enter Try.func22, Try.ntmps22
  go_wp2_with fail
  refine HM.out.mono ?_
  rintro e w1 ⟨rfl, hk⟩
  have H3 := Lib.hid hk
  clear hk
  go_wp2_with fail
  go_ret
  exact ⟨rfl, H3.out⟩


set_option maxHeartbeats 800000 in
theorem maxf_grw (a : Option Addr) (len cap : Nat) (l : List Nat) (w : World) (hr : FRow w a len l) (h0 : 0 < len) :
    Calls Try.prog 39 #[.slice a len cap, .func (.func 13) #[] #[]] w fun e w' => e = .returned (.float .f64 (highV l len)) ∧ Grw w w' := by
  obtain ⟨hl, hm, hx, hc⟩ := hr
  unfold maxLen at hm
  rcases hc with rfl | ⟨b, off, rfl, hb, hc⟩
  · omega
  · have HC := Lib.hid hc
    have HB := Lib.hid hb
    have c0 := hc 0 h0
    rw [Nat.add_zero] at c0
    have ec := enters_compare
    clear hc hb hx hl
    have V1 : highV l 1 = l.getD 0 0 := by rw [highV, highV, cp_self, if_neg (by omega)]
    obtain ⟨z, hz⟩ : ∃ z, l.getD 0 0 = z := ⟨_, rfl⟩
    rw [hz] at c0 V1
    have HZ := Lib.hid V1
    clear hz V1
    go_enter Try.func39, Try.ntmps39
    go_wp2
    go_loopw [5, 6] (fun m i wr => ∃ k r : Nat, 1 ≤ k ∧ k ≤ len ∧ i = .int .i64 k ∧ m = .float .f64 r ∧ highV l k = r ∧ Grw w wr) (fun _ i _ => len - (intOf i).toNat)
    case atStart => exact ⟨1, z, by omega, by omega, rfl, rfl, HZ.out, Grw.refl _⟩
    case round =>
      obtain ⟨k, r, hk1, hk, rfl, rfl, hd, hkw⟩ := hrel
      have HD := Lib.hid hd
      have HK := Lib.hid hkw
      clear hd hkw
      by_cases hlt : k < len
      · have c := (Below.cell HK.out.kept (p := ⟨b, off + k, none⟩) HB.out).trans (HC.out k hlt)
        obtain ⟨x, ex⟩ : ∃ x, l.getD k 0 = x := ⟨_, rfl⟩
        rw [ex] at c
        have EX := Lib.hid ex
        have CM := Lib.hid (compare_any x r)
        clear ex
        by_cases hcp : 0 < cp x r
        · have HH := Lib.hid (show highV l (k + 1) = x by rw [highV, HD.out, EX.out, if_pos hcp])
          go_wp2_with fail
          refine (CM.out _).mono ?_
          rintro e w1 h
          obtain ⟨rfl, hk1⟩ := h.grw
          have K2 := Lib.hid (HK.out.trans hk1)
          have c1 := (Below.cell hk1.kept (p := ⟨b, off + k, none⟩) (Nat.lt_of_lt_of_le HB.out HK.out.kept.size)).trans c
          clear c hk1 h
          generalize hq : cp x r = q at hcp
          have HQ := Lib.hid hq
          clear hq
          go_wp2
          go_roundw
          case rel => exact ⟨k + 1, x, by omega, by omega, by go_num, rfl, HH.out, K2.out⟩
          case measure => simp [intOf]; omega
        · have HH := Lib.hid (show highV l (k + 1) = r by rw [highV, HD.out, EX.out, if_neg hcp])
          go_wp2_with fail
          refine (CM.out _).mono ?_
          rintro e w1 h
          obtain ⟨rfl, hk1⟩ := h.grw
          have K2 := Lib.hid (HK.out.trans hk1)
          clear c hk1 h
          generalize hq : cp x r = q at hcp
          have HQ := Lib.hid hq
          clear hq
          go_wp2
          go_roundw
          case rel => exact ⟨k + 1, r, by omega, by omega, by go_num, rfl, HH.out, K2.out⟩
          case measure => simp [intOf]; omega
      · have ek : k = len := by omega
        subst ek
        go_wp2
        go_ret
        exact ⟨by rw [HD.out]; rfl, HK.out⟩

theorem most_grw (a : Option Addr) (len cap : Nat) (l : List Nat) (w : World) (hr : FRow w a len l) (h0 : 0 < len) :
    Calls Try.prog 24 #[.slice a len cap] w fun e w' => e = .returned (.float .f64 (highV l len)) ∧ Grw w w' := by
  have hm := hr.2.1
  unfold maxLen at hm
  have HM := Lib.hid (maxf_grw a len cap l w hr h0)
  have hb0 : ((len : Int) == 0) = false := by simp; omega
  generalize highV l len = z at HM ⊢
  clear hr
  go_enter Try.func24, Try.ntmps24
  go_wp2_with fail
  refine HM.out.mono ?_
  rintro e w1 ⟨rfl, hk⟩
  have H3 := Lib.hid hk
  clear hk
  go_wp2_with fail
  go_ret
  exact ⟨rfl, H3.out⟩

end Go.Proofs.Ythmpkelnmlkbiaa
