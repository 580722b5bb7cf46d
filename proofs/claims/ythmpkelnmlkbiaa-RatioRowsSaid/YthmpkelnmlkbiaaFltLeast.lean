/- The least and the greatest of floats, of both. -/
import Derived.Test.YthmpkelnmlkbiaaFltSort
namespace Go.Proofs.Ythmpkelnmlkbiaa
open Go.RowKit
set_option linter.unusedVariables false

/-- r is one of the first k, and none of them is ahead of it (behind it). -/
def Low (l : List Nat) (k r : Nat) : Prop := (∃ j, j < k ∧ r = l.getD j 0) ∧ ∀ j, j < k → key r ≤ key (l.getD j 0)
def High (l : List Nat) (k r : Nat) : Prop := (∃ j, j < k ∧ r = l.getD j 0) ∧ ∀ j, j < k → key (l.getD j 0) ≤ key r

theorem low_one (l : List Nat) : Low l 1 (l.getD 0 0) := ⟨⟨0, by omega, rfl⟩, fun j hj => by rw [show j = 0 from by omega]; exact Int.le_refl _⟩
theorem high_one (l : List Nat) : High l 1 (l.getD 0 0) := ⟨⟨0, by omega, rfl⟩, fun j hj => by rw [show j = 0 from by omega]; exact Int.le_refl _⟩
theorem low_take {l : List Nat} {k r : Nat} (h : Low l k r) (hc : cp (l.getD k 0) r < 0) : Low l (k + 1) (l.getD k 0) := by
  have hk : key (l.getD k 0) < key r := by unfold cp at hc; omega
  refine ⟨⟨k, by omega, rfl⟩, fun j hj => ?_⟩
  by_cases g : j = k
  · rw [g]; exact Int.le_refl _
  · have := h.2 j (by omega); omega
theorem low_skip {l : List Nat} {k r x : Nat} (h : Low l k r) (ex : l.getD k 0 = x) (hc : 0 ≤ cp x r) : Low l (k + 1) r := by
  subst ex
  have hk : ¬ key (l.getD k 0) < key r := by unfold cp at hc; omega
  obtain ⟨⟨j0, hj0, e⟩, h2⟩ := h
  refine ⟨⟨j0, by omega, e⟩, fun j hj => ?_⟩
  by_cases g : j = k
  · rw [g]; omega
  · exact h2 j (by omega)
theorem high_take {l : List Nat} {k r : Nat} (h : High l k r) (hc : 0 < cp (l.getD k 0) r) : High l (k + 1) (l.getD k 0) := by
  have hk : key r < key (l.getD k 0) := by unfold cp at hc; omega
  refine ⟨⟨k, by omega, rfl⟩, fun j hj => ?_⟩
  by_cases g : j = k
  · rw [g]; exact Int.le_refl _
  · have := h.2 j (by omega); omega
theorem high_skip {l : List Nat} {k r x : Nat} (h : High l k r) (ex : l.getD k 0 = x) (hc : cp x r ≤ 0) : High l (k + 1) r := by
  subst ex
  have hk : ¬ key r < key (l.getD k 0) := by unfold cp at hc; omega
  obtain ⟨⟨j0, hj0, e⟩, h2⟩ := h
  refine ⟨⟨j0, by omega, e⟩, fun j hj => ?_⟩
  by_cases g : j = k
  · rw [g]; omega
  · exact h2 j (by omega)

/-- What Least (Most) answers: of none: no number. -/
def LowOf (l : List Nat) (r : Nat) : Prop := if l.length = 0 then isNaN r = true else Low l l.length r
def HighOf (l : List Nat) (r : Nat) : Prop := if l.length = 0 then isNaN r = true else High l l.length r
def LST (l : List Nat) (w : World) (e : Ending) (w' : World) : Prop := ∃ r, e = .returned (.float .f64 r) ∧ LowOf l r ∧ Kept w w'
def MST (l : List Nat) (w : World) (e : Ending) (w' : World) : Prop := ∃ r, e = .returned (.float .f64 r) ∧ HighOf l r ∧ Kept w w'


set_option maxHeartbeats 800000 in
theorem minf_any (a : Option Addr) (len cap : Nat) (l : List Nat) (w : World) (hr : FRow w a len l) (h0 : 0 < len) :
    Calls Try.prog 37 #[.slice a len cap, .func (.func 13) #[] #[]] w fun e w' => ∃ r, e = .returned (.float .f64 r) ∧ Low l len r ∧ Kept w w' := by
  obtain ⟨hl, hm, hx, hc⟩ := hr
  unfold maxLen at hm
  rcases hc with rfl | ⟨b, off, rfl, hb, hc⟩
  · omega
  · have HC := Lib.hid hc
    have HB := Lib.hid hb
    have c0 := hc 0 h0
    rw [Nat.add_zero] at c0
    have D0 := Lib.hid (low_one l)
    have ec := enters_compare
    clear hc hb hx hl
    generalize hz : l.getD 0 0 = z at c0
    have HZ := Lib.hid hz
    clear hz
    go_enter Try.func37, Try.ntmps37
    go_wp2
    go_loopw [5, 6] (fun m i wr => ∃ k r : Nat, 1 ≤ k ∧ k ≤ len ∧ i = .int .i64 k ∧ m = .float .f64 r ∧ Low l k r ∧ Kept w wr) (fun _ i _ => len - (intOf i).toNat)
    case atStart => exact ⟨1, z, by omega, by omega, rfl, rfl, HZ.out ▸ D0.out, Kept.refl _⟩
    case round =>
      obtain ⟨k, r, hk1, hk, rfl, rfl, hd, hkw⟩ := hrel
      have HD := Lib.hid hd
      have HK := Lib.hid hkw
      clear hd hkw
      by_cases hlt : k < len
      · have c := (Below.cell HK.out (p := ⟨b, off + k, none⟩) HB.out).trans (HC.out k hlt)
        obtain ⟨x, ex⟩ : ∃ x, l.getD k 0 = x := ⟨_, rfl⟩
        rw [ex] at c
        have EX := Lib.hid ex
        have CM := Lib.hid (compare_any x r)
        clear ex
        by_cases hcp : cp x r < 0
        · have HH := Lib.hid hcp
          go_wp2_with fail
          refine (CM.out _).mono ?_
          rintro e w1 h
          obtain ⟨rfl, hk1⟩ := h.kept
          have K2 := Lib.hid (HK.out.trans hk1)
          have c1 := (Below.cell hk1 (p := ⟨b, off + k, none⟩) (Nat.lt_of_lt_of_le HB.out HK.out.size)).trans c
          clear c hk1 h
          generalize hq : cp x r = q at hcp
          have HQ := Lib.hid hq
          clear hq
          go_wp2
          go_roundw
          case rel => exact ⟨k + 1, x, by omega, by omega, by go_num, rfl, by have := low_take HD.out (EX.out ▸ HH.out); rwa [EX.out] at this, K2.out⟩
          case measure => simp [intOf]; omega
        · have HH := Lib.hid hcp
          go_wp2_with fail
          refine (CM.out _).mono ?_
          rintro e w1 h
          obtain ⟨rfl, hk1⟩ := h.kept
          have K2 := Lib.hid (HK.out.trans hk1)
          clear c hk1 h
          generalize hq : cp x r = q at hcp
          have HQ := Lib.hid hq
          clear hq
          go_wp2
          go_roundw
          case rel => exact ⟨k + 1, r, by omega, by omega, by go_num, rfl, low_skip HD.out EX.out HH.out, K2.out⟩
          case measure => simp [intOf]; omega
      · have ek : k = len := by omega
        subst ek
        go_wp2
        go_ret
        exact ⟨r, rfl, HD.out, HK.out⟩

theorem least_any (a : Option Addr) (len cap : Nat) (l : List Nat) (w : World) (hr : FRow w a len l) :
    Calls Try.prog 22 #[.slice a len cap] w (LST l w) := by
  unfold LST
  have hl := hr.1
  have hm := hr.2.1
  unfold maxLen at hm
  by_cases h0 : len = 0
  · subst h0
    have hd : ∀ r, isNaN r = true → LowOf l r := fun r hn => by unfold LowOf; rw [if_pos hl]; exact hn
    have HD := Lib.hid hd
    have HN := Lib.hid (nan_any)
    clear hd hl hr
    go_enter Try.func22, Try.ntmps22
    go_wp2_with fail
    refine (HN.out _).mono ?_
    rintro e w1 ⟨r, n, rfl, rfl, hn, _⟩
    have H2 := Lib.hid hn
    clear hn
    go_wp2_with fail
    go_ret
    exact ⟨r, rfl, HD.out r H2.out, Kept.drewN _ _⟩
  · have HM := Lib.hid (minf_any a len cap l w hr (by omega))
    have hd : ∀ r, Low l len r → LowOf l r := fun r hn => by unfold LowOf; rw [if_neg (by omega), hl]; exact hn
    have HD := Lib.hid hd
    clear hr hd hl
    go_enter Try.func22, Try.ntmps22
    go_wp2_with fail
    refine HM.out.mono ?_
    rintro e w1 ⟨r, rfl, hn, hk⟩
    have H2 := Lib.hid hn
    have H3 := Lib.hid hk
    clear hn hk
    go_wp2_with fail
    go_ret
    exact ⟨r, rfl, HD.out r H2.out, H3.out⟩


set_option maxHeartbeats 800000 in
theorem maxf_any (a : Option Addr) (len cap : Nat) (l : List Nat) (w : World) (hr : FRow w a len l) (h0 : 0 < len) :
    Calls Try.prog 39 #[.slice a len cap, .func (.func 13) #[] #[]] w fun e w' => ∃ r, e = .returned (.float .f64 r) ∧ High l len r ∧ Kept w w' := by
  obtain ⟨hl, hm, hx, hc⟩ := hr
  unfold maxLen at hm
  rcases hc with rfl | ⟨b, off, rfl, hb, hc⟩
  · omega
  · have HC := Lib.hid hc
    have HB := Lib.hid hb
    have c0 := hc 0 h0
    rw [Nat.add_zero] at c0
    have D0 := Lib.hid (high_one l)
    have ec := enters_compare
    clear hc hb hx hl
    generalize hz : l.getD 0 0 = z at c0
    have HZ := Lib.hid hz
    clear hz
    go_enter Try.func39, Try.ntmps39
    go_wp2
    go_loopw [5, 6] (fun m i wr => ∃ k r : Nat, 1 ≤ k ∧ k ≤ len ∧ i = .int .i64 k ∧ m = .float .f64 r ∧ High l k r ∧ Kept w wr) (fun _ i _ => len - (intOf i).toNat)
    case atStart => exact ⟨1, z, by omega, by omega, rfl, rfl, HZ.out ▸ D0.out, Kept.refl _⟩
    case round =>
      obtain ⟨k, r, hk1, hk, rfl, rfl, hd, hkw⟩ := hrel
      have HD := Lib.hid hd
      have HK := Lib.hid hkw
      clear hd hkw
      by_cases hlt : k < len
      · have c := (Below.cell HK.out (p := ⟨b, off + k, none⟩) HB.out).trans (HC.out k hlt)
        obtain ⟨x, ex⟩ : ∃ x, l.getD k 0 = x := ⟨_, rfl⟩
        rw [ex] at c
        have EX := Lib.hid ex
        have CM := Lib.hid (compare_any x r)
        clear ex
        by_cases hcp : 0 < cp x r
        · have HH := Lib.hid hcp
          go_wp2_with fail
          refine (CM.out _).mono ?_
          rintro e w1 h
          obtain ⟨rfl, hk1⟩ := h.kept
          have K2 := Lib.hid (HK.out.trans hk1)
          have c1 := (Below.cell hk1 (p := ⟨b, off + k, none⟩) (Nat.lt_of_lt_of_le HB.out HK.out.size)).trans c
          clear c hk1 h
          generalize hq : cp x r = q at hcp
          have HQ := Lib.hid hq
          clear hq
          go_wp2
          go_roundw
          case rel => exact ⟨k + 1, x, by omega, by omega, by go_num, rfl, by have := high_take HD.out (EX.out ▸ HH.out); rwa [EX.out] at this, K2.out⟩
          case measure => simp [intOf]; omega
        · have HH := Lib.hid hcp
          go_wp2_with fail
          refine (CM.out _).mono ?_
          rintro e w1 h
          obtain ⟨rfl, hk1⟩ := h.kept
          have K2 := Lib.hid (HK.out.trans hk1)
          clear c hk1 h
          generalize hq : cp x r = q at hcp
          have HQ := Lib.hid hq
          clear hq
          go_wp2
          go_roundw
          case rel => exact ⟨k + 1, r, by omega, by omega, by go_num, rfl, high_skip HD.out EX.out HH.out, K2.out⟩
          case measure => simp [intOf]; omega
      · have ek : k = len := by omega
        subst ek
        go_wp2
        go_ret
        exact ⟨r, rfl, HD.out, HK.out⟩

theorem most_any (a : Option Addr) (len cap : Nat) (l : List Nat) (w : World) (hr : FRow w a len l) :
    Calls Try.prog 24 #[.slice a len cap] w (MST l w) := by
  unfold MST
  have hl := hr.1
  have hm := hr.2.1
  unfold maxLen at hm
  by_cases h0 : len = 0
  · subst h0
    have hd : ∀ r, isNaN r = true → HighOf l r := fun r hn => by unfold HighOf; rw [if_pos hl]; exact hn
    have HD := Lib.hid hd
    have HN := Lib.hid (nan_any)
    clear hd hl hr
    go_enter Try.func24, Try.ntmps24
    go_wp2_with fail
    refine (HN.out _).mono ?_
    rintro e w1 ⟨r, n, rfl, rfl, hn, _⟩
    have H2 := Lib.hid hn
    clear hn
    go_wp2_with fail
    go_ret
    exact ⟨r, rfl, HD.out r H2.out, Kept.drewN _ _⟩
  · have HM := Lib.hid (maxf_any a len cap l w hr (by omega))
    have hd : ∀ r, High l len r → HighOf l r := fun r hn => by unfold HighOf; rw [if_neg (by omega), hl]; exact hn
    have HD := Lib.hid hd
    clear hr hd hl
    go_enter Try.func24, Try.ntmps24
    go_wp2_with fail
    refine HM.out.mono ?_
    rintro e w1 ⟨r, rfl, hn, hk⟩
    have H2 := Lib.hid hn
    have H3 := Lib.hid hk
    clear hn hk
    go_wp2_with fail
    go_ret
    exact ⟨r, rfl, HD.out r H2.out, H3.out⟩


set_option maxHeartbeats 800000 in
theorem rleast_any (a : Option Addr) (len cap : Nat) (l : List Nat) (w : World) (hr : FRow w a len l) :
    Calls Try.prog 23 #[.slice a len cap] w (LST l w) := by
  unfold LST
  obtain ⟨hl, hm, hx, hc⟩ := hr
  unfold maxLen at hm
  by_cases h0 : len = 0
  · subst h0
    have hd : ∀ r, isNaN r = true → LowOf l r := fun r hn => by unfold LowOf; rw [if_pos hl]; exact hn
    have HD := Lib.hid hd
    have HN := Lib.hid (rnan_any)
    clear hd hl hc hx
    go_enter Try.func23, Try.ntmps23
    go_wp2_with fail
    refine (HN.out _).mono ?_
    rintro e w1 ⟨r, n, rfl, rfl, hn, _⟩
    have H2 := Lib.hid hn
    clear hn
    go_wp2_with fail
    go_ret
    exact ⟨r, rfl, HD.out r H2.out, Kept.drewN _ _⟩
  rcases hc with rfl | ⟨b, off, rfl, hb, hc⟩
  · omega
  · have hd : ∀ r, Low l len r → LowOf l r := fun r hn => by unfold LowOf; rw [if_neg (by omega), hl]; exact hn
    have HE := Lib.hid hd
    have HC := Lib.hid hc
    have HB := Lib.hid hb
    have c0 := hc 0 (by omega)
    have hb0 : ((len : Int) == 0) = false := by simp; omega
    rw [Nat.add_zero] at c0
    have D0 := Lib.hid (low_one l)
    clear hc hb hx hl hd
    generalize hz : l.getD 0 0 = z at c0
    have HZ := Lib.hid hz
    clear hz
    go_enter Try.func23, Try.ntmps23
    go_wp2
    go_loopw [3, 4] (fun m i wr => ∃ k r : Nat, 1 ≤ k ∧ k ≤ len ∧ i = .int .i64 k ∧ m = .float .f64 r ∧ Low l k r ∧ Kept w wr) (fun _ i _ => len - (intOf i).toNat)
    case atStart => exact ⟨1, z, by omega, by omega, rfl, rfl, HZ.out ▸ D0.out, Kept.refl _⟩
    case round =>
      obtain ⟨k, r, hk1, hk, rfl, rfl, hd, hkw⟩ := hrel
      have HD := Lib.hid hd
      have HK := Lib.hid hkw
      clear hd hkw
      by_cases hlt : k < len
      · have c := (Below.cell HK.out (p := ⟨b, off + k, none⟩) HB.out).trans (HC.out k hlt)
        obtain ⟨x, ex⟩ : ∃ x, l.getD k 0 = x := ⟨_, rfl⟩
        rw [ex] at c
        have EX := Lib.hid ex
        have CM := Lib.hid (rcompare_any x r)
        clear ex
        by_cases hcp : cp x r < 0
        · have HH := Lib.hid hcp
          go_wp2_with fail
          refine (CM.out _).mono ?_
          rintro e w1 h
          obtain ⟨rfl, hk1⟩ := h.kept
          have K2 := Lib.hid (HK.out.trans hk1)
          have c1 := (Below.cell hk1 (p := ⟨b, off + k, none⟩) (Nat.lt_of_lt_of_le HB.out HK.out.size)).trans c
          clear c hk1 h
          generalize hq : cp x r = q at hcp
          have HQ := Lib.hid hq
          clear hq
          go_wp2
          go_roundw
          case rel => exact ⟨k + 1, x, by omega, by omega, by go_num, rfl, by have := low_take HD.out (EX.out ▸ HH.out); rwa [EX.out] at this, K2.out⟩
          case measure => simp [intOf]; omega
        · have HH := Lib.hid hcp
          go_wp2_with fail
          refine (CM.out _).mono ?_
          rintro e w1 h
          obtain ⟨rfl, hk1⟩ := h.kept
          have K2 := Lib.hid (HK.out.trans hk1)
          clear c hk1 h
          generalize hq : cp x r = q at hcp
          have HQ := Lib.hid hq
          clear hq
          go_wp2
          go_roundw
          case rel => exact ⟨k + 1, r, by omega, by omega, by go_num, rfl, low_skip HD.out EX.out HH.out, K2.out⟩
          case measure => simp [intOf]; omega
      · have ek : k = len := by omega
        subst ek
        go_wp2
        go_ret
        exact ⟨r, rfl, HE.out r HD.out, HK.out⟩


set_option maxHeartbeats 800000 in
theorem rmost_any (a : Option Addr) (len cap : Nat) (l : List Nat) (w : World) (hr : FRow w a len l) :
    Calls Try.prog 25 #[.slice a len cap] w (MST l w) := by
  unfold MST
  obtain ⟨hl, hm, hx, hc⟩ := hr
  unfold maxLen at hm
  by_cases h0 : len = 0
  · subst h0
    have hd : ∀ r, isNaN r = true → HighOf l r := fun r hn => by unfold HighOf; rw [if_pos hl]; exact hn
    have HD := Lib.hid hd
    have HN := Lib.hid (rnan_any)
    clear hd hl hc hx
    go_enter Try.func25, Try.ntmps25
    go_wp2_with fail
    refine (HN.out _).mono ?_
    rintro e w1 ⟨r, n, rfl, rfl, hn, _⟩
    have H2 := Lib.hid hn
    clear hn
    go_wp2_with fail
    go_ret
    exact ⟨r, rfl, HD.out r H2.out, Kept.drewN _ _⟩
  rcases hc with rfl | ⟨b, off, rfl, hb, hc⟩
  · omega
  · have hd : ∀ r, High l len r → HighOf l r := fun r hn => by unfold HighOf; rw [if_neg (by omega), hl]; exact hn
    have HE := Lib.hid hd
    have HC := Lib.hid hc
    have HB := Lib.hid hb
    have c0 := hc 0 (by omega)
    have hb0 : ((len : Int) == 0) = false := by simp; omega
    rw [Nat.add_zero] at c0
    have D0 := Lib.hid (high_one l)
    clear hc hb hx hl hd
    generalize hz : l.getD 0 0 = z at c0
    have HZ := Lib.hid hz
    clear hz
    go_enter Try.func25, Try.ntmps25
    go_wp2
    go_loopw [3, 4] (fun m i wr => ∃ k r : Nat, 1 ≤ k ∧ k ≤ len ∧ i = .int .i64 k ∧ m = .float .f64 r ∧ High l k r ∧ Kept w wr) (fun _ i _ => len - (intOf i).toNat)
    case atStart => exact ⟨1, z, by omega, by omega, rfl, rfl, HZ.out ▸ D0.out, Kept.refl _⟩
    case round =>
      obtain ⟨k, r, hk1, hk, rfl, rfl, hd, hkw⟩ := hrel
      have HD := Lib.hid hd
      have HK := Lib.hid hkw
      clear hd hkw
      by_cases hlt : k < len
      · have c := (Below.cell HK.out (p := ⟨b, off + k, none⟩) HB.out).trans (HC.out k hlt)
        obtain ⟨x, ex⟩ : ∃ x, l.getD k 0 = x := ⟨_, rfl⟩
        rw [ex] at c
        have EX := Lib.hid ex
        have CM := Lib.hid (rcompare_any x r)
        clear ex
        by_cases hcp : 0 < cp x r
        · have HH := Lib.hid hcp
          go_wp2_with fail
          refine (CM.out _).mono ?_
          rintro e w1 h
          obtain ⟨rfl, hk1⟩ := h.kept
          have K2 := Lib.hid (HK.out.trans hk1)
          have c1 := (Below.cell hk1 (p := ⟨b, off + k, none⟩) (Nat.lt_of_lt_of_le HB.out HK.out.size)).trans c
          clear c hk1 h
          generalize hq : cp x r = q at hcp
          have HQ := Lib.hid hq
          clear hq
          go_wp2
          go_roundw
          case rel => exact ⟨k + 1, x, by omega, by omega, by go_num, rfl, by have := high_take HD.out (EX.out ▸ HH.out); rwa [EX.out] at this, K2.out⟩
          case measure => simp [intOf]; omega
        · have HH := Lib.hid hcp
          go_wp2_with fail
          refine (CM.out _).mono ?_
          rintro e w1 h
          obtain ⟨rfl, hk1⟩ := h.kept
          have K2 := Lib.hid (HK.out.trans hk1)
          clear c hk1 h
          generalize hq : cp x r = q at hcp
          have HQ := Lib.hid hq
          clear hq
          go_wp2
          go_roundw
          case rel => exact ⟨k + 1, r, by omega, by omega, by go_num, rfl, high_skip HD.out EX.out HH.out, K2.out⟩
          case measure => simp [intOf]; omega
      · have ek : k = len := by omega
        subst ek
        go_wp2
        go_ret
        exact ⟨r, rfl, HE.out r HD.out, HK.out⟩


theorem low_alike {l : List Nat} {r s : Nat} (h : LowOf l r) (g : LowOf l s) : cp r s = 0 := by
  rw [cp_zero]
  unfold LowOf at h g
  by_cases h0 : l.length = 0
  · rw [if_pos h0] at h g; simp [key, h, g]
  · rw [if_neg h0] at h g
    obtain ⟨⟨i, hi, ei⟩, h2⟩ := h
    obtain ⟨⟨j, hj, ej⟩, g2⟩ := g
    have a := h2 j hj
    have b := g2 i hi
    rw [← ej] at a
    rw [← ei] at b
    omega
theorem high_alike {l : List Nat} {r s : Nat} (h : HighOf l r) (g : HighOf l s) : cp r s = 0 := by
  rw [cp_zero]
  unfold HighOf at h g
  by_cases h0 : l.length = 0
  · rw [if_pos h0] at h g; simp [key, h, g]
  · rw [if_neg h0] at h g
    obtain ⟨⟨i, hi, ei⟩, h2⟩ := h
    obtain ⟨⟨j, hj, ej⟩, g2⟩ := g
    have a := h2 j hj
    have b := g2 i hi
    rw [← ej] at a
    rw [← ei] at b
    omega

end Go.Proofs.Ythmpkelnmlkbiaa
