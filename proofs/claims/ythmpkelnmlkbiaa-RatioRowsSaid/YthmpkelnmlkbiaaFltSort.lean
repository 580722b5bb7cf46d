/- slices.SortStableFunc by Compare, and package ratio's Sort: another slice, the same floats in order. -/
import Derived.Test.YthmpkelnmlkbiaaFltCollect
import Derived.Shelf.SlSortCmp.Insertion1
import Derived.Lib.OwnBridge
import Derived.Lib.AppendIntMem
namespace Go.Proofs.Ythmpkelnmlkbiaa
open Go.RowKit Go.Shelf Go.Lib Go.Sort
set_option linter.unusedVariables false

abbrev eF : Nat → Value := Value.float .f64

theorem oneF : OneCell eF := fun _ => rfl

theorem cmp_lays (blk off size : Nat) (w : World) : CmpLays1 Try.prog 13 #[] eF cp blk off size w := fun m os dk hs x y => by
  refine (compare_any x y _).mono ?_
  rintro e w' ⟨rfl, c, t, rfl⟩
  exact ⟨rfl, 0, #[.cells c t], alloc_eq_grow _ _⟩

theorem ltOf_cp (x y : Nat) : ltOf cp x y = decide (key x < key y) := by
  unfold ltOf cp
  by_cases h : key x < key y
  · simp [h]
  · simp only [h, if_false, decide_false, decide_eq_false_iff_not]; split <;> omega

theorem swo_cp : SWO (ltOf cp) where
  irrefl x := by rw [ltOf_cp]; simp
  trans x y z h1 h2 := by rw [ltOf_cp] at *; simp at *; omega
  ntrans x y z h1 h2 := by rw [ltOf_cp] at *; simp at *; omega

theorem enters_compare : ∀ args w, (callFunc 13 args).run Try.prog w = .ok (.enter 13 args) w := enters_of Try.func13 (by kernel_rfl) rfl

/-- What a stable sort of so many floats at most does. -/
def StableOK (N : Nat) : Prop := ∀ (w : World) (blk cap : Nat) (d : Array Nat), d.size ≤ N → Holds eF w blk 0 d → blk < w.heap.size →
  Calls Try.prog 49 #[.slice (some ⟨blk, 0, none⟩) d.size cap, .int .i64 d.size, .func (.func 13) #[] #[]] w
    fun e w' => e = .returned (.tuple #[]) ∧ ∃ d', PermIn 0 d.size d d' ∧ SortedIn (ltOf cp) 0 d.size d' ∧ SW eF w blk 0 d' w'

theorem stable_small : StableOK 19 := fun w blk cap d h19 hH hb => by
  have hc : Calls Try.prog 50 #[.slice (some ⟨blk, 0, none⟩) d.size cap, .int .i64 (0 : Nat), .int .i64 d.size, .func (.func 13) #[] #[]] w _ :=
    Try.insertionSortCmpFunc_s eF cp 13 #[] blk 0 cap 0 d.size d d w w enters_compare (cmp_lays _ _ _ _) ⟨oneF, hH, hb⟩ rfl (SW.start hH) (Nat.zero_le _) (Nat.le_refl _) (by omega)
  have hs := insertionSort_holds swo_cp d 0 d.size (Nat.zero_le _) (Nat.le_refl _)
  have H1 := Lib.hid hs
  have HC := Lib.hid hc
  clear hs hc hH hb
  go_enter Try.func49, Try.ntmps49
  go_wp2
  refine wp_loop_rounds 1 ?_
  rw [rounds_succ]
  go_wp2_with fail
  refine HC.out.mono ?_
  rintro e w1 ⟨rfl, hS⟩
  have S1 := Lib.hid hS
  clear hS
  go_wp2_with fail
  refine wp_loop_rounds 1 ?_
  rw [rounds_succ]
  go_wp2
  go_end0
  exact ⟨rfl, _, H1.out.1, H1.out.2, S1.out⟩

theorem sortStable_any {N : Nat} (hN : StableOK N) (w : World) (blk cap : Nat) (d : Array Nat) (hd : d.size ≤ N) (hH : Holds eF w blk 0 d) (hb : blk < w.heap.size) :
    Calls Try.prog 45 #[.slice (some ⟨blk, 0, none⟩) d.size cap, .func (.func 13) #[] #[]] w
      fun e w' => e = .returned (.tuple #[]) ∧ ∃ d', PermIn 0 d.size d d' ∧ SortedIn (ltOf cp) 0 d.size d' ∧ SW eF w blk 0 d' w' := by
  have HC := Lib.hid (hN w blk cap d hd hH hb)
  clear hN hH hb hd
  go_enter Try.func45, Try.ntmps45
  go_wp2_with fail
  refine HC.out.mono ?_
  rintro e w1 ⟨rfl, d', hp⟩
  have HP := Lib.hid hp
  clear hp
  go_wp2_with fail
  go_end0
  exact ⟨rfl, d', HP.out⟩

/-- Of none: nothing at all. -/
theorem stable_none (w : World) : Calls Try.prog 49 #[.slice none 0 0, .int .i64 0, .func (.func 13) #[] #[]] w
    fun e w' => e = .returned (.tuple #[]) ∧ w = w' := by
  have hi : Calls Try.prog 50 #[.slice none 0 0, .int .i64 0, .int .i64 0, .func (.func 13) #[] #[]] w fun e w' => e = .returned (.tuple #[]) ∧ w = w' := by
    go_enter Try.func50, Try.ntmps50
    go_wp2
    refine wp_loop_rounds 1 ?_
    rw [rounds_succ]
    go_wp2
    go_end0
    exact ⟨rfl, rfl⟩
  go_enter Try.func49, Try.ntmps49
  go_wp2
  refine wp_loop_rounds 1 ?_
  rw [rounds_succ]
  go_wp2_with fail
  refine hi.mono ?_
  rintro e w1 ⟨rfl, rfl⟩
  go_wp2_with fail
  refine wp_loop_rounds 1 ?_
  rw [rounds_succ]
  go_wp2
  go_end0
  exact ⟨rfl, rfl⟩

theorem sortStable_none (w : World) : Calls Try.prog 45 #[.slice none 0 0, .func (.func 13) #[] #[]] w
      fun e w' => e = .returned (.tuple #[]) ∧ w = w' := by
  have HC := Lib.hid (stable_none w)
  go_enter Try.func45, Try.ntmps45
  go_wp2_with fail
  refine HC.out.mono ?_
  rintro e w1 ⟨rfl, rfl⟩
  go_wp2_with fail
  go_end0
  exact ⟨rfl, rfl⟩

/-- In order, by keys. -/
def Asc (s : List Nat) : Prop := ∀ i j, i < j → j < s.length → key (s.getD i 0) ≤ key (s.getD j 0)

/-- What Sort does: another slice with the same floats, in order. -/
def SRT (l : List Nat) (w : World) (e : Ending) (w' : World) : Prop :=
  ∃ a cap s, e = .returned (.slice a l.length cap) ∧ FRow w' a l.length s ∧ s.Perm l ∧ Asc s ∧ Kept w w'

theorem collect_any (Bs : Nat) (sv : Value) (xs : List Nat) (hlen : xs.length ≤ 1000000) (w : World) (hBs : Bs < w.heap.size) (hcs : w.cell? ⟨Bs, 0, none⟩ = some sv) (hL : Flts w.heap.size w sv xs) :
    Calls Try.prog 44 #[.func (.func 46) #[] #[.pointer (some ⟨Bs, 0, none⟩)]] w fun e W' => ∃ v, e = .returned v ∧ Own1 w.heap.size W' v xs ∧ Below w.heap.size w W' := by
  have hA : Calls Try.prog 48 #[.slice none 0 0, .func (.func 46) #[] #[.pointer (some ⟨Bs, 0, none⟩)]] w _ :=
    callsIn_wide.1 (appendSeq_in Fence.wide 3 trivial trivial rfl (by omega) Bs sv xs hlen w hBs hcs hL)
  have HC := Lib.hid hA
  clear hA hBs hcs hL
  go_enter Try.func44, Try.ntmps44
  go_wp2_with fail
  refine HC.out.mono ?_
  rintro e w1 ⟨v, rfl, ho, hb⟩
  have HO := Lib.hid ho
  have HB := Lib.hid hb
  clear ho hb
  go_wp2_with fail
  go_ret
  exact ⟨v, rfl, HO.out, HB.out⟩

theorem below_sw {B : Nat} {w0 w w' : World} {blk : Nat} {d : Array Nat} (h : Below B w0 w) (hg : B ≤ blk) (hB : B ≤ w.heap.size) (hS : SW eF w blk 0 d w') : Below B w0 w' := by
  obtain ⟨n, os, rfl⟩ := hS
  unfold sortWorld
  refine (below_putRow (enc := eF) (q := n) (d := d) h hg).trans ?_
  exact below_grow B (putRow eF (Sort.ahead w n) blk 0 d) (by rw [size_putRow]; exact hB) 0 os

theorem asc_of_sorted {d : Array Nat} (h : SortedIn (ltOf cp) 0 d.size d) : Asc d.toList := fun i j hij hj => by
  have := h i j (Nat.zero_le _) hij (by simpa using hj)
  rw [ltOf_cp, decide_eq_false_iff_not] at this
  have e : ∀ k, k < d.size → d[k]! = d.toList.getD k 0 := fun k hk => by
    rw [getElem!_pos d k hk]; simp [List.getD, hk]
  rw [e j (by simpa using hj), e i (by simp at hj; omega)] at this
  omega

theorem sortedStable_any {N : Nat} (hN : StableOK N) (Bs : Nat) (sv : Value) (xs : List Nat) (hlen : xs.length ≤ N) (hbig : N ≤ 1000000) (hx : ∀ x ∈ xs, x < TOP) (w : World) (hBs : Bs < w.heap.size) (hcs : w.cell? ⟨Bs, 0, none⟩ = some sv) (hL : Flts w.heap.size w sv xs) :
    Calls Try.prog 34 #[.func (.func 46) #[] #[.pointer (some ⟨Bs, 0, none⟩)], .func (.func 13) #[] #[]] w (SRT xs w) := by
  unfold SRT
  have HC := Lib.hid (collect_any Bs sv xs (by omega) w hBs hcs hL)
  clear hBs hcs hL
  go_enter Try.func34, Try.ntmps34
  go_wp2_with fail
  refine HC.out.mono ?_
  rintro e w1 ⟨v, rfl, ⟨ho, hn⟩, hb⟩
  by_cases hv : v = .slice none 0 0
  · have hxs := hn.1 hv
    subst hv hxs
    have HB := Lib.hid hb
    clear hb ho hn hx
    go_wp2_with fail
    refine (sortStable_none _).mono ?_
    rintro e w2 ⟨rfl, rfl⟩
    go_wp2_with fail
    go_ret
    exact ⟨none, 0, [], rfl, ⟨rfl, by decide, by simp, .inl rfl⟩, List.Perm.refl _, fun i j _ h => absurd h (by simp), HB.out⟩
  · obtain ⟨g, cap, rfl, hg1, hg2, hc1, hc2, hl, hH⟩ := holds_of_ownsRow ho hv
    have hst := sortStable_any hN w1 g cap xs.toArray (by simpa using hlen) hH hg2
    have HB := Lib.hid hb
    have HS := Lib.hid hst
    have HG := Lib.hid hg1
    have HH := Lib.hid hH
    have HX := Lib.hid hx
    have HP := Lib.hid hc2
    clear hb ho hn hst hg1 hH hx hc2 hv
    simp only [List.size_toArray] at HS
    go_wp2_with fail
    refine HS.out.mono ?_
    rintro e w2 ⟨rfl, d', hp, hs, hw⟩
    have P1 := Lib.hid hp
    have P2 := Lib.hid hs
    have P3 := Lib.hid hw
    clear hp hs hw
    go_wp2_with fail
    go_ret
    have hsz : d'.size = xs.length := by simpa using P1.out.1
    have hperm : d'.toList.Perm xs := by
      have := P1.out.2.2
      simp only [Array.toList_extract, List.extract_eq_take_drop, List.drop_zero, Nat.sub_zero] at this
      rw [List.take_of_length_le (by simp; omega), List.take_of_length_le (by simp)] at this
      exact this
    refine ⟨_, cap, d'.toList, rfl, ⟨by simpa using hsz, Nat.le_trans hc1 HP.out, fun x hx => HX.out x (hperm.mem_iff.1 hx), .inr ⟨g, 0, rfl, P3.out.lt hg2, fun i hi => ?_⟩⟩, hperm, ?_, below_sw HB.out HG.out HB.out.size P3.out⟩
    · have := (P3.out.holds hg2 HH.out (by simpa using hsz) i (by omega)).1
      rw [this, getElem!_pos d' i (by omega)]
      simp [List.getD, hsz, hi]
    · have h2 := P2.out
      rw [← hsz] at h2
      exact asc_of_sorted h2

theorem sort_any {N : Nat} (hN : StableOK N) (hbig : N ≤ 1000000) (a : Option Addr) (len cap : Nat) (l : List Nat) (w : World) (hr : FRow w a len l) (hlen : len ≤ N) :
    Calls Try.prog 20 #[.slice a len cap] w (SRT l w) := by
  unfold SRT
  have hl0 := hr.1
  subst hl0
  have hv := values_any a l.length cap w
  have hk : Kept w (w.alloc (.cells #[.slice a l.length cap] 31)) := Kept.one _ _ _
  have hf : Flts (w.alloc (.cells #[.slice a l.length cap] 31)).heap.size (w.alloc (.cells #[.slice a l.length cap] 31)) (.slice a l.length cap) l := (hr.kept hk).flts
  have hs := sortedStable_any hN w.heap.size (.slice a l.length cap) l (by omega) hbig hr.2.2.1 (w.alloc (.cells #[.slice a l.length cap] 31)) (by simp) (by simp) hf
  have HS := Lib.hid hs
  have HK := Lib.hid hk
  clear hs hk hf hr
  go_enter Try.func20, Try.ntmps20
  go_wp2_with fail
  refine hv.mono ?_
  rintro e w1 ⟨rfl, rfl⟩
  go_wp2_with fail
  refine HS.out.mono ?_
  rintro e w2 ⟨a2, cap2, s, rfl, h1, h2, h3, h4⟩
  have H1 := Lib.hid h1
  have H2 := Lib.hid h2
  have H3 := Lib.hid h3
  have H4 := Lib.hid h4
  clear h1 h2 h3 h4
  go_wp2_with fail
  go_ret
  exact ⟨a2, cap2, s, rfl, H1.out, H2.out, H3.out, HK.out.trans H4.out⟩

end Go.Proofs.Ythmpkelnmlkbiaa
