/- A vector amount by amount by qty's Part. -/
import Derived.Test.YtnnneimpdiadhaaDoorResEachMath
import Derived.StillTailTactics
import Derived.RegionCalls
namespace Go.Proofs.YtnnneimpdiadhaaDoor.Vec
open Go.RowKit
set_option linter.unusedVariables false

theorem qpart_f (x n : Int) (w : World) (h0 : 0 ≤ x) (h1 : x ≤ 9223372036854775807) (h2 : -9223372036854775808 ≤ n) (h3 : n ≤ 9223372036854775807) :
    Calls Tryd.prog 35 #[.int .i64 x, .int .i64 n] w (AnsQ (partF x n).1 (partF x n).2 w) := by
  by_cases g : n < 0
  · have e : partF x n = (0, 1) := by unfold partF; rw [if_pos g]
    rw [e]
    go_enter Tryd.func35, Tryd.ntmps35
    go_wp2_with fail
    refine (dividedq_arg x n _ (.inr g)).mono ?_
    rintro e w' ⟨rfl, k, rfl⟩
    go_wp2
    go_ret2
    exact ⟨rfl, _, rfl⟩
  · by_cases h : parQ x n ≤ 9223372036854775807
    · have e : partF x n = (parQ x n, 0) := by unfold partF; rw [if_neg g, if_pos h]
      rw [e]
      go_enter Tryd.func35, Tryd.ntmps35
      go_wp2_with fail
      refine (dividedq_ok x n _ h0 (by omega) h1 h3 h).mono ?_
      rintro e w' ⟨rfl, k, rfl⟩
      go_wp2
      go_ret2
      exact ⟨rfl, _, rfl⟩
    · have e : partF x n = (0, 5) := by unfold partF; rw [if_neg g, if_neg h]
      rw [e]
      go_enter Tryd.func35, Tryd.ntmps35
      go_wp2_with fail
      refine (dividedq_over x n _ h0 (by omega) h1 h3 (by omega)).mono ?_
      rintro e w' ⟨rfl, k, rfl⟩
      go_wp2
      go_ret2
      exact ⟨rfl, _, rfl⟩

set_option maxHeartbeats 1600000 in
theorem each_part (a : Option Addr) (len cap : Nat) (l : V) (by_ : Int) (w : World) (hr : VecAt w a len l) (hb0 : -9223372036854775808 ≤ by_) (hb1 : by_ ≤ 9223372036854775807) :
    Calls Tryd.prog 32 #[.slice a len cap, .int .i64 by_, .func (.func 35) #[] #[]] w (VecRes (eachV partF by_ l) w.heap.size w) := by
  by_cases h1 : checkV l = 0
  · have HL := Lib.hid hr.1
    have P1 := Lib.hid (check_pos h1 hr.2.2.1)
    have n8 : len ≤ 8 := by have := check_len h1; rw [hr.1] at this; exact this
    have HM := Lib.hid (show eachV partF by_ l = eachAcc partF by_ l [] by unfold eachV; rw [if_neg (by rw [h1]; decide)])
    have H1 := Lib.hid h1
    have HA := Lib.hid hr
    rcases hr.form with h0 | ⟨b, off, rfl⟩
    · subst h0
      have HE := Lib.hid (show eachV partF by_ l = (0, []) by rw [HM.out, List.eq_nil_of_length_eq_zero HL.out]; rfl)
      clear h1 hr
      go_enter Tryd.func32, Tryd.ntmps32
      go_wp2_with fail
      refine (checked_any _ _ _ l _ HA.out).mono ?_
      rintro e1 w1 ⟨g1, _, k1⟩
      obtain rfl := g1 H1.out
      have K1 := Lib.hid k1
      clear g1 k1
      go_wp2
      refine wp_loop_rounds 1 ?_
      rw [rounds_succ]
      go_wp2
      go_ret
      exact VecRes.good (by rw [HE.out]) (by rw [HE.out]; exact OwnV.nil _ _ _) K1.out
    · clear h1 hr
      go_enter Tryd.func32, Tryd.ntmps32
      go_wp2_with fail
      refine (checked_any _ _ _ l _ HA.out).mono ?_
      rintro e1 w1 ⟨g1, _, k1⟩
      obtain rfl := g1 H1.out
      have K1 := Lib.hid k1
      clear g1 k1
      go_wp2
      go_loopw [7, 13] (fun v i wr => ∃ (k : Nat) (acc : V), k ≤ len ∧ i = .int .i64 k ∧ eachAcc partF by_ (l.drop k) acc = eachAcc partF by_ l [] ∧ OwnV 38 wr w.heap.size v acc ∧ Below w.heap.size w wr ∧ acc.length ≤ k)
        (fun _ i _ => len - (intOf i).toNat)
      case atStart => exact ⟨0, [], Nat.zero_le _, rfl, rfl, OwnV.nil _ _ _, K1.out, Nat.le_refl _⟩
      case round =>
        obtain ⟨k, acc, hk, rfl, hres, ho, hB, hacc⟩ := hrel
        have HQ := Lib.hid hres
        have HO := Lib.hid ho
        have HB2 := Lib.hid hB
        by_cases hlt : k < len
        · obtain ⟨hb, c1, c2⟩ := (HA.out.kept hB).cells hlt
          clear hres ho hB
          have HI := Lib.hid (show k < l.length by rw [HL.out]; exact hlt)
          have HP := Lib.hid (P1.out _ (mem_at HI.out))
          obtain ⟨r1, r2, hr⟩ : ∃ r1 r2, partF (qn l k) by_ = (r1, r2) := ⟨_, _, rfl⟩
          have QF := Lib.hid (show ∀ W, Calls Tryd.prog 35 #[.int .i64 (qn l k), .int .i64 by_] W (AnsQ r1 r2 W) from fun W => by
            have := qpart_f _ _ W HP.out.1 HP.out.2.1 hb0 hb1
            rw [hr] at this
            exact this)
          have HRR := Lib.hid hr
          have RB := Lib.hid (show 0 ≤ r1 ∧ r1 ≤ 9223372036854775807 by have := partF_bd (n := by_) HP.out.1 HP.out.2.1; rw [hr] at this; exact this)
          clear hr
          have HBn := Lib.hid (show ∀ n, Below w.heap.size w ((wr.alloc (.cells #[.string (nm l k), .int .i64 (qn l k)] 38)).drewN n) from fun n => below_drewN (HB2.out.alloc HB2.out.size _) n)
          have HOn := Lib.hid (fun (n : Nat) => HO.out.kept ((kept_alloc wr (.cells #[.string (nm l k), .int .i64 (qn l k)] 38)).trans (Kept.drewN _ n)))
          by_cases hx : r2 = 0
          · subst hx
            have HN := Lib.hid (each_next (f := partF) (n := by_) (acc := acc) HI.out (by rw [HRR.out]))
            by_cases hy : r1 = 0
            · subst hy
              go_wp2
              go_region_with (first | (go_at_call 35; refine (QF.out _).mono ?_; rintro e6 w6 ⟨rfl, nq, rfl⟩) | (go_at_call 46; refine (sound_ok _ _).mono ?_; rintro e7 w7 ⟨rfl, rfl⟩) | (go_at_call 45; refine (with_zero _ _ _).mono ?_; rintro e8 w8 ⟨rfl, rfl⟩))
              all_goals
                go_wp2
                go_roundw
                case rel => exact ⟨k + 1, acc, by omega, by go_num, by have := HN.out; rw [HRR.out] at this; exact this.symm.trans HQ.out, HOn.out _, HBn.out _, by omega⟩
                case measure => simp [intOf]; omega
            · have HY := Lib.hid hy
              go_wp2
              go_region_with (first | (go_at_call 35; refine (QF.out _).mono ?_; rintro e6 w6 ⟨rfl, nq, rfl⟩) | (go_at_call 46; refine (sound_ok _ _).mono ?_; rintro e7 w7 ⟨rfl, rfl⟩) | (go_at_call 45; refine (with_more _ _ r1 w.heap.size acc _ (HOn.out _) HY.out HP.out.2.2 (by have := RB.out; omega) (by have := RB.out; omega) (by omega) (HBn.out _).size).mono ?_; rintro e8 w8 ⟨v8, rfl, o8, b8⟩; have O8 := Lib.hid o8; have B8 := Lib.hid b8; clear o8 b8))
              all_goals
                go_wp2
                go_roundw
                case rel => exact ⟨k + 1, _, by omega, by go_num, by have := HN.out; rw [HRR.out] at this; refine Eq.trans ?_ (this.symm.trans HQ.out); dsimp only; unfold plusV; rw [if_neg HY.out], O8.out, (HBn.out _).trans B8.out, by rw [List.length_append]; simp only [List.length_cons, List.length_nil]; omega⟩
                case measure => simp [intOf]; omega
          · have HX := Lib.hid hx
            have HE := Lib.hid (show eachV partF by_ l = (r2, []) by rw [HM.out, ← HQ.out, each_bad HI.out (by rw [HRR.out]; exact hx), HRR.out])
            go_wp2
            have f1 : ((wr.alloc (.cells #[.string (nm l k), .int .i64 (qn l k)] 38)).drew).cell? ⟨wr.heap.size, 0, none⟩ = some (.string (nm l k)) := by go_simp
            have f2 : ((wr.alloc (.cells #[.string (nm l k), .int .i64 (qn l k)] 38)).drew).cell? ⟨wr.heap.size, 1, none⟩ = some (.int .i64 (qn l k)) := by go_simp
            refine wp_region_held_drew (S := fun W => W.cell? ⟨wr.heap.size, 0, none⟩ = some (.string (nm l k)) ∧ W.cell? ⟨wr.heap.size, 1, none⟩ = some (.int .i64 (qn l k)) ∧ Below w.heap.size w W) (by kernel_rfl) ⟨f1, f2, HBn.out 1⟩ (fun hHeld => ?_)
            refine wpAnyH_take (i := 0) (v := ?_) rfl (by kernel_rfl) (by kernel_rfl) (by kernel_rfl) (fun _ _ _ h => h) (Or.inl ⟨by rfl, (by intro w hSw; obtain ⟨s1, s2, _⟩ := hSw; go_simp <;> with_reducible rfl)⟩) (by assumption) ?_
            try simp only [Act.put, List.setIfInBounds_toArray, List.set_cons_zero, List.set_cons_succ]
            refine wpAnyH_take (i := 1) (v := ?_) rfl (by kernel_rfl) (by kernel_rfl) (by kernel_rfl) (fun _ _ _ h => h) (Or.inl ⟨by rfl, (by intro w hSw; obtain ⟨s1, s2, _⟩ := hSw; go_simp <;> with_reducible rfl)⟩) (by assumption) ?_
            try simp only [Act.put, List.setIfInBounds_toArray, List.set_cons_zero, List.set_cons_succ]
            refine wpAnyH_take (i := 2) (v := ?_) rfl (by kernel_rfl) (by kernel_rfl) (by kernel_rfl) (fun _ _ _ h => h) (Or.inl ⟨by rfl, (by intro w hSw; obtain ⟨s1, s2, _⟩ := hSw; go_simp <;> with_reducible rfl)⟩) (by assumption) ?_
            try simp only [Act.put, List.setIfInBounds_toArray, List.set_cons_zero, List.set_cons_succ]
            refine wpAnyH_take (i := 3) (v := ?_) rfl (by kernel_rfl) (by kernel_rfl) (by kernel_rfl) (fun _ _ _ h => h) (Or.inl ⟨by rfl, (by intro w hSw; obtain ⟨s1, s2, _⟩ := hSw; go_simp <;> with_reducible rfl)⟩) (by assumption) ?_
            try simp only [Act.put, List.setIfInBounds_toArray, List.set_cons_zero, List.set_cons_succ]
            refine wpAnyH_take (i := 4) (v := ?_) rfl (by kernel_rfl) (by kernel_rfl) (by kernel_rfl) (fun _ _ _ h => h) (Or.inl ⟨by rfl, (by intro w hSw; obtain ⟨s1, s2, _⟩ := hSw; go_simp <;> with_reducible rfl)⟩) (by assumption) ?_
            try simp only [Act.put, List.setIfInBounds_toArray, List.set_cons_zero, List.set_cons_succ]
            refine wpAnyH_take (i := 5) (v := ?_) rfl (by kernel_rfl) (by kernel_rfl) (by kernel_rfl) (fun _ _ _ h => h) (Or.inl ⟨by rfl, (by intro w hSw; obtain ⟨s1, s2, _⟩ := hSw; go_simp <;> with_reducible rfl)⟩) (by assumption) ?_
            try simp only [Act.put, List.setIfInBounds_toArray, List.set_cons_zero, List.set_cons_succ]
            refine wpAnyH_take (i := 6) (v := ?_) rfl (by kernel_rfl) (by kernel_rfl) (by kernel_rfl) (fun _ _ _ h => h) (Or.inl ⟨by rfl, (by intro w hSw; obtain ⟨s1, s2, _⟩ := hSw; go_simp <;> with_reducible rfl)⟩) (by assumption) ?_
            try simp only [Act.put, List.setIfInBounds_toArray, List.set_cons_zero, List.set_cons_succ]
            refine wpAnyH_ready (rs := [7]) (by kernel_rfl) (by simp) (AllReadyH.cons rfl (fun K hK => ?_) AllReadyH.nil)
            go_simp
            refine (QF.out _).mono ?_
            rintro e6 w6 ⟨rfl, nq, rfl⟩
            refine hK.out _ _ ⟨f1, f2, below_drewN (HBn.out 1) nq⟩ (fun hHeld2 => ?_)
            clear hK K
            try simp only [Act.put, List.setIfInBounds_toArray, List.set_cons_zero, List.set_cons_succ]
            refine wpAnyH_take (i := 8) (v := ?_) rfl (by kernel_rfl) (by kernel_rfl) (by kernel_rfl) (fun _ _ _ h => h) (Or.inl ⟨by rfl, (by intro w hSw; obtain ⟨s1, s2, _⟩ := hSw; go_simp <;> with_reducible rfl)⟩) (by assumption) ?_
            try simp only [Act.put, List.setIfInBounds_toArray, List.set_cons_zero, List.set_cons_succ]
            refine wpAnyH_take (i := 9) (v := ?_) rfl (by kernel_rfl) (by kernel_rfl) (by kernel_rfl) (fun _ _ _ h => h) (Or.inl ⟨by rfl, (by intro w hSw; obtain ⟨s1, s2, _⟩ := hSw; go_simp <;> with_reducible rfl)⟩) (by assumption) ?_
            try simp only [Act.put, List.setIfInBounds_toArray, List.set_cons_zero, List.set_cons_succ]
            refine wpAnyH_ready (rs := [10]) (by kernel_rfl) (by simp) (AllReadyH.cons rfl (fun K hK => ?_) AllReadyH.nil)
            go_simp
            refine (sound_bad _ _ _ HX.out).mono ?_
            rintro e7 w7 ⟨rfl, rfl⟩
            exact ⟨rfl, VecRes.bad (by rw [HE.out]) HX.out (HBn.out _)⟩
        · have HE := Lib.hid (show eachV partF by_ l = (0, acc) by rw [HM.out, ← HQ.out, each_end (by rw [HL.out]; exact hlt)])
          clear hres ho hB
          go_wp2
          go_ret
          exact VecRes.good (by rw [HE.out]) (by rw [HE.out]; exact HO.out) HB2.out
  · have HM := Lib.hid (show eachV partF by_ l = (checkV l, []) by unfold eachV; rw [if_pos h1])
    have HA := Lib.hid hr
    have H1 := Lib.hid h1
    clear h1 hr
    go_enter Tryd.func32, Tryd.ntmps32
    go_wp2_with fail
    refine (checked_any _ _ _ l _ HA.out).mono ?_
    rintro e1 w1 ⟨_, g1, k1⟩
    obtain rfl := g1 H1.out
    have K1 := Lib.hid k1
    clear g1 k1
    go_wp2
    exact ⟨rfl, VecRes.bad (by rw [HM.out]) H1.out K1.out⟩

end Go.Proofs.YtnnneimpdiadhaaDoor.Vec
