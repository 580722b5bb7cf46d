/- Whether taints, tolerations may be. -/
import Derived.Test.YthlhaefaafjmlaaDoorTaRead
namespace Go.Proofs.YthlhaefaafjmlaaDoor
open Go.RowKit Go.Sort
set_option linter.unusedVariables false

set_option maxHeartbeats 1600000 in
theorem named_any (x y : ByteArray) (m : Bool) (w : World) (hx : x.size ≤ maxLen) (hy : y.size ≤ maxLen) :
    Calls Tryd.prog 36 #[NV x y m] w fun e w' => e = .returned (.bool (namedN (x, y, m))) ∧ Kept w w' := by
  obtain ⟨q0, hq0⟩ : ∃ q, (x.toList == ([] : List UInt8)) = q := ⟨_, rfl⟩
  obtain ⟨q2, hq2⟩ : ∃ q, (y.toList == ([] : List UInt8)) = q := ⟨_, rfl⟩
  obtain ⟨n1, hn1⟩ : ∃ q, isName x = q := ⟨_, rfl⟩
  obtain ⟨n2, hn2⟩ : ∃ q, isName y = q := ⟨_, rfl⟩
  have HV := Lib.hid (show namedN (x, y, m) = ((q0 || n1) && (if m = true then q2 else n2)) by unfold namedN; rw [no_iff, no_iff, hq0, hq2, hn1, hn2])
  cases q0 <;> cases n1 <;> cases m <;> cases q2 <;> cases n2 <;>
  (go_enter Tryd.func36, Tryd.ntmps36
   go_wp2_with (go_at_call 34; refine (name_any _ _ (by assumption)).mono ?_; rintro e w' ⟨rfl, rfl⟩)
   go_ret
   exact ⟨ret_bool HV.out.symm, kept_alloc _ _⟩)

theorem all_named {x : NT} {t : NL} : (x :: t).all namedN = (namedN x && t.all namedN) := rfl

set_option maxHeartbeats 800000 in
theorem checkO_any (a : Option Addr) (len cap : Nat) (l : NL) (w : World) (hr : RowAt TaLay w a len l) :
    Calls Tryd.prog 16 #[.slice a len cap] w fun e w' => e = .returned (.int .i64 (chkO l)) ∧ Kept w w' := by
  have hl := hr.1
  have hm := hr.2.1
  unfold maxLen at hm
  by_cases h8 : len ≤ 8
  · have HV := Lib.hid (show chkO l = if l.all namedN = true then 0 else 3 by unfold chkO; rw [if_neg (by omega)])
    rcases hr.form with h0 | ⟨b, off, rfl⟩
    · subst h0
      have HE := Lib.hid (show chkO l = 0 by rw [HV.out]; rw [List.eq_nil_of_length_eq_zero hl]; rfl)
      clear hr hl
      go_enter Tryd.func16, Tryd.ntmps16
      go_wp2
      refine wp_loop_rounds 1 ?_
      rw [rounds_succ]
      go_wp2
      go_ret
      exact ⟨ret_i64 HE.out.symm, Kept.refl _⟩
    · have HR := Lib.hid hr
      have HL := Lib.hid hl
      clear hr hl
      go_enter Tryd.func16, Tryd.ntmps16
      go_wp2
      go_loopw [10] (fun i wr => ∃ k : Nat, k ≤ len ∧ i = .int .i64 k ∧ (l.drop k).all namedN = l.all namedN ∧ Kept w wr) (fun i _ => len - (intOf i).toNat)
      case atStart => exact ⟨0, Nat.zero_le _, rfl, rfl, Kept.refl _⟩
      case round =>
        obtain ⟨k, hk, rfl, hrest, hK⟩ := hrel
        by_cases hlt : k < len
        · obtain ⟨x, y, m, hx, hd, hb, hz, hz2, c1, c2, c3⟩ := (HR.out.kept hK).tri hlt
          have HK := Lib.hid hK
          obtain ⟨q, hq⟩ : ∃ q, namedN (x, y, m) = q := ⟨_, rfl⟩
          have HS := Lib.hid (hrest.symm.trans ((congrArg (fun z => z.all namedN) hd).trans (all_named.trans (by rw [hq]))))
          have HC := Lib.hid (fun W => named_any x y m W hz hz2)
          rw [hq] at HC
          clear hK hrest hx hd hq
          cases q with
          | true =>
            go_wp2_with (go_at_call 36; refine (HC.out _).mono ?_; rintro e w1 ⟨rfl, k1⟩; have K1 := Lib.hid k1; clear k1)
            go_roundw
            case rel => exact ⟨k + 1, by omega, by go_num, (HS.out.trans (Bool.true_and _)).symm, HK.out.trans ((kept_alloc _ _).trans K1.out)⟩
            case measure => simp [intOf]; omega
          | false =>
            have HF := Lib.hid (show chkO l = 3 by rw [HV.out, HS.out]; rfl)
            go_wp2_with (go_at_call 36; refine (HC.out _).mono ?_; rintro e w1 ⟨rfl, k1⟩; have K1 := Lib.hid k1; clear k1)
            go_ret
            exact ⟨ret_i64 HF.out.symm, HK.out.trans ((kept_alloc _ _).trans K1.out)⟩
        · have HK := Lib.hid hK
          have HS := Lib.hid (hrest.symm.trans (congrArg (fun z => z.all namedN) (drop_end (by rw [HL.out]; exact hlt))))
          have HF := Lib.hid (show chkO l = 0 by rw [HV.out, HS.out]; rfl)
          clear hK hrest
          go_wp2
          go_ret
          exact ⟨ret_i64 HF.out.symm, HK.out⟩
  · have HV := Lib.hid (show chkO l = 4 by unfold chkO; rw [if_pos (by omega)])
    have h9 : 8 < len := by omega
    clear h8 hr hl
    go_enter Tryd.func16, Tryd.ntmps16
    go_wp2
    go_ret
    exact ⟨ret_i64 HV.out.symm, Kept.refl _⟩

theorem RowAt.front {α : Type} {L : Lay α} {w : World} {a : Option Addr} {len : Nat} {l : List α} (h : RowAt L w a len l) {k : Nat} (hk : k ≤ len) : RowAt L w a k (l.take k) := by
  obtain ⟨h0, h1, h2, h3⟩ := h
  refine ⟨by rw [List.length_take]; omega, by omega, fun x hx => h2 x (List.mem_of_mem_take hx), ?_⟩
  rcases h3 with h3 | ⟨b, off, e, hb, hc⟩
  · exact .inl (by omega)
  · refine .inr ⟨b, off, e, hb, fun i x j u hi hj => ?_⟩
    rw [List.getElem?_take] at hi
    split at hi
    · exact hc i x j u hi hj
    · cases hi

set_option maxHeartbeats 1600000 in
theorem checkA_any (a : Option Addr) (len cap : Nat) (l : NL) (w : World) (hr : RowAt TaLay w a len l) (hc : len ≤ cap) :
    Calls Tryd.prog 15 #[.slice a len cap] w fun e w' => e = .returned (.int .i64 (chkA l)) ∧ Kept w w' := by
  have hl := hr.1
  have hm := hr.2.1
  unfold maxLen at hm
  by_cases h8 : len ≤ 8
  · have HV := Lib.hid (show chkA l = chkAF [] l by unfold chkA; rw [if_neg (by omega)])
    rcases hr.form with h0 | ⟨b, off, rfl⟩
    · subst h0
      have HE := Lib.hid (show chkA l = 0 by rw [HV.out]; rw [List.eq_nil_of_length_eq_zero hl]; rfl)
      clear hr hl
      go_enter Tryd.func15, Tryd.ntmps15
      go_wp2
      refine wp_loop_rounds 1 ?_
      rw [rounds_succ]
      go_wp2
      go_ret
      exact ⟨ret_i64 HE.out.symm, Kept.refl _⟩
    · have HR := Lib.hid hr
      have HL := Lib.hid hl
      clear hr hl
      go_enter Tryd.func15, Tryd.ntmps15
      go_wp2
      go_loopw [10] (fun i wr => ∃ k : Nat, k ≤ len ∧ i = .int .i64 k ∧ chkAF (l.take k) (l.drop k) = chkAF [] l ∧ Kept w wr) (fun i _ => len - (intOf i).toNat)
      case atStart => exact ⟨0, Nat.zero_le _, rfl, rfl, Kept.refl _⟩
      case round =>
        obtain ⟨k, hk, rfl, hrest, hK⟩ := hrel
        by_cases hlt : k < len
        · obtain ⟨x, y, m, hx, hd, hb, hz, hz2, c1, c2, c3⟩ := (HR.out.kept hK).tri hlt
          have HX := Lib.hid hx
          have HK := Lib.hid hK
          have HT := Lib.hid (hrest.symm.trans (congrArg (chkAF (l.take k)) hd))
          have HS := Lib.hid (HV.out.trans HT.out)
          have HROW := Lib.hid ((HR.out.kept hK).front hk)
          clear hK hrest hx hd
          by_cases n1 : isName x = true
          · by_cases n2 : isName y = true
            · have N1 := Lib.hid n1
              have N2 := Lib.hid n2
              obtain ⟨q, hq⟩ : ∃ q, (l.take k).any (twinN (x, y, m)) = q := ⟨_, rfl⟩
              have HQ := Lib.hid hq
              have tn := TriAt.new wr x y m 37
              have l1 : ∀ (n : Nat) (os : Array Obj), (grow ((wr.alloc (.cells #[.string x, .string y, .bool m] 37)).drewN n) os).cell? ⟨wr.heap.size, 0, none⟩ = some (.string x) := fun n os => cell_later (kept_grow _ n os) tn.1
              have l2 : ∀ (n : Nat) (os : Array Obj), (grow ((wr.alloc (.cells #[.string x, .string y, .bool m] 37)).drewN n) os).cell? ⟨wr.heap.size, 1, none⟩ = some (.string y) := fun n os => cell_later (kept_grow _ n os) tn.2.1
              have l3 : ∀ (n : Nat) (os : Array Obj), (grow ((wr.alloc (.cells #[.string x, .string y, .bool m] 37)).drewN n) os).cell? ⟨wr.heap.size, 2, none⟩ = some (.bool m) := fun n os => cell_later (kept_grow _ n os) tn.2.2
              have cz : ∀ (n : Nat) (os : Array Obj), Calls Tryd.prog 35 #[.slice (some ⟨b, off, none⟩) k cap, NV x y m] (grow ((wr.alloc (.cells #[.string x, .string y, .bool m] 37)).drewN n) os) fun e w'' => e = .returned (.bool q) ∧ ∃ q' os', w'' = grow ((grow ((wr.alloc (.cells #[.string x, .string y, .bool m] 37)).drewN n) os).drewN q') os' := fun n os => by
                rw [← hq]
                exact ahead_any (some ⟨b, off, none⟩) k cap (l.take k) x y m _ ((HROW.out.kept (kept_alloc _ _)).kept (kept_grow _ n os))
              have r1 : (k : Int) ≤ (cap : Int) := by omega
              have r2 : k ≤ cap := by omega
              have mixed : Tryd.prog.follows Departure.mixedOrders = true := by kernel_rfl
              clear tn hq
              cases q with
              | true =>
                go_wp2_with (go_at_call 34; refine (name_any _ _ (by assumption)).mono ?_; rintro e w' ⟨rfl, rfl⟩)
                go_quiet_grown (first | (go_at_call 35; refine Calls.grown_of (cz _ _)))
                go_wp2
                go_ret
                exact ⟨ret_i64 (HS.out.trans (chkA_twice N1.out N2.out HQ.out)).symm, HK.out.trans ((kept_alloc _ _).trans (kept_grow _ _ _))⟩
              | false =>
                go_wp2_with (go_at_call 34; refine (name_any _ _ (by assumption)).mono ?_; rintro e w' ⟨rfl, rfl⟩)
                go_quiet_grown (first | (go_at_call 35; refine Calls.grown_of (cz _ _)))
                go_wp2
                go_roundw
                case rel => exact ⟨k + 1, by omega, by go_num, by rw [take_snoc HX.out]; exact (chkA_next N1.out N2.out HQ.out).symm.trans HT.out.symm, HK.out.trans ((kept_alloc _ _).trans (kept_grow _ _ _))⟩
                case measure => simp [intOf]; omega
            · have n2 : isName y = false := by simpa using n2
              have N := Lib.hid (show (isName x && isName y) = false by rw [n2, Bool.and_false])
              go_wp2_with (go_at_call 34; refine (name_any _ _ (by assumption)).mono ?_; rintro e w' ⟨rfl, rfl⟩)
              go_ret
              exact ⟨ret_i64 (HS.out.trans (chkA_name N.out)).symm, HK.out.trans (kept_alloc _ _)⟩
          · have n1 : isName x = false := by simpa using n1
            have N := Lib.hid (show (isName x && isName y) = false by rw [n1, Bool.false_and])
            go_wp2_with (go_at_call 34; refine (name_any x _ hz).mono ?_; rintro e w' ⟨rfl, rfl⟩)
            go_ret
            exact ⟨ret_i64 (HS.out.trans (chkA_name N.out)).symm, HK.out.trans (kept_alloc _ _)⟩
        · have HK := Lib.hid hK
          have HS := Lib.hid ((HV.out.trans hrest.symm).trans (congrArg (chkAF (l.take k)) (drop_end (by rw [HL.out]; exact hlt))))
          clear hK hrest
          go_wp2
          go_ret
          exact ⟨ret_i64 (HS.out.trans rfl).symm, HK.out⟩
  · have HV := Lib.hid (show chkA l = 4 by unfold chkA; rw [if_pos (by omega)])
    have h9 : 8 < len := by omega
    clear h8 hr hl
    go_enter Tryd.func15, Tryd.ntmps15
    go_wp2
    go_ret
    exact ⟨ret_i64 HV.out.symm, Kept.refl _⟩

end Go.Proofs.YthlhaefaafjmlaaDoor
