/- Whether a pair is there ahead; what is borne. -/
import Derived.Test.YthlhaefaafjmlaaDoorTaBase
import Derived.Test.YthlhaefaafjmlaaDoorGGrw
namespace Go.Proofs.YthlhaefaafjmlaaDoor
open Go.RowKit Go.Sort
set_option linter.unusedVariables false

/-- A key, a value and a mark lie at c. -/
def TriAt (w : World) (c : Nat) (t : NT) : Prop := w.cell? ⟨c, 0, none⟩ = some (.string t.1) ∧ w.cell? ⟨c, 1, none⟩ = some (.string t.2.1) ∧ w.cell? ⟨c, 2, none⟩ = some (.bool t.2.2)
theorem TriAt.kept {w w' : World} {c : Nat} {t : NT} (h : TriAt w c t) (k : Kept w w') : TriAt w' c t := ⟨cell_later k h.1, cell_later k h.2.1, cell_later k h.2.2⟩
theorem TriAt.new (w : World) (x y : ByteArray) (m : Bool) (T : TypeId) : TriAt (w.alloc (.cells #[.string x, .string y, .bool m] T)) w.heap.size (x, y, m) := by
  have hh := w.alloc_heap_new (.cells #[.string x, .string y, .bool m] T)
  exact ⟨by rw [Lib.cell_of_heap hh]; rfl, by rw [Lib.cell_of_heap hh]; rfl, by rw [Lib.cell_of_heap hh]; rfl⟩

theorem twin_any (c : Nat) (t : NT) (x y : ByteArray) (m : Bool) (w : World) (h : TriAt w c t) :
    Calls Tryd.prog 56 #[NV x y m, .pointer (some ⟨c, 0, none⟩)] w fun e w' => e = .returned (.bool (twinN t (x, y, m))) ∧ Grw w w' := by
  obtain ⟨t1, t2, t3⟩ := t
  obtain ⟨h1, h2, h3⟩ := h
  dsimp only at h1 h2 h3
  have g1 := cell_later (kept_alloc w (.cells #[.string x, .string y, .bool m] 37)) h1
  have g2 := cell_later (kept_alloc w (.cells #[.string x, .string y, .bool m] 37)) h2
  have g3 := cell_later (kept_alloc w (.cells #[.string x, .string y, .bool m] 37)) h3
  obtain ⟨q1, hq1⟩ : ∃ q, (x.toList == t1.toList) = q := ⟨_, rfl⟩
  obtain ⟨q2, hq2⟩ : ∃ q, (y.toList == t2.toList) = q := ⟨_, rfl⟩
  have HV := Lib.hid (show twinN (t1, t2, t3) (x, y, m) = (q1 && q2) by unfold twinN eqS; rw [hq1, hq2])
  cases q1 <;> cases q2 <;>
  (go_enter Tryd.func56, Tryd.ntmps56
   go_wp2
   go_ret
   exact ⟨ret_bool HV.out.symm, Grw.alloc _ _⟩)

set_option maxHeartbeats 1600000 in
theorem bear_any (t1 t2 : ByteArray) (t3 : Bool) (x y : ByteArray) (m : Bool) (w : World) :
    Calls Tryd.prog 44 #[NV x y m, NV t1 t2 t3] w fun e w' => e = .returned (.bool (bearN (t1, t2, t3) (x, y, m))) ∧ Grw w w' := by
  obtain ⟨q0, hq0⟩ : ∃ q, (x.toList == ([] : List UInt8)) = q := ⟨_, rfl⟩
  obtain ⟨q1, hq1⟩ : ∃ q, (x.toList == t1.toList) = q := ⟨_, rfl⟩
  obtain ⟨q2, hq2⟩ : ∃ q, (y.toList == t2.toList) = q := ⟨_, rfl⟩
  have HV := Lib.hid (show bearN (t1, t2, t3) (x, y, m) = ((q0 || q1) && (m || q2)) by unfold bearN; rw [no_iff, hq0]; unfold eqS; rw [hq1, hq2])
  cases q0 <;> cases q1 <;> cases m <;> cases q2 <;>
  (go_enter Tryd.func44, Tryd.ntmps44
   go_wp2
   go_ret
   exact ⟨ret_bool HV.out.symm, (Grw.alloc _ _).trans (Grw.alloc _ _)⟩)

theorem bears1_any (c : Nat) (t : NT) (x y : ByteArray) (m : Bool) (w : World) (h : TriAt w c t) :
    Calls Tryd.prog 43 #[NV x y m, .pointer (some ⟨c, 0, none⟩)] w fun e w' => e = .returned (.bool (bearN t (x, y, m))) ∧ Grw w w' := by
  obtain ⟨t1, t2, t3⟩ := t
  obtain ⟨h1, h2, h3⟩ := h
  dsimp only at h1 h2 h3
  have g1 := cell_later (kept_alloc w (.cells #[.string x, .string y, .bool m] 64)) h1
  have g2 := cell_later (kept_alloc w (.cells #[.string x, .string y, .bool m] 64)) h2
  have g3 := cell_later (kept_alloc w (.cells #[.string x, .string y, .bool m] 64)) h3
  go_enter Tryd.func43, Tryd.ntmps43
  go_wp2_with (go_at_call 44; refine (bear_any t1 t2 t3 x y m _).mono ?_; rintro e w1 ⟨rfl, k1⟩; have K1 := Lib.hid k1; clear k1)
  go_ret
  exact ⟨rfl, (Grw.alloc _ _).trans K1.out⟩

set_option maxHeartbeats 800000 in
theorem indexA_any (a : Option Addr) (len cap : Nat) (l : NL) (c : Nat) (t : NT) (w : World) (hr : RowAt TaLay w a len l) (ht : TriAt w c t) :
    Calls Tryd.prog 67 #[.slice a len cap, .func (.func 56) #[] #[.pointer (some ⟨c, 0, none⟩)]] w fun e w' => ∃ i : Int, e = .returned (.int .i64 i) ∧ decide (0 ≤ i) = l.any (twinN t) ∧ Grw w w' := by
  have hl := hr.1
  have hm := hr.2.1
  unfold maxLen at hm
  rcases hr.form with h0 | ⟨b, off, rfl⟩
  · subst h0
    have HE := Lib.hid (show l.any (twinN t) = false by rw [List.eq_nil_of_length_eq_zero hl]; rfl)
    clear hr hl ht
    go_enter Tryd.func67, Tryd.ntmps67
    go_wp2
    refine wp_loop_rounds 1 ?_
    rw [rounds_succ]
    go_wp2
    go_ret
    exact ⟨-1, rfl, HE.out.symm, Grw.refl _⟩
  · have HR := Lib.hid hr
    have HL := Lib.hid hl
    have HT := Lib.hid ht
    clear hr hl ht
    go_enter Tryd.func67, Tryd.ntmps67
    go_wp2
    go_loopw [8] (fun i wr => ∃ k : Nat, k ≤ len ∧ i = .int .i64 k ∧ (l.drop k).any (twinN t) = l.any (twinN t) ∧ Grw w wr) (fun i _ => len - (intOf i).toNat)
    case atStart => exact ⟨0, Nat.zero_le _, rfl, rfl, Grw.refl _⟩
    case round =>
      obtain ⟨k, hk, rfl, hrest, hG⟩ := hrel
      have hK := hG.kept
      have HG := Lib.hid hG
      by_cases hlt : k < len
      · obtain ⟨x, y, m, hx, hd, hb, hz, hz2, c1, c2, c3⟩ := (HR.out.kept hK).tri hlt
        have HK := Lib.hid hK
        have HS := Lib.hid (hrest.symm.trans ((congrArg (fun z => z.any (twinN t)) hd).trans (List.any_cons)))
        obtain ⟨q, hq⟩ : ∃ q, twinN t (x, y, m) = q := ⟨_, rfl⟩
        rw [hq] at HS
        have HQ := Lib.hid hq
        have HC := Lib.hid (HT.out.kept hK)
        clear hK hrest hx hd hG hq
        cases q with
        | true =>
          go_wp2_with (go_at_call 56; refine (twin_any c t x y m _ HC.out).mono ?_; rw [HQ.out]; rintro e w1 ⟨rfl, k1⟩; have K1 := Lib.hid k1; clear k1)
          go_ret
          exact ⟨(k : Int), rfl, by rw [HS.out]; simp, HG.out.trans K1.out⟩
        | false =>
          go_wp2_with (go_at_call 56; refine (twin_any c t x y m _ HC.out).mono ?_; rw [HQ.out]; rintro e w1 ⟨rfl, k1⟩; have K1 := Lib.hid k1; clear k1)
          go_roundw
          case rel => exact ⟨k + 1, by omega, by go_num, (HS.out.trans (Bool.false_or _)).symm, HG.out.trans K1.out⟩
          case measure => simp [intOf]; omega
      · have HS := Lib.hid (hrest.symm.trans (congrArg (fun z => z.any (twinN t)) (drop_end (by rw [HL.out]; exact hlt))))
        clear hK hrest hG
        go_wp2
        go_ret
        exact ⟨-1, rfl, by rw [HS.out]; rfl, HG.out⟩

theorem containsA_any (a : Option Addr) (len cap : Nat) (l : NL) (c : Nat) (t : NT) (w : World) (hr : RowAt TaLay w a len l) (ht : TriAt w c t) :
    Calls Tryd.prog 55 #[.slice a len cap, .func (.func 56) #[] #[.pointer (some ⟨c, 0, none⟩)]] w fun e w' => e = .returned (.bool (l.any (twinN t))) ∧ Grw w w' := by
  have HI := Lib.hid (indexA_any a len cap l c t w hr ht)
  clear hr ht
  go_enter Tryd.func55, Tryd.ntmps55
  go_wp2_with fail
  refine HI.out.mono ?_
  rintro e w1 ⟨i, rfl, hi, k1⟩
  have K1 := Lib.hid k1
  have HB := Lib.hid hi
  clear hi k1
  go_wp2
  go_ret
  exact ⟨ret_bool HB.out, K1.out⟩

theorem ahead_any (a : Option Addr) (len cap : Nat) (l : NL) (t1 t2 : ByteArray) (t3 : Bool) (w : World) (hr : RowAt TaLay w a len l) :
    Calls Tryd.prog 35 #[.slice a len cap, NV t1 t2 t3] w fun e w' => e = .returned (.bool (l.any (twinN (t1, t2, t3)))) ∧ Grw w w' := by
  have hmf : ∀ (fn : Fn) (first cap : Array Value) (w : World), (Instr.makeFunc fn first cap).run Tryd.prog w = .ok (.func fn first cap) w := fun _ _ _ _ => rfl
  have HI := Lib.hid (containsA_any a len cap l w.heap.size (t1, t2, t3) (w.alloc (.cells #[.string t1, .string t2, .bool t3] 37)) (hr.kept (kept_alloc _ _)) (TriAt.new w t1 t2 t3 _))
  clear hr
  go_enter Tryd.func35, Tryd.ntmps35
  go_wp2_with fail
  refine HI.out.mono ?_
  rintro e w1 ⟨rfl, k1⟩
  have K1 := Lib.hid k1
  clear k1
  go_wp2
  go_ret
  exact ⟨rfl, (Grw.alloc _ _).trans K1.out⟩

set_option maxHeartbeats 800000 in
theorem indexO_any (a : Option Addr) (len cap : Nat) (l : NL) (c : Nat) (t : NT) (w : World) (hr : RowAt TaLay w a len l) (ht : TriAt w c t) :
    Calls Tryd.prog 58 #[.slice a len cap, .func (.func 43) #[] #[.pointer (some ⟨c, 0, none⟩)]] w fun e w' => ∃ i : Int, e = .returned (.int .i64 i) ∧ decide (0 ≤ i) = l.any (bearN t) ∧ Grw w w' := by
  have hl := hr.1
  have hm := hr.2.1
  unfold maxLen at hm
  rcases hr.form with h0 | ⟨b, off, rfl⟩
  · subst h0
    have HE := Lib.hid (show l.any (bearN t) = false by rw [List.eq_nil_of_length_eq_zero hl]; rfl)
    clear hr hl ht
    go_enter Tryd.func58, Tryd.ntmps58
    go_wp2
    refine wp_loop_rounds 1 ?_
    rw [rounds_succ]
    go_wp2
    go_ret
    exact ⟨-1, rfl, HE.out.symm, Grw.refl _⟩
  · have HR := Lib.hid hr
    have HL := Lib.hid hl
    have HT := Lib.hid ht
    clear hr hl ht
    go_enter Tryd.func58, Tryd.ntmps58
    go_wp2
    go_loopw [8] (fun i wr => ∃ k : Nat, k ≤ len ∧ i = .int .i64 k ∧ (l.drop k).any (bearN t) = l.any (bearN t) ∧ Grw w wr) (fun i _ => len - (intOf i).toNat)
    case atStart => exact ⟨0, Nat.zero_le _, rfl, rfl, Grw.refl _⟩
    case round =>
      obtain ⟨k, hk, rfl, hrest, hG⟩ := hrel
      have hK := hG.kept
      have HG := Lib.hid hG
      by_cases hlt : k < len
      · obtain ⟨x, y, m, hx, hd, hb, hz, hz2, c1, c2, c3⟩ := (HR.out.kept hK).tri hlt
        have HK := Lib.hid hK
        have HS := Lib.hid (hrest.symm.trans ((congrArg (fun z => z.any (bearN t)) hd).trans (List.any_cons)))
        obtain ⟨q, hq⟩ : ∃ q, bearN t (x, y, m) = q := ⟨_, rfl⟩
        rw [hq] at HS
        have HQ := Lib.hid hq
        have HC := Lib.hid (HT.out.kept hK)
        clear hK hrest hx hd hG hq
        cases q with
        | true =>
          go_wp2_with (go_at_call 43; refine (bears1_any c t x y m _ HC.out).mono ?_; rw [HQ.out]; rintro e w1 ⟨rfl, k1⟩; have K1 := Lib.hid k1; clear k1)
          go_ret
          exact ⟨(k : Int), rfl, by rw [HS.out]; simp, HG.out.trans K1.out⟩
        | false =>
          go_wp2_with (go_at_call 43; refine (bears1_any c t x y m _ HC.out).mono ?_; rw [HQ.out]; rintro e w1 ⟨rfl, k1⟩; have K1 := Lib.hid k1; clear k1)
          go_roundw
          case rel => exact ⟨k + 1, by omega, by go_num, (HS.out.trans (Bool.false_or _)).symm, HG.out.trans K1.out⟩
          case measure => simp [intOf]; omega
      · have HS := Lib.hid (hrest.symm.trans (congrArg (fun z => z.any (bearN t)) (drop_end (by rw [HL.out]; exact hlt))))
        clear hK hrest hG
        go_wp2
        go_ret
        exact ⟨-1, rfl, by rw [HS.out]; rfl, HG.out⟩

theorem containsO_any (a : Option Addr) (len cap : Nat) (l : NL) (c : Nat) (t : NT) (w : World) (hr : RowAt TaLay w a len l) (ht : TriAt w c t) :
    Calls Tryd.prog 42 #[.slice a len cap, .func (.func 43) #[] #[.pointer (some ⟨c, 0, none⟩)]] w fun e w' => e = .returned (.bool (l.any (bearN t))) ∧ Grw w w' := by
  have HI := Lib.hid (indexO_any a len cap l c t w hr ht)
  clear hr ht
  go_enter Tryd.func42, Tryd.ntmps42
  go_wp2_with fail
  refine HI.out.mono ?_
  rintro e w1 ⟨i, rfl, hi, k1⟩
  have K1 := Lib.hid k1
  have HB := Lib.hid hi
  clear hi k1
  go_wp2
  go_ret
  exact ⟨ret_bool HB.out, K1.out⟩

theorem bears_any (a : Option Addr) (len cap : Nat) (l : NL) (t1 t2 : ByteArray) (t3 : Bool) (w : World) (hr : RowAt TaLay w a len l) :
    Calls Tryd.prog 25 #[.slice a len cap, NV t1 t2 t3] w fun e w' => e = .returned (.bool (l.any (bearN (t1, t2, t3)))) ∧ Grw w w' := by
  have hmf : ∀ (fn : Fn) (first cap : Array Value) (w : World), (Instr.makeFunc fn first cap).run Tryd.prog w = .ok (.func fn first cap) w := fun _ _ _ _ => rfl
  have HI := Lib.hid (containsO_any a len cap l w.heap.size (t1, t2, t3) (w.alloc (.cells #[.string t1, .string t2, .bool t3] 37)) (hr.kept (kept_alloc _ _)) (TriAt.new w t1 t2 t3 _))
  clear hr
  go_enter Tryd.func25, Tryd.ntmps25
  go_wp2_with fail
  refine HI.out.mono ?_
  rintro e w1 ⟨rfl, k1⟩
  have K1 := Lib.hid k1
  clear k1
  go_wp2
  go_ret
  exact ⟨rfl, (Grw.alloc _ _).trans K1.out⟩

end Go.Proofs.YthlhaefaafjmlaaDoor
