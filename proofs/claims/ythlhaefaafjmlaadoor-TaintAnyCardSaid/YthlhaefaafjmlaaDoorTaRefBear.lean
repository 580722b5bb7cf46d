/- The reference's Bears, Worst, Soft. -/
import Derived.Test.YthlhaefaafjmlaaDoorTaBase
import Derived.Test.YthlhaefaafjmlaaDoorTaWorst
namespace Go.Proofs.YthlhaefaafjmlaaDoor
open Go.RowKit Go.Sort
set_option linter.unusedVariables false

set_option maxHeartbeats 3200000 in
theorem refBears_any (a : Option Addr) (len cap : Nat) (l : NL) (t1 t2 : ByteArray) (t3 : Bool) (w : World) (hr : RowAt TaLay w a len l) :
    Calls Tryd.prog 26 #[.slice a len cap, NV t1 t2 t3] w fun e w' => e = .returned (.bool (bearsN l (t1, t2, t3))) ∧ Grw w w' := by
  have hl := hr.1
  have hm := hr.2.1
  unfold maxLen at hm
  rcases hr.form with h0 | ⟨b, off, rfl⟩
  · subst h0
    have HE := Lib.hid (show bearsN l (t1, t2, t3) = false by rw [List.eq_nil_of_length_eq_zero hl]; rfl)
    clear hr hl
    go_enter Tryd.func26, Tryd.ntmps26
    go_wp2
    refine wp_loop_rounds 1 ?_
    rw [rounds_succ]
    go_wp2
    go_ret
    exact ⟨ret_bool HE.out.symm, Grw.alloc _ _⟩
  · have HR := Lib.hid hr
    have HL := Lib.hid hl
    clear hr hl
    go_enter Tryd.func26, Tryd.ntmps26
    go_wp2
    go_loopw [5] (fun i wr => ∃ k : Nat, k ≤ len ∧ i = .int .i64 k ∧ bearsN (l.drop k) (t1, t2, t3) = bearsN l (t1, t2, t3) ∧ Grw (w.alloc (.cells #[.string t1, .string t2, .bool t3] 40)) wr) (fun i _ => len - (intOf i).toNat)
    case atStart => exact ⟨0, Nat.zero_le _, rfl, rfl, Grw.refl _⟩
    case round =>
      obtain ⟨k, hk, rfl, hrest, hG⟩ := hrel
      have hK := hG.kept
      have HGG := Lib.hid hG
      have HGW := Lib.hid ((Grw.alloc w _).trans hG)
      have hKw : Kept w wr := (kept_alloc w _).trans hK
      have tn := (TriAt.new w t1 t2 t3 40).kept hK
      have g1 := tn.1
      have g2 := tn.2.1
      dsimp only at g1 g2
      by_cases hlt : k < len
      · obtain ⟨x, y, m, hx, hd, hb, hz, hz2, c1, c2, c3⟩ := (HR.out.kept hKw).tri hlt
        have HK := Lib.hid hKw
        have HKK := Lib.hid hK
        obtain ⟨q, hq⟩ : ∃ q, bearN (t1, t2, t3) (x, y, m) = q := ⟨_, rfl⟩
        have HS := Lib.hid (hrest.symm.trans ((congrArg (fun z => bearsN z (t1, t2, t3)) hd).trans (show bearsN ((x, y, m) :: l.drop (k + 1)) (t1, t2, t3) = (q || bearsN (l.drop (k + 1)) (t1, t2, t3)) by rw [← hq]; rfl)))
        obtain ⟨q0, hq0⟩ : ∃ q, (x.toList == ([] : List UInt8)) = q := ⟨_, rfl⟩
        obtain ⟨q1, hq1⟩ : ∃ q, (x.toList == t1.toList) = q := ⟨_, rfl⟩
        obtain ⟨q2, hq2⟩ : ∃ q, (y.toList == t2.toList) = q := ⟨_, rfl⟩
        have HQ := Lib.hid (show q = ((q0 || q1) && (m || q2)) by rw [← hq]; unfold bearN; rw [no_iff, hq0]; unfold eqS; rw [hq1, hq2])
        have hlt' : (k : Int) < (len : Int) := by omega
        clear tn hK hKw hrest hx hd hq hG
        cases q0 with
        | true =>
          cases m with
          | true =>
            go_wp2_with fail
            go_quiet (fail)
            go_wp2
            go_ret
            exact ⟨ret_bool (HS.out.trans (by rw [HQ.out]; rfl)).symm, HGW.out.trans (Grw.drewN _ _)⟩
          | false =>
            cases q2 with
            | true =>
              go_wp2_with fail
              go_quiet (fail)
              go_wp2
              go_ret
              exact ⟨ret_bool (HS.out.trans (by rw [HQ.out]; rfl)).symm, HGW.out.trans (Grw.drewN _ _)⟩
            | false =>
              go_wp2_with fail
              go_quiet (fail)
              go_wp2
              go_roundw
              case rel => exact ⟨k + 1, by omega, by go_num, (HS.out.trans (by rw [HQ.out]; rfl)).symm, HGG.out.trans (Grw.drewN _ _)⟩
              case measure => simp [intOf]; omega
        | false =>
          cases q1 with
          | true =>
            cases m with
            | true =>
              go_wp2_with fail
              go_quiet (fail)
              go_wp2
              go_ret
              exact ⟨ret_bool (HS.out.trans (by rw [HQ.out]; rfl)).symm, HGW.out.trans (Grw.drewN _ _)⟩
            | false =>
              cases q2 with
              | true =>
                go_wp2_with fail
                go_quiet (fail)
                go_wp2
                go_ret
                exact ⟨ret_bool (HS.out.trans (by rw [HQ.out]; rfl)).symm, HGW.out.trans (Grw.drewN _ _)⟩
              | false =>
                go_wp2_with fail
                go_quiet (fail)
                go_wp2
                go_roundw
                case rel => exact ⟨k + 1, by omega, by go_num, (HS.out.trans (by rw [HQ.out]; rfl)).symm, HGG.out.trans (Grw.drewN _ _)⟩
                case measure => simp [intOf]; omega
          | false =>
            go_wp2_with fail
            go_quiet (fail)
            go_wp2
            go_roundw
            case rel => exact ⟨k + 1, by omega, by go_num, (HS.out.trans (by rw [HQ.out]; rfl)).symm, HGG.out.trans (Grw.drewN _ _)⟩
            case measure => simp [intOf]; omega
      · have HKK := Lib.hid hKw
        have HS := Lib.hid (hrest.symm.trans (congrArg (fun z => bearsN z (t1, t2, t3)) (drop_end (by rw [HL.out]; exact hlt))))
        clear tn hK hKw hrest hG
        go_wp2
        go_ret
        exact ⟨ret_bool (HS.out.trans rfl).symm, HGW.out⟩

theorem refBearsR {v : Value} {l : NL} {x y : ByteArray} {m b : Bool} {w : World} (h : Reads TaLay w v l) (hb : bearsN l (x, y, m) = b) :
    Calls Tryd.prog 26 #[v, NV x y m] w (Say (.bool b) w) := by
  obtain ⟨a, cap, rfl, _, _, hr⟩ := h
  exact (refBears_any a _ cap l x y m w hr).mono fun e w' ⟨he, k⟩ => ⟨by rw [he]; exact ret_bool hb, k.kept⟩

set_option maxHeartbeats 1600000 in
theorem refWorst_any (a a' : Option Addr) (len cap len' cap' : Nat) (l t : NL) (w : World) (hr : RowAt TaLay w a len l) (hr' : RowAt TaLay w a' len' t) :
    Calls Tryd.prog 18 #[.slice a len cap, .slice a' len' cap'] w fun e w' => e = .returned (.tuple #[NV (wT (worstN l t)).1 (wT (worstN l t)).2.1 (wT (worstN l t)).2.2, .bool (worstN l t).isSome]) ∧ Kept w w' := by
  have hl := hr'.1
  have hm := hr'.2.1
  unfold maxLen at hm
  rcases hr'.form with h0 | ⟨b, off, rfl⟩
  · subst h0
    have HE := Lib.hid (show worstN l t = none by rw [List.eq_nil_of_length_eq_zero hl]; rfl)
    rw [HE.out]
    clear hr hr' hl
    go_enter Tryd.func18, Tryd.ntmps18
    go_wp2
    refine wp_loop_rounds 1 ?_
    rw [rounds_succ]
    go_wp2
    (try simp only [Exit.inBlock, Exit.then])
    refine bodyPost_ret (v := .tuple #[NV ⟨#[]⟩ ⟨#[]⟩ false, .bool false]) (by simp [results, Tryd.results18, go_sem]) rfl ?_
    exact ⟨rfl, kept_alloc _ _⟩
  · have HR := Lib.hid hr
    have HR' := Lib.hid hr'
    have HL := Lib.hid hl
    clear hr hr' hl
    go_enter Tryd.func18, Tryd.ntmps18
    go_wp2
    go_loopw [6] (fun i wr => ∃ k : Nat, k ≤ len' ∧ i = .int .i64 k ∧ worstN l (t.drop k) = worstN l t ∧ Kept (w.alloc (.cells #[.string ⟨#[]⟩, .string ⟨#[]⟩, .bool false] 40)) wr) (fun i _ => len' - (intOf i).toNat)
    case atStart => exact ⟨0, Nat.zero_le _, rfl, rfl, Kept.refl _⟩
    case round =>
      obtain ⟨k, hk, rfl, hrest, hK⟩ := hrel
      have hKw : Kept w wr := (kept_alloc w _).trans hK
      have tn := (TriAt.new w ⟨#[]⟩ ⟨#[]⟩ false 40).kept hK
      have d1 := tn.1
      have d2 := tn.2.1
      have d3 := tn.2.2
      dsimp only at d1 d2 d3
      have hbs : w.heap.size < wr.heap.size := by have := hK.size; simp at this; omega
      have fr := tri_free w ⟨#[]⟩ ⟨#[]⟩ false 40
      have z1 := free_later hK (by simp) fr.1
      have z2 := free_later hK (by simp) fr.2.1
      have z3 := free_later hK (by simp) fr.2.2
      clear tn fr
      by_cases hlt : k < len'
      · obtain ⟨x, y, m, hx, hd, hb, hz, hz2, c1, c2, c3⟩ := (HR'.out.kept hKw).tri hlt
        have HK := Lib.hid hKw
        obtain ⟨q, hq⟩ : ∃ q, bearsN l (x, y, m) = q := ⟨_, rfl⟩
        have HS := Lib.hid (hrest.symm.trans ((congrArg (worstN l) hd).trans (worst_cons.trans (by rw [hq]))))
        have HC := Lib.hid (fun W (h : Kept w W) => refBears_any a len cap l x y m W (HR.out.kept h))
        rw [hq] at HC
        have HKK := Lib.hid hK
        clear hK hrest hx hd hq hKw
        cases m with
        | false =>
          go_wp2_with fail
          go_roundw
          case rel => exact ⟨k + 1, by omega, by go_num, HS.out.symm, HKK.out⟩
          case measure => simp [intOf]; omega
        | true =>
          cases q with
          | true =>
            go_wp2_with (go_at_call 26; refine (HC.out _ HK.out).mono ?_; rintro e w1 ⟨rfl, k1⟩; have K1 := Lib.hid k1.kept; clear k1)
            go_roundw
            case rel => exact ⟨k + 1, by omega, by go_num, HS.out.symm, HKK.out.trans K1.out⟩
            case measure => simp [intOf]; omega
          | false =>
            have HW := Lib.hid (show worstN l t = some (x, y, true) from HS.out)
            go_wp2_with (go_at_call 26; refine (HC.out _ HK.out).mono ?_; rintro e w1 ⟨rfl, k1⟩; have K1 := Lib.hid k1.kept; have y1 := free_later K1.out hbs z1; have y2 := free_later K1.out hbs z2; have y3 := free_later K1.out hbs z3; have f1 := cell_later K1.out d1; have f2 := cell_later K1.out d2; have f3 := cell_later K1.out d3; have g1 := cell_later K1.out c1; have g2 := cell_later K1.out c2; have g3 := cell_later K1.out c3; clear k1)
            (try simp only [Exit.inBlock, Exit.then])
            have s3 := set_three w1 w.heap.size (.string x) (.string y) (.bool true) f1 f2 f3
            refine bodyPost_ret (v := .tuple #[NV x y true, .bool true]) (by simp [results, Tryd.results18, go_sem, s3.1, s3.2.1, s3.2.2]) rfl ?_
            exact ⟨by rw [HW.out]; rfl, kept_cell (kept_cell (kept_cell (HK.out.trans K1.out) (Nat.le_refl _) _) (Nat.le_refl _) _) (Nat.le_refl _) _⟩
      · have HKK := Lib.hid hKw
        have HS := Lib.hid (show worstN l t = none from (hrest.symm.trans (congrArg (worstN l) (drop_end (by rw [HL.out]; exact hlt)))))
        clear hK hrest hKw
        go_wp2
        (try simp only [Exit.inBlock, Exit.then])
        have s3 := set_three wr w.heap.size (.string ⟨#[]⟩) (.string ⟨#[]⟩) (.bool false) d1 d2 d3
        refine bodyPost_ret (v := .tuple #[NV ⟨#[]⟩ ⟨#[]⟩ false, .bool false]) (by simp [results, Tryd.results18, go_sem, s3.1, s3.2.1, s3.2.2]) rfl ?_
        exact ⟨by rw [HS.out]; rfl, kept_cell (kept_cell (kept_cell HKK.out (Nat.le_refl _) _) (Nat.le_refl _) _) (Nat.le_refl _) _⟩

set_option maxHeartbeats 1600000 in
theorem refSoft_any (a a' : Option Addr) (len cap len' cap' : Nat) (l t : NL) (w : World) (hr : RowAt TaLay w a len l) (hr' : RowAt TaLay w a' len' t) :
    Calls Tryd.prog 20 #[.slice a len cap, .slice a' len' cap'] w fun e w' => e = .returned (.int .i64 (softN l t)) ∧ Kept w w' := by
  have hl := hr'.1
  have hm := hr'.2.1
  unfold maxLen at hm
  rcases hr'.form with h0 | ⟨b, off, rfl⟩
  · subst h0
    have HE := Lib.hid (show (softN l t : Int) = 0 by rw [List.eq_nil_of_length_eq_zero hl]; rfl)
    rw [HE.out]
    clear hr hr' hl
    go_enter Tryd.func20, Tryd.ntmps20
    go_wp2
    refine wp_loop_rounds 1 ?_
    rw [rounds_succ]
    go_wp2
    go_ret
    exact ⟨rfl, Kept.refl _⟩
  · have HR := Lib.hid hr
    have HR' := Lib.hid hr'
    have HL := Lib.hid hl
    clear hr hr' hl
    go_enter Tryd.func20, Tryd.ntmps20
    go_wp2
    go_loopw [5, 6] (fun v i wr => ∃ k n : Nat, k ≤ len' ∧ i = .int .i64 k ∧ v = .int .i64 n ∧ n ≤ k ∧ n + softN l (t.drop k) = softN l t ∧ Kept w wr) (fun _ i _ => len' - (intOf i).toNat)
    case atStart => exact ⟨0, 0, Nat.zero_le _, rfl, rfl, Nat.le_refl _, by simp, Kept.refl _⟩
    case round =>
      obtain ⟨k, n, hk, rfl, rfl, hn, hrest, hK⟩ := hrel
      by_cases hlt : k < len'
      · obtain ⟨x, y, m, hx, hd, hb, hz, hz2, c1, c2, c3⟩ := (HR'.out.kept hK).tri hlt
        have HK := Lib.hid hK
        obtain ⟨q, hq⟩ : ∃ q, bearsN l (x, y, m) = q := ⟨_, rfl⟩
        have HS := Lib.hid (show n + ((if (!m && !q) = true then 1 else 0) + softN l (t.drop (k + 1))) = softN l t by rw [← hrest, hd, soft_cons, hq])
        have HC := Lib.hid (fun W (h : Kept w W) => refBears_any a len cap l x y m W (HR.out.kept h))
        rw [hq] at HC
        clear hK hrest hx hd hq
        cases m with
        | true =>
          go_wp2_with fail
          go_roundw
          case rel => exact ⟨k + 1, n, by omega, by go_num, rfl, by omega, by have := HS.out; simpa using this, HK.out⟩
          case measure => simp [intOf]; omega
        | false =>
          cases q with
          | true =>
            go_wp2_with (go_at_call 26; refine (HC.out _ HK.out).mono ?_; rintro e w1 ⟨rfl, k1⟩; have K1 := Lib.hid k1.kept; clear k1)
            go_roundw
            case rel => exact ⟨k + 1, n, by omega, by go_num, rfl, by omega, by have := HS.out; simpa using this, HK.out.trans K1.out⟩
            case measure => simp [intOf]; omega
          | false =>
            go_wp2_with (go_at_call 26; refine (HC.out _ HK.out).mono ?_; rintro e w1 ⟨rfl, k1⟩; have K1 := Lib.hid k1.kept; clear k1)
            go_roundw
            case rel => exact ⟨k + 1, n + 1, by omega, by go_num, by go_num, by omega, by have := HS.out; simp at this; omega, HK.out.trans K1.out⟩
            case measure => simp [intOf]; omega
      · have HKK := Lib.hid hK
        have HS := Lib.hid (show softN l t = n by rw [← hrest, drop_end (by rw [HL.out]; exact hlt)]; rfl)
        clear hK hrest
        go_wp2
        go_ret
        exact ⟨by rw [HS.out]; rfl, HKK.out⟩

theorem refWorstR {v v' : Value} {l t : NL} {x y : ByteArray} {m b : Bool} {w : World} (h : Reads TaLay w v l) (h' : Reads TaLay w v' t) (hx : wT (worstN l t) = (x, y, m)) (hb : (worstN l t).isSome = b) :
    Calls Tryd.prog 18 #[v, v'] w (Say (.tuple #[NV x y m, .bool b]) w) := by
  obtain ⟨a, cap, rfl, _, _, hr⟩ := h
  obtain ⟨a', cap', rfl, _, _, hr'⟩ := h'
  exact (refWorst_any a a' _ cap _ cap' l t w hr hr').mono fun e w' ⟨he, k⟩ => ⟨by rw [he, hx, hb], k⟩
theorem refSoftR {v v' : Value} {l t : NL} {n : Nat} {w : World} (h : Reads TaLay w v l) (h' : Reads TaLay w v' t) (hn : softN l t = n) :
    Calls Tryd.prog 20 #[v, v'] w (Say (.int .i64 n) w) := by
  obtain ⟨a, cap, rfl, _, _, hr⟩ := h
  obtain ⟨a', cap', rfl, _, _, hr'⟩ := h'
  exact (refSoft_any a a' _ cap _ cap' l t w hr hr').mono fun e w' ⟨he, k⟩ => ⟨by rw [he, hn], k⟩

end Go.Proofs.YthlhaefaafjmlaaDoor
