/- The worst taint; how many soft ones are not borne. -/
import Derived.Test.YthlhaefaafjmlaaDoorTaRead
import Derived.Test.YthlhaefaafjmlaaDoorGStr
namespace Go.Proofs.YthlhaefaafjmlaaDoor
open Go.RowKit Go.Sort
set_option linter.unusedVariables false

theorem worst_cons {l : NL} {t : NT} {r : NL} : worstN l (t :: r) = if (t.2.2 && !bearsN l t) = true then some t else worstN l r := rfl
theorem soft_cons {l : NL} {t : NT} {r : NL} : softN l (t :: r) = (if (!t.2.2 && !bearsN l t) = true then 1 else 0) + softN l r := rfl
theorem tri_free (w : World) (x y : ByteArray) (m : Bool) (T : TypeId) : (w.alloc (.cells #[.string x, .string y, .bool m] T)).frozen? ⟨w.heap.size, 0, none⟩ = false ∧ (w.alloc (.cells #[.string x, .string y, .bool m] T)).frozen? ⟨w.heap.size, 1, none⟩ = false ∧ (w.alloc (.cells #[.string x, .string y, .bool m] T)).frozen? ⟨w.heap.size, 2, none⟩ = false := by
  refine ⟨?_, ?_, ?_⟩ <;> go_simp
theorem free_later {w w' : World} {c i : Nat} (k : Kept w w') (hc : c < w.heap.size) (h : w.frozen? ⟨c, i, none⟩ = false) : w'.frozen? ⟨c, i, none⟩ = false := (k.frozen (p := ⟨c, i, none⟩) hc).trans h
theorem set_three (w : World) (c : Nat) (u0 u1 u2 : Value) {o0 o1 o2 : Value} (h0 : w.cell? ⟨c, 0, none⟩ = some o0) (h1 : w.cell? ⟨c, 1, none⟩ = some o1) (h2 : w.cell? ⟨c, 2, none⟩ = some o2) :
    (w.setCell ⟨c, 0, none⟩ u0).cell? ⟨c, 0, none⟩ = some u0 ∧ ((w.setCell ⟨c, 0, none⟩ u0).setCell ⟨c, 1, none⟩ u1).cell? ⟨c, 1, none⟩ = some u1 ∧ (((w.setCell ⟨c, 0, none⟩ u0).setCell ⟨c, 1, none⟩ u1).setCell ⟨c, 2, none⟩ u2).cell? ⟨c, 2, none⟩ = some u2 := by
  refine ⟨World.cell?_setCell_same' _ _ _ (by rw [h0]; rfl), World.cell?_setCell_same' _ _ _ ?_, World.cell?_setCell_same' _ _ _ ?_⟩
  · rw [World.cell?_setCell_other _ _ _ _ (by intro e; injection e with e1 e2; cases e2), h1]; rfl
  · rw [World.cell?_setCell_other _ _ _ _ (by intro e; injection e with e1 e2; cases e2), World.cell?_setCell_other _ _ _ _ (by intro e; injection e with e1 e2; cases e2), h2]; rfl
def wT (o : Option NT) : NT := o.getD (ByteArray.empty, ByteArray.empty, false)

set_option maxHeartbeats 1600000 in
theorem worst_any (a a' : Option Addr) (len cap len' cap' : Nat) (l t : NL) (w : World) (hr : RowAt TaLay w a len l) (hr' : RowAt TaLay w a' len' t) :
    Calls Tryd.prog 17 #[.slice a len cap, .slice a' len' cap'] w fun e w' => e = .returned (.tuple #[NV (wT (worstN l t)).1 (wT (worstN l t)).2.1 (wT (worstN l t)).2.2, .bool (worstN l t).isSome]) ∧ Kept w w' := by
  have hl := hr'.1
  have hm := hr'.2.1
  unfold maxLen at hm
  rcases hr'.form with h0 | ⟨b, off, rfl⟩
  · subst h0
    have HE := Lib.hid (show worstN l t = none by rw [List.eq_nil_of_length_eq_zero hl]; rfl)
    rw [HE.out]
    clear hr hr' hl
    go_enter Tryd.func17, Tryd.ntmps17
    go_wp2
    refine wp_loop_rounds 1 ?_
    rw [rounds_succ]
    go_wp2
    (try simp only [Exit.inBlock, Exit.then])
    refine bodyPost_ret (v := .tuple #[NV ⟨#[]⟩ ⟨#[]⟩ false, .bool false]) (by simp [results, Tryd.results17, go_sem]) rfl ?_
    exact ⟨rfl, kept_alloc _ _⟩
  · have HR := Lib.hid hr
    have HR' := Lib.hid hr'
    have HL := Lib.hid hl
    clear hr hr' hl
    go_enter Tryd.func17, Tryd.ntmps17
    go_wp2
    go_loopw [10] (fun i wr => ∃ k : Nat, k ≤ len' ∧ i = .int .i64 k ∧ worstN l (t.drop k) = worstN l t ∧ Kept (w.alloc (.cells #[.string ⟨#[]⟩, .string ⟨#[]⟩, .bool false] 37)) wr) (fun i _ => len' - (intOf i).toNat)
    case atStart => exact ⟨0, Nat.zero_le _, rfl, rfl, Kept.refl _⟩
    case round =>
      obtain ⟨k, hk, rfl, hrest, hK⟩ := hrel
      have hKw : Kept w wr := (kept_alloc w _).trans hK
      have tn := (TriAt.new w ⟨#[]⟩ ⟨#[]⟩ false 37).kept hK
      have d1 := tn.1
      have d2 := tn.2.1
      have d3 := tn.2.2
      dsimp only at d1 d2 d3
      have hbs : w.heap.size < wr.heap.size := by have := hK.size; simp at this; omega
      have fr := tri_free w ⟨#[]⟩ ⟨#[]⟩ false 37
      have z1 := free_later hK (by simp) fr.1
      have z2 := free_later hK (by simp) fr.2.1
      have z3 := free_later hK (by simp) fr.2.2
      clear tn fr
      by_cases hlt : k < len'
      · obtain ⟨x, y, m, hx, hd, hb, hz, hz2, c1, c2, c3⟩ := (HR'.out.kept hKw).tri hlt
        have HK := Lib.hid hKw
        obtain ⟨q, hq⟩ : ∃ q, bearsN l (x, y, m) = q := ⟨_, rfl⟩
        have HS := Lib.hid (hrest.symm.trans ((congrArg (worstN l) hd).trans (worst_cons.trans (by rw [hq]))))
        have HC := Lib.hid (fun W (h : Kept w W) => bears_any a len cap l x y m W (HR.out.kept h))
        rw [show l.any (bearN (x, y, m)) = q from hq] at HC
        have HKK := Lib.hid hK
        clear hK hrest hx hd hq hKw
        cases m with
        | false =>
          go_wp2_with fail
          go_roundw
          case rel => exact ⟨k + 1, by omega, by go_num, HS.out.symm, HKK.out.trans (kept_alloc _ _)⟩
          case measure => simp [intOf]; omega
        | true =>
          cases q with
          | true =>
            go_wp2_with (go_at_call 25; refine (HC.out _ (HK.out.trans (kept_alloc _ _))).mono ?_; rintro e w1 ⟨rfl, k1⟩; have K1 := Lib.hid k1.kept; clear k1)
            go_roundw
            case rel => exact ⟨k + 1, by omega, by go_num, HS.out.symm, HKK.out.trans ((kept_alloc _ _).trans K1.out)⟩
            case measure => simp [intOf]; omega
          | false =>
            have HW := Lib.hid (show worstN l t = some (x, y, true) from HS.out)
            have e1 := cell_later (kept_alloc wr (.cells #[.string x, .string y, .bool true] 37)) d1
            have e2 := cell_later (kept_alloc wr (.cells #[.string x, .string y, .bool true] 37)) d2
            have e3 := cell_later (kept_alloc wr (.cells #[.string x, .string y, .bool true] 37)) d3
            have tn := TriAt.new wr x y true 37
            go_wp2_with (go_at_call 25; refine (HC.out _ (HK.out.trans (kept_alloc _ _))).mono ?_; rintro e w1 ⟨rfl, k1⟩; have K1 := Lib.hid k1.kept; have y1 := free_later (Kept.trans (kept_alloc wr _) K1.out) hbs z1; have y2 := free_later (Kept.trans (kept_alloc wr _) K1.out) hbs z2; have y3 := free_later (Kept.trans (kept_alloc wr _) K1.out) hbs z3; have f1 := cell_later K1.out e1; have f2 := cell_later K1.out e2; have f3 := cell_later K1.out e3; have g1 := cell_later K1.out tn.1; have g2 := cell_later K1.out tn.2.1; have g3 := cell_later K1.out tn.2.2; dsimp only at g1 g2 g3; clear k1)
            (try simp only [Exit.inBlock, Exit.then])
            have s3 := set_three w1 w.heap.size (.string x) (.string y) (.bool true) f1 f2 f3
            refine bodyPost_ret (v := .tuple #[NV x y true, .bool true]) (by simp [results, Tryd.results17, go_sem, s3.1, s3.2.1, s3.2.2]) rfl ?_
            exact ⟨by rw [HW.out]; rfl, kept_cell (kept_cell (kept_cell (HK.out.trans ((kept_alloc _ _).trans K1.out)) (Nat.le_refl _) _) (Nat.le_refl _) _) (Nat.le_refl _) _⟩
      · have HKK := Lib.hid hKw
        have HS := Lib.hid (show worstN l t = none from (hrest.symm.trans (congrArg (worstN l) (drop_end (by rw [HL.out]; exact hlt)))))
        clear hK hrest hKw
        go_wp2
        (try simp only [Exit.inBlock, Exit.then])
        have s3 := set_three wr w.heap.size (.string ⟨#[]⟩) (.string ⟨#[]⟩) (.bool false) d1 d2 d3
        refine bodyPost_ret (v := .tuple #[NV ⟨#[]⟩ ⟨#[]⟩ false, .bool false]) (by simp [results, Tryd.results17, go_sem, s3.1, s3.2.1, s3.2.2]) rfl ?_
        exact ⟨by rw [HS.out]; rfl, kept_cell (kept_cell (kept_cell HKK.out (Nat.le_refl _) _) (Nat.le_refl _) _) (Nat.le_refl _) _⟩

set_option maxHeartbeats 1600000 in
theorem soft_any (a a' : Option Addr) (len cap len' cap' : Nat) (l t : NL) (w : World) (hr : RowAt TaLay w a len l) (hr' : RowAt TaLay w a' len' t) :
    Calls Tryd.prog 19 #[.slice a len cap, .slice a' len' cap'] w fun e w' => e = .returned (.int .i64 (softN l t)) ∧ Kept w w' := by
  have hl := hr'.1
  have hm := hr'.2.1
  unfold maxLen at hm
  rcases hr'.form with h0 | ⟨b, off, rfl⟩
  · subst h0
    have HE := Lib.hid (show (softN l t : Int) = 0 by rw [List.eq_nil_of_length_eq_zero hl]; rfl)
    rw [HE.out]
    clear hr hr' hl
    go_enter Tryd.func19, Tryd.ntmps19
    go_wp2
    refine wp_loop_rounds 1 ?_
    rw [rounds_succ]
    go_wp2
    go_ret
    exact ⟨rfl, Kept.refl _⟩
  · have HR := Lib.hid hr
    have HR' := Lib.hid hr'
    have HL := Lib.hid hl
    clear hr hr' hl
    go_enter Tryd.func19, Tryd.ntmps19
    go_wp2
    go_loopw [5, 10] (fun v i wr => ∃ k n : Nat, k ≤ len' ∧ i = .int .i64 k ∧ v = .int .i64 n ∧ n ≤ k ∧ n + softN l (t.drop k) = softN l t ∧ Kept w wr) (fun _ i _ => len' - (intOf i).toNat)
    case atStart => exact ⟨0, 0, Nat.zero_le _, rfl, rfl, Nat.le_refl _, by simp, Kept.refl _⟩
    case round =>
      obtain ⟨k, n, hk, rfl, rfl, hn, hrest, hK⟩ := hrel
      by_cases hlt : k < len'
      · obtain ⟨x, y, m, hx, hd, hb, hz, hz2, c1, c2, c3⟩ := (HR'.out.kept hK).tri hlt
        have HK := Lib.hid hK
        obtain ⟨q, hq⟩ : ∃ q, bearsN l (x, y, m) = q := ⟨_, rfl⟩
        have HS := Lib.hid (show n + ((if (!m && !q) = true then 1 else 0) + softN l (t.drop (k + 1))) = softN l t by rw [← hrest, hd, soft_cons, hq])
        have HC := Lib.hid (fun W (h : Kept w W) => bears_any a len cap l x y m W (HR.out.kept h))
        rw [show l.any (bearN (x, y, m)) = q from hq] at HC
        clear hK hrest hx hd hq
        cases m with
        | true =>
          go_wp2_with fail
          go_roundw
          case rel => exact ⟨k + 1, n, by omega, by go_num, rfl, by omega, by have := HS.out; simpa using this, HK.out.trans (kept_alloc _ _)⟩
          case measure => simp [intOf]; omega
        | false =>
          cases q with
          | true =>
            go_wp2_with (go_at_call 25; refine (HC.out _ (HK.out.trans (kept_alloc _ _))).mono ?_; rintro e w1 ⟨rfl, k1⟩; have K1 := Lib.hid k1.kept; clear k1)
            go_roundw
            case rel => exact ⟨k + 1, n, by omega, by go_num, rfl, by omega, by have := HS.out; simpa using this, HK.out.trans ((kept_alloc _ _).trans K1.out)⟩
            case measure => simp [intOf]; omega
          | false =>
            go_wp2_with (go_at_call 25; refine (HC.out _ (HK.out.trans (kept_alloc _ _))).mono ?_; rintro e w1 ⟨rfl, k1⟩; have K1 := Lib.hid k1.kept; clear k1)
            go_roundw
            case rel => exact ⟨k + 1, n + 1, by omega, by go_num, by go_num, by omega, by have := HS.out; simp at this; omega, HK.out.trans ((kept_alloc _ _).trans K1.out)⟩
            case measure => simp [intOf]; omega
      · have HKK := Lib.hid hK
        have HS := Lib.hid (show softN l t = n by rw [← hrest, drop_end (by rw [HL.out]; exact hlt)]; rfl)
        clear hK hrest
        go_wp2
        go_ret
        exact ⟨by rw [HS.out]; rfl, HKK.out⟩

end Go.Proofs.YthlhaefaafjmlaaDoor
