/- What the laws know: two vectors. -/
import Derived.Test.YtnnneimpdiadhaaDoorResVals
namespace Go.Proofs.YtnnneimpdiadhaaDoor.Vec
open Go.RowKit
set_option linter.unusedVariables false

theorem lit2 (w : World) (s t : ByteArray) (m n : Int) (T : TypeId) (hs : s.size ≤ maxLen) (ht : t.size ≤ maxLen) (hm : -9223372036854775808 ≤ m ∧ m ≤ 9223372036854775807) (hn : -9223372036854775808 ≤ n ∧ n ≤ 9223372036854775807) :
    Reads (w.alloc (.cells #[.string s, .int .i64 m, .string t, .int .i64 n] T)) (.slice (some ⟨w.heap.size, 0, none⟩) 2 2) [(s, m), (t, n)] := by
  refine ⟨_, 2, rfl, Nat.le_refl _, by decide, rfl, (by decide : 2 ≤ maxLen), Fine.cons.2 ⟨⟨hs, hm⟩, Fine.cons.2 ⟨⟨ht, hn⟩, Fine.nil⟩⟩, .inr ⟨w.heap.size, 0, rfl, by simp, fun i hi => ?_⟩⟩
  have hh := w.alloc_heap_new (.cells #[.string s, .int .i64 m, .string t, .int .i64 n] T)
  match i, hi with
  | 0, _ => exact ⟨by rw [Lib.cell_of_heap hh]; rfl, by rw [Lib.cell_of_heap hh]; rfl⟩
  | 1, _ => exact ⟨by rw [Lib.cell_of_heap hh]; rfl, by rw [Lib.cell_of_heap hh]; rfl⟩

set_option maxRecDepth 100000 in
set_option maxHeartbeats 4000000 in
theorem known_any (w : World) (hE : EnvT w) :
    Calls Tryd.prog 6 #[] w fun e w' => e = .returned (.bool true) ∧ Kept w w' := by
  have HE := Lib.hid hE
  have t0 : ((bytes [99, 112, 117, 61, 49, 52, 48, 44, 103, 112, 117, 61, 49, 44, 109, 101, 109, 61, 53]).toList == [99, 112, 117, 61, 49, 52, 48, 44, 103, 112, 117, 61, 49, 44, 109, 101, 109, 61, 53]) = true := by rw [Lib.toList_data]; rfl
  have t1 : ((bytes [99, 112, 117, 61, 49, 48]).toList == [99, 112, 117, 61, 49, 48]) = true := by rw [Lib.toList_data]; rfl
  have t2 : ((bytes [45]).toList == [45]) = true := by rw [Lib.toList_data]; rfl
  clear hE
  go_enter Tryd.func6, Tryd.ntmps6
  go_wp2_with fail
  obtain ⟨W1, hW1⟩ : ∃ W1, w.alloc (.cells #[.string cpu, .int .i64 100, .string mem, .int .i64 5] 38) = W1 := ⟨_, rfl⟩
  obtain ⟨W2, hW2⟩ : ∃ W2, W1.alloc (.cells #[.string cpu, .int .i64 40, .string gpu, .int .i64 1] 38) = W2 := ⟨_, rfl⟩
  have RA1 : Reads W1 (.slice (some ⟨w.heap.size, 0, none⟩) 2 2) kA := by rw [← hW1]; exact lit2 w _ _ _ _ _ (by decide) (by decide) (by decide) (by decide)
  have RB2 : Reads W2 (.slice (some ⟨W1.heap.size, 0, none⟩) 2 2) kB := by rw [← hW2]; exact lit2 W1 _ _ _ _ _ (by decide) (by decide) (by decide) (by decide)
  have K1 : Kept w W1 := by rw [← hW1]; exact kept_alloc _ _
  have K12 : Kept W1 W2 := by rw [← hW2]; exact kept_alloc _ _
  have RA := Lib.hid (RA1.kept K12)
  have RB := Lib.hid RB2
  have K := Lib.hid (K1.trans K12)
  have hsz : W1.heap.size = w.heap.size + 1 := by rw [← hW1]; simp
  rw [hsz] at RB
  clear RA1 RB2 K1 K12 hsz
  show Calls _ _ _ ((w.alloc (.cells #[.string cpu, .int .i64 100, .string mem, .int .i64 5] 38)).alloc (.cells #[.string cpu, .int .i64 40, .string gpu, .int .i64 1] 38)) _
  rw [hW1, hW2]
  clear hW1 hW2
  refine (addR RA.out RB.out k_add).mono ?_
  rintro e v0 ⟨x0, rfl, hr, hk⟩
  have K := Lib.hid (K.out.trans hk)
  have RA := Lib.hid (RA.out.kept hk)
  have RB := Lib.hid (RB.out.kept hk)
  have S := Lib.hid hr
  clear hr hk
  go_wp2_with fail
  refine (subR S.out RA.out k_sub).mono ?_
  rintro e v1 ⟨x1, rfl, hr, hk⟩
  have K := Lib.hid (K.out.trans hk)
  have RA := Lib.hid (RA.out.kept hk)
  have RB := Lib.hid (RB.out.kept hk)
  have S := Lib.hid (S.out.kept hk)
  have D := Lib.hid hr
  clear hr hk
  go_wp2_with fail
  refine (subR RA.out RB.out k_sub2).mono ?_
  rintro e v2 ⟨x2, rfl, hr, hk⟩
  have K := Lib.hid (K.out.trans hk)
  have RA := Lib.hid (RA.out.kept hk)
  have RB := Lib.hid (RB.out.kept hk)
  have S := Lib.hid (S.out.kept hk)
  have D := Lib.hid (D.out.kept hk)
  clear hr hk
  go_wp2_with fail
  refine (mulR RB.out (by decide) (by decide) k_mul).mono ?_
  rintro e v3 ⟨x3, rfl, hr, hk⟩
  have K := Lib.hid (K.out.trans hk)
  have RA := Lib.hid (RA.out.kept hk)
  have RB := Lib.hid (RB.out.kept hk)
  have S := Lib.hid (S.out.kept hk)
  have D := Lib.hid (D.out.kept hk)
  have T := Lib.hid hr
  clear hr hk
  go_wp2_with fail
  refine (partR RA.out (by decide) (by decide) k_part).mono ?_
  rintro e v4 ⟨x4, rfl, hr, hk⟩
  have K := Lib.hid (K.out.trans hk)
  have RA := Lib.hid (RA.out.kept hk)
  have RB := Lib.hid (RB.out.kept hk)
  have S := Lib.hid (S.out.kept hk)
  have D := Lib.hid (D.out.kept hk)
  have T := Lib.hid (T.out.kept hk)
  have P := Lib.hid hr
  clear hr hk
  go_wp2_with fail
  refine (parseR (s := [99, 112, 117, 61, 49, 48, 48, 44, 109, 101, 109, 61, 53]) (HE.out.kept K.out).toEnv (by decide) k_parse).mono ?_
  rintro e v5 ⟨x5, rfl, hr, hk⟩
  have K := Lib.hid (K.out.trans hk)
  have RA := Lib.hid (RA.out.kept hk)
  have RB := Lib.hid (RB.out.kept hk)
  have S := Lib.hid (S.out.kept hk)
  have D := Lib.hid (D.out.kept hk)
  have T := Lib.hid (T.out.kept hk)
  have P := Lib.hid (P.out.kept hk)
  have Q := Lib.hid hr
  clear hr hk
  go_wp2_with fail
  refine (parseR (s := [99, 112, 117, 61, 48, 49]) (HE.out.kept K.out).toEnv (by decide) k_parse1).mono ?_
  rintro e v6 ⟨x6, rfl, hr, hk⟩
  have K := Lib.hid (K.out.trans hk)
  have RA := Lib.hid (RA.out.kept hk)
  have RB := Lib.hid (RB.out.kept hk)
  have S := Lib.hid (S.out.kept hk)
  have D := Lib.hid (D.out.kept hk)
  have T := Lib.hid (T.out.kept hk)
  have P := Lib.hid (P.out.kept hk)
  have Q := Lib.hid (Q.out.kept hk)
  clear hr hk
  go_wp2_with fail
  refine (parseR (s := [109, 101, 109, 61, 49, 44, 99, 112, 117, 61, 49]) (HE.out.kept K.out).toEnv (by decide) k_parse2).mono ?_
  rintro e v7 ⟨x7, rfl, hr, hk⟩
  have K := Lib.hid (K.out.trans hk)
  have RA := Lib.hid (RA.out.kept hk)
  have RB := Lib.hid (RB.out.kept hk)
  have S := Lib.hid (S.out.kept hk)
  have D := Lib.hid (D.out.kept hk)
  have T := Lib.hid (T.out.kept hk)
  have P := Lib.hid (P.out.kept hk)
  have Q := Lib.hid (Q.out.kept hk)
  clear hr hk
  go_wp2_with fail
  refine (textR (HE.out.kept K.out) S.out k_few.1 k_text.1).mono ?_
  rintro e u0 ⟨rfl, hk⟩
  have K := Lib.hid (K.out.trans hk)
  have RA := Lib.hid (RA.out.kept hk)
  have RB := Lib.hid (RB.out.kept hk)
  have S := Lib.hid (S.out.kept hk)
  have D := Lib.hid (D.out.kept hk)
  have T := Lib.hid (T.out.kept hk)
  have P := Lib.hid (P.out.kept hk)
  have Q := Lib.hid (Q.out.kept hk)
  clear hk
  go_wp2_with fail
  refine (sameR D.out RB.out k_same.1).mono ?_
  rintro e u1 ⟨rfl, hk⟩
  have K := Lib.hid (K.out.trans hk)
  have RA := Lib.hid (RA.out.kept hk)
  have RB := Lib.hid (RB.out.kept hk)
  have S := Lib.hid (S.out.kept hk)
  have D := Lib.hid (D.out.kept hk)
  have T := Lib.hid (T.out.kept hk)
  have P := Lib.hid (P.out.kept hk)
  have Q := Lib.hid (Q.out.kept hk)
  clear hk
  go_wp2_with fail
  refine (getR T.out k_get).mono ?_
  rintro e u2 ⟨rfl, hk⟩
  have K := Lib.hid (K.out.trans hk)
  have RA := Lib.hid (RA.out.kept hk)
  have RB := Lib.hid (RB.out.kept hk)
  have S := Lib.hid (S.out.kept hk)
  have D := Lib.hid (D.out.kept hk)
  have T := Lib.hid (T.out.kept hk)
  have P := Lib.hid (P.out.kept hk)
  have Q := Lib.hid (Q.out.kept hk)
  clear hk
  go_wp2_with fail
  refine (textR (HE.out.kept K.out) P.out k_few.2 k_text.2).mono ?_
  rintro e u3 ⟨rfl, hk⟩
  have K := Lib.hid (K.out.trans hk)
  have RA := Lib.hid (RA.out.kept hk)
  have RB := Lib.hid (RB.out.kept hk)
  have S := Lib.hid (S.out.kept hk)
  have D := Lib.hid (D.out.kept hk)
  have T := Lib.hid (T.out.kept hk)
  have P := Lib.hid (P.out.kept hk)
  have Q := Lib.hid (Q.out.kept hk)
  clear hk
  go_wp2_with fail
  refine (sameR Q.out RA.out k_same.2).mono ?_
  rintro e u4 ⟨rfl, hk⟩
  have K := Lib.hid (K.out.trans hk)
  have RA := Lib.hid (RA.out.kept hk)
  have RB := Lib.hid (RB.out.kept hk)
  have S := Lib.hid (S.out.kept hk)
  have D := Lib.hid (D.out.kept hk)
  have T := Lib.hid (T.out.kept hk)
  have P := Lib.hid (P.out.kept hk)
  have Q := Lib.hid (Q.out.kept hk)
  clear hk
  go_wp2_with fail
  refine (fitsR RB.out S.out k_fits.1).mono ?_
  rintro e u5 ⟨rfl, hk⟩
  have K := Lib.hid (K.out.trans hk)
  have RA := Lib.hid (RA.out.kept hk)
  have RB := Lib.hid (RB.out.kept hk)
  have S := Lib.hid (S.out.kept hk)
  have D := Lib.hid (D.out.kept hk)
  have T := Lib.hid (T.out.kept hk)
  have P := Lib.hid (P.out.kept hk)
  have Q := Lib.hid (Q.out.kept hk)
  clear hk
  go_wp2_with fail
  refine (fitsR S.out RB.out k_fits.2).mono ?_
  rintro e u6 ⟨rfl, hk⟩
  have K := Lib.hid (K.out.trans hk)
  have RA := Lib.hid (RA.out.kept hk)
  have RB := Lib.hid (RB.out.kept hk)
  have S := Lib.hid (S.out.kept hk)
  have D := Lib.hid (D.out.kept hk)
  have T := Lib.hid (T.out.kept hk)
  have P := Lib.hid (P.out.kept hk)
  have Q := Lib.hid (Q.out.kept hk)
  clear hk
  go_wp2_with fail
  refine (nameR (by decide) (by decide : isName ⟨#[97, 49]⟩ = true)).mono ?_
  rintro e u7 ⟨rfl, rfl⟩
  go_wp2_with fail
  refine (nameR (by decide) (by decide : isName ⟨#[65]⟩ = false)).mono ?_
  rintro e u8 ⟨rfl, rfl⟩
  go_wp2_with fail
  refine (checkR RA.out k_check.1).mono ?_
  rintro e u9 ⟨rfl, hk⟩
  have K := Lib.hid (K.out.trans hk)
  have RA := Lib.hid (RA.out.kept hk)
  have RB := Lib.hid (RB.out.kept hk)
  have S := Lib.hid (S.out.kept hk)
  have D := Lib.hid (D.out.kept hk)
  have T := Lib.hid (T.out.kept hk)
  have P := Lib.hid (P.out.kept hk)
  have Q := Lib.hid (Q.out.kept hk)
  clear hk
  go_wp2_with fail
  refine (textR (HE.out.kept K.out) (Reads.nil _) (by decide : fewV [] = true) (by decide : textV [] = [45])).mono ?_
  rintro e u10 ⟨rfl, hk⟩
  have K := Lib.hid (K.out.trans hk)
  have RA := Lib.hid (RA.out.kept hk)
  have RB := Lib.hid (RB.out.kept hk)
  have S := Lib.hid (S.out.kept hk)
  have D := Lib.hid (D.out.kept hk)
  have T := Lib.hid (T.out.kept hk)
  have P := Lib.hid (P.out.kept hk)
  have Q := Lib.hid (Q.out.kept hk)
  clear hk
  go_wp2_with fail
  go_ret
  exact ⟨rfl, K.out⟩

end Go.Proofs.YtnnneimpdiadhaaDoor.Vec
