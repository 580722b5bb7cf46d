/- Package by package: contracts of the functions that the laws call. -/
import Derived.Test.YtppbbgppooblfaaGreatDoorResB
import Derived.StillTailTactics
import Derived.Test.YtppbbgppooblfaaGreatDoorResA
import Derived.WideShapes
import Derived.IntWalk
import Derived.Test.YtppbbgppooblfaaGreatDoorBase
import Derived.Lib.ItoaNum
import Derived.Test.YtppbbgppooblfaaGreatDoorRows
import Derived.WalkKit
import Derived.ProofKit
import Derived.OpenShut
import Derived.ChangeOld
import Derived.Below
import Derived.Deep.Slices
import Derived.Deep.Fields
import Derived.ChangeSame
import Derived.Lib.LaidTab
import Derived.Stop.LaidErr
import Derived.Stop.Joined
import Derived.Shelf.Vars
import Derived.MakeChecks
import Derived.LaidLaws
import Derived.RowKitTokens

/- Two vectors, reckoned. -/
namespace Go.Proofs.YtppbbgppooblfaaGreatDoor.Vec
open Go.RowKit
set_option linter.unusedVariables false

def cpu : ByteArray := ⟨#[99, 112, 117]⟩
def gpu : ByteArray := ⟨#[103, 112, 117]⟩
def mem : ByteArray := ⟨#[109, 101, 109]⟩
def kA : V := [(cpu, 100), (mem, 5)]
def kB : V := [(cpu, 40), (gpu, 1)]
def kS : V := [(cpu, 140), (gpu, 1), (mem, 5)]
def kT : V := [(cpu, 120), (gpu, 3)]
def kP : V := [(cpu, 10)]

theorem lt_list (s t : ByteArray) : ltS s t = Op.bytesLess s.data.toList t.data.toList := by unfold ltS; rw [Lib.toList_data, Lib.toList_data]
theorem eq_list (s t : ByteArray) : eqS s t = (s.data.toList == t.data.toList) := by unfold eqS; rw [Lib.toList_data, Lib.toList_data]
theorem e_cc : eqS cpu cpu = true := by rw [eq_list]; rfl
theorem e_cm : eqS cpu mem = false := by rw [eq_list]; rfl
theorem e_mc : eqS mem cpu = false := by rw [eq_list]; rfl
theorem e_gc : eqS gpu cpu = false := by rw [eq_list]; rfl
theorem e_cg : eqS cpu gpu = false := by rw [eq_list]; rfl
theorem e_gg : eqS gpu gpu = true := by rw [eq_list]; rfl
theorem e_mm : eqS mem mem = true := by rw [eq_list]; rfl
theorem e_mg : eqS mem gpu = false := by rw [eq_list]; rfl
theorem e_gm : eqS gpu mem = false := by rw [eq_list]; rfl
theorem l_cc : ltS cpu cpu = false := by rw [lt_list]; rfl
theorem l_mc : ltS mem cpu = false := by rw [lt_list]; rfl
theorem l_cm : ltS cpu mem = true := by rw [lt_list]; rfl
theorem l_gc : ltS gpu cpu = false := by rw [lt_list]; rfl
theorem l_gm : ltS gpu mem = true := by rw [lt_list]; rfl
theorem l_mg : ltS mem gpu = false := by rw [lt_list]; rfl
theorem n_c : isName cpu = true := by decide
theorem n_g : isName gpu = true := by decide
theorem n_m : isName mem = true := by decide
theorem k_check : checkV kA = 0 ∧ checkV kB = 0 ∧ checkV kS = 0 ∧ checkV [(mem, 1), (cpu, 1)] = 13 := by
  refine ⟨?_, ?_, ?_, ?_⟩ <;> simp [checkV, checkFrom, kA, kB, kS, n_c, n_g, n_m, behindB, leS, l_mc, l_gc, l_mg, e_mc, e_gc, e_mg, l_cm]
theorem kc1 : checkV [(cpu, 100), (mem, 5)] = 0 := k_check.1
theorem kc2 : checkV [(cpu, 40), (gpu, 1)] = 0 := k_check.2.1
theorem kc3 : checkV [(cpu, 140), (gpu, 1), (mem, 5)] = 0 := k_check.2.2.1
theorem k_add : mergedV addF kA kB = (0, kS) := by
  simp [mergedV, kc1, kc2, kA, kB, kS, mergeAcc, foremostV, takenV, plusV, addF, l_cc, l_gm, e_cc, e_gg, e_mm, e_mg]
theorem k_sub : mergedV subF kS kA = (0, kB) := by
  simp [mergedV, kc1, kc3, kA, kB, kS, mergeAcc, foremostV, takenV, plusV, subF, l_cc, l_mg, e_cc, e_gg, e_mm, e_mg]
theorem k_sub2 : mergedV subF kA kB = (5, []) := by
  simp [mergedV, kc1, kc2, kA, kB, mergeAcc, foremostV, takenV, plusV, subF, l_cc, l_gm, e_cc, e_gg, e_mm, e_mg]
theorem k_mul : eachV mulF 3 kB = (0, kT) := by
  simp [eachV, kc2, kB, kT, eachAcc, plusV, mulF]
theorem k_part : eachV partF 100 kA = (0, kP) := by
  simp [eachV, kc1, kA, kP, eachAcc, plusV, partF, parQ]
theorem k_fits : fitsFrom kS kB = true ∧ fitsFrom kB kS = false := by
  constructor <;> simp [fitsFrom, kS, kB, getV, e_cc, e_cg, e_gg, e_cm, e_gm, e_gc]
theorem k_same : sameFrom kB kB = true ∧ sameFrom kA kA = true := by
  constructor <;> simp [sameFrom, kB, kA, e_cc, e_gg, e_mm]
theorem k_get : getV kT cpu = 120 := by simp [getV, kT, e_cc]
theorem i_140 : Lib.itoa 140 = [49, 52, 48] := by simp [Lib.itoa, Lib.decDigits]
theorem i_10 : Lib.itoa 10 = [49, 48] := by simp [Lib.itoa, Lib.decDigits]
theorem i_1 : Lib.itoa 1 = [49] := by simp [Lib.itoa, Lib.decDigits]
theorem i_5 : Lib.itoa 5 = [53] := by simp [Lib.itoa, Lib.decDigits]
theorem k_text : textV kS = [99, 112, 117, 61, 49, 52, 48, 44, 103, 112, 117, 61, 49, 44, 109, 101, 109, 61, 53] ∧ textV kP = [99, 112, 117, 61, 49, 48] := by
  constructor <;> simp [textV, joinFrom, kS, kP, i_140, i_10, i_1, i_5, cpu, gpu, mem]
theorem k_few : fewV kS = true ∧ fewV kP = true := by decide
theorem k_parse : parseV [99, 112, 117, 61, 49, 48, 48, 44, 109, 101, 109, 61, 53] = (0, kA) := by
  have e : ((partsOf [99, 112, 117, 61, 49, 48, 48, 44, 109, 101, 109, 61, 53]).map amtOf).take 9 = kA := by rfl
  unfold parseV parsedV
  rw [if_neg (by decide), if_neg (by decide), if_neg (by decide), e, if_neg (by rw [k_check.1]; decide)]
theorem k_parse1 : parseV [99, 112, 117, 61, 48, 49] = (2, []) := by
  unfold parseV parsedV
  rw [if_neg (by decide), if_pos (by decide)]
theorem k_parse2 : parseV [109, 101, 109, 61, 49, 44, 99, 112, 117, 61, 49] = (13, []) := by
  have e : ((partsOf [109, 101, 109, 61, 49, 44, 99, 112, 117, 61, 49]).map amtOf).take 9 = [(mem, 1), (cpu, 1)] := by rfl
  unfold parseV parsedV
  rw [if_neg (by decide), if_neg (by decide), if_neg (by decide), e, if_pos (by rw [k_check.2.2.2]; decide), k_check.2.2.2]

end Go.Proofs.YtppbbgppooblfaaGreatDoor.Vec

/- What the laws know: two vectors. -/
namespace Go.Proofs.YtppbbgppooblfaaGreatDoor.Vec
open Go.RowKit
set_option linter.unusedVariables false

theorem lit2 (w : World) (s t : ByteArray) (m n : Int) (T : TypeId) (hs : s.size ≤ maxLen) (ht : t.size ≤ maxLen) (hm : -9223372036854775808 ≤ m ∧ m ≤ 9223372036854775807) (hn : -9223372036854775808 ≤ n ∧ n ≤ 9223372036854775807) :
    Reads (w.alloc (.cells #[.string s, .int .i64 m, .string t, .int .i64 n] T)) (.slice (some ⟨w.heap.size, 0, none⟩) 2 2) [(s, m), (t, n)] := by
  refine ⟨_, 2, rfl, Nat.le_refl _, by decide, rfl, (by decide : 2 ≤ maxLen), Fine.cons.2 ⟨⟨hs, hm⟩, Fine.cons.2 ⟨⟨ht, hn⟩, Fine.nil⟩⟩, .inr ⟨w.heap.size, 0, rfl, by simp, fun i hi => ?_⟩⟩
  have hh := w.alloc_heap_new (.cells #[.string s, .int .i64 m, .string t, .int .i64 n] T)
  match i, hi with
  | 0, _ => exact ⟨by rw [Lib.cell_of_heap hh]; rfl, by rw [Lib.cell_of_heap hh]; rfl⟩
  | 1, _ => exact ⟨by rw [Lib.cell_of_heap hh]; rfl, by rw [Lib.cell_of_heap hh]; rfl⟩

set_option maxRecDepth 100000 in
set_option maxHeartbeats 4000000 in
theorem known_any (w : World) (hE : EnvT w) :
    Calls Tryz.prog 14 #[] w fun e w' => e = .returned (.bool true) ∧ Kept w w' := by
  have HE := Lib.hid hE
  have t0 : ((bytes [99, 112, 117, 61, 49, 52, 48, 44, 103, 112, 117, 61, 49, 44, 109, 101, 109, 61, 53]).toList == [99, 112, 117, 61, 49, 52, 48, 44, 103, 112, 117, 61, 49, 44, 109, 101, 109, 61, 53]) = true := by rw [Lib.toList_data]; rfl
  have t1 : ((bytes [99, 112, 117, 61, 49, 48]).toList == [99, 112, 117, 61, 49, 48]) = true := by rw [Lib.toList_data]; rfl
  have t2 : ((bytes [45]).toList == [45]) = true := by rw [Lib.toList_data]; rfl
  clear hE
  go_enter Tryz.func14, Tryz.ntmps14
  go_wp2_with fail
  obtain ⟨W1, hW1⟩ : ∃ W1, w.alloc (.cells #[.string cpu, .int .i64 100, .string mem, .int .i64 5] 82) = W1 := ⟨_, rfl⟩
  obtain ⟨W2, hW2⟩ : ∃ W2, W1.alloc (.cells #[.string cpu, .int .i64 40, .string gpu, .int .i64 1] 82) = W2 := ⟨_, rfl⟩
  have RA1 : Reads W1 (.slice (some ⟨w.heap.size, 0, none⟩) 2 2) kA := by rw [← hW1]; exact lit2 w _ _ _ _ _ (by decide) (by decide) (by decide) (by decide)
  have RB2 : Reads W2 (.slice (some ⟨W1.heap.size, 0, none⟩) 2 2) kB := by rw [← hW2]; exact lit2 W1 _ _ _ _ _ (by decide) (by decide) (by decide) (by decide)
  have K1 : Kept w W1 := by rw [← hW1]; exact kept_alloc _ _
  have K12 : Kept W1 W2 := by rw [← hW2]; exact kept_alloc _ _
  have RA := Lib.hid (RA1.kept K12)
  have RB := Lib.hid RB2
  have K := Lib.hid (K1.trans K12)
  have hsz : W1.heap.size = w.heap.size + 1 := by rw [← hW1]; simp
  rw [hsz] at RB
  clear RA1 RB2 K1 K12 hsz
  show Calls _ _ _ ((w.alloc (.cells #[.string cpu, .int .i64 100, .string mem, .int .i64 5] 82)).alloc (.cells #[.string cpu, .int .i64 40, .string gpu, .int .i64 1] 82)) _
  rw [hW1, hW2]
  clear hW1 hW2
  refine (addR RA.out RB.out k_add).mono ?_
  rintro e v0 ⟨x0, rfl, hr, hk⟩
  have K := Lib.hid (K.out.trans hk)
  have RA := Lib.hid (RA.out.kept hk)
  have RB := Lib.hid (RB.out.kept hk)
  have S := Lib.hid hr
  clear hr hk
  go_wp2_with fail
  refine (subR S.out RA.out k_sub).mono ?_
  rintro e v1 ⟨x1, rfl, hr, hk⟩
  have K := Lib.hid (K.out.trans hk)
  have RA := Lib.hid (RA.out.kept hk)
  have RB := Lib.hid (RB.out.kept hk)
  have S := Lib.hid (S.out.kept hk)
  have D := Lib.hid hr
  clear hr hk
  go_wp2_with fail
  refine (subR RA.out RB.out k_sub2).mono ?_
  rintro e v2 ⟨x2, rfl, hr, hk⟩
  have K := Lib.hid (K.out.trans hk)
  have RA := Lib.hid (RA.out.kept hk)
  have RB := Lib.hid (RB.out.kept hk)
  have S := Lib.hid (S.out.kept hk)
  have D := Lib.hid (D.out.kept hk)
  clear hr hk
  go_wp2_with fail
  refine (mulR RB.out (by decide) (by decide) k_mul).mono ?_
  rintro e v3 ⟨x3, rfl, hr, hk⟩
  have K := Lib.hid (K.out.trans hk)
  have RA := Lib.hid (RA.out.kept hk)
  have RB := Lib.hid (RB.out.kept hk)
  have S := Lib.hid (S.out.kept hk)
  have D := Lib.hid (D.out.kept hk)
  have T := Lib.hid hr
  clear hr hk
  go_wp2_with fail
  refine (partR RA.out (by decide) (by decide) k_part).mono ?_
  rintro e v4 ⟨x4, rfl, hr, hk⟩
  have K := Lib.hid (K.out.trans hk)
  have RA := Lib.hid (RA.out.kept hk)
  have RB := Lib.hid (RB.out.kept hk)
  have S := Lib.hid (S.out.kept hk)
  have D := Lib.hid (D.out.kept hk)
  have T := Lib.hid (T.out.kept hk)
  have P := Lib.hid hr
  clear hr hk
  go_wp2_with fail
  refine (parseR (s := [99, 112, 117, 61, 49, 48, 48, 44, 109, 101, 109, 61, 53]) (HE.out.kept K.out).toEnv (by decide) k_parse).mono ?_
  rintro e v5 ⟨x5, rfl, hr, hk⟩
  have K := Lib.hid (K.out.trans hk)
  have RA := Lib.hid (RA.out.kept hk)
  have RB := Lib.hid (RB.out.kept hk)
  have S := Lib.hid (S.out.kept hk)
  have D := Lib.hid (D.out.kept hk)
  have T := Lib.hid (T.out.kept hk)
  have P := Lib.hid (P.out.kept hk)
  have Q := Lib.hid hr
  clear hr hk
  go_wp2_with fail
  refine (parseR (s := [99, 112, 117, 61, 48, 49]) (HE.out.kept K.out).toEnv (by decide) k_parse1).mono ?_
  rintro e v6 ⟨x6, rfl, hr, hk⟩
  have K := Lib.hid (K.out.trans hk)
  have RA := Lib.hid (RA.out.kept hk)
  have RB := Lib.hid (RB.out.kept hk)
  have S := Lib.hid (S.out.kept hk)
  have D := Lib.hid (D.out.kept hk)
  have T := Lib.hid (T.out.kept hk)
  have P := Lib.hid (P.out.kept hk)
  have Q := Lib.hid (Q.out.kept hk)
  clear hr hk
  go_wp2_with fail
  refine (parseR (s := [109, 101, 109, 61, 49, 44, 99, 112, 117, 61, 49]) (HE.out.kept K.out).toEnv (by decide) k_parse2).mono ?_
  rintro e v7 ⟨x7, rfl, hr, hk⟩
  have K := Lib.hid (K.out.trans hk)
  have RA := Lib.hid (RA.out.kept hk)
  have RB := Lib.hid (RB.out.kept hk)
  have S := Lib.hid (S.out.kept hk)
  have D := Lib.hid (D.out.kept hk)
  have T := Lib.hid (T.out.kept hk)
  have P := Lib.hid (P.out.kept hk)
  have Q := Lib.hid (Q.out.kept hk)
  clear hr hk
  go_wp2_with fail
  refine (textR (HE.out.kept K.out) S.out k_few.1 k_text.1).mono ?_
  rintro e u0 ⟨rfl, hk⟩
  have K := Lib.hid (K.out.trans hk)
  have RA := Lib.hid (RA.out.kept hk)
  have RB := Lib.hid (RB.out.kept hk)
  have S := Lib.hid (S.out.kept hk)
  have D := Lib.hid (D.out.kept hk)
  have T := Lib.hid (T.out.kept hk)
  have P := Lib.hid (P.out.kept hk)
  have Q := Lib.hid (Q.out.kept hk)
  clear hk
  go_wp2_with fail
  refine (sameR D.out RB.out k_same.1).mono ?_
  rintro e u1 ⟨rfl, hk⟩
  have K := Lib.hid (K.out.trans hk)
  have RA := Lib.hid (RA.out.kept hk)
  have RB := Lib.hid (RB.out.kept hk)
  have S := Lib.hid (S.out.kept hk)
  have D := Lib.hid (D.out.kept hk)
  have T := Lib.hid (T.out.kept hk)
  have P := Lib.hid (P.out.kept hk)
  have Q := Lib.hid (Q.out.kept hk)
  clear hk
  go_wp2_with fail
  refine (getR T.out k_get).mono ?_
  rintro e u2 ⟨rfl, hk⟩
  have K := Lib.hid (K.out.trans hk)
  have RA := Lib.hid (RA.out.kept hk)
  have RB := Lib.hid (RB.out.kept hk)
  have S := Lib.hid (S.out.kept hk)
  have D := Lib.hid (D.out.kept hk)
  have T := Lib.hid (T.out.kept hk)
  have P := Lib.hid (P.out.kept hk)
  have Q := Lib.hid (Q.out.kept hk)
  clear hk
  go_wp2_with fail
  refine (textR (HE.out.kept K.out) P.out k_few.2 k_text.2).mono ?_
  rintro e u3 ⟨rfl, hk⟩
  have K := Lib.hid (K.out.trans hk)
  have RA := Lib.hid (RA.out.kept hk)
  have RB := Lib.hid (RB.out.kept hk)
  have S := Lib.hid (S.out.kept hk)
  have D := Lib.hid (D.out.kept hk)
  have T := Lib.hid (T.out.kept hk)
  have P := Lib.hid (P.out.kept hk)
  have Q := Lib.hid (Q.out.kept hk)
  clear hk
  go_wp2_with fail
  refine (sameR Q.out RA.out k_same.2).mono ?_
  rintro e u4 ⟨rfl, hk⟩
  have K := Lib.hid (K.out.trans hk)
  have RA := Lib.hid (RA.out.kept hk)
  have RB := Lib.hid (RB.out.kept hk)
  have S := Lib.hid (S.out.kept hk)
  have D := Lib.hid (D.out.kept hk)
  have T := Lib.hid (T.out.kept hk)
  have P := Lib.hid (P.out.kept hk)
  have Q := Lib.hid (Q.out.kept hk)
  clear hk
  go_wp2_with fail
  refine (fitsR RB.out S.out k_fits.1).mono ?_
  rintro e u5 ⟨rfl, hk⟩
  have K := Lib.hid (K.out.trans hk)
  have RA := Lib.hid (RA.out.kept hk)
  have RB := Lib.hid (RB.out.kept hk)
  have S := Lib.hid (S.out.kept hk)
  have D := Lib.hid (D.out.kept hk)
  have T := Lib.hid (T.out.kept hk)
  have P := Lib.hid (P.out.kept hk)
  have Q := Lib.hid (Q.out.kept hk)
  clear hk
  go_wp2_with fail
  refine (fitsR S.out RB.out k_fits.2).mono ?_
  rintro e u6 ⟨rfl, hk⟩
  have K := Lib.hid (K.out.trans hk)
  have RA := Lib.hid (RA.out.kept hk)
  have RB := Lib.hid (RB.out.kept hk)
  have S := Lib.hid (S.out.kept hk)
  have D := Lib.hid (D.out.kept hk)
  have T := Lib.hid (T.out.kept hk)
  have P := Lib.hid (P.out.kept hk)
  have Q := Lib.hid (Q.out.kept hk)
  clear hk
  go_wp2_with fail
  refine (nameR (by decide) (by decide : isName ⟨#[97, 49]⟩ = true)).mono ?_
  rintro e u7 ⟨rfl, rfl⟩
  go_wp2_with fail
  refine (nameR (by decide) (by decide : isName ⟨#[65]⟩ = false)).mono ?_
  rintro e u8 ⟨rfl, rfl⟩
  go_wp2_with fail
  refine (checkR RA.out k_check.1).mono ?_
  rintro e u9 ⟨rfl, hk⟩
  have K := Lib.hid (K.out.trans hk)
  have RA := Lib.hid (RA.out.kept hk)
  have RB := Lib.hid (RB.out.kept hk)
  have S := Lib.hid (S.out.kept hk)
  have D := Lib.hid (D.out.kept hk)
  have T := Lib.hid (T.out.kept hk)
  have P := Lib.hid (P.out.kept hk)
  have Q := Lib.hid (Q.out.kept hk)
  clear hk
  go_wp2_with fail
  refine (textR (HE.out.kept K.out) (Reads.nil _) (by decide : fewV [] = true) (by decide : textV [] = [45])).mono ?_
  rintro e u10 ⟨rfl, hk⟩
  have K := Lib.hid (K.out.trans hk)
  have RA := Lib.hid (RA.out.kept hk)
  have RB := Lib.hid (RB.out.kept hk)
  have S := Lib.hid (S.out.kept hk)
  have D := Lib.hid (D.out.kept hk)
  have T := Lib.hid (T.out.kept hk)
  have P := Lib.hid (P.out.kept hk)
  have Q := Lib.hid (Q.out.kept hk)
  clear hk
  go_wp2_with fail
  go_ret
  exact ⟨rfl, K.out⟩

end Go.Proofs.YtppbbgppooblfaaGreatDoor.Vec

/- A vector as the document's: as it is. -/
namespace Go.Proofs.YtppbbgppooblfaaGreatDoor.Vec
open Go.RowKit
set_option linter.unusedVariables false

end Go.Proofs.YtppbbgppooblfaaGreatDoor.Vec

/- The algebra of vectors that may be: names in their order, numbers above 0. -/
namespace Go.Proofs.YtppbbgppooblfaaGreatDoor.Vec
open Go.RowKit
set_option linter.unusedVariables false

theorem less_irrefl : ∀ s : List UInt8, Op.bytesLess s s = false
  | [] => rfl
  | a :: s => by
    have : ¬ a < a := UInt8.lt_irrefl a
    simp [Op.bytesLess, less_irrefl s, this]
theorem less_trans : ∀ {a b c : List UInt8}, Op.bytesLess a b = true → Op.bytesLess b c = true → Op.bytesLess a c = true
  | _, _, [], _, h => by simp [Op.bytesLess] at h
  | [], _, _ :: _, _, _ => by simp [Op.bytesLess]
  | x :: a, [], z :: c, h, _ => by simp [Op.bytesLess] at h
  | x :: a, y :: b, z :: c, h, g => by
    simp only [Op.bytesLess, Bool.or_eq_true, Bool.and_eq_true, decide_eq_true_eq, beq_iff_eq] at h g ⊢
    rcases h with h | ⟨rfl, h⟩
    · rcases g with g | ⟨rfl, g⟩
      · exact .inl (UInt8.lt_trans h g)
      · exact .inl h
    · rcases g with g | ⟨rfl, g⟩
      · exact .inl g
      · exact .inr ⟨rfl, less_trans h g⟩
theorem lt_of (s t : ByteArray) : ltS s t = Op.bytesLess s.data.toList t.data.toList := by unfold ltS; rw [Lib.toList_data, Lib.toList_data]
theorem eqS_iff {s t : ByteArray} : eqS s t = true ↔ s = t := by
  unfold eqS; rw [Lib.toList_data, Lib.toList_data, beq_iff_eq]
  exact ⟨fun h => Go.WideShapes.bytes_inj h, fun h => by rw [h]⟩
theorem lt_irrefl' (s : ByteArray) : ltS s s = false := by rw [lt_of]; exact less_irrefl _
theorem lt_trans' {s t u : ByteArray} (h : ltS s t = true) (g : ltS t u = true) : ltS s u = true := by
  rw [lt_of] at *; exact less_trans h g
theorem lt_ne {s t : ByteArray} (h : ltS s t = true) : s ≠ t := by rintro rfl; rw [lt_irrefl'] at h; cases h
theorem lt_asymm' {s t : ByteArray} (h : ltS s t = true) (g : ltS t s = true) : False := lt_ne (lt_trans' h g) rfl

/-- May be: names as they must, numbers above 0, names rising. -/
def Gd (l : V) : Prop := (∀ x ∈ l, isName x.1 = true ∧ 0 < x.2 ∧ x.2 ≤ 9223372036854775807) ∧ l.Pairwise (fun x y => ltS x.1 y.1 = true)
theorem Gd.nil : Gd [] := ⟨fun x hx => absurd hx (by simp), .nil⟩
theorem Gd.cons {x : ByteArray × Int} {t : V} : Gd (x :: t) ↔ (isName x.1 = true ∧ 0 < x.2 ∧ x.2 ≤ 9223372036854775807) ∧ (∀ y ∈ t, ltS x.1 y.1 = true) ∧ Gd t := by
  unfold Gd
  rw [List.pairwise_cons, List.forall_mem_cons]
  constructor
  · rintro ⟨⟨a, b⟩, c, d⟩; exact ⟨a, c, b, d⟩
  · rintro ⟨a, c, b, d⟩; exact ⟨⟨a, b⟩, c, d⟩

theorem get_same (x : ByteArray × Int) (t : V) : getV (x :: t) x.1 = x.2 := by rw [getV, if_pos (eqS_iff.2 rfl)]
theorem get_other {x : ByteArray × Int} {n : ByteArray} (t : V) (h : x.1 ≠ n) : getV (x :: t) n = getV t n := by rw [getV, if_neg (fun e => h (eqS_iff.1 e))]
theorem get_mem : ∀ {l : V} {n : ByteArray}, getV l n ≠ 0 → ∃ y ∈ l, y.1 = n
  | [], _, h => absurd rfl h
  | x :: t, n, h => by
    by_cases e : x.1 = n
    · exact ⟨x, by simp, e⟩
    · rw [get_other t e] at h
      obtain ⟨y, hy, hn⟩ := get_mem h
      exact ⟨y, by simp [hy], hn⟩
theorem Gd.len : ∀ {b r : V}, Gd r → Gd b → (∀ n, getV r n ≠ 0 → getV b n ≠ 0) → r.length ≤ b.length
  | [], [], _, _, _ => Nat.le_refl _
  | [], x :: s, hr, _, h => by
    have := h x.1; rw [get_same] at this; have h1 := (Gd.cons.1 hr).1
    exact absurd rfl (this (by omega))
  | y :: t, [], _, _, _ => Nat.zero_le _
  | y :: t, x :: s, hr, hb, h => by
    have hr' := Gd.cons.1 hr
    have hb' := Gd.cons.1 hb
    have : s.length ≤ t.length := Gd.len hr'.2.2 hb'.2.2 fun n hn => by
      obtain ⟨z, hz, rfl⟩ := get_mem hn
      have hlt := hr'.2.1 z hz
      have hb2 := h z.1 (by rw [get_other s (lt_ne hlt)]; exact hn)
      by_cases e : y.1 = z.1
      · obtain ⟨u, hu, hux⟩ := get_mem (h x.1 (by rw [get_same]; omega))
        rcases List.mem_cons.1 hu with rfl | hu
        · rw [← hux, e, lt_irrefl'] at hlt; cases hlt
        · have := hb'.2.1 u hu
          rw [hux, e] at this
          exact (lt_asymm' hlt this).elim
      · rw [get_other t e] at hb2; exact hb2
    simp only [List.length_cons]; omega

end Go.Proofs.YtppbbgppooblfaaGreatDoor.Vec

/- What is merged, by its names' amounts. -/
namespace Go.Proofs.YtppbbgppooblfaaGreatDoor.Vec
open Go.RowKit
set_option linter.unusedVariables false

end Go.Proofs.YtppbbgppooblfaaGreatDoor.Vec

/- What the laws say of vectors that may be. -/
namespace Go.Proofs.YtppbbgppooblfaaGreatDoor.Vec
open Go.RowKit
set_option linter.unusedVariables false

theorem same_self : ∀ l : V, sameFrom l l = true
  | [] => rfl
  | x :: t => by rw [sameFrom, same_self t, eqS_iff.2 rfl]; simp
end Go.Proofs.YtppbbgppooblfaaGreatDoor.Vec

/- What the laws begin with. -/
namespace Go.Proofs.YtppbbgppooblfaaGreatDoor.Vec
open Go.RowKit
set_option linter.unusedVariables false

theorem Reads.fine {v : Value} {l : V} {w : World} (h : Reads w v l) : Fine l := by
  obtain ⟨a, cap, rfl, h1, h2, h3⟩ := h
  exact h3.2.2.1
end Go.Proofs.YtppbbgppooblfaaGreatDoor.Vec

/- The reference's quantities: what each call answers, said of whole numbers. -/
namespace Go.Proofs.YtppbbgppooblfaaGreatDoor.Vec
open Go.RowKit
set_option linter.unusedVariables false

end Go.Proofs.YtppbbgppooblfaaGreatDoor.Vec

/- The reference's vectors read: a name's amount, whether alike, whether the one fits the other. -/
namespace Go.Proofs.YtppbbgppooblfaaGreatDoor.Vec
open Go.RowKit
set_option linter.unusedVariables false

end Go.Proofs.YtppbbgppooblfaaGreatDoor.Vec

/- The reference's products and parts, as one answer each. -/
namespace Go.Proofs.YtppbbgppooblfaaGreatDoor.Vec
open Go.RowKit
set_option linter.unusedVariables false

/-- What the reference answers: a vector and an error. -/
def Told (c : Int) (m : V) (w : World) (e : Ending) (w' : World) : Prop := ∃ x, e = .returned (.tuple #[x, .int .i64 c]) ∧ OwnV 117 w' w.heap.size x m ∧ Kept w w'
theorem Told.none {c : Int} {w w' : World} (k : Kept w w') : Told c [] w (.returned (.tuple #[.slice none 0 0, .int .i64 c])) w' := ⟨_, rfl, OwnV.nil _ _ _, k⟩

end Go.Proofs.YtppbbgppooblfaaGreatDoor.Vec

/- The reference's decimals and what they spell. -/
namespace Go.Proofs.YtppbbgppooblfaaGreatDoor.Vec
open Go.RowKit
set_option linter.unusedVariables false

end Go.Proofs.YtppbbgppooblfaaGreatDoor.Vec

/- A part's form, told by every '=' as by the first; a decimal told back. -/
namespace Go.Proofs.YtppbbgppooblfaaGreatDoor.Vec
open Go.RowKit Go.Proofs.YtppbbgppooblfaaGreatDoor
set_option linter.unusedVariables false

end Go.Proofs.YtppbbgppooblfaaGreatDoor.Vec

/- A row of the call's own whose elements are rows of two strings each. -/
namespace Go.Proofs.YtppbbgppooblfaaGreatDoor.Vec
open Go.RowKit Go.Proofs.YtppbbgppooblfaaGreatDoor
set_option linter.unusedVariables false

/-- Each element reads as its part's two sides, and lies elsewhere than the row itself. -/
def Inner (w : World) (v : Value) (vs : List (Nat × Nat)) (ps : List (List UInt8)) : Prop :=
  ∀ (i : Nat) (x : Nat × Nat) (p : List UInt8), vs[i]? = some x → ps[i]? = some p → x.1 < w.heap.size ∧ v.ownBlock ≠ some x.1 ∧
    w.cell? ⟨x.1, 0, none⟩ = some (.string (bytes (nameOf p))) ∧ w.cell? ⟨x.1, 1, none⟩ = some (.string (bytes (numOf' p)))
theorem Inner.nil (w : World) (v : Value) (ps : List (List UInt8)) : Inner w v [] ps := fun i x p h => by simp at h
theorem Inner.kept {w w' : World} {v : Value} {vs : List (Nat × Nat)} {ps : List (List UInt8)} (h : Inner w v vs ps) (k : Kept w w') : Inner w' v vs ps := fun i x p hx hp => by
  obtain ⟨h1, h2, h3, h4⟩ := h i x p hx hp
  exact ⟨Nat.lt_of_lt_of_le h1 k.size, h2, cell_later k h3, cell_later k h4⟩
theorem Inner.snoc {w w' : World} {v : Value} {vs : List (Nat × Nat)} {ps : List (List UInt8)} {g n cap b c : Nat} {p : List UInt8} (h : Inner w v vs ps) (hg : w.grownBy w' v.ownBlock) (hgo : v.ownBlock = some g ∨ g = w.heap.size)
    (hp : ps[vs.length]? = some p) (hb : b < w.heap.size) (hne : v.ownBlock ≠ some b)
    (c0 : w.cell? ⟨b, 0, none⟩ = some (.string (bytes (nameOf p)))) (c1 : w.cell? ⟨b, 1, none⟩ = some (.string (bytes (numOf' p)))) :
    Inner w' (.slice (some ⟨g, 0, none⟩) n cap) (vs ++ [(b, c)]) ps := by
  have far : ∀ d, d < w.heap.size → v.ownBlock ≠ some d → d < w'.heap.size ∧ (Value.slice (some ⟨g, 0, none⟩) n cap).ownBlock ≠ some d ∧ ∀ j, w'.cell? ⟨d, j, none⟩ = w.cell? ⟨d, j, none⟩ := fun d hd hn => by
    refine ⟨Nat.lt_of_lt_of_le hd hg.size, ?_, fun j => hg.cell_far ⟨d, j, none⟩ hd (fun e => hn e.symm)⟩
    show some g ≠ some d
    intro e
    have e' : g = d := Option.some.inj e
    rcases hgo with h1 | h1
    · exact hn (by rw [h1, e'])
    · omega
  intro i x q hx hq
  by_cases hi : i < vs.length
  · rw [List.getElem?_append_left hi] at hx
    obtain ⟨h1, h2, h3, h4⟩ := h i x q hx hq
    obtain ⟨f1, f2, f3⟩ := far x.1 h1 h2
    exact ⟨f1, f2, (f3 0).trans h3, (f3 1).trans h4⟩
  · have hi2 : i = vs.length := by
      have := (List.getElem?_eq_some_iff.1 hx).1
      simp at this; omega
    subst hi2
    have hxx : (b, c) = x := by simpa using hx
    have hqq : q = p := Option.some.inj (hq.symm.trans hp)
    subst hxx; subst hqq
    obtain ⟨f1, f2, f3⟩ := far b hb hne
    exact ⟨f1, f2, (f3 0).trans c0, (f3 1).trans c1⟩

end Go.Proofs.YtppbbgppooblfaaGreatDoor.Vec

/- The reference's Times. -/
namespace Go.Proofs.YtppbbgppooblfaaGreatDoor.Vec
open Go.RowKit
set_option linter.unusedVariables false

end Go.Proofs.YtppbbgppooblfaaGreatDoor.Vec

/- The reference's ParseVec. -/
namespace Go.Proofs.YtppbbgppooblfaaGreatDoor.Vec
open Go.RowKit Go.Proofs.YtppbbgppooblfaaGreatDoor
set_option linter.unusedVariables false

end Go.Proofs.YtppbbgppooblfaaGreatDoor.Vec

/- The law's own comparison; what is checked is short; the reference's calls over whatever reads so. -/
namespace Go.Proofs.YtppbbgppooblfaaGreatDoor.Vec
open Go.RowKit Go.Proofs.YtppbbgppooblfaaGreatDoor
set_option linter.unusedVariables false

theorem OwnV.reads {e : TypeId} {w : World} {B : Nat} {v : Value} {l : V} (h : OwnV e w B v l) : Reads w v l := h.at_
end Go.Proofs.YtppbbgppooblfaaGreatDoor.Vec

/- What a law of vectors is told: its arguments, the library's variables. -/
namespace Go.Proofs.YtppbbgppooblfaaGreatDoor.Vec
open Go.ChangeShapes Go.WideShapes Go.ChangeAt Go.RowKit Go.Deep
set_option linter.unusedVariables false

theorem cellsE : Tryz.prog.cellsOf 354 = 1 := by kernel_rfl
theorem cellsS : Tryz.prog.cellsOf 9 = 1 := by kernel_rfl
theorem star : "*" ++ "errors.errorString" = "*errors.errorString" := by decide
theorem rowError (u : TypeId) (h : Tryz.prog.typeName? 3 u = some "*errors.errorString") : u = 352 :=
  typeName_ptr_named (nm := "errors.errorString") (by rw [star]; kernel_rfl) (by kernel_rfl) (by decide) u (by rw [star]; exact h)
theorem pow_data : (Rows.laid_internal_strconv_uint64pow10 : DataW Unit) = Lib.tabData .u64 Lib.pow10Tab := by kernel_rfl
theorem rangeName : Tryz.prog.globalNamed "strconv.ErrRange" = some 9 := by kernel_rfl
/-- What the row's list and the world's shape give a walk. -/
theorem env_of {W : World} (hL : laidMetH Tryz.prog Rows.resTwoRow.laid W) (hS : W.ShapedOpen Tryz.prog) : EnvT W := by
  rw [MakeChecks.laidMetH_plain _ _ _ (by kernel_rfl)] at hL
  have h3 : laidMet Tryz.prog (("internal/strconv.uint64pow10", Rows.laid_internal_strconv_uint64pow10) :: _) W := hL.tail.tail
  rw [pow_data] at h3
  refine ⟨⟨?_, ?_⟩, ?_⟩
  · exact cell_of_shapedOpen_int (zero := #[.int .i64 0]) (t := 3) hS (of_decide_eq_true (by kernel_rfl)) (by kernel_rfl) rfl (by kernel_rfl) (by kernel_rfl) Tryz.underlying3
  · have h5 : laidMet Tryz.prog (("strconv.ErrRange", Rows.laid_strconv_ErrRange) :: _) W := hL.tail.tail.tail.tail
    unfold Rows.laid_strconv_ErrRange at h5
    obtain ⟨a, s, hv, -⟩ := laid_sentinel h5 rangeName (by kernel_rfl) Tryz.underlying125 rowError Tryz.underlying352 Tryz.underlying354 rfl rfl Tryz.underlying9 cellsE cellsS
    exact ⟨_, by simpa using World.var?_cell rangeName hv 0, .inr ⟨_, _, rfl⟩⟩
  · exact Lib.tabIs_of_head tabName (by kernel_rfl) Tryz.underlying319 Tryz.underlying224 (by kernel_rfl) (by kernel_rfl) h3

end Go.Proofs.YtppbbgppooblfaaGreatDoor.Vec
