/- Package by package: contracts of the functions that the laws call. -/
import Derived.Test.YtppbbgppooblfaaGreatDoorResB
import Derived.StillTailTactics
import Derived.Test.YtppbbgppooblfaaGreatDoorResA
import Derived.WideShapes
import Derived.IntWalk
import Derived.Test.YtppbbgppooblfaaGreatDoorBase
import Derived.Lib.ItoaNum
import Derived.Test.YtppbbgppooblfaaGreatDoorRows
import Derived.WalkKit
import Derived.ProofKit
import Derived.OpenShut
import Derived.ChangeOld
import Derived.Below
import Derived.Deep.Slices
import Derived.Deep.Fields
import Derived.ChangeSame
import Derived.Lib.LaidTab
import Derived.Stop.LaidErr
import Derived.Stop.Joined
import Derived.Shelf.Vars
import Derived.MakeChecks
import Derived.LaidLaws
import Derived.RowKitTokens

/- Two vectors, reckoned. -/
namespace Go.Proofs.YtppbbgppooblfaaGreatDoor.Vec
open Go.RowKit
set_option linter.unusedVariables false

def cpu : ByteArray := ⟨#[99, 112, 117]⟩
def gpu : ByteArray := ⟨#[103, 112, 117]⟩
def mem : ByteArray := ⟨#[109, 101, 109]⟩
def kA : V := [(cpu, 100), (mem, 5)]
def kB : V := [(cpu, 40), (gpu, 1)]
def kS : V := [(cpu, 140), (gpu, 1), (mem, 5)]
def kT : V := [(cpu, 120), (gpu, 3)]
def kP : V := [(cpu, 10)]

theorem lt_list (s t : ByteArray) : ltS s t = Op.bytesLess s.data.toList t.data.toList := by unfold ltS; rw [Lib.toList_data, Lib.toList_data]
theorem eq_list (s t : ByteArray) : eqS s t = (s.data.toList == t.data.toList) := by unfold eqS; rw [Lib.toList_data, Lib.toList_data]
theorem e_cc : eqS cpu cpu = true := by rw [eq_list]; rfl
theorem e_cm : eqS cpu mem = false := by rw [eq_list]; rfl
theorem e_mc : eqS mem cpu = false := by rw [eq_list]; rfl
theorem e_gc : eqS gpu cpu = false := by rw [eq_list]; rfl
theorem e_cg : eqS cpu gpu = false := by rw [eq_list]; rfl
theorem e_gg : eqS gpu gpu = true := by rw [eq_list]; rfl
theorem e_mm : eqS mem mem = true := by rw [eq_list]; rfl
theorem e_mg : eqS mem gpu = false := by rw [eq_list]; rfl
theorem e_gm : eqS gpu mem = false := by rw [eq_list]; rfl
theorem l_cc : ltS cpu cpu = false := by rw [lt_list]; rfl
theorem l_mc : ltS mem cpu = false := by rw [lt_list]; rfl
theorem l_cm : ltS cpu mem = true := by rw [lt_list]; rfl
theorem l_gc : ltS gpu cpu = false := by rw [lt_list]; rfl
theorem l_gm : ltS gpu mem = true := by rw [lt_list]; rfl
theorem l_mg : ltS mem gpu = false := by rw [lt_list]; rfl
theorem n_c : isName cpu = true := by decide
theorem n_g : isName gpu = true := by decide
theorem n_m : isName mem = true := by decide
theorem k_check : checkV kA = 0 ∧ checkV kB = 0 ∧ checkV kS = 0 ∧ checkV [(mem, 1), (cpu, 1)] = 13 := by
  refine ⟨?_, ?_, ?_, ?_⟩ <;> simp [checkV, checkFrom, kA, kB, kS, n_c, n_g, n_m, behindB, leS, l_mc, l_gc, l_mg, e_mc, e_gc, e_mg, l_cm]
theorem kc1 : checkV [(cpu, 100), (mem, 5)] = 0 := k_check.1
theorem kc2 : checkV [(cpu, 40), (gpu, 1)] = 0 := k_check.2.1
theorem kc3 : checkV [(cpu, 140), (gpu, 1), (mem, 5)] = 0 := k_check.2.2.1
theorem k_add : mergedV addF kA kB = (0, kS) := by
  simp [mergedV, kc1, kc2, kA, kB, kS, mergeAcc, foremostV, takenV, plusV, addF, l_cc, l_gm, e_cc, e_gg, e_mm, e_mg]
theorem k_sub : mergedV subF kS kA = (0, kB) := by
  simp [mergedV, kc1, kc3, kA, kB, kS, mergeAcc, foremostV, takenV, plusV, subF, l_cc, l_mg, e_cc, e_gg, e_mm, e_mg]
theorem k_sub2 : mergedV subF kA kB = (5, []) := by
  simp [mergedV, kc1, kc2, kA, kB, mergeAcc, foremostV, takenV, plusV, subF, l_cc, l_gm, e_cc, e_gg, e_mm, e_mg]
theorem k_mul : eachV mulF 3 kB = (0, kT) := by
  simp [eachV, kc2, kB, kT, eachAcc, plusV, mulF]
theorem k_part : eachV partF 100 kA = (0, kP) := by
  simp [eachV, kc1, kA, kP, eachAcc, plusV, partF, parQ]
theorem k_fits : fitsFrom kS kB = true ∧ fitsFrom kB kS = false := by
  constructor <;> simp [fitsFrom, kS, kB, getV, e_cc, e_cg, e_gg, e_cm, e_gm, e_gc]
theorem k_same : sameFrom kB kB = true ∧ sameFrom kA kA = true := by
  constructor <;> simp [sameFrom, kB, kA, e_cc, e_gg, e_mm]
theorem k_get : getV kT cpu = 120 := by simp [getV, kT, e_cc]
theorem i_140 : Lib.itoa 140 = [49, 52, 48] := by simp [Lib.itoa, Lib.decDigits]
theorem i_10 : Lib.itoa 10 = [49, 48] := by simp [Lib.itoa, Lib.decDigits]
theorem i_1 : Lib.itoa 1 = [49] := by simp [Lib.itoa, Lib.decDigits]
theorem i_5 : Lib.itoa 5 = [53] := by simp [Lib.itoa, Lib.decDigits]
theorem k_text : textV kS = [99, 112, 117, 61, 49, 52, 48, 44, 103, 112, 117, 61, 49, 44, 109, 101, 109, 61, 53] ∧ textV kP = [99, 112, 117, 61, 49, 48] := by
  constructor <;> simp [textV, joinFrom, kS, kP, i_140, i_10, i_1, i_5, cpu, gpu, mem]
theorem k_few : fewV kS = true ∧ fewV kP = true := by decide
theorem k_parse : parseV [99, 112, 117, 61, 49, 48, 48, 44, 109, 101, 109, 61, 53] = (0, kA) := by
  have e : ((partsOf [99, 112, 117, 61, 49, 48, 48, 44, 109, 101, 109, 61, 53]).map amtOf).take 9 = kA := by rfl
  unfold parseV parsedV
  rw [if_neg (by decide), if_neg (by decide), if_neg (by decide), e, if_neg (by rw [k_check.1]; decide)]
theorem k_parse1 : parseV [99, 112, 117, 61, 48, 49] = (2, []) := by
  unfold parseV parsedV
  rw [if_neg (by decide), if_pos (by decide)]
theorem k_parse2 : parseV [109, 101, 109, 61, 49, 44, 99, 112, 117, 61, 49] = (13, []) := by
  have e : ((partsOf [109, 101, 109, 61, 49, 44, 99, 112, 117, 61, 49]).map amtOf).take 9 = [(mem, 1), (cpu, 1)] := by rfl
  unfold parseV parsedV
  rw [if_neg (by decide), if_neg (by decide), if_neg (by decide), e, if_pos (by rw [k_check.2.2.2]; decide), k_check.2.2.2]

end Go.Proofs.YtppbbgppooblfaaGreatDoor.Vec

/- What the laws know: two vectors. -/
namespace Go.Proofs.YtppbbgppooblfaaGreatDoor.Vec
open Go.RowKit
set_option linter.unusedVariables false

theorem lit2 (w : World) (s t : ByteArray) (m n : Int) (T : TypeId) (hs : s.size ≤ maxLen) (ht : t.size ≤ maxLen) (hm : -9223372036854775808 ≤ m ∧ m ≤ 9223372036854775807) (hn : -9223372036854775808 ≤ n ∧ n ≤ 9223372036854775807) :
    Reads (w.alloc (.cells #[.string s, .int .i64 m, .string t, .int .i64 n] T)) (.slice (some ⟨w.heap.size, 0, none⟩) 2 2) [(s, m), (t, n)] := by
  refine ⟨_, 2, rfl, Nat.le_refl _, by decide, rfl, (by decide : 2 ≤ maxLen), Fine.cons.2 ⟨⟨hs, hm⟩, Fine.cons.2 ⟨⟨ht, hn⟩, Fine.nil⟩⟩, .inr ⟨w.heap.size, 0, rfl, by simp, fun i hi => ?_⟩⟩
  have hh := w.alloc_heap_new (.cells #[.string s, .int .i64 m, .string t, .int .i64 n] T)
  match i, hi with
  | 0, _ => exact ⟨by rw [Lib.cell_of_heap hh]; rfl, by rw [Lib.cell_of_heap hh]; rfl⟩
  | 1, _ => exact ⟨by rw [Lib.cell_of_heap hh]; rfl, by rw [Lib.cell_of_heap hh]; rfl⟩

set_option maxRecDepth 100000 in
set_option maxHeartbeats 4000000 in
theorem known_any (w : World) (hE : EnvT w) :
    Calls Tryz.prog 14 #[] w fun e w' => e = .returned (.bool true) ∧ Kept w w' := by
  have HE := Lib.hid hE
  have t0 : ((bytes [99, 112, 117, 61, 49, 52, 48, 44, 103, 112, 117, 61, 49, 44, 109, 101, 109, 61, 53]).toList == [99, 112, 117, 61, 49, 52, 48, 44, 103, 112, 117, 61, 49, 44, 109, 101, 109, 61, 53]) = true := by rw [Lib.toList_data]; rfl
  have t1 : ((bytes [99, 112, 117, 61, 49, 48]).toList == [99, 112, 117, 61, 49, 48]) = true := by rw [Lib.toList_data]; rfl
  have t2 : ((bytes [45]).toList == [45]) = true := by rw [Lib.toList_data]; rfl
  clear hE
  go_enter Tryz.func14, Tryz.ntmps14
  go_wp2_with fail
  obtain ⟨W1, hW1⟩ : ∃ W1, w.alloc (.cells #[.string cpu, .int .i64 100, .string mem, .int .i64 5] 82) = W1 := ⟨_, rfl⟩
  obtain ⟨W2, hW2⟩ : ∃ W2, W1.alloc (.cells #[.string cpu, .int .i64 40, .string gpu, .int .i64 1] 82) = W2 := ⟨_, rfl⟩
  have RA1 : Reads W1 (.slice (some ⟨w.heap.size, 0, none⟩) 2 2) kA := by rw [← hW1]; exact lit2 w _ _ _ _ _ (by decide) (by decide) (by decide) (by decide)
  have RB2 : Reads W2 (.slice (some ⟨W1.heap.size, 0, none⟩) 2 2) kB := by rw [← hW2]; exact lit2 W1 _ _ _ _ _ (by decide) (by decide) (by decide) (by decide)
  have K1 : Kept w W1 := by rw [← hW1]; exact kept_alloc _ _
  have K12 : Kept W1 W2 := by rw [← hW2]; exact kept_alloc _ _
  have RA := Lib.hid (RA1.kept K12)
  have RB := Lib.hid RB2
  have K := Lib.hid (K1.trans K12)
  have hsz : W1.heap.size = w.heap.size + 1 := by rw [← hW1]; simp
  rw [hsz] at RB
  clear RA1 RB2 K1 K12 hsz
  show Calls _ _ _ ((w.alloc (.cells #[.string cpu, .int .i64 100, .string mem, .int .i64 5] 82)).alloc (.cells #[.string cpu, .int .i64 40, .string gpu, .int .i64 1] 82)) _
  rw [hW1, hW2]
  clear hW1 hW2
  refine (addR RA.out RB.out k_add).mono ?_
  rintro e v0 ⟨x0, rfl, hr, hk⟩
  have K := Lib.hid (K.out.trans hk)
  have RA := Lib.hid (RA.out.kept hk)
  have RB := Lib.hid (RB.out.kept hk)
  have S := Lib.hid hr
  clear hr hk
  go_wp2_with fail
  refine (subR S.out RA.out k_sub).mono ?_
  rintro e v1 ⟨x1, rfl, hr, hk⟩
  have K := Lib.hid (K.out.trans hk)
  have RA := Lib.hid (RA.out.kept hk)
  have RB := Lib.hid (RB.out.kept hk)
  have S := Lib.hid (S.out.kept hk)
  have D := Lib.hid hr
  clear hr hk
  go_wp2_with fail
  refine (subR RA.out RB.out k_sub2).mono ?_
  rintro e v2 ⟨x2, rfl, hr, hk⟩
  have K := Lib.hid (K.out.trans hk)
  have RA := Lib.hid (RA.out.kept hk)
  have RB := Lib.hid (RB.out.kept hk)
  have S := Lib.hid (S.out.kept hk)
  have D := Lib.hid (D.out.kept hk)
  clear hr hk
  go_wp2_with fail
  refine (mulR RB.out (by decide) (by decide) k_mul).mono ?_
  rintro e v3 ⟨x3, rfl, hr, hk⟩
  have K := Lib.hid (K.out.trans hk)
  have RA := Lib.hid (RA.out.kept hk)
  have RB := Lib.hid (RB.out.kept hk)
  have S := Lib.hid (S.out.kept hk)
  have D := Lib.hid (D.out.kept hk)
  have T := Lib.hid hr
  clear hr hk
  go_wp2_with fail
  refine (partR RA.out (by decide) (by decide) k_part).mono ?_
  rintro e v4 ⟨x4, rfl, hr, hk⟩
  have K := Lib.hid (K.out.trans hk)
  have RA := Lib.hid (RA.out.kept hk)
  have RB := Lib.hid (RB.out.kept hk)
  have S := Lib.hid (S.out.kept hk)
  have D := Lib.hid (D.out.kept hk)
  have T := Lib.hid (T.out.kept hk)
  have P := Lib.hid hr
  clear hr hk
  go_wp2_with fail
  refine (parseR (s := [99, 112, 117, 61, 49, 48, 48, 44, 109, 101, 109, 61, 53]) (HE.out.kept K.out).toEnv (by decide) k_parse).mono ?_
  rintro e v5 ⟨x5, rfl, hr, hk⟩
  have K := Lib.hid (K.out.trans hk)
  have RA := Lib.hid (RA.out.kept hk)
  have RB := Lib.hid (RB.out.kept hk)
  have S := Lib.hid (S.out.kept hk)
  have D := Lib.hid (D.out.kept hk)
  have T := Lib.hid (T.out.kept hk)
  have P := Lib.hid (P.out.kept hk)
  have Q := Lib.hid hr
  clear hr hk
  go_wp2_with fail
  refine (parseR (s := [99, 112, 117, 61, 48, 49]) (HE.out.kept K.out).toEnv (by decide) k_parse1).mono ?_
  rintro e v6 ⟨x6, rfl, hr, hk⟩
  have K := Lib.hid (K.out.trans hk)
  have RA := Lib.hid (RA.out.kept hk)
  have RB := Lib.hid (RB.out.kept hk)
  have S := Lib.hid (S.out.kept hk)
  have D := Lib.hid (D.out.kept hk)
  have T := Lib.hid (T.out.kept hk)
  have P := Lib.hid (P.out.kept hk)
  have Q := Lib.hid (Q.out.kept hk)
  clear hr hk
  go_wp2_with fail
  refine (parseR (s := [109, 101, 109, 61, 49, 44, 99, 112, 117, 61, 49]) (HE.out.kept K.out).toEnv (by decide) k_parse2).mono ?_
  rintro e v7 ⟨x7, rfl, hr, hk⟩
  have K := Lib.hid (K.out.trans hk)
  have RA := Lib.hid (RA.out.kept hk)
  have RB := Lib.hid (RB.out.kept hk)
  have S := Lib.hid (S.out.kept hk)
  have D := Lib.hid (D.out.kept hk)
  have T := Lib.hid (T.out.kept hk)
  have P := Lib.hid (P.out.kept hk)
  have Q := Lib.hid (Q.out.kept hk)
  clear hr hk
  go_wp2_with fail
  refine (textR (HE.out.kept K.out) S.out k_few.1 k_text.1).mono ?_
  rintro e u0 ⟨rfl, hk⟩
  have K := Lib.hid (K.out.trans hk)
  have RA := Lib.hid (RA.out.kept hk)
  have RB := Lib.hid (RB.out.kept hk)
  have S := Lib.hid (S.out.kept hk)
  have D := Lib.hid (D.out.kept hk)
  have T := Lib.hid (T.out.kept hk)
  have P := Lib.hid (P.out.kept hk)
  have Q := Lib.hid (Q.out.kept hk)
  clear hk
  go_wp2_with fail
  refine (sameR D.out RB.out k_same.1).mono ?_
  rintro e u1 ⟨rfl, hk⟩
  have K := Lib.hid (K.out.trans hk)
  have RA := Lib.hid (RA.out.kept hk)
  have RB := Lib.hid (RB.out.kept hk)
  have S := Lib.hid (S.out.kept hk)
  have D := Lib.hid (D.out.kept hk)
  have T := Lib.hid (T.out.kept hk)
  have P := Lib.hid (P.out.kept hk)
  have Q := Lib.hid (Q.out.kept hk)
  clear hk
  go_wp2_with fail
  refine (getR T.out k_get).mono ?_
  rintro e u2 ⟨rfl, hk⟩
  have K := Lib.hid (K.out.trans hk)
  have RA := Lib.hid (RA.out.kept hk)
  have RB := Lib.hid (RB.out.kept hk)
  have S := Lib.hid (S.out.kept hk)
  have D := Lib.hid (D.out.kept hk)
  have T := Lib.hid (T.out.kept hk)
  have P := Lib.hid (P.out.kept hk)
  have Q := Lib.hid (Q.out.kept hk)
  clear hk
  go_wp2_with fail
  refine (textR (HE.out.kept K.out) P.out k_few.2 k_text.2).mono ?_
  rintro e u3 ⟨rfl, hk⟩
  have K := Lib.hid (K.out.trans hk)
  have RA := Lib.hid (RA.out.kept hk)
  have RB := Lib.hid (RB.out.kept hk)
  have S := Lib.hid (S.out.kept hk)
  have D := Lib.hid (D.out.kept hk)
  have T := Lib.hid (T.out.kept hk)
  have P := Lib.hid (P.out.kept hk)
  have Q := Lib.hid (Q.out.kept hk)
  clear hk
  go_wp2_with fail
  refine (sameR Q.out RA.out k_same.2).mono ?_
  rintro e u4 ⟨rfl, hk⟩
  have K := Lib.hid (K.out.trans hk)
  have RA := Lib.hid (RA.out.kept hk)
  have RB := Lib.hid (RB.out.kept hk)
  have S := Lib.hid (S.out.kept hk)
  have D := Lib.hid (D.out.kept hk)
  have T := Lib.hid (T.out.kept hk)
  have P := Lib.hid (P.out.kept hk)
  have Q := Lib.hid (Q.out.kept hk)
  clear hk
  go_wp2_with fail
  refine (fitsR RB.out S.out k_fits.1).mono ?_
  rintro e u5 ⟨rfl, hk⟩
  have K := Lib.hid (K.out.trans hk)
  have RA := Lib.hid (RA.out.kept hk)
  have RB := Lib.hid (RB.out.kept hk)
  have S := Lib.hid (S.out.kept hk)
  have D := Lib.hid (D.out.kept hk)
  have T := Lib.hid (T.out.kept hk)
  have P := Lib.hid (P.out.kept hk)
  have Q := Lib.hid (Q.out.kept hk)
  clear hk
  go_wp2_with fail
  refine (fitsR S.out RB.out k_fits.2).mono ?_
  rintro e u6 ⟨rfl, hk⟩
  have K := Lib.hid (K.out.trans hk)
  have RA := Lib.hid (RA.out.kept hk)
  have RB := Lib.hid (RB.out.kept hk)
  have S := Lib.hid (S.out.kept hk)
  have D := Lib.hid (D.out.kept hk)
  have T := Lib.hid (T.out.kept hk)
  have P := Lib.hid (P.out.kept hk)
  have Q := Lib.hid (Q.out.kept hk)
  clear hk
  go_wp2_with fail
  refine (nameR (by decide) (by decide : isName ⟨#[97, 49]⟩ = true)).mono ?_
  rintro e u7 ⟨rfl, rfl⟩
  go_wp2_with fail
  refine (nameR (by decide) (by decide : isName ⟨#[65]⟩ = false)).mono ?_
  rintro e u8 ⟨rfl, rfl⟩
  go_wp2_with fail
  refine (checkR RA.out k_check.1).mono ?_
  rintro e u9 ⟨rfl, hk⟩
  have K := Lib.hid (K.out.trans hk)
  have RA := Lib.hid (RA.out.kept hk)
  have RB := Lib.hid (RB.out.kept hk)
  have S := Lib.hid (S.out.kept hk)
  have D := Lib.hid (D.out.kept hk)
  have T := Lib.hid (T.out.kept hk)
  have P := Lib.hid (P.out.kept hk)
  have Q := Lib.hid (Q.out.kept hk)
  clear hk
  go_wp2_with fail
  refine (textR (HE.out.kept K.out) (Reads.nil _) (by decide : fewV [] = true) (by decide : textV [] = [45])).mono ?_
  rintro e u10 ⟨rfl, hk⟩
  have K := Lib.hid (K.out.trans hk)
  have RA := Lib.hid (RA.out.kept hk)
  have RB := Lib.hid (RB.out.kept hk)
  have S := Lib.hid (S.out.kept hk)
  have D := Lib.hid (D.out.kept hk)
  have T := Lib.hid (T.out.kept hk)
  have P := Lib.hid (P.out.kept hk)
  have Q := Lib.hid (Q.out.kept hk)
  clear hk
  go_wp2_with fail
  go_ret
  exact ⟨rfl, K.out⟩

end Go.Proofs.YtppbbgppooblfaaGreatDoor.Vec

/- A vector as the document's: as it is. -/
namespace Go.Proofs.YtppbbgppooblfaaGreatDoor.Vec
open Go.RowKit
set_option linter.unusedVariables false

theorem refInfo : (Tryz.prog.info? 117).map (fun i => (i.zero, i.size, i.bytes)) = some (some (.agg #[.string ByteArray.empty, .int .i64 0]), 2, 24) := by kernel_rfl

theorem take_next {l : V} {k : Nat} (h : k < l.length) : l.take (k + 1) = l.take k ++ [(nm l k, qn l k)] := by
  rw [List.take_add_one]; congr 1
  have : l.getD k (ByteArray.empty, 0) = l[k] := by simp [List.getD, h]
  have e : (nm l k, qn l k) = l[k] := by simp only [nm, qn, this]
  rw [e]; simp [h]

set_option maxRecDepth 100000 in
set_option maxHeartbeats 1600000 in
theorem of_own (a : Option Addr) (len cap : Nat) (l : V) (w : World) (hr : VecAt w a len l) (hlen : len ≤ 1000000) :
    Calls Tryz.prog 16 #[.slice a len cap] w (fun e w' => ∃ x, e = .returned x ∧ OwnV 117 w' w.heap.size x l ∧ Kept w w') := by
  have hl := hr.1
  obtain ⟨i0, hi, hz0, hz1, hz2⟩ := info_parts refInfo
  rcases hr.form with h0 | ⟨b, off, rfl⟩
  · subst h0
    have hl0 : l = [] := List.eq_nil_of_length_eq_zero hl
    subst hl0
    clear hr hl hi hz0 hz1 hz2
    go_enter Tryz.func16, Tryz.ntmps16
    go_wp2
    refine wp_loop_rounds 1 ?_
    rw [rounds_succ]
    go_wp2
    go_ret
    exact ⟨_, rfl, OwnV.nil _ _ _, Kept.refl _⟩
  · have HR := Lib.hid hr
    have HL := Lib.hid hl
    have HF := Lib.hid hr.2.2.1
    clear hr hl
    go_enter Tryz.func16, Tryz.ntmps16
    go_wp2
    go_loopw [3, 4] (fun v i wr => ∃ k : Nat, k ≤ len ∧ i = .int .i64 k ∧ OwnV 117 wr w.heap.size v (l.take k) ∧ Below w.heap.size w wr) (fun _ i _ => len - (intOf i).toNat)
    case atStart => exact ⟨0, Nat.zero_le _, rfl, OwnV.nil _ _ _, Below.refl _ _⟩
    case round =>
      obtain ⟨k, hk, rfl, ho, hB⟩ := hrel
      have HO := Lib.hid ho
      have HB := Lib.hid hB
      have HT := Lib.hid (show (l.take k).length = k by rw [List.length_take, HL.out]; omega)
      have HOWN := Lib.hid (show wr.ownsRow w.heap.size 117 2 u3 k (cellsOf (l.take k)) by have := HO.out.1; rw [HT.out] at this; exact this)
      by_cases hlt : k < len
      · obtain ⟨hb, c1, c2⟩ := (HR.out.kept hB).cells hlt
        have HI := Lib.hid (show k < l.length by rw [HL.out]; exact hlt)
        have hbw : b < w.heap.size := (HR.out.cells hlt).1
        have hbase : w.heap.size ≤ wr.heap.size := hB.size
        have HNE := Lib.hid (show u3.ownBlock ≠ some b by
          intro e
          have := (HOWN.out.lt b e).1
          omega)
        have HBASE := Lib.hid (show w.heap.size ≤ (wr.alloc (.cells #[.string (nm l k), .int .i64 (qn l k)] 117)).drew.heap.size by simp; omega)
        have HBD := Lib.hid (show Below w.heap.size w ((wr.alloc (.cells #[.string (nm l k), .int .i64 (qn l k)] 117)).drew) from HB.out.trans (Below.mono ((kept_alloc wr _).trans (Kept.drewN _ 1)) hbase))
        have hk1 : (k : Int) < (len : Int) := by omega
        have HFK := Lib.hid (HF.out k HI.out)
        clear ho hB
        go_wp2_with fail
        go_region_held3 (fun W => W.cell? ⟨b, off + k * 2, none⟩ = some (.string (nm l k)) ∧ W.cell? ⟨b, off + k * 2 + 1, none⟩ = some (.int .i64 (qn l k)))
          (first
            | go_keep
            | (go_split_ands
               refine ⟨?_, ?_⟩
               · (refine (hgrow.cell_far ⟨b, off + k * 2, none⟩ (by simp; omega) (Ne.symm HNE.out)).trans ?_; assumption)
               · (refine (hgrow.cell_far ⟨b, off + k * 2 + 1, none⟩ (by simp; omega) (Ne.symm HNE.out)).trans ?_; assumption)))
          ((refine step_append_lies _ (by rfl) _ _ _ (by rfl) w.heap.size 117 i0 _ 2 24 Tryz.underlying26 hi hz0 hz1 hz2 rfl (by decide) u3 k (cellsOf (l.take k)) (by rfl) ((HOWN.out.alloc _).drew)
                ⟨wr.heap.size, 0, none⟩ 1 1 [.string (nm l k), .int .i64 (qn l k)] (by rfl) (by rfl) (World.news_of_block (cs := #[.string (nm l k), .int .i64 (qn l k)]) (t := 117) (fr := (0, 0)) (heap_alloc_new wr _)) (cellsOf_one [(nm l k, qn l k)])
                (by decide) (by unfold maxLen; omega) (by omega) (by simp; omega) (wr.heap.size + 1) (by simp) ?_; intro gg cap1 w1 hown1 hgrow hat hlt1))
        all_goals
          go_wp2
          go_roundw
          case rel => exact ⟨k + 1, by omega, by go_num, ⟨by rw [take_next HI.out, cellsOf_append, List.length_append, HT.out]; exact hown1, by rw [take_next HI.out]; exact HO.out.2.snoc HFK.out.1 HFK.out.2.1 HFK.out.2.2⟩, HBD.out.grown hgrow HBASE.out (fun j hj => (HOWN.out.lt j hj).1)⟩
          case measure => simp [intOf]; omega
      · have HK := Lib.hid (show l.take k = l by rw [List.take_of_length_le (by rw [HL.out]; omega)])
        clear ho hB
        go_wp2
        go_ret
        exact ⟨_, rfl, by have h := HO.out; rw [HK.out] at h; exact h, HB.out⟩
theorem of_any (a : Option Addr) (len cap : Nat) (l : V) (w : World) (hr : VecAt w a len l) (hlen : len ≤ 1000000) :
    Calls Tryz.prog 16 #[.slice a len cap] w (fun e w' => ∃ x, e = .returned x ∧ Reads w' x l ∧ Kept w w') := by
  refine (of_own a len cap l w hr hlen).mono ?_
  rintro e w' ⟨x, he, ho, k⟩
  exact ⟨x, he, ho.at_, k⟩

end Go.Proofs.YtppbbgppooblfaaGreatDoor.Vec

/- The algebra of vectors that may be: names in their order, numbers above 0. -/
namespace Go.Proofs.YtppbbgppooblfaaGreatDoor.Vec
open Go.RowKit
set_option linter.unusedVariables false

theorem less_irrefl : ∀ s : List UInt8, Op.bytesLess s s = false
  | [] => rfl
  | a :: s => by
    have : ¬ a < a := UInt8.lt_irrefl a
    simp [Op.bytesLess, less_irrefl s, this]
theorem less_trans : ∀ {a b c : List UInt8}, Op.bytesLess a b = true → Op.bytesLess b c = true → Op.bytesLess a c = true
  | _, _, [], _, h => by simp [Op.bytesLess] at h
  | [], _, _ :: _, _, _ => by simp [Op.bytesLess]
  | x :: a, [], z :: c, h, _ => by simp [Op.bytesLess] at h
  | x :: a, y :: b, z :: c, h, g => by
    simp only [Op.bytesLess, Bool.or_eq_true, Bool.and_eq_true, decide_eq_true_eq, beq_iff_eq] at h g ⊢
    rcases h with h | ⟨rfl, h⟩
    · rcases g with g | ⟨rfl, g⟩
      · exact .inl (UInt8.lt_trans h g)
      · exact .inl h
    · rcases g with g | ⟨rfl, g⟩
      · exact .inl g
      · exact .inr ⟨rfl, less_trans h g⟩
theorem less_tri : ∀ {a b : List UInt8}, Op.bytesLess a b = false → Op.bytesLess b a = false → a = b
  | [], [], _, _ => rfl
  | [], _ :: _, h, _ => by simp [Op.bytesLess] at h
  | _ :: _, [], _, h => by simp [Op.bytesLess] at h
  | x :: a, y :: b, h, g => by
    simp only [Op.bytesLess, Bool.or_eq_false_iff, decide_eq_false_iff_not, Bool.and_eq_false_iff, beq_eq_false_iff_ne] at h g
    have e : x = y := by
      have h1 := UInt8.not_lt.1 h.1
      have h2 := UInt8.not_lt.1 g.1
      exact UInt8.le_antisymm h2 h1
    subst e
    have h2 := h.2.resolve_left (by simp)
    have g2 := g.2.resolve_left (by simp)
    rw [less_tri h2 g2]

theorem lt_of (s t : ByteArray) : ltS s t = Op.bytesLess s.data.toList t.data.toList := by unfold ltS; rw [Lib.toList_data, Lib.toList_data]
theorem eqS_iff {s t : ByteArray} : eqS s t = true ↔ s = t := by
  unfold eqS; rw [Lib.toList_data, Lib.toList_data, beq_iff_eq]
  exact ⟨fun h => Go.WideShapes.bytes_inj h, fun h => by rw [h]⟩
theorem lt_irrefl' (s : ByteArray) : ltS s s = false := by rw [lt_of]; exact less_irrefl _
theorem lt_trans' {s t u : ByteArray} (h : ltS s t = true) (g : ltS t u = true) : ltS s u = true := by
  rw [lt_of] at *; exact less_trans h g
theorem lt_tri' {s t : ByteArray} (h : ltS s t = false) (g : ltS t s = false) : s = t := by
  rw [lt_of] at *; exact Go.WideShapes.bytes_inj (less_tri h g)
theorem lt_ne {s t : ByteArray} (h : ltS s t = true) : s ≠ t := by rintro rfl; rw [lt_irrefl'] at h; cases h
theorem lt_asymm' {s t : ByteArray} (h : ltS s t = true) (g : ltS t s = true) : False := lt_ne (lt_trans' h g) rfl

/-- May be: names as they must, numbers above 0, names rising. -/
def Gd (l : V) : Prop := (∀ x ∈ l, isName x.1 = true ∧ 0 < x.2 ∧ x.2 ≤ 9223372036854775807) ∧ l.Pairwise (fun x y => ltS x.1 y.1 = true)
theorem Gd.nil : Gd [] := ⟨fun x hx => absurd hx (by simp), .nil⟩
theorem Gd.cons {x : ByteArray × Int} {t : V} : Gd (x :: t) ↔ (isName x.1 = true ∧ 0 < x.2 ∧ x.2 ≤ 9223372036854775807) ∧ (∀ y ∈ t, ltS x.1 y.1 = true) ∧ Gd t := by
  unfold Gd
  rw [List.pairwise_cons, List.forall_mem_cons]
  constructor
  · rintro ⟨⟨a, b⟩, c, d⟩; exact ⟨a, c, b, d⟩
  · rintro ⟨a, c, b, d⟩; exact ⟨⟨a, b⟩, c, d⟩

theorem get_same (x : ByteArray × Int) (t : V) : getV (x :: t) x.1 = x.2 := by rw [getV, if_pos (eqS_iff.2 rfl)]
theorem get_other {x : ByteArray × Int} {n : ByteArray} (t : V) (h : x.1 ≠ n) : getV (x :: t) n = getV t n := by rw [getV, if_neg (fun e => h (eqS_iff.1 e))]
theorem get_mem : ∀ {l : V} {n : ByteArray}, getV l n ≠ 0 → ∃ y ∈ l, y.1 = n
  | [], _, h => absurd rfl h
  | x :: t, n, h => by
    by_cases e : x.1 = n
    · exact ⟨x, by simp, e⟩
    · rw [get_other t e] at h
      obtain ⟨y, hy, hn⟩ := get_mem h
      exact ⟨y, by simp [hy], hn⟩
theorem Gd.len : ∀ {b r : V}, Gd r → Gd b → (∀ n, getV r n ≠ 0 → getV b n ≠ 0) → r.length ≤ b.length
  | [], [], _, _, _ => Nat.le_refl _
  | [], x :: s, hr, _, h => by
    have := h x.1; rw [get_same] at this; have h1 := (Gd.cons.1 hr).1
    exact absurd rfl (this (by omega))
  | y :: t, [], _, _, _ => Nat.zero_le _
  | y :: t, x :: s, hr, hb, h => by
    have hr' := Gd.cons.1 hr
    have hb' := Gd.cons.1 hb
    have : s.length ≤ t.length := Gd.len hr'.2.2 hb'.2.2 fun n hn => by
      obtain ⟨z, hz, rfl⟩ := get_mem hn
      have hlt := hr'.2.1 z hz
      have hb2 := h z.1 (by rw [get_other s (lt_ne hlt)]; exact hn)
      by_cases e : y.1 = z.1
      · obtain ⟨u, hu, hux⟩ := get_mem (h x.1 (by rw [get_same]; omega))
        rcases List.mem_cons.1 hu with rfl | hu
        · rw [← hux, e, lt_irrefl'] at hlt; cases hlt
        · have := hb'.2.1 u hu
          rw [hux, e] at this
          exact (lt_asymm' hlt this).elim
      · rw [get_other t e] at hb2; exact hb2
    simp only [List.length_cons]; omega

theorem leS_false {s t : ByteArray} (h : leS s t = false) : ltS t s = true := by
  unfold leS at h
  rw [Bool.or_eq_false_iff] at h
  cases e : ltS t s with
  | true => rfl
  | false => rw [lt_tri' h.1 e, eqS_iff.2 rfl] at h; cases h.2
theorem check_good {l : V} (h : checkV l = 0) (hf : Fine l) : Gd l := by
  have h2 : checkFrom none l = 0 := by
    unfold checkV at h
    split at h
    · cases h
    · exact h
  have key : ∀ (l : V) (p : Option ByteArray), checkFrom p l = 0 → Fine l → Gd l ∧ (∀ x, p = some x → ∀ y ∈ l, ltS x y.1 = true) := by
    intro l
    induction l with
    | nil => intro p _ _; exact ⟨Gd.nil, fun _ _ y hy => absurd hy (by simp)⟩
    | cons x t ih =>
      intro p hc hf
      rw [Fine.cons] at hf
      unfold checkFrom at hc
      split at hc
      · cases hc
      · rename_i n1
        split at hc
        · cases hc
        · rename_i n2
          split at hc
          · cases hc
          · rename_i n3
            obtain ⟨hg, hall⟩ := ih _ hc hf.2
            have hx := hall x.1 rfl
            refine ⟨Gd.cons.2 ⟨⟨by simpa using n1, by omega, hf.1.2.2⟩, hx, hg⟩, ?_⟩
            rintro q rfl y hy
            have hq : ltS q x.1 = true := leS_false (by simpa [behindB] using n3)
            rcases List.mem_cons.1 hy with rfl | hy
            · exact hq
            · exact lt_trans' hq (hx y hy)
  exact (key l none h2 hf).1
end Go.Proofs.YtppbbgppooblfaaGreatDoor.Vec

/- What is merged, by its names' amounts. -/
namespace Go.Proofs.YtppbbgppooblfaaGreatDoor.Vec
open Go.RowKit
set_option linter.unusedVariables false

end Go.Proofs.YtppbbgppooblfaaGreatDoor.Vec

/- What the laws say of vectors that may be. -/
namespace Go.Proofs.YtppbbgppooblfaaGreatDoor.Vec
open Go.RowKit
set_option linter.unusedVariables false

theorem same_self : ∀ l : V, sameFrom l l = true
  | [] => rfl
  | x :: t => by rw [sameFrom, same_self t, eqS_iff.2 rfl]; simp
end Go.Proofs.YtppbbgppooblfaaGreatDoor.Vec

/- What the laws begin with. -/
namespace Go.Proofs.YtppbbgppooblfaaGreatDoor.Vec
open Go.RowKit
set_option linter.unusedVariables false

theorem Reads.fine {v : Value} {l : V} {w : World} (h : Reads w v l) : Fine l := by
  obtain ⟨a, cap, rfl, h1, h2, h3⟩ := h
  exact h3.2.2.1
end Go.Proofs.YtppbbgppooblfaaGreatDoor.Vec

/- The reference's quantities: what each call answers, said of whole numbers. -/
namespace Go.Proofs.YtppbbgppooblfaaGreatDoor.Vec
open Go.RowKit
set_option linter.unusedVariables false

end Go.Proofs.YtppbbgppooblfaaGreatDoor.Vec

/- The reference's vectors read: a name's amount, whether alike, whether the one fits the other. -/
namespace Go.Proofs.YtppbbgppooblfaaGreatDoor.Vec
open Go.RowKit
set_option linter.unusedVariables false

set_option maxHeartbeats 800000 in
theorem rget_any (a : Option Addr) (len cap : Nat) (l : V) (n : ByteArray) (w : World) (hr : VecAt w a len l) :
    Calls Tryz.prog 39 #[.slice a len cap, .string n] w fun e w' => e = .returned (.int .i64 (getV l n)) ∧ Kept w w' := by
  have hl := hr.1
  have hm := hr.2.1
  unfold maxLen at hm
  rcases hr.form with h0 | ⟨b, off, rfl⟩
  · subst h0
    have HE := Lib.hid (show getV l n = 0 by rw [List.eq_nil_of_length_eq_zero hl]; rfl)
    clear hr hl
    go_enter Tryz.func39, Tryz.ntmps39
    go_wp2
    refine wp_loop_rounds 1 ?_
    rw [rounds_succ]
    go_wp2
    go_ret
    exact ⟨ret_i64 HE.out.symm, Kept.refl _⟩
  · have HR := Lib.hid hr
    have HL := Lib.hid hl
    clear hr hl
    go_enter Tryz.func39, Tryz.ntmps39
    go_wp2
    go_loopw [5] (fun i wr => ∃ k : Nat, k ≤ len ∧ i = .int .i64 k ∧ getV (l.drop k) n = getV l n ∧ Kept w wr) (fun i _ => len - (intOf i).toNat)
    case atStart => exact ⟨0, Nat.zero_le _, rfl, rfl, Kept.refl _⟩
    case round =>
      obtain ⟨k, hk, rfl, hrest, hK⟩ := hrel
      have HK := Lib.hid hK
      have HS := Lib.hid hrest
      by_cases hlt : k < len
      · obtain ⟨hb, c1, c2⟩ := (HR.out.kept hK).cells hlt
        clear hK hrest
        have HI := Lib.hid (show k < l.length by rw [HL.out]; exact hlt)
        by_cases e : eqS (nm l k) n = true
        · have E := Lib.hid e
          have e' : ((nm l k).toList == n.toList) = true := e
          clear e
          go_wp2
          go_ret
          exact ⟨ret_i64 (HS.out.symm.trans (get_here HI.out E.out)).symm, HK.out⟩
        · have e : eqS (nm l k) n = false := by simpa using e
          have E := Lib.hid e
          have e' : ((nm l k).toList == n.toList) = false := e
          clear e
          go_wp2
          go_roundw
          case rel => exact ⟨k + 1, by omega, by go_num, (get_next HI.out E.out).symm.trans HS.out, HK.out⟩
          case measure => simp [intOf]; omega
      · have HI := Lib.hid (show ¬ k < l.length by rw [HL.out]; exact hlt)
        clear hK hrest
        go_wp2
        go_ret
        exact ⟨ret_i64 (HS.out.symm.trans (get_end HI.out)).symm, HK.out⟩

set_option maxHeartbeats 800000 in
theorem rsame_any (a a' : Option Addr) (len cap len' cap' : Nat) (l l' : V) (w : World) (hr : VecAt w a len l) (hr' : VecAt w a' len' l') :
    Calls Tryz.prog 20 #[.slice a len cap, .slice a' len' cap'] w fun e w' => e = .returned (.bool (sameFrom l l')) ∧ Kept w w' := by
  have hl := hr.1
  have hm := hr.2.1
  have hl' := hr'.1
  have hm' := hr'.2.1
  unfold maxLen at hm hm'
  by_cases hll : len = len'
  · subst hll
    rcases hr.form with h0 | ⟨b, off, rfl⟩
    · subst h0
      have HE := Lib.hid (show sameFrom l l' = true by rw [List.eq_nil_of_length_eq_zero hl, List.eq_nil_of_length_eq_zero hl']; rfl)
      clear hr hl hr' hl'
      go_enter Tryz.func20, Tryz.ntmps20
      go_wp2
      refine wp_loop_rounds 1 ?_
      rw [rounds_succ]
      go_wp2
      go_ret
      exact ⟨ret_bool HE.out.symm, Kept.refl _⟩
    · rcases hr'.form with h0 | ⟨b', off', rfl⟩
      · subst h0
        have HE := Lib.hid (show sameFrom l l' = true by rw [List.eq_nil_of_length_eq_zero hl, List.eq_nil_of_length_eq_zero hl']; rfl)
        clear hr hl hr' hl'
        go_enter Tryz.func20, Tryz.ntmps20
        go_wp2
        refine wp_loop_rounds 1 ?_
        rw [rounds_succ]
        go_wp2
        go_ret
        exact ⟨ret_bool HE.out.symm, Kept.refl _⟩
      · have HR := Lib.hid hr
        have HL := Lib.hid hl
        have HR' := Lib.hid hr'
        have HL' := Lib.hid hl'
        clear hr hl hr' hl'
        go_enter Tryz.func20, Tryz.ntmps20
        go_wp2
        go_loopw [5] (fun i wr => ∃ k : Nat, k ≤ len ∧ i = .int .i64 k ∧ sameFrom (l.drop k) (l'.drop k) = sameFrom l l' ∧ Kept w wr) (fun i _ => len - (intOf i).toNat)
        case atStart => exact ⟨0, Nat.zero_le _, rfl, rfl, Kept.refl _⟩
        case round =>
          obtain ⟨k, hk, rfl, hrest, hK⟩ := hrel
          have HS := Lib.hid hrest
          have HK := Lib.hid hK
          by_cases hlt : k < len
          · obtain ⟨hb, c1, c2⟩ := (HR.out.kept hK).cells hlt
            obtain ⟨hb', d1, d2⟩ := (HR'.out.kept hK).cells hlt
            clear hrest hK
            have HI := Lib.hid (show k < l.length by rw [HL.out]; exact hlt)
            have HI' := Lib.hid (show k < l'.length by rw [HL'.out]; exact hlt)
            by_cases e1 : eqS (nm l k) (nm l' k) = true
            · have E1 := Lib.hid e1
              have e1' : ((nm l k).toList == (nm l' k).toList) = true := e1
              clear e1
              by_cases e2 : qn l k = qn l' k
              · have E := Lib.hid (show sameFrom (l.drop k) (l'.drop k) = sameFrom (l.drop (k + 1)) (l'.drop (k + 1)) by
                  rw [drop_cons HI.out, drop_cons HI'.out, sameFrom, E1.out, decide_eq_true e2]; rfl)
                have e2' : (qn l k == qn l' k) = true := by simpa using e2
                clear e2
                go_wp2
                go_quiet (fail)
                go_wp2
                go_roundw
                case rel => exact ⟨k + 1, by omega, by go_num, E.out.symm.trans HS.out, HK.out.trans (Kept.drewN _ _)⟩
                case measure => simp [intOf]; omega
              · have E := Lib.hid (show sameFrom (l.drop k) (l'.drop k) = false by
                  rw [drop_cons HI.out, drop_cons HI'.out, sameFrom, E1.out, decide_eq_false e2]; rfl)
                have e2' : (qn l k == qn l' k) = false := by simpa using e2
                clear e2
                go_wp2
                go_quiet (fail)
                go_wp2
                go_ret
                exact ⟨ret_bool (HS.out.symm.trans E.out).symm, HK.out.trans (Kept.drewN _ _)⟩
            · have e1 : eqS (nm l k) (nm l' k) = false := by simpa using e1
              have E := Lib.hid (show sameFrom (l.drop k) (l'.drop k) = false by
                rw [drop_cons HI.out, drop_cons HI'.out, sameFrom, e1]; rfl)
              have e1' : ((nm l k).toList == (nm l' k).toList) = false := e1
              clear e1
              go_wp2
              go_quiet (fail)
              go_wp2
              go_ret
              exact ⟨ret_bool (HS.out.symm.trans E.out).symm, HK.out.trans (Kept.drewN _ _)⟩
          · have E := Lib.hid (show sameFrom (l.drop k) (l'.drop k) = true by
              rw [List.drop_of_length_le (by rw [HL.out]; omega), List.drop_of_length_le (by rw [HL'.out]; omega), sameFrom])
            clear hrest hK
            go_wp2
            go_ret
            exact ⟨ret_bool (HS.out.symm.trans E.out).symm, HK.out⟩
  · have HV := Lib.hid (show sameFrom l l' = false from same_length (by omega))
    clear hr hl hr' hl'
    have hn : ((len : Int) != (len' : Int)) = true := by
      simp only [bne_iff_ne, ne_eq]; omega
    clear hll
    go_enter Tryz.func20, Tryz.ntmps20
    go_wp2
    go_ret
    exact ⟨ret_bool HV.out.symm, Kept.refl _⟩

end Go.Proofs.YtppbbgppooblfaaGreatDoor.Vec

/- The reference's products and parts, as one answer each. -/
namespace Go.Proofs.YtppbbgppooblfaaGreatDoor.Vec
open Go.RowKit
set_option linter.unusedVariables false

/-- What the reference answers: a vector and an error. -/
def Told (c : Int) (m : V) (w : World) (e : Ending) (w' : World) : Prop := ∃ x, e = .returned (.tuple #[x, .int .i64 c]) ∧ OwnV 117 w' w.heap.size x m ∧ Kept w w'
theorem Told.none {c : Int} {w w' : World} (k : Kept w w') : Told c [] w (.returned (.tuple #[.slice none 0 0, .int .i64 c])) w' := ⟨_, rfl, OwnV.nil _ _ _, k⟩

end Go.Proofs.YtppbbgppooblfaaGreatDoor.Vec

/- The reference's decimals and what they spell. -/
namespace Go.Proofs.YtppbbgppooblfaaGreatDoor.Vec
open Go.RowKit
set_option linter.unusedVariables false

set_option maxHeartbeats 800000 in
theorem rdec_any (s : ByteArray) (w : World) (hs : s.size ≤ maxLen) :
    Calls Tryz.prog 101 #[.string s] w fun e w' => e = .returned (.bool (isDec s)) ∧ w = w' := by
  unfold maxLen at hs
  obtain ⟨l, hl⟩ : ∃ l, s.data.toList = l := ⟨_, rfl⟩
  have hsz : s.size = l.length := by rw [← hl, Array.length_toList, ByteArray.size_data]
  cases l with
  | nil =>
    have HV := Lib.hid (show isDec s = false by unfold isDec; rw [hl]; rfl)
    have h0 : s = ByteArray.empty := empty_of_size hsz
    subst h0
    clear hl hsz
    go_enter Tryz.func101, Tryz.ntmps101
    go_wp2
    go_ret
    exact ⟨ret_bool HV.out.symm, rfl⟩
  | cons c t =>
    have h0 : 0 < s.size := by rw [hsz]; simp
    have hne : (s.toList == ([] : List UInt8)) = false := by rw [Lib.toList_data, hl]; rfl
    have hc : s[0] = c := by
      have : s.data.toList[0]'(by rw [hl]; simp) = c := by simp [hl]
      rw [← this]; simp [ByteArray.getElem_eq_getElem_data]
    by_cases hz : c = 48 ∧ t ≠ []
    · obtain ⟨rfl, ht⟩ := hz
      have HV := Lib.hid (show isDec s = false by
        unfold isDec; rw [hl, isDecL_cons]
        cases t with
        | nil => exact absurd rfl ht
        | cons d u => rfl)
      have h1 : 1 < s.size := by
        rw [hsz]
        cases t with
        | nil => exact absurd rfl ht
        | cons d u => simp
      have h48 : ((s[0].toNat : Int) == 48) = true := by rw [hc]; rfl
      clear hl hsz hc ht
      go_enter Tryz.func101, Tryz.ntmps101
      go_wp2
      go_ret
      exact ⟨ret_bool HV.out.symm, rfl⟩
    · have hcase : (s.size = 1 ∧ ((s[0].toNat : Int) == 48) = true) ∨ (((s[0].toNat : Int) == 48) = false) := by
        by_cases h48 : (s[0].toNat : Int) = 48
        · refine .inl ⟨?_, by simpa using h48⟩
          rw [hc] at h48
          have hc48 : c = 48 := UInt8.toNat.inj (by show c.toNat = 48; omega)
          have ht : t = [] := Classical.byContradiction fun e => hz ⟨hc48, e⟩
          rw [hsz, ht]; rfl
        · exact .inr (by simpa using h48)
      have hdec : isDec s = s.data.toList.all okDigit := by
        unfold isDec; rw [hl, isDecL_cons]
        have : (c == 48 && !t.isEmpty) = false := by
          cases t with
          | nil => simp
          | cons d u =>
            have : c ≠ 48 := fun e => hz ⟨e, by simp⟩
            simp [this]
        rw [this]; rfl
      clear hz hc
      by_cases hall : s.data.toList.all okDigit = true
      · have HV := Lib.hid (show isDec s = true from hdec.trans hall)
        have HA := Lib.hid (all_dig hall)
        clear hall hdec hl hsz
        rcases hcase with ⟨h1, h48⟩ | h48
        case' inl => (have h1' : s.size ≤ 1 := by omega)
        case' inl => (clear h1)
        all_goals
          go_enter Tryz.func101, Tryz.ntmps101
          go_wp2
          go_loop [3] (fun i => ∃ k : Nat, k ≤ s.size ∧ i = .int .i64 k) (fun i => s.size - (intOf i).toNat)
          case atStart => exact ⟨0, Nat.zero_le _, rfl⟩
          case round =>
            obtain ⟨k, hk, rfl⟩ := hrel
            by_cases hlt : k < s.size
            · obtain ⟨c2, c3⟩ := (okDigit_iff _).1 (HA.out k hlt)
              go_wp2
              go_round
              case rel => exact ⟨k + 1, by omega, by go_num⟩
              case measure => simp [intOf]; omega
            · go_wp2
              go_ret
              exact ⟨ret_bool HV.out.symm, rfl⟩
      · have HV := Lib.hid (show isDec s = false from hdec.trans (by simpa using hall))
        obtain ⟨j, hj, hbad⟩ := not_all_dig hall
        have HB := Lib.hid hbad
        clear hall hdec hl hsz hbad
        rcases hcase with ⟨h1, h48⟩ | h48
        case' inl => (have h1' : s.size ≤ 1 := by omega)
        case' inl => (clear h1)
        all_goals
          go_enter Tryz.func101, Tryz.ntmps101
          go_wp2
          go_loop [3] (fun i => ∃ k : Nat, k ≤ j ∧ i = .int .i64 k) (fun i => s.size - (intOf i).toNat)
          case atStart => exact ⟨0, Nat.zero_le _, rfl⟩
          case round =>
            obtain ⟨k, hk, rfl⟩ := hrel
            have hlt : k < s.size := by omega
            by_cases hok : okDigit s[k] = true
            · have hkj : k + 1 ≤ j := by
                rcases Nat.lt_or_eq_of_le hk with g | g
                · exact g
                · subst g; rw [HB.out] at hok; cases hok
              obtain ⟨c2, c3⟩ := (okDigit_iff _).1 hok
              clear hok
              first
              | exact absurd hkj (by omega)
              | (go_wp2
                 go_round
                 case rel => exact ⟨k + 1, by omega, by go_num⟩
                 case measure => (simp [intOf]; omega))
            · have c4 : (s[k].toNat : Int) < 48 ∨ 57 < (s[k].toNat : Int) := by
                have : ¬ (48 ≤ (s[k].toNat : Int) ∧ (s[k].toNat : Int) ≤ 57) := fun g => hok ((okDigit_iff _).2 g)
                omega
              clear hok
              rcases c4 with c4 | c4
              · go_wp2
                go_ret
                exact ⟨ret_bool HV.out.symm, rfl⟩
              · have c5 : 48 ≤ (s[k].toNat : Int) := by omega
                go_wp2
                go_ret
                exact ⟨ret_bool HV.out.symm, rfl⟩

/-- A number that fits, or none. -/
def numR (l : List UInt8) : Int × Bool := if valL l ≤ 9223372036854775807 then ((valL l : Int), true) else (0, false)

set_option maxHeartbeats 800000 in
theorem rnum_any (s : ByteArray) (w : World) (hs : s.size ≤ maxLen) (hall : s.data.toList.all okDigit = true) :
    Calls Tryz.prog 102 #[.string s, .int .i64 9223372036854775807] w fun e w' => e = .returned (.tuple #[.int .i64 (numR s.data.toList).1, .bool (numR s.data.toList).2]) ∧ w = w' := by
  unfold maxLen at hs
  have HA := Lib.hid (all_dig hall)
  obtain ⟨L, hL⟩ : ∃ L, s.data.toList = L := ⟨_, rfl⟩
  have hsz : s.size = L.length := by rw [← hL, Array.length_toList, ByteArray.size_data]
  have hat : ∀ k (h : k < s.size), L.drop k = s[k] :: L.drop (k + 1) := fun k h => by
    rw [List.drop_eq_getElem_cons (by omega)]
    have : L[k]'(by omega) = s[k] := by subst hL; simp [ByteArray.getElem_eq_getElem_data]
    rw [this]
  rw [hL]
  have HT := Lib.hid hat
  have HS := Lib.hid hsz
  clear hall hL hat hsz
  go_enter Tryz.func102, Tryz.ntmps102
  go_wp2
  go_loop [6, 7, 8] (fun n i d => ∃ k acc : Nat, k ≤ s.size ∧ i = .int .i64 k ∧ n = .int .i64 acc ∧ acc ≤ 9223372036854775807 ∧ Hid (valFrom acc (L.drop k) = valL L)) (fun n i d => s.size - (intOf i).toNat)
  case atStart => exact ⟨0, 0, Nat.zero_le _, rfl, rfl, by omega, Lib.hid rfl⟩
  case round =>
    obtain ⟨k, acc, hk, rfl, rfl, hacc, HV⟩ := hrel
    by_cases hlt : k < s.size
    · obtain ⟨c2, c3⟩ := (okDigit_iff _).1 (HA.out k hlt)
      obtain ⟨d, hd⟩ : ∃ d : Nat, s[k].toNat = d + 48 := ⟨s[k].toNat - 48, by omega⟩
      have hd9 : d ≤ 9 := by omega
      have HN := Lib.hid (show valFrom (acc * 10 + d) (L.drop (k + 1)) = valL L by
        have := HV.out
        rw [HT.out k hlt, valFrom_cons, hd] at this
        simpa using this)
      obtain ⟨P, hP⟩ : ∃ P : Nat, (9223372036854775807 : Int) - (d : Int) = (P : Int) := ⟨9223372036854775807 - d, by omega⟩
      obtain ⟨q, hq⟩ : ∃ q : Nat, ((P : Int)).tdiv 10 = (q : Int) := ⟨P / 10, by rw [Int.tdiv_eq_ediv_of_nonneg (by omega)]; omega⟩
      have hq' : q = P / 10 := by rw [Int.tdiv_eq_ediv_of_nonneg (by omega)] at hq; omega
      have w1 : IntKind.u8.wrap ((s[k].toNat : Int) - 48) = (d : Int) := by rw [show (s[k].toNat : Int) - 48 = (d : Int) by omega]; exact IntWalk.u8_in _ (by omega)
      have w2 : IntKind.i64.wrap (d : Int) = (d : Int) := IntWalk.i64_in _ (by omega)
      have w3 : IntKind.i64.wrap (P : Int) = (P : Int) := IntWalk.i64_in _ (by omega)
      have w4 : IntKind.i64.wrap (q : Int) = (q : Int) := IntWalk.i64_in _ (by omega)
      by_cases hov : q < acc
      · have HW := Lib.hid (show numR L = (0, false) by
          unfold numR
          have := valFrom_ge (L.drop (k + 1)) (acc * 10 + d)
          rw [HN.out] at this
          rw [if_neg (by omega)])
        have hov' : (q : Int) < (acc : Int) := by omega
        clear hk hq' hd hd9 HN HV HT c2 c3
        go_wp2
        go_ret2
        exact ⟨by rw [HW.out]; rfl, rfl⟩
      · have hov' : ¬ (q : Int) < (acc : Int) := by omega
        have w5 : IntKind.i64.wrap (10 * (acc : Int)) = 10 * (acc : Int) := IntWalk.i64_in _ (by omega)
        obtain ⟨acc', ha'⟩ : ∃ acc' : Nat, acc' = acc * 10 + d := ⟨_, rfl⟩
        have w6 : 10 * (acc : Int) + (d : Int) = (acc' : Int) := by omega
        have w7 : IntKind.i64.wrap (acc' : Int) = (acc' : Int) := IntWalk.i64_in _ (by omega)
        have hacc' : acc' ≤ 9223372036854775807 := by omega
        rw [← ha'] at HN
        have K := Lib.hid hk
        clear hk hq' hd hd9 HV HT c2 c3 ha' hacc
        go_wp2
        go_round
        case rel => exact ⟨k + 1, acc', by omega, by go_num, rfl, hacc', HN⟩
        case measure => simp [intOf]; omega
    · have hk2 : k = s.size := by omega
      have hv : acc = valL L := by
        have := HV.out
        rw [hk2, HS.out, List.drop_length] at this
        exact this
      have HW := Lib.hid (show numR L = ((acc : Int), true) by unfold numR; rw [← hv, if_pos hacc])
      have hacc2 : (acc : Int) ≤ 9223372036854775807 := by omega
      clear HV HT hv
      go_wp2
      go_ret2
      exact ⟨by rw [HW.out]; rfl, rfl⟩

end Go.Proofs.YtppbbgppooblfaaGreatDoor.Vec

/- A part's form, told by every '=' as by the first; a decimal told back. -/
namespace Go.Proofs.YtppbbgppooblfaaGreatDoor.Vec
open Go.RowKit Go.Proofs.YtppbbgppooblfaaGreatDoor
set_option linter.unusedVariables false

theorem dec_all {l : List UInt8} (h : isDecL l = true) : l.all okDigit = true := by
  cases l with
  | nil => cases h
  | cons c t => rw [isDecL_cons, Bool.and_eq_true] at h; exact h.2
theorem dec_not {l : List UInt8} (h : isDecL l = true) : (61 : UInt8) ∉ l := by
  intro hm
  have := List.all_eq_true.1 (dec_all h) 61 hm
  revert this; decide
theorem cut_missing {c : UInt8} : ∀ {p : List UInt8}, ¬ (Lib.cut p [c]).2.2 = true → (Lib.cut p [c]).2.1 = []
  | [], _ => by rw [cut_nil]
  | b :: t, h => by
    rw [cut_cons] at h ⊢
    by_cases hb : b = c
    · rw [if_pos hb] at h; exact absurd rfl h
    · rw [if_neg hb] at h ⊢
      exact cut_missing (p := t) h
theorem form_good {p : List UInt8} (h : isDecL (numOf' p) = true) : partsAt 61 p = [nameOf p, numOf' p] := by
  have hn := dec_not h
  by_cases hf : (Lib.cut p [61]).2.2 = true
  · rw [cut_parts, if_pos hf]
    have e : partsAt 61 (numOf' p) = [numOf' p] := by
      rw [cut_parts, cut_none hn]; rfl
    show nameOf p :: partsAt 61 (numOf' p) = _
    rw [e]
  · have : numOf' p = [] := cut_missing hf
    rw [this] at h; cases h
theorem form_bad {p : List UInt8} (h : isDecL (numOf' p) = false) : (partsAt 61 p).length ≠ 2 ∨ ∃ a b, partsAt 61 p = [a, b] ∧ isDecL b = false := by
  by_cases hf : (Lib.cut p [61]).2.2 = true
  · have e : partsAt 61 p = nameOf p :: partsAt 61 (numOf' p) := by rw [cut_parts, if_pos hf]; rfl
    by_cases hm : (61 : UInt8) ∈ numOf' p
    · refine .inl fun h2 => ?_
      rw [e] at h2
      have : (partsAt 61 (numOf' p)).length = 1 := by simpa using h2
      exact (parts_one 61 _).1 this hm
    · refine .inr ⟨nameOf p, numOf' p, ?_, h⟩
      have e2 : partsAt 61 (numOf' p) = [numOf' p] := by rw [cut_parts, cut_none hm]; rfl
      rw [e, e2]
  · refine .inl ?_
    rw [cut_parts, if_neg hf]; simp

theorem valFrom_snoc (acc : Nat) (l : List UInt8) (c : UInt8) : valFrom acc (l ++ [c]) = valFrom acc l * 10 + (c.toNat - 48) := by
  unfold valFrom; rw [List.foldl_append]; rfl
theorem digit_of {c : UInt8} (h : okDigit c = true) : UInt8.ofNat (48 + (c.toNat - 48)) = c := by
  have := digit_nat h
  rw [show 48 + (c.toNat - 48) = c.toNat by omega]
  exact UInt8.ofNat_toNat
theorem dec_step {n d : Nat} (hn : 0 < n) (hd : d < 10) : Lib.decDigits (n * 10 + d) = Lib.decDigits n ++ [UInt8.ofNat (48 + d)] := by
  rw [Lib.decDigits, dif_neg (by omega), show (n * 10 + d) / 10 = n by omega, show (n * 10 + d) % 10 = d by omega]
theorem dec_first {c : UInt8} (hc : okDigit c = true) (h0 : c ≠ 48) : ∀ (n : Nat) (t : List UInt8), t.length = n → t.all okDigit = true → 0 < valL (c :: t) ∧ Lib.decDigits (valL (c :: t)) = c :: t
  | 0, t, hl, _ => by
    obtain rfl : t = [] := List.eq_nil_of_length_eq_zero hl
    have hd := digit_nat hc
    have hne : c.toNat ≠ 48 := fun e => h0 (UInt8.toNat.inj e)
    have e : valL [c] = c.toNat - 48 := by unfold valL; rw [valFrom_cons]; show 0 * 10 + _ = _; omega
    refine ⟨by omega, ?_⟩
    rw [e, Lib.decDigits, dif_pos (by omega), digit_of hc]
  | n + 1, t, hl, ha => by
    obtain ⟨q, z, rfl⟩ : ∃ q z, t = q ++ [z] := ⟨_, _, (List.dropLast_concat_getLast (by intro e; rw [e] at hl; cases hl)).symm⟩
    rw [List.all_append, Bool.and_eq_true] at ha
    have hz : okDigit z = true := by have := ha.2; simpa using this
    have hd := digit_nat hz
    obtain ⟨i1, i2⟩ := dec_first hc h0 n q (by simpa using hl) ha.1
    have e : valL (c :: (q ++ [z])) = valL (c :: q) * 10 + (z.toNat - 48) := valFrom_snoc 0 (c :: q) z
    refine ⟨by omega, ?_⟩
    rw [e, dec_step i1 (by omega), i2, digit_of hz]; rfl
/-- A decimal without leading noughts is its number's decimal. -/
theorem dec_back {l : List UInt8} (h : isDecL l = true) : Lib.itoa (valL l : Int) = l := by
  have e : Lib.itoa (valL l : Int) = Lib.decDigits (valL l) := by
    unfold Lib.itoa; rw [if_neg (by omega)]; rfl
  rw [e]
  cases l with
  | nil => cases h
  | cons c t =>
    have ha := dec_all h
    rw [List.all_cons, Bool.and_eq_true] at ha
    by_cases h0 : c = 48
    · subst h0
      rw [isDecL_cons, Bool.and_eq_true] at h
      have ht : t = [] := by
        cases t with
        | nil => rfl
        | cons d u => exact absurd h.1 (by simp)
      subst ht
      rw [show valL [48] = 0 from rfl, Lib.decDigits, dif_pos (by omega)]; rfl
    · exact (dec_first ha.1 h0 t.length t rfl ha.2).2

theorem amt_back {p : List UInt8} (h : isDecL (numOf' p) = true) : (amtOf p).1.data.toList ++ ([61] ++ Lib.itoa (amtOf p).2) = p := by
  have hf : (Lib.cut p [61]).2.2 = true := Classical.byContradiction fun hf => by
    have : numOf' p = [] := cut_missing hf
    rw [this] at h; cases h
  show (bytes (nameOf p)).data.toList ++ ([61] ++ Lib.itoa (valL (numOf' p) : Int)) = p
  rw [dec_back h]
  have := cut_back 61 p hf
  unfold nameOf numOf'
  simpa [bytes] using this
theorem joinFrom_more : ∀ (ps : List (List UInt8)), (∀ p ∈ ps, isDecL (numOf' p) = true) → ∀ q, isDecL (numOf' q) = true → joinFrom true ((q :: ps).map amtOf) = Lib.join (q :: ps) [44] ∧ joinFrom false ((q :: ps).map amtOf) = 44 :: Lib.join (q :: ps) [44]
  | [], _, q, hq => by
    have e := amt_back hq
    have h1 : joinFrom true ([q].map amtOf) = q := by
      show (amtOf q).1.data.toList ++ ([61] ++ (Lib.itoa (amtOf q).2 ++ [])) = q
      rw [List.append_nil]; exact e
    refine ⟨by rw [h1, Lib.join_one], ?_⟩
    show 44 :: joinFrom true ([q].map amtOf) = _
    rw [h1, Lib.join_one]
  | x :: ps, hps, q, hq => by
    have e := amt_back hq
    have ih := (joinFrom_more ps (fun p hp => hps p (List.mem_cons_of_mem _ hp)) x (hps x (List.mem_cons_self ..))).2
    have h1 : joinFrom true ((q :: x :: ps).map amtOf) = q ++ 44 :: Lib.join (x :: ps) [44] := by
      show (amtOf q).1.data.toList ++ ([61] ++ (Lib.itoa (amtOf q).2 ++ joinFrom false ((x :: ps).map amtOf))) = _
      rw [ih, ← List.append_assoc [61], ← List.append_assoc, e]
    refine ⟨by rw [h1, join_cons2]; simp, ?_⟩
    show 44 :: joinFrom true ((q :: x :: ps).map amtOf) = _
    rw [h1, join_cons2]; simp
/-- What is parsed is told back. -/
theorem text_back (s : List UInt8) (h : (parseV s).1 = 0) : textV (parseV s).2 = s := by
  unfold parseV at h ⊢
  by_cases hd : s = [45]
  · rw [if_pos hd]; show textV [] = s; unfold textV; rw [if_pos rfl, hd]
  · rw [if_neg hd] at h ⊢
    unfold parsedV at h ⊢
    by_cases h1 : formBad (partsOf s) = true
    · rw [if_pos h1] at h; cases h
    · rw [if_neg h1] at h ⊢
      by_cases h2 : overBad (partsOf s) = true
      · rw [if_pos h2] at h; cases h
      · rw [if_neg h2] at h ⊢
        by_cases h3 : checkV (((partsOf s).map amtOf).take 9) ≠ 0
        · rw [if_pos h3] at h; exact absurd h h3
        · rw [if_neg h3]
          have h3' : checkV (((partsOf s).map amtOf).take 9) = 0 := Classical.byContradiction h3
          have hl := check_len h3'
          have hlen : ((partsOf s).map amtOf).length ≤ 9 := by rw [List.length_take] at hl; omega
          show textV (((partsOf s).map amtOf).take 9) = s
          rw [List.take_of_length_le hlen]
          have hall : ∀ p ∈ partsOf s, isDecL (numOf' p) = true := by
            intro p hp
            have : formBad (partsOf s) = false := by simpa using h1
            unfold formBad at this
            rw [List.any_eq_false] at this
            simpa using this p hp
          have hj := join_parts s
          cases hps : partsOf s with
          | nil => exact absurd hps (partsOf_ne s)
          | cons q ps =>
            rw [hps] at hall hj
            unfold textV
            rw [if_neg (by simp), (joinFrom_more ps (fun p hp => hall p (List.mem_cons_of_mem _ hp)) q (hall q (List.mem_cons_self ..))).1, hj]

end Go.Proofs.YtppbbgppooblfaaGreatDoor.Vec

/- A row of the call's own whose elements are rows of two strings each. -/
namespace Go.Proofs.YtppbbgppooblfaaGreatDoor.Vec
open Go.RowKit Go.Proofs.YtppbbgppooblfaaGreatDoor
set_option linter.unusedVariables false

/-- A slice of two that begins its block: the block, what there is room for. -/
def DuoLay : Lay (Nat × Nat) where
  m := 1
  cs x := [.slice (some ⟨x.1, 0, none⟩) 2 x.2]
  fine _ := True
  len _ := rfl
  one x u h := by
    have : u = .slice (some ⟨x.1, 0, none⟩) 2 x.2 := by simpa using h
    subst this; rfl
  pos := by decide

/-- Each element reads as its part's two sides, and lies elsewhere than the row itself. -/
def Inner (w : World) (v : Value) (vs : List (Nat × Nat)) (ps : List (List UInt8)) : Prop :=
  ∀ (i : Nat) (x : Nat × Nat) (p : List UInt8), vs[i]? = some x → ps[i]? = some p → x.1 < w.heap.size ∧ v.ownBlock ≠ some x.1 ∧
    w.cell? ⟨x.1, 0, none⟩ = some (.string (bytes (nameOf p))) ∧ w.cell? ⟨x.1, 1, none⟩ = some (.string (bytes (numOf' p)))
theorem Inner.nil (w : World) (v : Value) (ps : List (List UInt8)) : Inner w v [] ps := fun i x p h => by simp at h
theorem Inner.kept {w w' : World} {v : Value} {vs : List (Nat × Nat)} {ps : List (List UInt8)} (h : Inner w v vs ps) (k : Kept w w') : Inner w' v vs ps := fun i x p hx hp => by
  obtain ⟨h1, h2, h3, h4⟩ := h i x p hx hp
  exact ⟨Nat.lt_of_lt_of_le h1 k.size, h2, cell_later k h3, cell_later k h4⟩
theorem Inner.snoc {w w' : World} {v : Value} {vs : List (Nat × Nat)} {ps : List (List UInt8)} {g n cap b c : Nat} {p : List UInt8} (h : Inner w v vs ps) (hg : w.grownBy w' v.ownBlock) (hgo : v.ownBlock = some g ∨ g = w.heap.size)
    (hp : ps[vs.length]? = some p) (hb : b < w.heap.size) (hne : v.ownBlock ≠ some b)
    (c0 : w.cell? ⟨b, 0, none⟩ = some (.string (bytes (nameOf p)))) (c1 : w.cell? ⟨b, 1, none⟩ = some (.string (bytes (numOf' p)))) :
    Inner w' (.slice (some ⟨g, 0, none⟩) n cap) (vs ++ [(b, c)]) ps := by
  have far : ∀ d, d < w.heap.size → v.ownBlock ≠ some d → d < w'.heap.size ∧ (Value.slice (some ⟨g, 0, none⟩) n cap).ownBlock ≠ some d ∧ ∀ j, w'.cell? ⟨d, j, none⟩ = w.cell? ⟨d, j, none⟩ := fun d hd hn => by
    refine ⟨Nat.lt_of_lt_of_le hd hg.size, ?_, fun j => hg.cell_far ⟨d, j, none⟩ hd (fun e => hn e.symm)⟩
    show some g ≠ some d
    intro e
    have e' : g = d := Option.some.inj e
    rcases hgo with h1 | h1
    · exact hn (by rw [h1, e'])
    · omega
  intro i x q hx hq
  by_cases hi : i < vs.length
  · rw [List.getElem?_append_left hi] at hx
    obtain ⟨h1, h2, h3, h4⟩ := h i x q hx hq
    obtain ⟨f1, f2, f3⟩ := far x.1 h1 h2
    exact ⟨f1, f2, (f3 0).trans h3, (f3 1).trans h4⟩
  · have hi2 : i = vs.length := by
      have := (List.getElem?_eq_some_iff.1 hx).1
      simp at this; omega
    subst hi2
    have hxx : (b, c) = x := by simpa using hx
    have hqq : q = p := Option.some.inj (hq.symm.trans hp)
    subst hxx; subst hqq
    obtain ⟨f1, f2, f3⟩ := far b hb hne
    exact ⟨f1, f2, (f3 0).trans c0, (f3 1).trans c1⟩

/-- A part split at its '=': a row of two. -/
theorem duo_of {w : World} {B : Nat} {v : Value} {x y : ByteArray} (h : Own StrLay 9 w B v [x, y]) :
    ∃ b c, v = .slice (some ⟨b, 0, none⟩) 2 c ∧ B ≤ b ∧ b < w.heap.size ∧ w.cell? ⟨b, 0, none⟩ = some (.string x) ∧ w.cell? ⟨b, 1, none⟩ = some (.string y) := by
  have hown := h.1
  obtain ⟨g, cap, rfl⟩ := ownsRow_succ hown
  exact ⟨g, cap, rfl, (hown.lt g rfl).1, World.block_lt_of_cell? _ _ (row_at hown (k := 0) rfl), row_at hown (k := 0) rfl, row_at hown (k := 1) rfl⟩

end Go.Proofs.YtppbbgppooblfaaGreatDoor.Vec

/- The reference's Times. -/
namespace Go.Proofs.YtppbbgppooblfaaGreatDoor.Vec
open Go.RowKit
set_option linter.unusedVariables false

end Go.Proofs.YtppbbgppooblfaaGreatDoor.Vec

/- The reference's ParseVec. -/
namespace Go.Proofs.YtppbbgppooblfaaGreatDoor.Vec
open Go.RowKit Go.Proofs.YtppbbgppooblfaaGreatDoor
set_option linter.unusedVariables false

theorem duoInfo : (Tryz.prog.info? 134).map (fun i => (i.zero, i.size, i.bytes)) = some (some (.slice none 0 0), 1, 24) := by kernel_rfl
theorem duo_one (b c : Nat) (u : Value) (h : u ∈ [Value.slice (some ⟨b, 0, none⟩) 2 c]) : u.oneCell' = true := by
  have : u = .slice (some ⟨b, 0, none⟩) 2 c := by simpa using h
  subst this; rfl
theorem good_snoc {ps : List (List UInt8)} {k : Nat} {p : List UInt8} (hp : ps[k]? = some p) (h : ∀ q ∈ ps.take k, isDecL (numOf' q) = true) (hg : isDecL (numOf' p) = true) : ∀ q ∈ ps.take (k + 1), isDecL (numOf' q) = true := by
  intro q hq
  rw [List.take_add_one, hp] at hq
  rcases List.mem_append.1 hq with g | g
  · exact h q g
  · have : q = p := by simpa using g
    rw [this]; exact hg

theorem formBad_no {ps : List (List UInt8)} (h : ∀ q ∈ ps, isDecL (numOf' q) = true) : formBad ps = false := by
  unfold formBad
  rw [List.any_eq_false]
  intro p hp
  rw [h p hp]; decide
theorem overBad_no {ps : List (List UInt8)} (h : ∀ q ∈ ps, valL (numOf' q) ≤ 9223372036854775807) : overBad ps = false := by
  unfold overBad
  rw [List.any_eq_false]
  intro p hp
  have := h p hp
  simp; omega
theorem parsed_full {s : List UInt8} {ps : List (List UInt8)} (hps : partsOf s = ps) (h : ∀ q ∈ ps, isDecL (numOf' q) = true) (h' : ∀ q ∈ ps, valL (numOf' q) ≤ 9223372036854775807) :
    parsedV s = if checkV (ps.map amtOf) ≠ 0 then (checkV (ps.map amtOf), []) else (0, ps.map amtOf) := by
  unfold parsedV
  rw [hps, formBad_no h, overBad_no h', if_neg (by decide), if_neg (by decide)]
  by_cases h9 : (ps.map amtOf).length ≤ 9
  · rw [List.take_of_length_le h9]
  · have e1 : checkV ((ps.map amtOf).take 9) = 4 := by unfold checkV; rw [if_pos (by rw [List.length_take]; omega)]
    have e2 : checkV (ps.map amtOf) = 4 := by unfold checkV; rw [if_pos (by omega)]
    rw [e1, e2, if_pos (by decide), if_pos (by decide)]

set_option maxRecDepth 100000 in
set_option maxHeartbeats 2000000 in
theorem rparse_any (s : List UInt8) (w : World) (hs : s.length ≤ 1000000) :
    Calls Tryz.prog 35 #[.string (bytes s)] w (Told (parseV s).1 (parseV s).2 w) := by
  by_cases hd : s = [45]
  · have e : ((bytes s).toList == [45]) = true := by rw [hd, Lib.toList_data]; rfl
    have HV := Lib.hid (show parseV s = (0, []) by unfold parseV; rw [if_pos hd])
    rw [HV.out]
    clear hs hd
    go_enter Tryz.func35, Tryz.ntmps35
    go_wp2
    go_ret2
    exact Told.none (Kept.refl _)
  · have e : ((bytes s).toList == [45]) = false := by rw [bytes_toList]; simpa using hd
    have HV := Lib.hid (show parseV s = parsedV s by unfold parseV; rw [if_neg hd])
    rw [HV.out]
    obtain ⟨R, hR⟩ : ∃ R, parsedV s = R := ⟨_, rfl⟩
    rw [hR]
    have HR := Lib.hid hR
    clear hR
    obtain ⟨ps, hps⟩ : ∃ ps, partsOf s = ps := ⟨_, rfl⟩
    obtain ⟨n, hn⟩ : ∃ n, ps.length = n + 1 := by
      cases ps with
      | nil => exact absurd hps (partsOf_ne s)
      | cons q t => exact ⟨t.length, rfl⟩
    have hsp : splitB 44 s = ps.map bytes := by unfold splitB; rw [partsAt_comma, hps]
    have hplen : ∀ p ∈ ps, p.length ≤ 1000000 := fun p hp => by
      have := partAt_len 44 s p (by rw [partsAt_comma, hps]; exact hp)
      omega
    have hn6 : n ≤ 1000000 := by have := splitB_len 44 s; rw [hsp, List.length_map, hn] at this; omega
    have HPS := Lib.hid hps
    have HPL := Lib.hid hplen
    have HN := Lib.hid hn
    have HSP := Lib.hid hsp
    obtain ⟨i0, hi, hz0, hz1, hz2⟩ := info_parts duoInfo
    clear hd hps hn hsp hplen
    go_enter Tryz.func35, Tryz.ntmps35
    go_wp2_with fail
    refine (splitR 44 s w hs rfl).mono ?_
    rintro e1 w1 ⟨v1, rfl, ho, k1⟩
    rw [HSP.out] at ho
    have hown : w1.ownsRow w.heap.size 9 1 v1 (n + 1) (rowCells StrLay (ps.map bytes)) := by
      have := ho.1
      rw [List.length_map, HN.out] at this
      exact this
    obtain ⟨g1, cap1, rfl⟩ := ownsRow_succ hown
    have hcell : ∀ k p, ps[k]? = some p → w1.cell? ⟨g1, k, none⟩ = some (.string (bytes p)) := fun k p hp => row_at hown (by
      have : (rowCells StrLay (ps.map bytes))[k]? = some (.string (bytes p)) := by
        have := rowCells_at StrLay (ps.map bytes) k (bytes p) 0 (.string (bytes p)) (by rw [List.getElem?_map, hp]; rfl) rfl
        rw [← this]; congr 1; exact (Nat.mul_one k).symm
      exact this)
    have HC := Lib.hid hcell
    have K1 := Lib.hid k1
    clear ho hown hcell k1 hs
    go_wp2
    go_loopw [5, 6, 7] (fun v i q wr => ∃ (k : Nat) (vs : List (Nat × Nat)), k ≤ n + 1 ∧ i = .int .i64 k ∧ vs.length = k ∧ Own DuoLay 134 wr w1.heap.size v vs ∧ Inner wr v vs ps ∧ Hid (∀ q ∈ ps.take k, isDecL (numOf' q) = true) ∧ Kept w1 wr) (fun _ i _ _ => (n + 1) - (intOf i).toNat)
    case atStart => exact ⟨0, [], Nat.zero_le _, rfl, rfl, Own.nil _ _ _, Inner.nil _ _ _, Lib.hid (fun q hq => by simp at hq), Kept.refl _⟩
    case round =>
      obtain ⟨k, vs, hk, rfl, hvl, ho, hin, HG, hB⟩ := hrel
      have HO := Lib.hid ho
      have HIN := Lib.hid hin
      have HB := Lib.hid hB
      have HVL := Lib.hid hvl
      clear ho hin hB hvl
      by_cases hlt : k < n + 1
      · obtain ⟨p, hp⟩ : ∃ p, ps[k]? = some p := ⟨_, List.getElem?_eq_getElem (by rw [HN.out]; exact hlt)⟩
        have HP := Lib.hid hp
        have c1 := cell_later HB.out (HC.out k p hp)
        have hpl := HPL.out p (List.mem_of_getElem? hp)
        clear hp
        go_wp2_with fail
        refine (splitR 61 p _ hpl rfl).mono ?_
        rintro e2 w2 ⟨v2, rfl, ho2, k2⟩
        have K2 := Lib.hid k2
        have HOW := Lib.hid (show w2.ownsRow w1.heap.size 134 1 u5 k (rowCells DuoLay vs) by
          have := (HO.out.kept k2).1
          rw [HVL.out] at this
          exact this)
        have hns : (bytes (numOf' p)).size ≤ maxLen := by
          have := num_le p
          rw [bytes_size]; unfold maxLen; omega
        have HNS := Lib.hid hns
        have hdl : isDec (bytes (numOf' p)) = isDecL (numOf' p) := by unfold isDec; simp [bytes]
        by_cases hgd : isDecL (numOf' p) = true
        · have hsp2 : splitB 61 p = [bytes (nameOf p), bytes (numOf' p)] := by unfold splitB; rw [form_good hgd]; rfl
          rw [hsp2] at ho2
          obtain ⟨b, c, rfl, hb0, hb1, d0, d1⟩ := duo_of ho2
          have HD := Lib.hid (show isDec (bytes (numOf' p)) = true by rw [hdl, hgd])
          have HNX := Lib.hid (good_snoc HP.out HG hgd)
          have HB0 := Lib.hid hb0
          have HB1 := Lib.hid hb1
          have hb2 : w1.heap.size ≤ w2.heap.size := Nat.le_trans HB.out.size K2.out.size
          clear ho2 k2 hns hdl hgd hsp2 hb0 hb1 c1
          go_wp2_with fail
          refine (rdec_any _ _ HNS.out).mono ?_
          rw [HD.out]
          rintro e3 w3 ⟨rfl, rfl⟩
          have HOWN := Lib.hid (HOW.out.alloc (.cells #[.slice (some ⟨b, 0, none⟩) 2 c] 134))
          go_wp2_with (at_builtin; refine wpList_append_lies _ rfl (.tmp 38) (.tmp 40) _ rfl w1.heap.size 134 i0 _ 1 24 Tryz.underlying142 hi hz0 hz1 hz2 rfl (by decide) u5 k (rowCells DuoLay vs) rfl HOWN.out ⟨w2.heap.size, 0, none⟩ 1 1 [.slice (some ⟨b, 0, none⟩) 2 c] rfl rfl (World.news_of_block (cs := #[.slice (some ⟨b, 0, none⟩) 2 c]) (t := 134) (fr := (0, 0)) (w2.alloc_heap_new _)) (duo_one b c) (by decide) (by unfold maxLen; omega) (by omega) (by rw [World.size_alloc]; omega) (w2.heap.size + 1) (World.size_alloc _ _) ?_; intro g cap4 w4 hown1 hgrow hg hlt4; have HOWN1 := Lib.hid hown1; have HGR := Lib.hid hgrow; have HGO := Lib.hid hg; clear hown1 hgrow hg hlt4)
          go_roundw
          case rel =>
            refine ⟨k + 1, vs ++ [(b, c)], by omega, by go_num, by rw [List.length_append, HVL.out]; rfl, ?_, ?_, HNX, ?_⟩
            · exact Own.snoc (L := DuoLay) (x := (b, c)) HOWN1.out (by rw [HVL.out]) HO.out.2 trivial
            · have hs4 : (w2.alloc (.cells #[.slice (some ⟨b, 0, none⟩) 2 c] 134)).heap.size = w2.heap.size + 1 := World.size_alloc _ _
              exact Inner.snoc (HIN.out.kept (K2.out.trans (kept_alloc _ _))) HGR.out (by rw [hs4]; exact HGO.out) (by rw [HVL.out]; exact HP.out) (by rw [hs4]; have := HB1.out; omega)
                (fun e => by have h1 := (HO.out.1.lt b e).2; have h2 := HB0.out; omega) (cell_later (kept_alloc _ _) d0) (cell_later (kept_alloc _ _) d1)
            · exact (HB.out.trans (K2.out.trans (kept_alloc _ _))).grown HGR.out (by rw [World.size_alloc]; omega) (fun j hj => (HOWN.out.lt j hj).1)
          case measure => simp [intOf]; omega
        · have HD := Lib.hid (show isDec (bytes (numOf' p)) = false by rw [hdl]; simpa using hgd)
          have HV2 := Lib.hid (show R = (2, []) by
            rw [← HR.out]
            unfold parsedV
            rw [HPS.out, if_pos]
            unfold formBad
            rw [List.any_eq_true]
            exact ⟨p, List.mem_of_getElem? HP.out, by simpa using hgd⟩)
          have KW := Lib.hid (K1.out.trans (HB.out.trans K2.out))
          rcases form_bad (p := p) (by simpa using hgd) with hne | ⟨x, y, hxy, hby⟩
          · obtain ⟨m, hm⟩ : ∃ m, (splitB 61 p).length = m + 1 := by
              unfold splitB
              rw [List.length_map]
              exact ⟨(partsAt 61 p).length - 1, by have := List.length_pos_iff.2 (partsAt_ne 61 p); omega⟩
            have hown2 := ho2.1
            rw [hm] at hown2
            obtain ⟨g2, cap2, rfl⟩ := ownsRow_succ hown2
            have hm2 : m + 1 ≠ 2 := by
              unfold splitB at hm
              rw [List.length_map] at hm
              omega
            have e2 : ((m : Int) + 1 == 2) = false := by
              have : (m : Int) + 1 ≠ 2 := by omega
              simpa using this
            have e3 : ¬ (m : Int) + 1 = 2 := by omega
            clear ho2 hown2 hm k2 hns hdl hgd hne c1
            go_wp2
            go_ret2
            rw [HV2.out]
            exact Told.none KW.out
          · have hsp2 : splitB 61 p = [bytes x, bytes y] := by unfold splitB; rw [hxy]; rfl
            rw [hsp2] at ho2
            obtain ⟨b, c, rfl, hb0, hb1, d0, d1⟩ := duo_of ho2
            have hys : (bytes y).size ≤ maxLen := by
              have := partAt_len 61 p y (by rw [hxy]; simp)
              rw [bytes_size]; unfold maxLen; omega
            have HYS := Lib.hid hys
            have HDY := Lib.hid (show isDec (bytes y) = false by
              have : isDec (bytes y) = isDecL y := by unfold isDec; simp [bytes]
              rw [this]; exact hby)
            clear ho2 k2 hns hdl hgd hsp2 hb0 hb1 c1 hys hxy hby
            go_wp2_with fail
            refine (rdec_any _ _ HYS.out).mono ?_
            rw [HDY.out]
            rintro e3 w3 ⟨rfl, rfl⟩
            go_wp2
            go_ret2
            rw [HV2.out]
            exact Told.none KW.out
      · have hk2 : k = n + 1 := by omega
        subst hk2
        have HALL := Lib.hid (show ∀ q ∈ ps, isDecL (numOf' q) = true by
          have := HG
          rw [List.take_of_length_le (by rw [HN.out]; exact Nat.le_refl _)] at this
          exact this)
        have hown5 := HO.out.1
        rw [HVL.out] at hown5
        obtain ⟨g5, cap5, rfl⟩ := ownsRow_succ hown5
        have HDUO := Lib.hid (show ∀ k p, ps[k]? = some p → ∃ b c, wr.cell? ⟨g5, k, none⟩ = some (.slice (some ⟨b, 0, none⟩) 2 c) ∧ wr.cell? ⟨b, 0, none⟩ = some (.string (bytes (nameOf p))) ∧ wr.cell? ⟨b, 1, none⟩ = some (.string (bytes (numOf' p))) from fun k p hp => by
          have hkn : k < vs.length := by have := (List.getElem?_eq_some_iff.1 hp).1; rw [HVL.out, ← HN.out]; exact this
          have hx : vs[k]? = some vs[k] := List.getElem?_eq_getElem hkn
          obtain ⟨h1, h2, h3, h4⟩ := HIN.out k _ p hx hp
          refine ⟨vs[k].1, vs[k].2, row_at hown5 (by
            have := rowCells_at DuoLay vs k vs[k] 0 (.slice (some ⟨vs[k].1, 0, none⟩) 2 vs[k].2) hx rfl
            rw [← this]; congr 1; exact (Nat.mul_one k).symm), h3, h4⟩)
        rename World => w9
        obtain ⟨i1, hj, hy0, hy1, hy2⟩ := info_parts refInfo
        have KR := Lib.hid (K1.out.trans HB.out)
        clear hown5 hi hz0 hz1 hz2 hk hlt
        go_wp2
        push_cast
        go_loopw [8, 9, 10, 11] (fun v i n2 o2 wr => ∃ k : Nat, k ≤ n + 1 ∧ i = .int .i64 k ∧ OwnV 117 wr w9.heap.size v ((ps.take k).map amtOf) ∧ Hid (∀ q ∈ ps.take k, valL (numOf' q) ≤ 9223372036854775807) ∧ Kept w9 wr) (fun _ i _ _ _ => (n + 1) - (intOf i).toNat)
        case atStart => exact ⟨0, Nat.zero_le _, rfl, OwnV.nil _ _ _, Lib.hid (fun q hq => by simp at hq), Kept.refl _⟩
        case round =>
          obtain ⟨k, hk, rfl, ho, HV3, hB3⟩ := hrel
          have HO3 := Lib.hid ho
          have HB3 := Lib.hid hB3
          clear ho hB3
          by_cases hlt : k < n + 1
          · obtain ⟨p, hp⟩ : ∃ p, ps[k]? = some p := ⟨_, List.getElem?_eq_getElem (by rw [HN.out]; exact hlt)⟩
            have HP := Lib.hid hp
            obtain ⟨b, c, c0, c1, c2⟩ := HDUO.out k p hp
            have f0 := cell_later HB3.out c0
            have f1 := cell_later HB3.out c1
            have f2 := cell_later HB3.out c2
            have hpm := List.mem_of_getElem? hp
            have HPM := Lib.hid hpm
            have HNS := Lib.hid (show (bytes (numOf' p)).size ≤ maxLen by
              have := num_le p
              have := HPL.out p hpm
              rw [bytes_size]; unfold maxLen; omega)
            have hbd : (bytes (numOf' p)).data.toList = numOf' p := by simp [bytes]
            have HBD := Lib.hid hbd
            have HDA := Lib.hid (show (bytes (numOf' p)).data.toList.all okDigit = true by rw [hbd]; exact dec_all (HALL.out p hpm))
            clear hp c0 c1 c2 hpm hbd
            by_cases hv : valL (numOf' p) ≤ 9223372036854775807
            · have HNR := Lib.hid (show numR (bytes (numOf' p)).data.toList = ((valL (numOf' p) : Int), true) by rw [HBD.out]; unfold numR; rw [if_pos hv])
              have HLN := Lib.hid (show ((ps.take k).map amtOf).length = k by rw [List.length_map, List.length_take, HN.out]; omega)
              have HVN := Lib.hid (nextVal HV3 HP.out hv)
              have HOL := Lib.hid (show (wr.alloc (.cells #[.string (bytes (nameOf p)), .int .i64 (valL (numOf' p) : Int)] 117)).ownsRow w9.heap.size 117 2 u8 k (cellsOf ((ps.take k).map amtOf)) by
                have := HO3.out.1
                rw [HLN.out] at this
                exact this.alloc _)
              have hwq : w9.heap.size ≤ wr.heap.size := HB3.out.size
              have HNX := Lib.hid (show (ps.take (k + 1)).map amtOf = (ps.take k).map amtOf ++ [amtOf p] by rw [List.take_add_one, HP.out, List.map_append]; rfl)
              have HV := Lib.hid hv
              clear hv
              go_wp2_with fail
              refine (rnum_any _ _ HNS.out HDA.out).mono ?_
              rw [HNR.out]
              rintro e3 w3 ⟨rfl, rfl⟩
              go_wp2_with (at_builtin; refine wpList_append_lies _ rfl (.tmp 60) (.tmp 69) _ rfl w9.heap.size 117 i1 _ 2 24 Tryz.underlying26 hj hy0 hy1 hy2 rfl (by decide) u8 k (cellsOf ((ps.take k).map amtOf)) rfl HOL.out ⟨wr.heap.size, 0, none⟩ 1 1 [.string (bytes (nameOf p)), .int .i64 (valL (numOf' p) : Int)] rfl rfl (news_two _ _ _ _) (cellsOf_one [(bytes (nameOf p), (valL (numOf' p) : Int))]) (by decide) (by unfold maxLen; omega) (by omega) (by rw [World.size_alloc]; omega) (wr.heap.size + 1) (World.size_alloc _ _) ?_; intro g cap4 w4 hown1 hgrow hg hlt4; have HOWN1 := Lib.hid hown1; have HGR := Lib.hid hgrow; clear hown1 hgrow hg hlt4)
              go_roundw
              case rel =>
                refine ⟨k + 1, by omega, by go_num, ⟨?_, ?_⟩, HVN, ?_⟩
                · rw [HNX.out, cellsOf_append, List.length_append, HLN.out]; exact HOWN1.out
                · rw [HNX.out]
                  exact HO3.out.2.snoc (amt_size (HPL.out p HPM.out)) (by show (-9223372036854775808 : Int) ≤ (valL (numOf' p) : Int); omega) (by show (valL (numOf' p) : Int) ≤ 9223372036854775807; have := HV.out; omega)
                · exact (HB3.out.trans (kept_alloc _ _)).grown HGR.out (by rw [World.size_alloc]; omega) (fun j hj => (HOL.out.lt j hj).1)
              case measure => simp [intOf]; omega
            · have HNR := Lib.hid (show numR (bytes (numOf' p)).data.toList = (0, false) by rw [HBD.out]; unfold numR; rw [if_neg hv])
              have HV2 := Lib.hid (show R = (5, []) by
                rw [← HR.out]
                unfold parsedV
                rw [HPS.out, if_neg (by rw [formBad_no HALL.out]; decide), if_pos]
                unfold overBad
                rw [List.any_eq_true]
                exact ⟨p, HPM.out, by simp; omega⟩)
              have KW := Lib.hid (KR.out.trans HB3.out)
              clear hv
              go_wp2_with fail
              refine (rnum_any _ _ HNS.out HDA.out).mono ?_
              rw [HNR.out]
              rintro e3 w3 ⟨rfl, rfl⟩
              go_wp2
              go_ret2
              rw [HV2.out]
              exact Told.none KW.out
          · have hk2 : k = n + 1 := by omega
            subst hk2
            have hfull : ps.take (n + 1) = ps := List.take_of_length_le (by rw [HN.out]; exact Nat.le_refl _)
            obtain ⟨Q, hQ⟩ : ∃ Q, ps.map amtOf = Q := ⟨_, rfl⟩
            have HO4 := Lib.hid (show OwnV 117 wr w9.heap.size u8 Q by have := HO3.out; rw [hfull, hQ] at this; exact this)
            have HRR := Lib.hid (show R = if checkV Q ≠ 0 then (checkV Q, []) else (0, Q) by
              have h3 := HV3
              rw [hfull] at h3
              rw [← HR.out, ← hQ]
              exact parsed_full HPS.out HALL.out h3)
            obtain ⟨a5, cap6, he, -, -, hat⟩ := HO4.out.at_
            obtain ⟨m, hm⟩ : ∃ m, Q.length = m := ⟨_, rfl⟩
            rw [hm] at he hat
            subst he
            have HAT := Lib.hid hat
            have KW := Lib.hid (KR.out.trans HB3.out)
            have hbase : w.heap.size ≤ w9.heap.size := KR.out.size
            clear hfull hat hk hlt hQ hm
            obtain ⟨E, hE⟩ : ∃ E, checkV Q = E := ⟨_, rfl⟩
            have HCK := Lib.hid (fun W (k : Kept wr W) => refCheck_any a5 m cap6 Q W (HAT.out.kept k))
            rw [hE] at HRR HCK
            by_cases hc : E = 0
            · subst hc
              have HE := Lib.hid (show R = (0, Q) by rw [HRR.out, if_neg (by decide)])
              clear HRR hE
              go_wp2_with fail
              refine (HCK.out _ (Kept.refl _)).mono ?_
              rintro e6 w6 ⟨rfl, k6⟩
              have K6 := Lib.hid k6
              clear k6
              go_wp2
              go_ret2
              rw [HE.out]
              exact ⟨_, rfl, (HO4.out.kept K6.out).base_le hbase, KW.out.trans K6.out⟩
            · have hc1 : (E != 0) = true := by simpa using hc
              have HE := Lib.hid (show R = (E, []) by rw [HRR.out, if_pos hc])
              clear HRR hE
              go_wp2_with fail
              refine (HCK.out _ (Kept.refl _)).mono ?_
              rintro e6 w6 ⟨rfl, k6⟩
              have K6 := Lib.hid k6
              clear k6
              go_wp2
              go_ret2
              rw [HE.out]
              exact Told.none (KW.out.trans K6.out)

end Go.Proofs.YtppbbgppooblfaaGreatDoor.Vec

/- The law's own comparison; what is checked is short; the reference's calls over whatever reads so. -/
namespace Go.Proofs.YtppbbgppooblfaaGreatDoor.Vec
open Go.RowKit Go.Proofs.YtppbbgppooblfaaGreatDoor
set_option linter.unusedVariables false

theorem few_of : ∀ {l : V}, (∀ x ∈ l, x.1.size ≤ 50) → fewFrom l = true
  | [], _ => rfl
  | x :: t, h => by
    rw [fewFrom, decide_eq_true (h x (by simp)), few_of (fun y hy => h y (by simp [hy]))]; rfl
theorem name_size {s : ByteArray} (h : isName s = true) : s.size ≤ 12 := by
  unfold isName at h
  simp only [Bool.and_eq_true, decide_eq_true_eq] at h
  exact h.1.2
theorem few_check {l : V} (h : checkV l = 0) (hf : Fine l) : fewV l = true := by
  have g := check_good h hf
  have hl := check_len h
  have hn : ∀ x ∈ l, x.1.size ≤ 50 := fun x hx => by
    have := name_size (g.1 x hx).1
    omega
  unfold fewV
  rw [decide_eq_true (by omega), few_of hn]; rfl
theorem parse_check {s : List UInt8} (h : (parseV s).1 = 0) : checkV (parseV s).2 = 0 := by
  unfold parseV at h ⊢
  by_cases hd : s = [45]
  · rw [if_pos hd]; rfl
  · rw [if_neg hd] at h ⊢
    unfold parsedV at h ⊢
    by_cases h1 : formBad (partsOf s) = true
    · rw [if_pos h1] at h; cases h
    · rw [if_neg h1] at h ⊢
      by_cases h2 : overBad (partsOf s) = true
      · rw [if_pos h2] at h; cases h
      · rw [if_neg h2] at h ⊢
        by_cases h3 : checkV (((partsOf s).map amtOf).take 9) ≠ 0
        · rw [if_pos h3] at h; exact absurd h h3
        · rw [if_neg h3]
          exact Classical.byContradiction h3
theorem parse_none {s : List UInt8} (h : (parseV s).1 ≠ 0) : (parseV s).2 = [] := by
  unfold parseV at h ⊢
  by_cases hd : s = [45]
  · rw [if_pos hd]
  · rw [if_neg hd] at h ⊢
    unfold parsedV at h ⊢
    by_cases h1 : formBad (partsOf s) = true
    · rw [if_pos h1]
    · rw [if_neg h1] at h ⊢
      by_cases h2 : overBad (partsOf s) = true
      · rw [if_pos h2]
      · rw [if_neg h2] at h ⊢
        by_cases h3 : checkV (((partsOf s).map amtOf).take 9) ≠ 0
        · rw [if_pos h3]
        · rw [if_neg h3] at h; exact absurd rfl h

theorem OwnV.reads {e : TypeId} {w : World} {B : Nat} {v : Value} {l : V} (h : OwnV e w B v l) : Reads w v l := h.at_
theorem rsameR {v v' : Value} {l l' : V} {c : Bool} {w : World} (h : Reads w v l) (h' : Reads w v' l') (e : sameFrom l l' = c) :
    Calls Tryz.prog 20 #[v, v'] w fun x w' => x = .returned (.bool c) ∧ Kept w w' := by
  subst e
  obtain ⟨a, cap, rfl, h1, h2, h3⟩ := h
  obtain ⟨a', cap', rfl, h1', h2', h3'⟩ := h'
  exact rsame_any a a' _ cap _ cap' l l' w h3 h3'
theorem rgetR {v : Value} {l : V} {n : ByteArray} {c : Int} {w : World} (h : Reads w v l) (e : getV l n = c) :
    Calls Tryz.prog 39 #[v, .string n] w fun x w' => x = .returned (.int .i64 c) ∧ Kept w w' := by
  subst e
  obtain ⟨a, cap, rfl, h1, h2, h3⟩ := h
  exact rget_any a _ cap l n w h3
theorem refParseR {s : List UInt8} {m : V} {c : Int} {w : World} (hs : s.length ≤ 1000000) (e : parseV s = (c, m)) :
    Calls Tryz.prog 35 #[.string (bytes s)] w (Got c m w) := by
  refine (rparse_any s w hs).mono fun x w' h => ?_
  rw [e] at h
  obtain ⟨v, rfl, ho, k⟩ := h
  exact ⟨v, rfl, ho.at_, k⟩
theorem rnameR {n : ByteArray} {c : Bool} {w : World} (h : n.size ≤ maxLen) (e : isName n = c) :
    Calls Tryz.prog 37 #[.string n] w fun x w' => x = .returned (.bool c) ∧ w = w' := by
  subst e
  exact refName_any n w h
theorem ofL {v : Value} {l : V} {w : World} (h : Reads w v l) (hl : l.length ≤ 1000000) :
    Calls Tryz.prog 16 #[v] w fun e w' => ∃ x, e = .returned x ∧ Reads w' x l ∧ Kept w w' := by
  obtain ⟨a, cap, rfl, h1, h2, h3⟩ := h
  exact of_any a _ cap l w h3 hl

/-- The law's comparison, of what reads alike. -/
theorem sameL {v v' : Value} {m : V} {c : Int} {w : World} (h : Reads w v m) (h' : Reads w v' m) (hl : m.length ≤ 1000000) :
    Calls Tryz.prog 25 #[v, .int .i64 c, v', .int .i64 c] w fun x w' => x = .returned (.bool true) ∧ Kept w w' := by
  have hcc : ((c : Int) == c) = true := beq_self_eq_true _
  have H := Lib.hid h
  have H' := Lib.hid h'
  clear h h'
  go_enter Tryz.func25, Tryz.ntmps25
  go_wp2_with fail
  refine (ofL H.out hl).mono ?_
  rintro e w1 ⟨x, rfl, r, k⟩
  have K := Lib.hid k
  have R := Lib.hid r
  clear r k
  go_wp2_with fail
  refine (rsameR R.out (H'.out.kept K.out) (same_self m)).mono ?_
  rintro e w2 ⟨rfl, k⟩
  have K := Lib.hid (K.out.trans k)
  clear k
  go_wp2
  go_ret
  exact ⟨rfl, K.out⟩

end Go.Proofs.YtppbbgppooblfaaGreatDoor.Vec

/- What a law of vectors is told: its arguments, the library's variables. -/
namespace Go.Proofs.YtppbbgppooblfaaGreatDoor.Vec
open Go.ChangeShapes Go.WideShapes Go.ChangeAt Go.RowKit Go.Deep
set_option linter.unusedVariables false

theorem cells2 : Tryz.prog.cellsOf 82 = 2 := by kernel_rfl
theorem cellsE : Tryz.prog.cellsOf 354 = 1 := by kernel_rfl
theorem cellsS : Tryz.prog.cellsOf 9 = 1 := by kernel_rfl
theorem cellsI : Tryz.prog.cellsOf 2 = 1 := by kernel_rfl

set_option maxRecDepth 100000 in
/-- One amount, read: a name and a number. -/
theorem amount_of_trod {H : Type} {enc : TypeId × Value → H} {w : World} {base fuel : Nat} {sp : Nat → Bool} {held : Bool} {cs : List Value} {x : DataW H × List MemPlace} (h : DataW.trod enc Tryz.prog w base sp held fuel 82 cs = some x) :
    ∃ (s : ByteArray) (n : Int), cs = [.string s, .int .i64 n] ∧ s.size ≤ maxLen ∧ -9223372036854775808 ≤ n ∧ n ≤ 9223372036854775807 := by
  obtain ⟨ys, m, -, -, hlen, hyl, hf⟩ := DataW.trod_struct Tryz.underlying82 h
  rw [cells2] at hlen
  match cs, hlen with
  | [c0, c1], _ =>
    have h0 : DataW.trod enc Tryz.prog w base sp held m 9 (([c0, c1].drop 0).take (Tryz.prog.cellsOf 9)) = ys[0]? := hf 0 _ rfl
    have h1 : DataW.trod enc Tryz.prog w base sp held m 2 (([c0, c1].drop 1).take (Tryz.prog.cellsOf 2)) = ys[1]? := hf 1 _ rfl
    rw [cellsS] at h0
    rw [cellsI] at h1
    obtain ⟨y0, e0⟩ : ∃ y, ys[0]? = some y := ⟨_, List.getElem?_eq_getElem (by rw [hyl]; decide)⟩
    obtain ⟨y1, e1⟩ : ∃ y, ys[1]? = some y := ⟨_, List.getElem?_eq_getElem (by rw [hyl]; decide)⟩
    rw [e0] at h0
    rw [e1] at h1
    obtain ⟨s, q0, -, hs⟩ := DataW.trod_string Tryz.underlying9 h0
    obtain ⟨n, q1, -, hn⟩ := DataW.trod_int Tryz.underlying2 h1
    simp only [List.drop_zero, List.take_succ_cons, List.take_zero, List.cons.injEq, and_true, List.drop_succ_cons] at q0 q1
    subst q0; subst q1
    have := bounds_i64 hn
    exact ⟨s, n, rfl, hs, this.1, this.2⟩

theorem nm_left {l m : V} {i : Nat} (h : i < l.length) : nm (l ++ m) i = nm l i ∧ qn (l ++ m) i = qn l i := by
  unfold nm qn
  simp [List.getD, List.getElem?_append_left h]
theorem nm_last (l : V) (s : ByteArray) (n : Int) : nm (l ++ [(s, n)]) l.length = s ∧ qn (l ++ [(s, n)]) l.length = n := by
  unfold nm qn
  simp [List.getD]

/-- A vector that came in. -/
theorem reads_of_trod {H : Type} {enc : TypeId × Value → H} {w : World} {base fuel : Nat} {sp : Nat → Bool} {held : Bool} {v : Value} {x : DataW H × List MemPlace} (h : DataW.trod enc Tryz.prog w base sp held fuel 23 [v] = some x) :
    ∃ l, Reads w v l := by
  rcases open_slice Tryz.underlying23 h with ⟨hcs, -⟩ | ⟨a, len, cap, m, n, D, Pl, hcs, hb, hl, hm, hmm, hx, hi⟩
  · cases hcs; exact ⟨[], Reads.nil w⟩
  · cases hcs
    have hlm : len ≤ m := by rw [hmm]; split <;> omega
    have key : ∀ k, k ≤ len → ∃ l : V, l.length = k ∧ ∀ i, i < k → ((nm l i).size ≤ maxLen ∧ -9223372036854775808 ≤ qn l i ∧ qn l i ≤ 9223372036854775807) ∧
        w.cell? ((a.add (i * 2)).add 0) = some (.string (nm l i)) ∧ w.cell? ((a.add (i * 2)).add 1) = some (.int .i64 (qn l i)) := by
      intro k
      induction k with
      | zero => exact fun _ => ⟨[], rfl, fun i hi => absurd hi (by omega)⟩
      | succ k ih =>
        intro hk
        obtain ⟨l, e, hall⟩ := ih (by omega)
        obtain ⟨cs', hc, ht'⟩ := hi k (by omega)
        obtain ⟨s, q, rfl, b1, b2, b3⟩ := amount_of_trod ht'
        rw [cells2] at hc
        obtain ⟨-, -, hat⟩ := World.cells?_some hc
        refine ⟨l ++ [(s, q)], by simp [e], fun i hi => ?_⟩
        by_cases e2 : i = k
        · subst e2
          subst e
          rw [(nm_last l s q).1, (nm_last l s q).2]
          exact ⟨⟨b1, b2, b3⟩, hat 0 (by decide), hat 1 (by decide)⟩
        · rw [(nm_left (by omega)).1, (nm_left (by omega)).2]
          exact hall i (by omega)
    obtain ⟨l, e, hall⟩ := key len (Nat.le_refl _)
    subst e
    refine ⟨l, _, cap, rfl, hl, hm, rfl, Nat.le_trans hl hm, fun i hi => (hall i hi).1, ?_⟩
    by_cases h0 : l.length = 0
    · exact .inl h0
    · obtain ⟨b, off, spot⟩ := a
      have hc := (hall 0 (by omega)).2.1
      have hspot : spot = none := by simpa [Addr.add] using World.cell?_spot hc
      subst hspot
      have hcell : ∀ i, i < l.length → w.cell? ⟨b, off + i * 2, none⟩ = some (.string (nm l i)) ∧ w.cell? ⟨b, off + i * 2 + 1, none⟩ = some (.int .i64 (qn l i)) := fun i hi => by
        have c := (hall i hi).2
        by_cases hi0 : i = 0
        · subst hi0; simpa [Addr.add] using c
        · have h2 : ¬ i * 2 = 0 := by omega
          simpa [Addr.add, h2] using c
      exact .inr ⟨b, off, rfl, World.block_lt_of_cell? _ _ (hcell 0 (by omega)).1, hcell⟩

theorem star : "*" ++ "errors.errorString" = "*errors.errorString" := by decide
theorem rowError (u : TypeId) (h : Tryz.prog.typeName? 3 u = some "*errors.errorString") : u = 352 :=
  typeName_ptr_named (nm := "errors.errorString") (by rw [star]; kernel_rfl) (by kernel_rfl) (by decide) u (by rw [star]; exact h)
theorem pow_data : (Rows.laid_internal_strconv_uint64pow10 : DataW Unit) = Lib.tabData .u64 Lib.pow10Tab := by kernel_rfl
theorem rangeName : Tryz.prog.globalNamed "strconv.ErrRange" = some 9 := by kernel_rfl
/-- What the row's list and the world's shape give a walk. -/
theorem env_of {W : World} (hL : laidMetH Tryz.prog Rows.resWordsRow.laid W) (hS : W.ShapedOpen Tryz.prog) : EnvT W := by
  rw [MakeChecks.laidMetH_plain _ _ _ (by kernel_rfl)] at hL
  have h3 : laidMet Tryz.prog (("internal/strconv.uint64pow10", Rows.laid_internal_strconv_uint64pow10) :: _) W := hL.tail.tail
  rw [pow_data] at h3
  refine ⟨⟨?_, ?_⟩, ?_⟩
  · exact cell_of_shapedOpen_int (zero := #[.int .i64 0]) (t := 3) hS (of_decide_eq_true (by kernel_rfl)) (by kernel_rfl) rfl (by kernel_rfl) (by kernel_rfl) Tryz.underlying3
  · have h5 : laidMet Tryz.prog (("strconv.ErrRange", Rows.laid_strconv_ErrRange) :: _) W := hL.tail.tail.tail.tail
    unfold Rows.laid_strconv_ErrRange at h5
    obtain ⟨a, s, hv, -⟩ := laid_sentinel h5 rangeName (by kernel_rfl) Tryz.underlying125 rowError Tryz.underlying352 Tryz.underlying354 rfl rfl Tryz.underlying9 cellsE cellsS
    exact ⟨_, by simpa using World.var?_cell rangeName hv 0, .inr ⟨_, _, rfl⟩⟩
  · exact Lib.tabIs_of_head tabName (by kernel_rfl) Tryz.underlying319 Tryz.underlying224 (by kernel_rfl) (by kernel_rfl) h3

end Go.Proofs.YtppbbgppooblfaaGreatDoor.Vec
