/- Package by package: contracts of the functions that the laws call. -/
import Derived.Test.YtppbbgppooblfaaDoorResB
import Derived.StillTailTactics
import Derived.Test.YtppbbgppooblfaaDoorResA
import Derived.WideShapes
import Derived.Test.YtppbbgppooblfaaDoorRows
import Derived.WalkKit
import Derived.ProofKit
import Derived.OpenShut
import Derived.ChangeOld
import Derived.Below
import Derived.Deep.Slices
import Derived.Deep.Fields
import Derived.ChangeSame
import Derived.Lib.LaidTab
import Derived.Stop.LaidErr
import Derived.Stop.Joined
import Derived.Shelf.Vars
import Derived.MakeChecks
import Derived.LaidLaws
import Derived.RowKitTokens

/- Two vectors, reckoned. -/
namespace Go.Proofs.YtppbbgppooblfaaDoor.Vec
open Go.RowKit
set_option linter.unusedVariables false

def cpu : ByteArray := ⟨#[99, 112, 117]⟩
def gpu : ByteArray := ⟨#[103, 112, 117]⟩
def mem : ByteArray := ⟨#[109, 101, 109]⟩
def kA : V := [(cpu, 100), (mem, 5)]
def kB : V := [(cpu, 40), (gpu, 1)]
def kS : V := [(cpu, 140), (gpu, 1), (mem, 5)]
def kT : V := [(cpu, 120), (gpu, 3)]
def kP : V := [(cpu, 10)]

theorem lt_list (s t : ByteArray) : ltS s t = Op.bytesLess s.data.toList t.data.toList := by unfold ltS; rw [Lib.toList_data, Lib.toList_data]
theorem eq_list (s t : ByteArray) : eqS s t = (s.data.toList == t.data.toList) := by unfold eqS; rw [Lib.toList_data, Lib.toList_data]
theorem e_cc : eqS cpu cpu = true := by rw [eq_list]; rfl
theorem e_cm : eqS cpu mem = false := by rw [eq_list]; rfl
theorem e_mc : eqS mem cpu = false := by rw [eq_list]; rfl
theorem e_gc : eqS gpu cpu = false := by rw [eq_list]; rfl
theorem e_cg : eqS cpu gpu = false := by rw [eq_list]; rfl
theorem e_gg : eqS gpu gpu = true := by rw [eq_list]; rfl
theorem e_mm : eqS mem mem = true := by rw [eq_list]; rfl
theorem e_mg : eqS mem gpu = false := by rw [eq_list]; rfl
theorem e_gm : eqS gpu mem = false := by rw [eq_list]; rfl
theorem l_cc : ltS cpu cpu = false := by rw [lt_list]; rfl
theorem l_mc : ltS mem cpu = false := by rw [lt_list]; rfl
theorem l_cm : ltS cpu mem = true := by rw [lt_list]; rfl
theorem l_gc : ltS gpu cpu = false := by rw [lt_list]; rfl
theorem l_gm : ltS gpu mem = true := by rw [lt_list]; rfl
theorem l_mg : ltS mem gpu = false := by rw [lt_list]; rfl
theorem n_c : isName cpu = true := by decide
theorem n_g : isName gpu = true := by decide
theorem n_m : isName mem = true := by decide
theorem k_check : checkV kA = 0 ∧ checkV kB = 0 ∧ checkV kS = 0 ∧ checkV [(mem, 1), (cpu, 1)] = 13 := by
  refine ⟨?_, ?_, ?_, ?_⟩ <;> simp [checkV, checkFrom, kA, kB, kS, n_c, n_g, n_m, behindB, leS, l_mc, l_gc, l_mg, e_mc, e_gc, e_mg, l_cm]
theorem kc1 : checkV [(cpu, 100), (mem, 5)] = 0 := k_check.1
theorem kc2 : checkV [(cpu, 40), (gpu, 1)] = 0 := k_check.2.1
theorem kc3 : checkV [(cpu, 140), (gpu, 1), (mem, 5)] = 0 := k_check.2.2.1
theorem k_add : mergedV addF kA kB = (0, kS) := by
  simp [mergedV, kc1, kc2, kA, kB, kS, mergeAcc, foremostV, takenV, plusV, addF, l_cc, l_gm, e_cc, e_gg, e_mm, e_mg]
theorem k_sub : mergedV subF kS kA = (0, kB) := by
  simp [mergedV, kc1, kc3, kA, kB, kS, mergeAcc, foremostV, takenV, plusV, subF, l_cc, l_mg, e_cc, e_gg, e_mm, e_mg]
theorem k_sub2 : mergedV subF kA kB = (5, []) := by
  simp [mergedV, kc1, kc2, kA, kB, mergeAcc, foremostV, takenV, plusV, subF, l_cc, l_gm, e_cc, e_gg, e_mm, e_mg]
theorem k_mul : eachV mulF 3 kB = (0, kT) := by
  simp [eachV, kc2, kB, kT, eachAcc, plusV, mulF]
theorem k_part : eachV partF 100 kA = (0, kP) := by
  simp [eachV, kc1, kA, kP, eachAcc, plusV, partF, parQ]
theorem k_fits : fitsFrom kS kB = true ∧ fitsFrom kB kS = false := by
  constructor <;> simp [fitsFrom, kS, kB, getV, e_cc, e_cg, e_gg, e_cm, e_gm, e_gc]
theorem k_same : sameFrom kB kB = true ∧ sameFrom kA kA = true := by
  constructor <;> simp [sameFrom, kB, kA, e_cc, e_gg, e_mm]
theorem k_get : getV kT cpu = 120 := by simp [getV, kT, e_cc]
theorem i_140 : Lib.itoa 140 = [49, 52, 48] := by simp [Lib.itoa, Lib.decDigits]
theorem i_10 : Lib.itoa 10 = [49, 48] := by simp [Lib.itoa, Lib.decDigits]
theorem i_1 : Lib.itoa 1 = [49] := by simp [Lib.itoa, Lib.decDigits]
theorem i_5 : Lib.itoa 5 = [53] := by simp [Lib.itoa, Lib.decDigits]
theorem k_text : textV kS = [99, 112, 117, 61, 49, 52, 48, 44, 103, 112, 117, 61, 49, 44, 109, 101, 109, 61, 53] ∧ textV kP = [99, 112, 117, 61, 49, 48] := by
  constructor <;> simp [textV, joinFrom, kS, kP, i_140, i_10, i_1, i_5, cpu, gpu, mem]
theorem k_few : fewV kS = true ∧ fewV kP = true := by decide
theorem k_parse : parseV [99, 112, 117, 61, 49, 48, 48, 44, 109, 101, 109, 61, 53] = (0, kA) := by
  have e : ((partsOf [99, 112, 117, 61, 49, 48, 48, 44, 109, 101, 109, 61, 53]).map amtOf).take 9 = kA := by rfl
  unfold parseV parsedV
  rw [if_neg (by decide), if_neg (by decide), if_neg (by decide), e, if_neg (by rw [k_check.1]; decide)]
theorem k_parse1 : parseV [99, 112, 117, 61, 48, 49] = (2, []) := by
  unfold parseV parsedV
  rw [if_neg (by decide), if_pos (by decide)]
theorem k_parse2 : parseV [109, 101, 109, 61, 49, 44, 99, 112, 117, 61, 49] = (13, []) := by
  have e : ((partsOf [109, 101, 109, 61, 49, 44, 99, 112, 117, 61, 49]).map amtOf).take 9 = [(mem, 1), (cpu, 1)] := by rfl
  unfold parseV parsedV
  rw [if_neg (by decide), if_neg (by decide), if_neg (by decide), e, if_pos (by rw [k_check.2.2.2]; decide), k_check.2.2.2]

end Go.Proofs.YtppbbgppooblfaaDoor.Vec

/- What the laws know: two vectors. -/
namespace Go.Proofs.YtppbbgppooblfaaDoor.Vec
open Go.RowKit
set_option linter.unusedVariables false

theorem lit2 (w : World) (s t : ByteArray) (m n : Int) (T : TypeId) (hs : s.size ≤ maxLen) (ht : t.size ≤ maxLen) (hm : -9223372036854775808 ≤ m ∧ m ≤ 9223372036854775807) (hn : -9223372036854775808 ≤ n ∧ n ≤ 9223372036854775807) :
    Reads (w.alloc (.cells #[.string s, .int .i64 m, .string t, .int .i64 n] T)) (.slice (some ⟨w.heap.size, 0, none⟩) 2 2) [(s, m), (t, n)] := by
  refine ⟨_, 2, rfl, Nat.le_refl _, by decide, rfl, (by decide : 2 ≤ maxLen), Fine.cons.2 ⟨⟨hs, hm⟩, Fine.cons.2 ⟨⟨ht, hn⟩, Fine.nil⟩⟩, .inr ⟨w.heap.size, 0, rfl, by simp, fun i hi => ?_⟩⟩
  have hh := w.alloc_heap_new (.cells #[.string s, .int .i64 m, .string t, .int .i64 n] T)
  match i, hi with
  | 0, _ => exact ⟨by rw [Lib.cell_of_heap hh]; rfl, by rw [Lib.cell_of_heap hh]; rfl⟩
  | 1, _ => exact ⟨by rw [Lib.cell_of_heap hh]; rfl, by rw [Lib.cell_of_heap hh]; rfl⟩

set_option maxRecDepth 100000 in
set_option maxHeartbeats 4000000 in
theorem known_any (w : World) (hE : EnvT w) :
    Calls Tryd.prog 4 #[] w fun e w' => e = .returned (.bool true) ∧ Kept w w' := by
  have HE := Lib.hid hE
  have t0 : ((bytes [99, 112, 117, 61, 49, 52, 48, 44, 103, 112, 117, 61, 49, 44, 109, 101, 109, 61, 53]).toList == [99, 112, 117, 61, 49, 52, 48, 44, 103, 112, 117, 61, 49, 44, 109, 101, 109, 61, 53]) = true := by rw [Lib.toList_data]; rfl
  have t1 : ((bytes [99, 112, 117, 61, 49, 48]).toList == [99, 112, 117, 61, 49, 48]) = true := by rw [Lib.toList_data]; rfl
  have t2 : ((bytes [45]).toList == [45]) = true := by rw [Lib.toList_data]; rfl
  clear hE
  go_enter Tryd.func4, Tryd.ntmps4
  go_wp2_with fail
  obtain ⟨W1, hW1⟩ : ∃ W1, w.alloc (.cells #[.string cpu, .int .i64 100, .string mem, .int .i64 5] 36) = W1 := ⟨_, rfl⟩
  obtain ⟨W2, hW2⟩ : ∃ W2, W1.alloc (.cells #[.string cpu, .int .i64 40, .string gpu, .int .i64 1] 36) = W2 := ⟨_, rfl⟩
  have RA1 : Reads W1 (.slice (some ⟨w.heap.size, 0, none⟩) 2 2) kA := by rw [← hW1]; exact lit2 w _ _ _ _ _ (by decide) (by decide) (by decide) (by decide)
  have RB2 : Reads W2 (.slice (some ⟨W1.heap.size, 0, none⟩) 2 2) kB := by rw [← hW2]; exact lit2 W1 _ _ _ _ _ (by decide) (by decide) (by decide) (by decide)
  have K1 : Kept w W1 := by rw [← hW1]; exact kept_alloc _ _
  have K12 : Kept W1 W2 := by rw [← hW2]; exact kept_alloc _ _
  have RA := Lib.hid (RA1.kept K12)
  have RB := Lib.hid RB2
  have K := Lib.hid (K1.trans K12)
  have hsz : W1.heap.size = w.heap.size + 1 := by rw [← hW1]; simp
  rw [hsz] at RB
  clear RA1 RB2 K1 K12 hsz
  show Calls _ _ _ ((w.alloc (.cells #[.string cpu, .int .i64 100, .string mem, .int .i64 5] 36)).alloc (.cells #[.string cpu, .int .i64 40, .string gpu, .int .i64 1] 36)) _
  rw [hW1, hW2]
  clear hW1 hW2
  refine (addR RA.out RB.out k_add).mono ?_
  rintro e v0 ⟨x0, rfl, hr, hk⟩
  have K := Lib.hid (K.out.trans hk)
  have RA := Lib.hid (RA.out.kept hk)
  have RB := Lib.hid (RB.out.kept hk)
  have S := Lib.hid hr
  clear hr hk
  go_wp2_with fail
  refine (subR S.out RA.out k_sub).mono ?_
  rintro e v1 ⟨x1, rfl, hr, hk⟩
  have K := Lib.hid (K.out.trans hk)
  have RA := Lib.hid (RA.out.kept hk)
  have RB := Lib.hid (RB.out.kept hk)
  have S := Lib.hid (S.out.kept hk)
  have D := Lib.hid hr
  clear hr hk
  go_wp2_with fail
  refine (subR RA.out RB.out k_sub2).mono ?_
  rintro e v2 ⟨x2, rfl, hr, hk⟩
  have K := Lib.hid (K.out.trans hk)
  have RA := Lib.hid (RA.out.kept hk)
  have RB := Lib.hid (RB.out.kept hk)
  have S := Lib.hid (S.out.kept hk)
  have D := Lib.hid (D.out.kept hk)
  clear hr hk
  go_wp2_with fail
  refine (mulR RB.out (by decide) (by decide) k_mul).mono ?_
  rintro e v3 ⟨x3, rfl, hr, hk⟩
  have K := Lib.hid (K.out.trans hk)
  have RA := Lib.hid (RA.out.kept hk)
  have RB := Lib.hid (RB.out.kept hk)
  have S := Lib.hid (S.out.kept hk)
  have D := Lib.hid (D.out.kept hk)
  have T := Lib.hid hr
  clear hr hk
  go_wp2_with fail
  refine (partR RA.out (by decide) (by decide) k_part).mono ?_
  rintro e v4 ⟨x4, rfl, hr, hk⟩
  have K := Lib.hid (K.out.trans hk)
  have RA := Lib.hid (RA.out.kept hk)
  have RB := Lib.hid (RB.out.kept hk)
  have S := Lib.hid (S.out.kept hk)
  have D := Lib.hid (D.out.kept hk)
  have T := Lib.hid (T.out.kept hk)
  have P := Lib.hid hr
  clear hr hk
  go_wp2_with fail
  refine (parseR (s := [99, 112, 117, 61, 49, 48, 48, 44, 109, 101, 109, 61, 53]) (HE.out.kept K.out).toEnv (by decide) k_parse).mono ?_
  rintro e v5 ⟨x5, rfl, hr, hk⟩
  have K := Lib.hid (K.out.trans hk)
  have RA := Lib.hid (RA.out.kept hk)
  have RB := Lib.hid (RB.out.kept hk)
  have S := Lib.hid (S.out.kept hk)
  have D := Lib.hid (D.out.kept hk)
  have T := Lib.hid (T.out.kept hk)
  have P := Lib.hid (P.out.kept hk)
  have Q := Lib.hid hr
  clear hr hk
  go_wp2_with fail
  refine (parseR (s := [99, 112, 117, 61, 48, 49]) (HE.out.kept K.out).toEnv (by decide) k_parse1).mono ?_
  rintro e v6 ⟨x6, rfl, hr, hk⟩
  have K := Lib.hid (K.out.trans hk)
  have RA := Lib.hid (RA.out.kept hk)
  have RB := Lib.hid (RB.out.kept hk)
  have S := Lib.hid (S.out.kept hk)
  have D := Lib.hid (D.out.kept hk)
  have T := Lib.hid (T.out.kept hk)
  have P := Lib.hid (P.out.kept hk)
  have Q := Lib.hid (Q.out.kept hk)
  clear hr hk
  go_wp2_with fail
  refine (parseR (s := [109, 101, 109, 61, 49, 44, 99, 112, 117, 61, 49]) (HE.out.kept K.out).toEnv (by decide) k_parse2).mono ?_
  rintro e v7 ⟨x7, rfl, hr, hk⟩
  have K := Lib.hid (K.out.trans hk)
  have RA := Lib.hid (RA.out.kept hk)
  have RB := Lib.hid (RB.out.kept hk)
  have S := Lib.hid (S.out.kept hk)
  have D := Lib.hid (D.out.kept hk)
  have T := Lib.hid (T.out.kept hk)
  have P := Lib.hid (P.out.kept hk)
  have Q := Lib.hid (Q.out.kept hk)
  clear hr hk
  go_wp2_with fail
  refine (textR (HE.out.kept K.out) S.out k_few.1 k_text.1).mono ?_
  rintro e u0 ⟨rfl, hk⟩
  have K := Lib.hid (K.out.trans hk)
  have RA := Lib.hid (RA.out.kept hk)
  have RB := Lib.hid (RB.out.kept hk)
  have S := Lib.hid (S.out.kept hk)
  have D := Lib.hid (D.out.kept hk)
  have T := Lib.hid (T.out.kept hk)
  have P := Lib.hid (P.out.kept hk)
  have Q := Lib.hid (Q.out.kept hk)
  clear hk
  go_wp2_with fail
  refine (sameR D.out RB.out k_same.1).mono ?_
  rintro e u1 ⟨rfl, hk⟩
  have K := Lib.hid (K.out.trans hk)
  have RA := Lib.hid (RA.out.kept hk)
  have RB := Lib.hid (RB.out.kept hk)
  have S := Lib.hid (S.out.kept hk)
  have D := Lib.hid (D.out.kept hk)
  have T := Lib.hid (T.out.kept hk)
  have P := Lib.hid (P.out.kept hk)
  have Q := Lib.hid (Q.out.kept hk)
  clear hk
  go_wp2_with fail
  refine (getR T.out k_get).mono ?_
  rintro e u2 ⟨rfl, hk⟩
  have K := Lib.hid (K.out.trans hk)
  have RA := Lib.hid (RA.out.kept hk)
  have RB := Lib.hid (RB.out.kept hk)
  have S := Lib.hid (S.out.kept hk)
  have D := Lib.hid (D.out.kept hk)
  have T := Lib.hid (T.out.kept hk)
  have P := Lib.hid (P.out.kept hk)
  have Q := Lib.hid (Q.out.kept hk)
  clear hk
  go_wp2_with fail
  refine (textR (HE.out.kept K.out) P.out k_few.2 k_text.2).mono ?_
  rintro e u3 ⟨rfl, hk⟩
  have K := Lib.hid (K.out.trans hk)
  have RA := Lib.hid (RA.out.kept hk)
  have RB := Lib.hid (RB.out.kept hk)
  have S := Lib.hid (S.out.kept hk)
  have D := Lib.hid (D.out.kept hk)
  have T := Lib.hid (T.out.kept hk)
  have P := Lib.hid (P.out.kept hk)
  have Q := Lib.hid (Q.out.kept hk)
  clear hk
  go_wp2_with fail
  refine (sameR Q.out RA.out k_same.2).mono ?_
  rintro e u4 ⟨rfl, hk⟩
  have K := Lib.hid (K.out.trans hk)
  have RA := Lib.hid (RA.out.kept hk)
  have RB := Lib.hid (RB.out.kept hk)
  have S := Lib.hid (S.out.kept hk)
  have D := Lib.hid (D.out.kept hk)
  have T := Lib.hid (T.out.kept hk)
  have P := Lib.hid (P.out.kept hk)
  have Q := Lib.hid (Q.out.kept hk)
  clear hk
  go_wp2_with fail
  refine (fitsR RB.out S.out k_fits.1).mono ?_
  rintro e u5 ⟨rfl, hk⟩
  have K := Lib.hid (K.out.trans hk)
  have RA := Lib.hid (RA.out.kept hk)
  have RB := Lib.hid (RB.out.kept hk)
  have S := Lib.hid (S.out.kept hk)
  have D := Lib.hid (D.out.kept hk)
  have T := Lib.hid (T.out.kept hk)
  have P := Lib.hid (P.out.kept hk)
  have Q := Lib.hid (Q.out.kept hk)
  clear hk
  go_wp2_with fail
  refine (fitsR S.out RB.out k_fits.2).mono ?_
  rintro e u6 ⟨rfl, hk⟩
  have K := Lib.hid (K.out.trans hk)
  have RA := Lib.hid (RA.out.kept hk)
  have RB := Lib.hid (RB.out.kept hk)
  have S := Lib.hid (S.out.kept hk)
  have D := Lib.hid (D.out.kept hk)
  have T := Lib.hid (T.out.kept hk)
  have P := Lib.hid (P.out.kept hk)
  have Q := Lib.hid (Q.out.kept hk)
  clear hk
  go_wp2_with fail
  refine (nameR (by decide) (by decide : isName ⟨#[97, 49]⟩ = true)).mono ?_
  rintro e u7 ⟨rfl, rfl⟩
  go_wp2_with fail
  refine (nameR (by decide) (by decide : isName ⟨#[65]⟩ = false)).mono ?_
  rintro e u8 ⟨rfl, rfl⟩
  go_wp2_with fail
  refine (checkR RA.out k_check.1).mono ?_
  rintro e u9 ⟨rfl, hk⟩
  have K := Lib.hid (K.out.trans hk)
  have RA := Lib.hid (RA.out.kept hk)
  have RB := Lib.hid (RB.out.kept hk)
  have S := Lib.hid (S.out.kept hk)
  have D := Lib.hid (D.out.kept hk)
  have T := Lib.hid (T.out.kept hk)
  have P := Lib.hid (P.out.kept hk)
  have Q := Lib.hid (Q.out.kept hk)
  clear hk
  go_wp2_with fail
  refine (textR (HE.out.kept K.out) (Reads.nil _) (by decide : fewV [] = true) (by decide : textV [] = [45])).mono ?_
  rintro e u10 ⟨rfl, hk⟩
  have K := Lib.hid (K.out.trans hk)
  have RA := Lib.hid (RA.out.kept hk)
  have RB := Lib.hid (RB.out.kept hk)
  have S := Lib.hid (S.out.kept hk)
  have D := Lib.hid (D.out.kept hk)
  have T := Lib.hid (T.out.kept hk)
  have P := Lib.hid (P.out.kept hk)
  have Q := Lib.hid (Q.out.kept hk)
  clear hk
  go_wp2_with fail
  go_ret
  exact ⟨rfl, K.out⟩

end Go.Proofs.YtppbbgppooblfaaDoor.Vec

/- A vector as the document's: as it is. -/
namespace Go.Proofs.YtppbbgppooblfaaDoor.Vec
open Go.RowKit
set_option linter.unusedVariables false

theorem refInfo : (Tryd.prog.info? 42).map (fun i => (i.zero, i.size, i.bytes)) = some (some (.agg #[.string ByteArray.empty, .int .i64 0]), 2, 24) := by kernel_rfl

theorem take_next {l : V} {k : Nat} (h : k < l.length) : l.take (k + 1) = l.take k ++ [(nm l k, qn l k)] := by
  rw [List.take_add_one]; congr 1
  have : l.getD k (ByteArray.empty, 0) = l[k] := by simp [List.getD, h]
  have e : (nm l k, qn l k) = l[k] := by simp only [nm, qn, this]
  rw [e]; simp [h]

set_option maxRecDepth 100000 in
set_option maxHeartbeats 1600000 in
theorem of_own (a : Option Addr) (len cap : Nat) (l : V) (w : World) (hr : VecAt w a len l) (hlen : len ≤ 1000000) :
    Calls Tryd.prog 7 #[.slice a len cap] w (fun e w' => ∃ x, e = .returned x ∧ OwnV 42 w' w.heap.size x l ∧ Kept w w') := by
  have hl := hr.1
  obtain ⟨i0, hi, hz0, hz1, hz2⟩ := info_parts refInfo
  rcases hr.form with h0 | ⟨b, off, rfl⟩
  · subst h0
    have hl0 : l = [] := List.eq_nil_of_length_eq_zero hl
    subst hl0
    clear hr hl hi hz0 hz1 hz2
    go_enter Tryd.func7, Tryd.ntmps7
    go_wp2
    refine wp_loop_rounds 1 ?_
    rw [rounds_succ]
    go_wp2
    go_ret
    exact ⟨_, rfl, OwnV.nil _ _ _, Kept.refl _⟩
  · have HR := Lib.hid hr
    have HL := Lib.hid hl
    have HF := Lib.hid hr.2.2.1
    clear hr hl
    go_enter Tryd.func7, Tryd.ntmps7
    go_wp2
    go_loopw [3, 4] (fun v i wr => ∃ k : Nat, k ≤ len ∧ i = .int .i64 k ∧ OwnV 42 wr w.heap.size v (l.take k) ∧ Below w.heap.size w wr) (fun _ i _ => len - (intOf i).toNat)
    case atStart => exact ⟨0, Nat.zero_le _, rfl, OwnV.nil _ _ _, Below.refl _ _⟩
    case round =>
      obtain ⟨k, hk, rfl, ho, hB⟩ := hrel
      have HO := Lib.hid ho
      have HB := Lib.hid hB
      have HT := Lib.hid (show (l.take k).length = k by rw [List.length_take, HL.out]; omega)
      have HOWN := Lib.hid (show wr.ownsRow w.heap.size 42 2 u3 k (cellsOf (l.take k)) by have := HO.out.1; rw [HT.out] at this; exact this)
      by_cases hlt : k < len
      · obtain ⟨hb, c1, c2⟩ := (HR.out.kept hB).cells hlt
        have HI := Lib.hid (show k < l.length by rw [HL.out]; exact hlt)
        have hbw : b < w.heap.size := (HR.out.cells hlt).1
        have hbase : w.heap.size ≤ wr.heap.size := hB.size
        have HNE := Lib.hid (show u3.ownBlock ≠ some b by
          intro e
          have := (HOWN.out.lt b e).1
          omega)
        have HBASE := Lib.hid (show w.heap.size ≤ (wr.alloc (.cells #[.string (nm l k), .int .i64 (qn l k)] 42)).drew.heap.size by simp; omega)
        have HBD := Lib.hid (show Below w.heap.size w ((wr.alloc (.cells #[.string (nm l k), .int .i64 (qn l k)] 42)).drew) from HB.out.trans (Below.mono ((kept_alloc wr _).trans (Kept.drewN _ 1)) hbase))
        have hk1 : (k : Int) < (len : Int) := by omega
        have HFK := Lib.hid (HF.out k HI.out)
        clear ho hB
        go_wp2_with fail
        go_region_held3 (fun W => W.cell? ⟨b, off + k * 2, none⟩ = some (.string (nm l k)) ∧ W.cell? ⟨b, off + k * 2 + 1, none⟩ = some (.int .i64 (qn l k)))
          (first
            | go_keep
            | (go_split_ands
               refine ⟨?_, ?_⟩
               · (refine (hgrow.cell_far ⟨b, off + k * 2, none⟩ (by simp; omega) (Ne.symm HNE.out)).trans ?_; assumption)
               · (refine (hgrow.cell_far ⟨b, off + k * 2 + 1, none⟩ (by simp; omega) (Ne.symm HNE.out)).trans ?_; assumption)))
          ((refine step_append_lies _ (by rfl) _ _ _ (by rfl) w.heap.size 42 i0 _ 2 24 Tryd.underlying27 hi hz0 hz1 hz2 rfl (by decide) u3 k (cellsOf (l.take k)) (by rfl) ((HOWN.out.alloc _).drew)
                ⟨wr.heap.size, 0, none⟩ 1 1 [.string (nm l k), .int .i64 (qn l k)] (by rfl) (by rfl) (World.news_of_block (cs := #[.string (nm l k), .int .i64 (qn l k)]) (t := 42) (fr := (0, 0)) (heap_alloc_new wr _)) (cellsOf_one [(nm l k, qn l k)])
                (by decide) (by unfold maxLen; omega) (by omega) (by simp; omega) (wr.heap.size + 1) (by simp) ?_; intro gg cap1 w1 hown1 hgrow hat hlt1))
        all_goals
          go_wp2
          go_roundw
          case rel => exact ⟨k + 1, by omega, by go_num, ⟨by rw [take_next HI.out, cellsOf_append, List.length_append, HT.out]; exact hown1, by rw [take_next HI.out]; exact HO.out.2.snoc HFK.out.1 HFK.out.2.1 HFK.out.2.2⟩, HBD.out.grown hgrow HBASE.out (fun j hj => (HOWN.out.lt j hj).1)⟩
          case measure => simp [intOf]; omega
      · have HK := Lib.hid (show l.take k = l by rw [List.take_of_length_le (by rw [HL.out]; omega)])
        clear ho hB
        go_wp2
        go_ret
        exact ⟨_, rfl, by have h := HO.out; rw [HK.out] at h; exact h, HB.out⟩
theorem of_any (a : Option Addr) (len cap : Nat) (l : V) (w : World) (hr : VecAt w a len l) (hlen : len ≤ 1000000) :
    Calls Tryd.prog 7 #[.slice a len cap] w (fun e w' => ∃ x, e = .returned x ∧ Reads w' x l ∧ Kept w w') := by
  refine (of_own a len cap l w hr hlen).mono ?_
  rintro e w' ⟨x, he, ho, k⟩
  exact ⟨x, he, ho.at_, k⟩

end Go.Proofs.YtppbbgppooblfaaDoor.Vec

/- The algebra of vectors that may be: names in their order, numbers above 0. -/
namespace Go.Proofs.YtppbbgppooblfaaDoor.Vec
open Go.RowKit
set_option linter.unusedVariables false

theorem less_irrefl : ∀ s : List UInt8, Op.bytesLess s s = false
  | [] => rfl
  | a :: s => by
    have : ¬ a < a := UInt8.lt_irrefl a
    simp [Op.bytesLess, less_irrefl s, this]
theorem less_trans : ∀ {a b c : List UInt8}, Op.bytesLess a b = true → Op.bytesLess b c = true → Op.bytesLess a c = true
  | _, _, [], _, h => by simp [Op.bytesLess] at h
  | [], _, _ :: _, _, _ => by simp [Op.bytesLess]
  | x :: a, [], z :: c, h, _ => by simp [Op.bytesLess] at h
  | x :: a, y :: b, z :: c, h, g => by
    simp only [Op.bytesLess, Bool.or_eq_true, Bool.and_eq_true, decide_eq_true_eq, beq_iff_eq] at h g ⊢
    rcases h with h | ⟨rfl, h⟩
    · rcases g with g | ⟨rfl, g⟩
      · exact .inl (UInt8.lt_trans h g)
      · exact .inl h
    · rcases g with g | ⟨rfl, g⟩
      · exact .inl g
      · exact .inr ⟨rfl, less_trans h g⟩
theorem less_tri : ∀ {a b : List UInt8}, Op.bytesLess a b = false → Op.bytesLess b a = false → a = b
  | [], [], _, _ => rfl
  | [], _ :: _, h, _ => by simp [Op.bytesLess] at h
  | _ :: _, [], _, h => by simp [Op.bytesLess] at h
  | x :: a, y :: b, h, g => by
    simp only [Op.bytesLess, Bool.or_eq_false_iff, decide_eq_false_iff_not, Bool.and_eq_false_iff, beq_eq_false_iff_ne] at h g
    have e : x = y := by
      have h1 := UInt8.not_lt.1 h.1
      have h2 := UInt8.not_lt.1 g.1
      exact UInt8.le_antisymm h2 h1
    subst e
    have h2 := h.2.resolve_left (by simp)
    have g2 := g.2.resolve_left (by simp)
    rw [less_tri h2 g2]

theorem lt_of (s t : ByteArray) : ltS s t = Op.bytesLess s.data.toList t.data.toList := by unfold ltS; rw [Lib.toList_data, Lib.toList_data]
theorem eqS_iff {s t : ByteArray} : eqS s t = true ↔ s = t := by
  unfold eqS; rw [Lib.toList_data, Lib.toList_data, beq_iff_eq]
  exact ⟨fun h => Go.WideShapes.bytes_inj h, fun h => by rw [h]⟩
theorem lt_irrefl' (s : ByteArray) : ltS s s = false := by rw [lt_of]; exact less_irrefl _
theorem lt_trans' {s t u : ByteArray} (h : ltS s t = true) (g : ltS t u = true) : ltS s u = true := by
  rw [lt_of] at *; exact less_trans h g
theorem lt_tri' {s t : ByteArray} (h : ltS s t = false) (g : ltS t s = false) : s = t := by
  rw [lt_of] at *; exact Go.WideShapes.bytes_inj (less_tri h g)
theorem lt_ne {s t : ByteArray} (h : ltS s t = true) : s ≠ t := by rintro rfl; rw [lt_irrefl'] at h; cases h
theorem lt_asymm' {s t : ByteArray} (h : ltS s t = true) (g : ltS t s = true) : False := lt_ne (lt_trans' h g) rfl

/-- May be: names as they must, numbers above 0, names rising. -/
def Gd (l : V) : Prop := (∀ x ∈ l, isName x.1 = true ∧ 0 < x.2 ∧ x.2 ≤ 9223372036854775807) ∧ l.Pairwise (fun x y => ltS x.1 y.1 = true)
theorem Gd.nil : Gd [] := ⟨fun x hx => absurd hx (by simp), .nil⟩
theorem Gd.cons {x : ByteArray × Int} {t : V} : Gd (x :: t) ↔ (isName x.1 = true ∧ 0 < x.2 ∧ x.2 ≤ 9223372036854775807) ∧ (∀ y ∈ t, ltS x.1 y.1 = true) ∧ Gd t := by
  unfold Gd
  rw [List.pairwise_cons, List.forall_mem_cons]
  constructor
  · rintro ⟨⟨a, b⟩, c, d⟩; exact ⟨a, c, b, d⟩
  · rintro ⟨a, c, b, d⟩; exact ⟨⟨a, b⟩, c, d⟩

theorem get_same (x : ByteArray × Int) (t : V) : getV (x :: t) x.1 = x.2 := by rw [getV, if_pos (eqS_iff.2 rfl)]
theorem get_other {x : ByteArray × Int} {n : ByteArray} (t : V) (h : x.1 ≠ n) : getV (x :: t) n = getV t n := by rw [getV, if_neg (fun e => h (eqS_iff.1 e))]
theorem get_zero : ∀ {l : V} {n : ByteArray}, (∀ y ∈ l, y.1 ≠ n) → getV l n = 0
  | [], _, _ => rfl
  | x :: t, n, h => by rw [get_other t (h x (by simp))]; exact get_zero fun y hy => h y (by simp [hy])
theorem get_mem : ∀ {l : V} {n : ByteArray}, getV l n ≠ 0 → ∃ y ∈ l, y.1 = n
  | [], _, h => absurd rfl h
  | x :: t, n, h => by
    by_cases e : x.1 = n
    · exact ⟨x, by simp, e⟩
    · rw [get_other t e] at h
      obtain ⟨y, hy, hn⟩ := get_mem h
      exact ⟨y, by simp [hy], hn⟩
theorem get_bd : ∀ {l : V} (n : ByteArray), Gd l → 0 ≤ getV l n ∧ getV l n ≤ 9223372036854775807
  | [], _, _ => ⟨Int.le_refl _, (by decide : (0 : Int) ≤ 9223372036854775807)⟩
  | x :: t, n, h => by
    have h' := Gd.cons.1 h
    by_cases e : x.1 = n
    · subst e; rw [get_same]; omega
    · rw [get_other t e]; exact get_bd n h'.2.2
theorem get_in : ∀ {l : V} {x : ByteArray × Int}, Gd l → x ∈ l → getV l x.1 = x.2
  | [], _, _, h => absurd h (by simp)
  | y :: t, x, h, hx => by
    have h' := Gd.cons.1 h
    rcases List.mem_cons.1 hx with rfl | hx
    · exact get_same _ _
    · rw [get_other t (lt_ne (h'.2.1 x hx))]; exact get_in h'.2.2 hx
theorem behind_get {l : V} {n : ByteArray} (h : ∀ y ∈ l, ltS n y.1 = true) : getV l n = 0 := get_zero fun y hy => (lt_ne (h y hy)).symm

/-- A vector is known by its names' amounts. -/
theorem Gd.ext : ∀ {a b : V}, Gd a → Gd b → (∀ n, getV a n = getV b n) → a = b
  | [], [], _, _, _ => rfl
  | [], y :: t, _, hb, h => by
    have := h y.1; rw [get_same] at this; have := (Gd.cons.1 hb).1; rw [show getV [] y.1 = 0 from rfl] at *; omega
  | x :: s, [], ha, _, h => by
    have := h x.1; rw [get_same] at this; have := (Gd.cons.1 ha).1; rw [show getV [] x.1 = 0 from rfl] at *; omega
  | x :: s, y :: t, ha, hb, h => by
    have ha' := Gd.cons.1 ha
    have hb' := Gd.cons.1 hb
    have e1 : ltS x.1 y.1 = false := by
      cases e : ltS x.1 y.1 with
      | false => rfl
      | true =>
        have hx := h x.1
        rw [get_same, behind_get (l := y :: t) (fun z hz => by
          rcases List.mem_cons.1 hz with rfl | hz
          · exact e
          · exact lt_trans' e (hb'.2.1 z hz))] at hx
        omega
    have e2 : ltS y.1 x.1 = false := by
      cases e : ltS y.1 x.1 with
      | false => rfl
      | true =>
        have hx := h y.1
        rw [get_same, behind_get (l := x :: s) (fun z hz => by
          rcases List.mem_cons.1 hz with rfl | hz
          · exact e
          · exact lt_trans' e (ha'.2.1 z hz))] at hx
        omega
    have e := lt_tri' e1 e2
    have hv : x.2 = y.2 := by have := h x.1; rw [get_same, e, get_same] at this; exact this
    have ht : s = t := Gd.ext ha'.2.2 hb'.2.2 fun n => by
      by_cases en : x.1 = n
      · rw [behind_get (fun z hz => en ▸ ha'.2.1 z hz), behind_get (fun z hz => en ▸ e ▸ hb'.2.1 z hz)]
      · have := h n
        rw [get_other s en, get_other t (by rw [← e]; exact en)] at this
        exact this
    obtain ⟨x1, x2⟩ := x
    obtain ⟨y1, y2⟩ := y
    cases e; cases hv; rw [ht]

theorem Gd.len : ∀ {b r : V}, Gd r → Gd b → (∀ n, getV r n ≠ 0 → getV b n ≠ 0) → r.length ≤ b.length
  | [], [], _, _, _ => Nat.le_refl _
  | [], x :: s, hr, _, h => by
    have := h x.1; rw [get_same] at this; have h1 := (Gd.cons.1 hr).1
    exact absurd rfl (this (by omega))
  | y :: t, [], _, _, _ => Nat.zero_le _
  | y :: t, x :: s, hr, hb, h => by
    have hr' := Gd.cons.1 hr
    have hb' := Gd.cons.1 hb
    have : s.length ≤ t.length := Gd.len hr'.2.2 hb'.2.2 fun n hn => by
      obtain ⟨z, hz, rfl⟩ := get_mem hn
      have hlt := hr'.2.1 z hz
      have hb2 := h z.1 (by rw [get_other s (lt_ne hlt)]; exact hn)
      by_cases e : y.1 = z.1
      · obtain ⟨u, hu, hux⟩ := get_mem (h x.1 (by rw [get_same]; omega))
        rcases List.mem_cons.1 hu with rfl | hu
        · rw [← hux, e, lt_irrefl'] at hlt; cases hlt
        · have := hb'.2.1 u hu
          rw [hux, e] at this
          exact (lt_asymm' hlt this).elim
      · rw [get_other t e] at hb2; exact hb2
    simp only [List.length_cons]; omega

theorem leS_false {s t : ByteArray} (h : leS s t = false) : ltS t s = true := by
  unfold leS at h
  rw [Bool.or_eq_false_iff] at h
  cases e : ltS t s with
  | true => rfl
  | false => rw [lt_tri' h.1 e, eqS_iff.2 rfl] at h; cases h.2
theorem leS_of_lt {s t : ByteArray} (h : ltS t s = true) : leS s t = false := by
  unfold leS
  rw [Bool.or_eq_false_iff]
  refine ⟨?_, ?_⟩
  · cases e : ltS s t with
    | false => rfl
    | true => exact (lt_asymm' h e).elim
  · cases e : eqS s t with
    | false => rfl
    | true => exact absurd (eqS_iff.1 e).symm (lt_ne h)

theorem check_good {l : V} (h : checkV l = 0) (hf : Fine l) : Gd l := by
  have h2 : checkFrom none l = 0 := by
    unfold checkV at h
    split at h
    · cases h
    · exact h
  have key : ∀ (l : V) (p : Option ByteArray), checkFrom p l = 0 → Fine l → Gd l ∧ (∀ x, p = some x → ∀ y ∈ l, ltS x y.1 = true) := by
    intro l
    induction l with
    | nil => intro p _ _; exact ⟨Gd.nil, fun _ _ y hy => absurd hy (by simp)⟩
    | cons x t ih =>
      intro p hc hf
      rw [Fine.cons] at hf
      unfold checkFrom at hc
      split at hc
      · cases hc
      · rename_i n1
        split at hc
        · cases hc
        · rename_i n2
          split at hc
          · cases hc
          · rename_i n3
            obtain ⟨hg, hall⟩ := ih _ hc hf.2
            have hx := hall x.1 rfl
            refine ⟨Gd.cons.2 ⟨⟨by simpa using n1, by omega, hf.1.2.2⟩, hx, hg⟩, ?_⟩
            rintro q rfl y hy
            have hq : ltS q x.1 = true := leS_false (by simpa [behindB] using n3)
            rcases List.mem_cons.1 hy with rfl | hy
            · exact hq
            · exact lt_trans' hq (hx y hy)
  exact (key l none h2 hf).1
theorem good_check {l : V} (h : Gd l) (hl : l.length ≤ 8) : checkV l = 0 := by
  have key : ∀ (l : V) (p : Option ByteArray), Gd l → (∀ x, p = some x → ∀ y ∈ l, ltS x y.1 = true) → checkFrom p l = 0 := by
    intro l
    induction l with
    | nil => intro p _ _; cases p <;> rfl
    | cons x t ih =>
      intro p hg hp
      have hg' := Gd.cons.1 hg
      rw [checkFrom, if_neg (by rw [hg'.1.1]; decide), if_neg (by omega), if_neg]
      · exact ih _ hg'.2.2 fun q e y hy => by cases e; exact hg'.2.1 y hy
      · cases p with
        | none => simp [behindB]
        | some q => rw [show behindB (some q) x.1 = leS x.1 q from rfl, leS_of_lt (hp q rfl x (by simp))]; decide
  unfold checkV
  rw [if_neg (by omega)]
  exact key l none h (fun _ e => by cases e)

end Go.Proofs.YtppbbgppooblfaaDoor.Vec

/- What is merged, by its names' amounts. -/
namespace Go.Proofs.YtppbbgppooblfaaDoor.Vec
open Go.RowKit
set_option linter.unusedVariables false

theorem take_spec {l : V} {s : ByteArray} (hg : Gd l) (h : ∀ y ∈ l, y.1 = s ∨ ltS s y.1 = true) :
    (takenV l s).1 = getV l s ∧ Gd (takenV l s).2 ∧ (∀ y ∈ (takenV l s).2, ltS s y.1 = true) ∧ (∀ n, n ≠ s → getV (takenV l s).2 n = getV l n) ∧ (∀ m, (∀ y ∈ l, ltS m y.1 = true) → ∀ y ∈ (takenV l s).2, ltS m y.1 = true) := by
  cases l with
  | nil => exact ⟨rfl, hg, fun y hy => absurd hy (by simp [takenV]), fun _ _ => rfl, fun _ _ y hy => absurd hy (by simp [takenV])⟩
  | cons x t =>
    have hg' := Gd.cons.1 hg
    rw [taken_cons]
    by_cases e : x.1 = s
    · rw [if_pos (eqS_iff.2 e)]
      subst e
      exact ⟨(get_same x t).symm, hg'.2.2, hg'.2.1, fun n hn => (get_other t (Ne.symm hn)).symm, fun m hm y hy => hm y (by simp [hy])⟩
    · rw [if_neg (fun c => e (eqS_iff.1 c))]
      have hx : ltS s x.1 = true := (h x (by simp)).resolve_left e
      have hall : ∀ y ∈ x :: t, ltS s y.1 = true := fun y hy => by
        rcases List.mem_cons.1 hy with rfl | hy
        · exact hx
        · exact lt_trans' hx (hg'.2.1 y hy)
      exact ⟨(behind_get hall).symm, hg, hall, fun _ _ => rfl, fun m hm => hm⟩

theorem foremost_spec {la lb : V} (ha : Gd la) (hb : Gd lb) (h : 0 < la.length + lb.length) :
    isName (foremostV la lb) = true ∧ (∀ y ∈ la, y.1 = foremostV la lb ∨ ltS (foremostV la lb) y.1 = true) ∧ (∀ y ∈ lb, y.1 = foremostV la lb ∨ ltS (foremostV la lb) y.1 = true) ∧
      (∀ m, (∀ y ∈ la, ltS m y.1 = true) → (∀ y ∈ lb, ltS m y.1 = true) → ltS m (foremostV la lb) = true) := by
  have own : ∀ {x : ByteArray × Int} {t : V}, Gd (x :: t) → ∀ y ∈ x :: t, y.1 = x.1 ∨ ltS x.1 y.1 = true := fun {x t} hg y hy => by
    rcases List.mem_cons.1 hy with rfl | hy
    · exact .inl rfl
    · exact .inr ((Gd.cons.1 hg).2.1 y hy)
  cases la with
  | nil =>
    cases lb with
    | nil => simp at h
    | cons y t => exact ⟨(Gd.cons.1 hb).1.1, fun z hz => absurd hz (by simp), own hb, fun m _ hm => hm y (by simp)⟩
  | cons x s =>
    cases lb with
    | nil => exact ⟨(Gd.cons.1 ha).1.1, own ha, fun z hz => absurd hz (by simp), fun m hm _ => hm x (by simp)⟩
    | cons y t =>
      rw [foremost_cons]
      by_cases e : ltS y.1 x.1 = true
      · rw [if_pos e]
        refine ⟨(Gd.cons.1 hb).1.1, fun z hz => .inr ?_, own hb, fun m _ hm => hm y (by simp)⟩
        rcases own ha z hz with hz | hz
        · rw [hz]; exact e
        · exact lt_trans' e hz
      · rw [if_neg e]
        refine ⟨(Gd.cons.1 ha).1.1, own ha, fun z hz => ?_, fun m hm _ => hm x (by simp)⟩
        have e' : ltS y.1 x.1 = false := by simpa using e
        have hxy : y.1 = x.1 ∨ ltS x.1 y.1 = true := by
          cases e2 : ltS x.1 y.1 with
          | true => exact .inr rfl
          | false => exact .inl (lt_tri' e' e2)
        rcases own hb z hz with hz | hz
        · rw [hz]; exact hxy
        · rcases hxy with hxy | hxy
          · rw [← hxy]; exact .inr hz
          · exact .inr (lt_trans' hxy hz)

/-- A way to reckon: nothing out of nothing, the one error 5, no number below 0 or too great. -/
structure Rk (f : Int → Int → Int × Int) : Prop where
  zero : f 0 0 = (0, 0)
  code : ∀ x y, 0 ≤ x ∧ x ≤ 9223372036854775807 → 0 ≤ y ∧ y ≤ 9223372036854775807 → (f x y).2 = 0 ∨ (f x y).2 = 5
  bd : ∀ x y, 0 ≤ x ∧ x ≤ 9223372036854775807 → 0 ≤ y ∧ y ≤ 9223372036854775807 → 0 ≤ (f x y).1 ∧ (f x y).1 ≤ 9223372036854775807

theorem rk_add : Rk addF := by
  refine ⟨by decide, fun x y hx hy => ?_, fun x y hx hy => addF_bd hx hy⟩
  unfold addF; split
  · exact .inl rfl
  · exact .inr rfl
theorem rk_sub : Rk subF := by
  refine ⟨by decide, fun x y hx hy => ?_, fun x y hx hy => subF_bd hx hy⟩
  unfold subF; split
  · exact .inl rfl
  · exact .inr rfl

/-- What one is by its names' amounts. -/
def Made (f : ByteArray → Int) (r : V) : Prop := Gd r ∧ ∀ n, getV r n = f n

theorem plus_made {r : V} {s : ByteArray} {v : Int} {g g' : ByteArray → Int} (hr : Made g' r) (hs : isName s = true) (hv : 0 ≤ v ∧ v ≤ 9223372036854775807) (hall : ∀ y ∈ r, ltS s y.1 = true)
    (h1 : g s = v) (h2 : ∀ n, n ≠ s → g n = g' n) : ∃ r', (∀ acc, plusV acc s v ++ r = acc ++ r') ∧ Made g r' ∧ (∀ m, ltS m s = true → (∀ y ∈ r, ltS m y.1 = true) → ∀ y ∈ r', ltS m y.1 = true) ∧ r'.length ≤ r.length + 1 := by
  by_cases e : v = 0
  · refine ⟨r, fun acc => by unfold plusV; rw [if_pos e], ⟨hr.1, fun n => ?_⟩, fun m _ h => h, by omega⟩
    by_cases en : n = s
    · subst en; rw [behind_get hall, h1, e]
    · rw [hr.2 n, h2 n en]
  · refine ⟨(s, v) :: r, fun acc => by unfold plusV; rw [if_neg e]; simp, ⟨Gd.cons.2 ⟨⟨hs, by omega, hv.2⟩, hall, hr.1⟩, fun n => ?_⟩, fun m hm h y hy => ?_, by simp⟩
    · by_cases en : n = s
      · subst en; rw [get_same (n, v) r, h1]
      · rw [get_other (x := (s, v)) r (fun c => en c.symm), hr.2 n, h2 n en]
    · rcases List.mem_cons.1 hy with rfl | hy
      · exact hm
      · exact h y hy

theorem merge_spec {f : Int → Int → Int × Int} (hf : Rk f) : ∀ (fuel : Nat) (la lb : V), la.length + lb.length ≤ fuel → Gd la → Gd lb →
    ((∃ n, (f (getV la n) (getV lb n)).2 ≠ 0) ∧ ∀ acc, mergeAcc f fuel la lb acc = (5, [])) ∨
    ((∀ n, (f (getV la n) (getV lb n)).2 = 0) ∧ ∃ r, (∀ acc, mergeAcc f fuel la lb acc = (0, acc ++ r)) ∧ Made (fun n => (f (getV la n) (getV lb n)).1) r ∧
      (∀ m, (∀ y ∈ la, ltS m y.1 = true) → (∀ y ∈ lb, ltS m y.1 = true) → ∀ y ∈ r, ltS m y.1 = true)) := by
  intro fuel
  induction fuel with
  | zero =>
    intro la lb hl ha hb
    have e1 : la = [] := List.eq_nil_of_length_eq_zero (by omega)
    have e2 : lb = [] := List.eq_nil_of_length_eq_zero (by omega)
    subst e1; subst e2
    refine .inr ⟨fun n => by rw [show getV [] n = 0 from rfl, hf.zero], [], fun acc => by rw [mergeAcc, List.append_nil], ⟨Gd.nil, fun n => by show (0 : Int) = (f 0 0).1; rw [hf.zero]⟩, fun m _ _ y hy => absurd hy (by simp)⟩
  | succ fuel ih =>
    intro la lb hl ha hb
    by_cases h0 : la.length + lb.length = 0
    · have e1 : la = [] := List.eq_nil_of_length_eq_zero (by omega)
      have e2 : lb = [] := List.eq_nil_of_length_eq_zero (by omega)
      subst e1; subst e2
      refine .inr ⟨fun n => by rw [show getV [] n = 0 from rfl, hf.zero], [], fun acc => by rw [merge_end (by simp), List.append_nil], ⟨Gd.nil, fun n => by show (0 : Int) = (f 0 0).1; rw [hf.zero]⟩, fun m _ _ y hy => absurd hy (by simp)⟩
    · obtain ⟨hs, hsa, hsb, hsm⟩ := foremost_spec ha hb (by omega)
      have hless := merge_less (la := la) (lb := lb) (by omega)
      obtain ⟨s, es⟩ : ∃ s, foremostV la lb = s := ⟨_, rfl⟩
      have hstep : ∀ acc, mergeAcc f (fuel + 1) la lb acc = if (f (takenV la s).1 (takenV lb s).1).2 ≠ 0 then ((f (takenV la s).1 (takenV lb s).1).2, []) else mergeAcc f fuel (takenV la s).2 (takenV lb s).2 (plusV acc s (f (takenV la s).1 (takenV lb s).1).1) := fun acc => by
        rw [mergeAcc, if_neg h0]; dsimp only; rw [es]
      rw [es] at hs hsa hsb hsm hless
      obtain ⟨a1, a2, a3, a4, a5⟩ := take_spec ha hsa
      obtain ⟨b1, b2, b3, b4, b5⟩ := take_spec hb hsb
      rw [a1, b1] at hstep
      have hca := get_bd s ha
      have hcb := get_bd s hb
      by_cases hx : (f (getV la s) (getV lb s)).2 = 0
      · have hstep2 : ∀ acc, mergeAcc f (fuel + 1) la lb acc = mergeAcc f fuel (takenV la s).2 (takenV lb s).2 (plusV acc s (f (getV la s) (getV lb s)).1) := fun acc => by
          rw [hstep acc, if_neg (by rw [hx]; decide)]
        have e0 : ∀ n, n = s → f (getV (takenV la s).2 n) (getV (takenV lb s).2 n) = (0, 0) := fun n hn => by
          subst hn; rw [behind_get a3, behind_get b3, hf.zero]
        rcases ih (takenV la s).2 (takenV lb s).2 (by omega) a2 b2 with ⟨⟨n, hn⟩, hbad⟩ | ⟨hgood, r, hr, hm, hmin⟩
        · refine .inl ⟨⟨n, ?_⟩, fun acc => by rw [hstep2, hbad]⟩
          by_cases en : n = s
          · rw [e0 n en] at hn; exact absurd rfl hn
          · rw [a4 n en, b4 n en] at hn; exact hn
        · obtain ⟨r', h1, h2, h3, _⟩ := plus_made (s := s) (v := (f (getV la s) (getV lb s)).1) (g := fun n => (f (getV la n) (getV lb n)).1) hm hs (hf.bd _ _ hca hcb) (hmin s a3 b3) rfl
            (fun n hn => by show _ = _; rw [a4 n hn, b4 n hn])
          refine .inr ⟨fun n => ?_, r', fun acc => by rw [hstep2, hr, h1], h2, fun m hma hmb => h3 m (hsm m hma hmb) (hmin m (a5 m hma) (b5 m hmb))⟩
          by_cases en : n = s
          · rw [en]; exact hx
          · have := hgood n; rw [a4 n en, b4 n en] at this; exact this
      · refine .inl ⟨⟨s, hx⟩, fun acc => ?_⟩
        rw [hstep acc, if_pos hx, (hf.code _ _ hca hcb).resolve_left hx]

/-- Add and Sub, of two that may be. -/
theorem merged_spec {f : Int → Int → Int × Int} (hf : Rk f) {l l' : V} (h : Gd l) (h' : Gd l') (hl : l.length ≤ 8) (hl' : l'.length ≤ 8) :
    ((∃ n, (f (getV l n) (getV l' n)).2 ≠ 0) ∧ mergedV f l l' = (5, [])) ∨
    ((∀ n, (f (getV l n) (getV l' n)).2 = 0) ∧ ∃ r, Made (fun n => (f (getV l n) (getV l' n)).1) r ∧ ((8 < r.length ∧ mergedV f l l' = (4, [])) ∨ (r.length ≤ 8 ∧ mergedV f l l' = (0, r)))) := by
  have e : mergedV f l l' = (let r := mergeAcc f (l.length + l'.length) l l' []; if r.1 ≠ 0 then (r.1, []) else if 8 < r.2.length then (4, []) else (0, r.2)) := by
    rw [mergedV, if_neg (by rw [good_check h hl]; decide), if_neg (by rw [good_check h' hl']; decide)]
  rcases merge_spec hf (l.length + l'.length) l l' (Nat.le_refl _) h h' with ⟨hn, hb⟩ | ⟨hn, r, hr, hm, _⟩
  · exact .inl ⟨hn, by rw [e, hb]; rfl⟩
  · refine .inr ⟨hn, r, hm, ?_⟩
    rw [e, hr]
    by_cases h8 : 8 < r.length
    · exact .inl ⟨h8, by simp [h8]⟩
    · exact .inr ⟨by omega, by simp [h8]⟩

end Go.Proofs.YtppbbgppooblfaaDoor.Vec

/- What the laws say of vectors that may be. -/
namespace Go.Proofs.YtppbbgppooblfaaDoor.Vec
open Go.RowKit
set_option linter.unusedVariables false

theorem fits_mem : ∀ {l h : V}, fitsFrom h l = true ↔ ∀ x ∈ l, x.2 ≤ getV h x.1
  | [], h => ⟨fun _ x hx => absurd hx (by simp), fun _ => rfl⟩
  | x :: t, h => by
    rw [fitsFrom, Bool.and_eq_true, decide_eq_true_eq, fits_mem, List.forall_mem_cons]
theorem fits_iff {l h : V} (hl : Gd l) (hh : Gd h) : fitsFrom h l = true ↔ ∀ n, getV l n ≤ getV h n := by
  rw [fits_mem]
  constructor
  · intro hx n
    by_cases e : getV l n = 0
    · rw [e]; exact (get_bd n hh).1
    · obtain ⟨x, hm, rfl⟩ := get_mem e
      rw [get_in hl hm]; exact hx x hm
  · intro hn x hx
    have := hn x.1
    rw [get_in hl hx] at this; exact this
theorem same_self : ∀ l : V, sameFrom l l = true
  | [] => rfl
  | x :: t => by rw [sameFrom, same_self t, eqS_iff.2 rfl]; simp
theorem fits_trans {a b c : V} (ha : Gd a) (hb : Gd b) (hc : Gd c) (h : fitsFrom b a = true) (g : fitsFrom c b = true) : fitsFrom c a = true :=
  (fits_iff ha hc).2 fun n => Int.le_trans ((fits_iff ha hb).1 h n) ((fits_iff hb hc).1 g n)
theorem subF_code (x y : Int) : (subF x y).2 = 0 ↔ y ≤ x := by
  unfold subF; split
  · simp only [true_iff]; assumption
  · constructor
    · intro h; cases h
    · intro h; contradiction
theorem addF_code (x y : Int) : (addF x y).2 = 0 ↔ x + y ≤ 9223372036854775807 := by
  unfold addF; split
  · simp only [true_iff]; assumption
  · constructor
    · intro h; cases h
    · intro h; contradiction
theorem subF_val {x y : Int} (h : y ≤ x) : subF x y = (x - y, 0) := by unfold subF; rw [if_pos h]
theorem addF_val {x y : Int} (h : x + y ≤ 9223372036854775807) : addF x y = (x + y, 0) := by unfold addF; rw [if_pos h]

/-- Taken away: where it fits. -/
theorem sub_made {l l' : V} (h : Gd l) (h' : Gd l') (hl : l.length ≤ 8) (hl' : l'.length ≤ 8) (hf : ∀ n, getV l' n ≤ getV l n) :
    ∃ r, mergedV subF l l' = (0, r) ∧ Made (fun n => getV l n - getV l' n) r ∧ r.length ≤ 8 := by
  rcases merged_spec rk_sub h h' hl hl' with ⟨⟨n, hn⟩, _⟩ | ⟨_, r, hm, hr⟩
  · exact absurd ((subF_code _ _).2 (hf n)) hn
  · have hm' : Made (fun n => getV l n - getV l' n) r := ⟨hm.1, fun n => by rw [hm.2 n]; show (subF _ _).1 = _; rw [subF_val (hf n)]⟩
    have hlen : r.length ≤ l.length := Gd.len hm.1 h fun n hn => by
      rw [hm'.2 n] at hn
      dsimp only at hn
      have h1 := get_bd n h
      have h2 := get_bd n h'
      have := hf n
      omega
    rcases hr with ⟨h8, _⟩ | ⟨h8, e⟩
    · omega
    · exact ⟨r, e, hm', h8⟩
/-- Added: what there is of the sum where no error is told. -/
theorem sum_ok {l l' m : V} (h : Gd l) (h' : Gd l') (hl : l.length ≤ 8) (hl' : l'.length ≤ 8) (e : mergedV addF l l' = (0, m)) :
    Made (fun n => getV l n + getV l' n) m ∧ m.length ≤ 8 ∧ ∀ n, getV l n + getV l' n ≤ 9223372036854775807 := by
  rcases merged_spec rk_add h h' hl hl' with ⟨_, hb⟩ | ⟨hn, r, hm, hr⟩
  · rw [hb] at e; cases e
  · have hs : ∀ n, getV l n + getV l' n ≤ 9223372036854775807 := fun n => (addF_code _ _).1 (hn n)
    have hm' : Made (fun n => getV l n + getV l' n) r := ⟨hm.1, fun n => by rw [hm.2 n]; show (addF _ _).1 = _; rw [addF_val (hs n)]⟩
    rcases hr with ⟨_, e'⟩ | ⟨h8, e'⟩
    · rw [e'] at e; cases e
    · rw [e'] at e; cases e; exact ⟨hm', h8, hs⟩
theorem add_made {l l' r : V} (h : Gd l) (h' : Gd l') (hl : l.length ≤ 8) (hl' : l'.length ≤ 8) (hs : ∀ n, getV l n + getV l' n ≤ 9223372036854775807) (hr : Made (fun n => getV l n + getV l' n) r) (h8 : r.length ≤ 8) : mergedV addF l l' = (0, r) := by
  rcases merged_spec rk_add h h' hl hl' with ⟨⟨n, hn⟩, _⟩ | ⟨hn, q, hm, hq⟩
  · exact absurd ((addF_code _ _).2 (hs n)) hn
  · have e : q = r := Gd.ext hm.1 hr.1 fun n => by rw [hm.2 n, hr.2 n]; show (addF _ _).1 = _; rw [addF_val (hs n)]
    subst e
    rcases hq with ⟨h9, _⟩ | ⟨_, e⟩
    · omega
    · exact e
theorem add_comm' {l l' : V} (h : Gd l) (h' : Gd l') (hl : l.length ≤ 8) (hl' : l'.length ≤ 8) : mergedV addF l' l = mergedV addF l l' := by
  have hc : ∀ x y : Int, addF x y = addF y x := fun x y => by unfold addF; rw [Int.add_comm]
  rcases merged_spec rk_add h h' hl hl' with ⟨⟨n, hn⟩, e⟩ | ⟨hn, r, hm, hr⟩
  · rcases merged_spec rk_add h' h hl' hl with ⟨_, e'⟩ | ⟨hn', _⟩
    · rw [e, e']
    · exact absurd (by rw [hc]; exact hn' n) hn
  · rcases merged_spec rk_add h' h hl' hl with ⟨⟨n, hn'⟩, _⟩ | ⟨_, r', hm', hr'⟩
    · exact absurd (by rw [hc]; exact hn n) hn'
    · have e : r' = r := Gd.ext hm'.1 hm.1 fun n => by rw [hm'.2 n, hm.2 n]; show (addF _ _).1 = (addF _ _).1; rw [hc]
      subst e
      rcases hr with ⟨h1, e1⟩ | ⟨h1, e1⟩ <;> rcases hr' with ⟨h2, e2⟩ | ⟨h2, e2⟩
      · rw [e1, e2]
      · omega
      · omega
      · rw [e1, e2]

/-- Added, and taken away again. -/
theorem sub_add {a b x : V} (ha : Gd a) (hb : Gd b) (la : a.length ≤ 8) (lb : b.length ≤ 8) (e : mergedV addF a b = (0, x)) : mergedV subF x b = (0, a) := by
  obtain ⟨hx, lx, hs⟩ := sum_ok ha hb la lb e
  obtain ⟨r, er, hr, _⟩ := sub_made hx.1 hb lx lb (fun n => by rw [hx.2 n]; have := get_bd n ha; dsimp only; omega)
  rw [er, Gd.ext hr.1 ha (fun n => by rw [hr.2 n]; dsimp only; rw [hx.2 n]; dsimp only; omega)]
theorem fits_add {a b x : V} (ha : Gd a) (hb : Gd b) (la : a.length ≤ 8) (lb : b.length ≤ 8) (e : mergedV addF a b = (0, x)) : fitsFrom x a = true ∧ fitsFrom x b = true ∧ Gd x ∧ x.length ≤ 8 ∧ checkV x = 0 := by
  obtain ⟨hx, lx, hs⟩ := sum_ok ha hb la lb e
  refine ⟨(fits_iff ha hx.1).2 fun n => ?_, (fits_iff hb hx.1).2 fun n => ?_, hx.1, lx, good_check hx.1 lx⟩
  · rw [hx.2 n]; have := get_bd n hb; dsimp only; omega
  · rw [hx.2 n]; have := get_bd n ha; dsimp only; omega
/-- It is the same whichever is first. -/
theorem add_assoc' {a b c x p q : V} (ha : Gd a) (hb : Gd b) (hc : Gd c) (la : a.length ≤ 8) (lb : b.length ≤ 8) (lc : c.length ≤ 8)
    (ex : mergedV addF a b = (0, x)) (ep : mergedV addF x c = (0, p)) (eq : mergedV addF b c = (0, q)) : mergedV addF a q = (0, p) := by
  obtain ⟨hx, lx, hsx⟩ := sum_ok ha hb la lb ex
  obtain ⟨hp, lp, hsp⟩ := sum_ok hx.1 hc lx lc ep
  obtain ⟨hq, lq, hsq⟩ := sum_ok hb hc lb lc eq
  refine add_made ha hq.1 la lq (fun n => ?_) ⟨hp.1, fun n => ?_⟩ lp
  · rw [hq.2 n]; have := hsp n; rw [hx.2 n] at this; dsimp only at this ⊢; omega
  · rw [hp.2 n]; dsimp only; rw [hx.2 n, hq.2 n]; dsimp only; omega

end Go.Proofs.YtppbbgppooblfaaDoor.Vec

/- What the laws begin with. -/
namespace Go.Proofs.YtppbbgppooblfaaDoor.Vec
open Go.RowKit
set_option linter.unusedVariables false

theorem Reads.fine {v : Value} {l : V} {w : World} (h : Reads w v l) : Fine l := by
  obtain ⟨a, cap, rfl, h1, h2, h3⟩ := h
  exact h3.2.2.1
theorem ofR {v : Value} {l : V} {w : World} (h : Reads w v l) (hf : fewV l = true) :
    Calls Tryd.prog 7 #[v] w fun e w' => ∃ x, e = .returned x ∧ Reads w' x l ∧ Kept w w' := by
  obtain ⟨a, cap, rfl, h1, h2, h3⟩ := h
  unfold fewV at hf
  simp only [Bool.and_eq_true, decide_eq_true_eq] at hf
  exact of_any a _ cap l w h3 (by omega)

end Go.Proofs.YtppbbgppooblfaaDoor.Vec

/- What a law of vectors is told: its arguments, the library's variables. -/
namespace Go.Proofs.YtppbbgppooblfaaDoor.Vec
open Go.ChangeShapes Go.WideShapes Go.ChangeAt Go.RowKit Go.Deep
set_option linter.unusedVariables false

theorem cells2 : Tryd.prog.cellsOf 36 = 2 := by kernel_rfl
theorem cellsE : Tryd.prog.cellsOf 129 = 1 := by kernel_rfl
theorem cellsS : Tryd.prog.cellsOf 9 = 1 := by kernel_rfl
theorem cellsI : Tryd.prog.cellsOf 2 = 1 := by kernel_rfl

set_option maxRecDepth 100000 in
/-- One amount, read: a name and a number. -/
theorem amount_of_trod {H : Type} {enc : TypeId × Value → H} {w : World} {base fuel : Nat} {sp : Nat → Bool} {held : Bool} {cs : List Value} {x : DataW H × List MemPlace} (h : DataW.trod enc Tryd.prog w base sp held fuel 36 cs = some x) :
    ∃ (s : ByteArray) (n : Int), cs = [.string s, .int .i64 n] ∧ s.size ≤ maxLen ∧ -9223372036854775808 ≤ n ∧ n ≤ 9223372036854775807 := by
  obtain ⟨ys, m, -, -, hlen, hyl, hf⟩ := DataW.trod_struct Tryd.underlying36 h
  rw [cells2] at hlen
  match cs, hlen with
  | [c0, c1], _ =>
    have h0 : DataW.trod enc Tryd.prog w base sp held m 9 (([c0, c1].drop 0).take (Tryd.prog.cellsOf 9)) = ys[0]? := hf 0 _ rfl
    have h1 : DataW.trod enc Tryd.prog w base sp held m 2 (([c0, c1].drop 1).take (Tryd.prog.cellsOf 2)) = ys[1]? := hf 1 _ rfl
    rw [cellsS] at h0
    rw [cellsI] at h1
    obtain ⟨y0, e0⟩ : ∃ y, ys[0]? = some y := ⟨_, List.getElem?_eq_getElem (by rw [hyl]; decide)⟩
    obtain ⟨y1, e1⟩ : ∃ y, ys[1]? = some y := ⟨_, List.getElem?_eq_getElem (by rw [hyl]; decide)⟩
    rw [e0] at h0
    rw [e1] at h1
    obtain ⟨s, q0, -, hs⟩ := DataW.trod_string Tryd.underlying9 h0
    obtain ⟨n, q1, -, hn⟩ := DataW.trod_int Tryd.underlying2 h1
    simp only [List.drop_zero, List.take_succ_cons, List.take_zero, List.cons.injEq, and_true, List.drop_succ_cons] at q0 q1
    subst q0; subst q1
    have := bounds_i64 hn
    exact ⟨s, n, rfl, hs, this.1, this.2⟩

theorem nm_left {l m : V} {i : Nat} (h : i < l.length) : nm (l ++ m) i = nm l i ∧ qn (l ++ m) i = qn l i := by
  unfold nm qn
  simp [List.getD, List.getElem?_append_left h]
theorem nm_last (l : V) (s : ByteArray) (n : Int) : nm (l ++ [(s, n)]) l.length = s ∧ qn (l ++ [(s, n)]) l.length = n := by
  unfold nm qn
  simp [List.getD]

/-- A vector that came in. -/
theorem reads_of_trod {H : Type} {enc : TypeId × Value → H} {w : World} {base fuel : Nat} {sp : Nat → Bool} {held : Bool} {v : Value} {x : DataW H × List MemPlace} (h : DataW.trod enc Tryd.prog w base sp held fuel 23 [v] = some x) :
    ∃ l, Reads w v l := by
  rcases open_slice Tryd.underlying23 h with ⟨hcs, -⟩ | ⟨a, len, cap, m, n, D, Pl, hcs, hb, hl, hm, hmm, hx, hi⟩
  · cases hcs; exact ⟨[], Reads.nil w⟩
  · cases hcs
    have hlm : len ≤ m := by rw [hmm]; split <;> omega
    have key : ∀ k, k ≤ len → ∃ l : V, l.length = k ∧ ∀ i, i < k → ((nm l i).size ≤ maxLen ∧ -9223372036854775808 ≤ qn l i ∧ qn l i ≤ 9223372036854775807) ∧
        w.cell? ((a.add (i * 2)).add 0) = some (.string (nm l i)) ∧ w.cell? ((a.add (i * 2)).add 1) = some (.int .i64 (qn l i)) := by
      intro k
      induction k with
      | zero => exact fun _ => ⟨[], rfl, fun i hi => absurd hi (by omega)⟩
      | succ k ih =>
        intro hk
        obtain ⟨l, e, hall⟩ := ih (by omega)
        obtain ⟨cs', hc, ht'⟩ := hi k (by omega)
        obtain ⟨s, q, rfl, b1, b2, b3⟩ := amount_of_trod ht'
        rw [cells2] at hc
        obtain ⟨-, -, hat⟩ := World.cells?_some hc
        refine ⟨l ++ [(s, q)], by simp [e], fun i hi => ?_⟩
        by_cases e2 : i = k
        · subst e2
          subst e
          rw [(nm_last l s q).1, (nm_last l s q).2]
          exact ⟨⟨b1, b2, b3⟩, hat 0 (by decide), hat 1 (by decide)⟩
        · rw [(nm_left (by omega)).1, (nm_left (by omega)).2]
          exact hall i (by omega)
    obtain ⟨l, e, hall⟩ := key len (Nat.le_refl _)
    subst e
    refine ⟨l, _, cap, rfl, hl, hm, rfl, Nat.le_trans hl hm, fun i hi => (hall i hi).1, ?_⟩
    by_cases h0 : l.length = 0
    · exact .inl h0
    · obtain ⟨b, off, spot⟩ := a
      have hc := (hall 0 (by omega)).2.1
      have hspot : spot = none := by simpa [Addr.add] using World.cell?_spot hc
      subst hspot
      have hcell : ∀ i, i < l.length → w.cell? ⟨b, off + i * 2, none⟩ = some (.string (nm l i)) ∧ w.cell? ⟨b, off + i * 2 + 1, none⟩ = some (.int .i64 (qn l i)) := fun i hi => by
        have c := (hall i hi).2
        by_cases hi0 : i = 0
        · subst hi0; simpa [Addr.add] using c
        · have h2 : ¬ i * 2 = 0 := by omega
          simpa [Addr.add, h2] using c
      exact .inr ⟨b, off, rfl, World.block_lt_of_cell? _ _ (hcell 0 (by omega)).1, hcell⟩

theorem star : "*" ++ "errors.errorString" = "*errors.errorString" := by decide
theorem rowError (u : TypeId) (h : Tryd.prog.typeName? 3 u = some "*errors.errorString") : u = 127 :=
  typeName_ptr_named (nm := "errors.errorString") (by rw [star]; kernel_rfl) (by kernel_rfl) (by decide) u (by rw [star]; exact h)
theorem pow_data : (Rows.laid_internal_strconv_uint64pow10 : DataW Unit) = Lib.tabData .u64 Lib.pow10Tab := by kernel_rfl
theorem rangeName : Tryd.prog.globalNamed "strconv.ErrRange" = some 7 := by kernel_rfl
/-- What the row's list and the world's shape give a walk. -/
theorem env_of {W : World} (hL : laidMetH Tryd.prog Rows.resSumsRow.laid W) (hS : W.ShapedOpen Tryd.prog) : EnvT W := by
  rw [MakeChecks.laidMetH_plain _ _ _ (by kernel_rfl)] at hL
  have h3 : laidMet Tryd.prog (("internal/strconv.uint64pow10", Rows.laid_internal_strconv_uint64pow10) :: _) W := hL.tail.tail
  rw [pow_data] at h3
  refine ⟨⟨?_, ?_⟩, ?_⟩
  · exact cell_of_shapedOpen_int (zero := #[.int .i64 0]) (t := 3) hS (of_decide_eq_true (by kernel_rfl)) (by kernel_rfl) rfl (by kernel_rfl) (by kernel_rfl) Tryd.underlying3
  · have h5 : laidMet Tryd.prog (("strconv.ErrRange", Rows.laid_strconv_ErrRange) :: _) W := hL.tail.tail.tail.tail
    unfold Rows.laid_strconv_ErrRange at h5
    obtain ⟨a, s, hv, -⟩ := laid_sentinel h5 rangeName (by kernel_rfl) Tryd.underlying55 rowError Tryd.underlying127 Tryd.underlying129 rfl rfl Tryd.underlying9 cellsE cellsS
    exact ⟨_, by simpa using World.var?_cell rangeName hv 0, .inr ⟨_, _, rfl⟩⟩
  · exact Lib.tabIs_of_head tabName (by kernel_rfl) Tryd.underlying102 Tryd.underlying69 (by kernel_rfl) (by kernel_rfl) h3

end Go.Proofs.YtppbbgppooblfaaDoor.Vec
