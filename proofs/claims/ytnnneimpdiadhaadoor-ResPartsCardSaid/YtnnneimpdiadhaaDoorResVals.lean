/- Two vectors, reckoned. -/
import Derived.Test.YtnnneimpdiadhaaDoorResReads
namespace Go.Proofs.YtnnneimpdiadhaaDoor.Vec
open Go.RowKit
set_option linter.unusedVariables false

def cpu : ByteArray := ⟨#[99, 112, 117]⟩
def gpu : ByteArray := ⟨#[103, 112, 117]⟩
def mem : ByteArray := ⟨#[109, 101, 109]⟩
def kA : V := [(cpu, 100), (mem, 5)]
def kB : V := [(cpu, 40), (gpu, 1)]
def kS : V := [(cpu, 140), (gpu, 1), (mem, 5)]
def kT : V := [(cpu, 120), (gpu, 3)]
def kP : V := [(cpu, 10)]

theorem lt_list (s t : ByteArray) : ltS s t = Op.bytesLess s.data.toList t.data.toList := by unfold ltS; rw [Lib.toList_data, Lib.toList_data]
theorem eq_list (s t : ByteArray) : eqS s t = (s.data.toList == t.data.toList) := by unfold eqS; rw [Lib.toList_data, Lib.toList_data]
theorem e_cc : eqS cpu cpu = true := by rw [eq_list]; rfl
theorem e_cm : eqS cpu mem = false := by rw [eq_list]; rfl
theorem e_mc : eqS mem cpu = false := by rw [eq_list]; rfl
theorem e_gc : eqS gpu cpu = false := by rw [eq_list]; rfl
theorem e_cg : eqS cpu gpu = false := by rw [eq_list]; rfl
theorem e_gg : eqS gpu gpu = true := by rw [eq_list]; rfl
theorem e_mm : eqS mem mem = true := by rw [eq_list]; rfl
theorem e_mg : eqS mem gpu = false := by rw [eq_list]; rfl
theorem e_gm : eqS gpu mem = false := by rw [eq_list]; rfl
theorem l_cc : ltS cpu cpu = false := by rw [lt_list]; rfl
theorem l_mc : ltS mem cpu = false := by rw [lt_list]; rfl
theorem l_cm : ltS cpu mem = true := by rw [lt_list]; rfl
theorem l_gc : ltS gpu cpu = false := by rw [lt_list]; rfl
theorem l_cg : ltS cpu gpu = true := by rw [lt_list]; rfl
theorem l_gm : ltS gpu mem = true := by rw [lt_list]; rfl
theorem l_mg : ltS mem gpu = false := by rw [lt_list]; rfl
theorem n_c : isName cpu = true := by decide
theorem n_g : isName gpu = true := by decide
theorem n_m : isName mem = true := by decide
theorem k_check : checkV kA = 0 ∧ checkV kB = 0 ∧ checkV kS = 0 ∧ checkV [(mem, 1), (cpu, 1)] = 13 := by
  refine ⟨?_, ?_, ?_, ?_⟩ <;> simp [checkV, checkFrom, kA, kB, kS, n_c, n_g, n_m, behindB, leS, l_mc, l_gc, l_mg, e_mc, e_gc, e_mg, l_cm]
theorem kc1 : checkV [(cpu, 100), (mem, 5)] = 0 := k_check.1
theorem kc2 : checkV [(cpu, 40), (gpu, 1)] = 0 := k_check.2.1
theorem kc3 : checkV [(cpu, 140), (gpu, 1), (mem, 5)] = 0 := k_check.2.2.1
theorem k_add : mergedV addF kA kB = (0, kS) := by
  simp [mergedV, kc1, kc2, kA, kB, kS, mergeAcc, foremostV, takenV, plusV, addF, l_cc, l_gm, e_cc, e_gg, e_mm, e_mg]
theorem k_sub : mergedV subF kS kA = (0, kB) := by
  simp [mergedV, kc1, kc3, kA, kB, kS, mergeAcc, foremostV, takenV, plusV, subF, l_cc, l_mg, e_cc, e_gg, e_mm, e_mg]
theorem k_sub2 : mergedV subF kA kB = (5, []) := by
  simp [mergedV, kc1, kc2, kA, kB, mergeAcc, foremostV, takenV, plusV, subF, l_cc, l_gm, e_cc, e_gg, e_mm, e_mg]
theorem k_mul : eachV mulF 3 kB = (0, kT) := by
  simp [eachV, kc2, kB, kT, eachAcc, plusV, mulF]
theorem k_part : eachV partF 100 kA = (0, kP) := by
  simp [eachV, kc1, kA, kP, eachAcc, plusV, partF, parQ]
theorem k_fits : fitsFrom kS kB = true ∧ fitsFrom kB kS = false := by
  constructor <;> simp [fitsFrom, kS, kB, getV, e_cc, e_cg, e_gg, e_cm, e_gm, e_gc]
theorem k_same : sameFrom kB kB = true ∧ sameFrom kA kA = true := by
  constructor <;> simp [sameFrom, kB, kA, e_cc, e_gg, e_mm]
theorem k_get : getV kT cpu = 120 := by simp [getV, kT, e_cc]
theorem i_140 : Lib.itoa 140 = [49, 52, 48] := by simp [Lib.itoa, Lib.decDigits]
theorem i_10 : Lib.itoa 10 = [49, 48] := by simp [Lib.itoa, Lib.decDigits]
theorem i_1 : Lib.itoa 1 = [49] := by simp [Lib.itoa, Lib.decDigits]
theorem i_5 : Lib.itoa 5 = [53] := by simp [Lib.itoa, Lib.decDigits]
theorem k_text : textV kS = [99, 112, 117, 61, 49, 52, 48, 44, 103, 112, 117, 61, 49, 44, 109, 101, 109, 61, 53] ∧ textV kP = [99, 112, 117, 61, 49, 48] := by
  constructor <;> simp [textV, joinFrom, kS, kP, i_140, i_10, i_1, i_5, cpu, gpu, mem]
theorem k_few : fewV kS = true ∧ fewV kP = true := by decide
theorem k_parse : parseV [99, 112, 117, 61, 49, 48, 48, 44, 109, 101, 109, 61, 53] = (0, kA) := by
  have e : ((partsOf [99, 112, 117, 61, 49, 48, 48, 44, 109, 101, 109, 61, 53]).map amtOf).take 9 = kA := by rfl
  unfold parseV parsedV
  rw [if_neg (by decide), if_neg (by decide), if_neg (by decide), e, if_neg (by rw [k_check.1]; decide)]
theorem k_parse1 : parseV [99, 112, 117, 61, 48, 49] = (2, []) := by
  unfold parseV parsedV
  rw [if_neg (by decide), if_pos (by decide)]
theorem k_parse2 : parseV [109, 101, 109, 61, 49, 44, 99, 112, 117, 61, 49] = (13, []) := by
  have e : ((partsOf [109, 101, 109, 61, 49, 44, 99, 112, 117, 61, 49]).map amtOf).take 9 = [(mem, 1), (cpu, 1)] := by rfl
  unfold parseV parsedV
  rw [if_neg (by decide), if_neg (by decide), if_neg (by decide), e, if_pos (by rw [k_check.2.2.2]; decide), k_check.2.2.2]

end Go.Proofs.YtnnneimpdiadhaaDoor.Vec
