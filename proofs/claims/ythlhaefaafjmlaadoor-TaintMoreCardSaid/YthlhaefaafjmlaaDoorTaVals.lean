/- Taints and tolerations, reckoned. -/
import Derived.Test.YthlhaefaafjmlaaDoorTaReads
namespace Go.Proofs.YthlhaefaafjmlaaDoor
open Go.RowKit
set_option linter.unusedVariables false

def bGpu : ByteArray := ⟨#[103, 112, 117]⟩
def bYes : ByteArray := ⟨#[121, 101, 115]⟩
def bOld : ByteArray := ⟨#[111, 108, 100]⟩
def bMaybe : ByteArray := ⟨#[109, 97, 121, 98, 101]⟩
def bA : ByteArray := ⟨#[97]⟩
def bB : ByteArray := ⟨#[98]⟩
def bNo : ByteArray := ⟨#[]⟩
def kA : NL := [(bGpu, bYes, true), (bOld, bYes, false)]
def kO : NL := [(bOld, bNo, true), (bNo, bMaybe, false)]
def kAll : NL := [(bNo, bNo, true)]
def kTextA : ByteArray := ⟨#[103, 112, 117, 58, 121, 101, 115, 33, 44, 111, 108, 100, 58, 121, 101, 115]⟩
def kTextO : ByteArray := ⟨#[111, 108, 100, 44, 42, 58, 109, 97, 121, 98, 101]⟩

theorem eq_list (s t : ByteArray) : eqS s t = (s.data.toList == t.data.toList) := by unfold eqS; rw [Lib.toList_data, Lib.toList_data]
theorem no_list (s : ByteArray) : isNo s = (s.data.toList == []) := by unfold isNo; rw [eq_list]; rfl
theorem n_gpu : isName bGpu = true := by decide
theorem n_yes : isName bYes = true := by decide
theorem n_old : isName bOld = true := by decide
theorem n_maybe : isName bMaybe = true := by decide
theorem n_a : isName bA = true := by decide
theorem n_b : isName bB = true := by decide
theorem o_no : isNo bNo = true := by rw [no_list]; rfl
theorem o_old : isNo bOld = false := by rw [no_list]; rfl
theorem e_og : eqS bOld bGpu = false := by rw [eq_list]; rfl
theorem e_go : eqS bGpu bOld = false := by rw [eq_list]; rfl
theorem e_oo : eqS bOld bOld = true := by rw [eq_list]; rfl
theorem e_my : eqS bMaybe bYes = false := by rw [eq_list]; rfl
theorem e_aa : eqS bA bA = true := by rw [eq_list]; rfl
theorem e_bb : eqS bB bB = true := by rw [eq_list]; rfl

theorem k_bear0 : bearsN kO (bGpu, bYes, true) = false := by simp [bearsN, kO, bearN, o_old, o_no, e_og, e_my]
theorem k_bear1 : bearsN kO (bOld, bYes, false) = true := by simp [bearsN, kO, bearN, o_old, o_no, e_oo]
theorem k_bear2 (t : NT) : bearsN kAll t = true := by simp [bearsN, kAll, bearN, o_no]
theorem k_worst : worstN kO kA = some (bGpu, bYes, true) := by rw [kA, worst_cons, k_bear0]; rfl
theorem k_worst2 : worstN kAll kA = none := by rw [kA, worst_cons, worst_cons, k_bear2, k_bear2]; rfl
theorem k_w1 : wT (worstN kO kA) = (bGpu, bYes, true) := by rw [k_worst]; rfl
theorem k_w2 : (worstN kO kA).isSome = true := by rw [k_worst]; rfl
theorem k_w3 : wT (worstN kAll kA) = (bNo, bNo, false) := by rw [k_worst2]; rfl
theorem k_w4 : (worstN kAll kA).isSome = false := by rw [k_worst2]; rfl
theorem k_soft : softN kO kA = 0 := by rw [kA, soft_cons, soft_cons, k_bear0, k_bear1]; rfl
theorem k_soft2 : softN [] kA = 1 := by rw [kA, soft_cons, soft_cons]; rfl
theorem k_chkA : chkA kA = 0 := by
  simp [chkA, kA, chkAF, n_gpu, n_yes, n_old, twinN, e_go]
theorem k_chkA2 : chkA [(bA, bB, false), (bA, bB, true)] = 6 := by
  simp [chkA, chkAF, n_a, n_b, twinN, e_aa, e_bb]
theorem k_chkO : chkO kO = 0 := by
  simp [chkO, kO, namedN, n_old, n_maybe, o_no, o_old]
theorem k_textA : textA kA = kTextA := by
  unfold textA
  rw [if_neg (by simp [kA])]
  apply Go.WideShapes.bytes_inj
  simp [joinB, kA, taintB, kTextA, Lib.join, List.intercalate, bGpu, bYes, bOld]
theorem k_textO : textO kO = kTextO := by
  have h1 : starB ⟨#[111, 108, 100]⟩ = ⟨#[111, 108, 100]⟩ := by unfold starB; rw [show isNo ⟨#[111, 108, 100]⟩ = false from o_old]; rfl
  have h2 : starB bNo = ⟨#[42]⟩ := by unfold starB; rw [o_no]; rfl
  unfold textO
  rw [if_neg (by simp [kO])]
  apply Go.WideShapes.bytes_inj
  simp [joinB, kO, tolB, h1, h2, kTextO, Lib.join, List.intercalate, bOld, bMaybe]
theorem k_parseA : parsedA [103, 112, 117, 58, 121, 101, 115, 33, 44, 111, 108, 100, 58, 121, 101, 115] = (0, kA) := by
  have e : ((partsOf [103, 112, 117, 58, 121, 101, 115, 33, 44, 111, 108, 100, 58, 121, 101, 115]).map readA).take 9 = kA := by rfl
  unfold parsedA parsedG
  rw [if_neg (by decide), if_neg (by decide), e, if_neg (by rw [k_chkA]; decide)]
theorem k_parseO : parsedO [111, 108, 100, 44, 42, 58, 109, 97, 121, 98, 101] = (0, kO) := by
  have e : ((partsOf [111, 108, 100, 44, 42, 58, 109, 97, 121, 98, 101]).map readO).take 9 = kO := by rfl
  unfold parsedO parsedG
  rw [if_neg (by decide), if_neg (by decide), e, if_neg (by rw [k_chkO]; decide)]
theorem k_parseA2 : parsedA [103, 112, 117] = (2, []) := by
  unfold parsedA parsedG
  rw [if_neg (by decide), if_pos (by decide)]
theorem k_parseA3 : parsedA [97, 58, 98, 44, 97, 58, 98, 33] = (6, []) := by
  have e : ((partsOf [97, 58, 98, 44, 97, 58, 98, 33]).map readA).take 9 = [(bA, bB, false), (bA, bB, true)] := by rfl
  unfold parsedA parsedG
  rw [if_neg (by decide), if_neg (by decide), e, if_pos (by rw [k_chkA2]; decide), k_chkA2]
theorem k_parseO2 : parsedO [97, 58, 98, 58, 99] = (2, []) := by
  unfold parsedO parsedG
  rw [if_neg (by decide), if_pos (by decide)]

end Go.Proofs.YthlhaefaafjmlaaDoor
