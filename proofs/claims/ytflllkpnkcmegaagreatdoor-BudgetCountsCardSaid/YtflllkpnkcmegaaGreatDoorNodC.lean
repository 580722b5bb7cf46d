/- Package by package: contracts of the functions that the laws call. -/
import Derived.Test.YtflllkpnkcmegaaGreatDoorNodB
import Derived.Test.YtflllkpnkcmegaaGreatDoorResC

/- The nodes that the law knows, reckoned. -/
namespace Go.Proofs.YtflllkpnkcmegaaGreatDoor.Nk
open Go.RowKit
set_option linter.unusedVariables false

def n1 : ByteArray := ⟨#[110, 49]⟩
def n2 : ByteArray := ⟨#[110, 50]⟩
def bMem : ByteArray := ⟨#[109, 101, 109]⟩
def bCpu : ByteArray := ⟨#[99, 112, 117]⟩
def bZone : ByteArray := ⟨#[122, 111, 110, 101]⟩
def bA : ByteArray := ⟨#[97]⟩
def bGpu : ByteArray := ⟨#[103, 112, 117]⟩
def bYes : ByteArray := ⟨#[121, 101, 115]⟩
abbrev c1 : Vec.V := [(bCpu, 100), (bMem, 8)]
abbrev p1 : PL := [(bZone, bA)]
abbrev t1 : NL := [(bGpu, bYes, true)]
abbrev k1 : Nod := ⟨n1, c1, p1, t1, false⟩
abbrev k2 : Nod := ⟨n2, [], [], [], true⟩
theorem lt_list (s t : ByteArray) : ltS s t = Op.bytesLess s.data.toList t.data.toList := by unfold ltS; rw [Lib.toList_data, Lib.toList_data]
theorem eq_list (s t : ByteArray) : eqS s t = (s.data.toList == t.data.toList) := by unfold eqS; rw [Lib.toList_data, Lib.toList_data]
theorem m1 : isName n1 = true := by decide
theorem m2 : isName n2 = true := by decide
theorem mc : isName bCpu = true := by decide
theorem mm : isName bMem = true := by decide
theorem mz : isName bZone = true := by decide
theorem ma : isName bA = true := by decide
theorem mg : isName bGpu = true := by decide
theorem my : isName bYes = true := by decide
theorem l_mc : ltS bMem bCpu = false := by rw [lt_list]; rfl
theorem e_mc : eqS bMem bCpu = false := by rw [eq_list]; rfl
theorem chk_c : Vec.checkV c1 = 0 := by simp [Vec.checkV, Vec.checkFrom, mc, mm, Vec.behindB, leS, l_mc, e_mc]
theorem chk_p : chkS p1 = 0 := by simp [chkS, chkFrom, mz, ma, behindB]
theorem chk_t : chkA t1 = 0 := by simp [chkA, chkAF, mg, my]
theorem chk_0 : Vec.checkV [] = 0 := by simp [Vec.checkV, Vec.checkFrom]
theorem chk_0p : chkS [] = 0 := by simp [chkS, chkFrom]
theorem chk_0t : chkA [] = 0 := by simp [chkA, chkAF]
theorem chk1 : chkNod k1 = 0 := by unfold chkNod; rw [if_neg (by rw [m1]; decide), if_neg (by rw [chk_c]; decide), if_neg (by rw [chk_p]; decide), chk_t]
theorem chk2 : chkNod k2 = 0 := by unfold chkNod; rw [if_neg (by rw [m2]; decide), if_neg (by rw [chk_0]; decide), if_neg (by rw [chk_0p]; decide), chk_0t]
theorem pv1 : Vec.parseV [99, 112, 117, 61, 49, 48, 48, 44, 109, 101, 109, 61, 56] = (0, c1) := by
  have e : ((partsOf [99, 112, 117, 61, 49, 48, 48, 44, 109, 101, 109, 61, 56]).map Vec.amtOf).take 9 = c1 := by rfl
  unfold Vec.parseV Vec.parsedV
  rw [if_neg (by decide), if_neg (by decide), if_neg (by decide), e, if_neg (by rw [chk_c]; decide)]
theorem pv_ : Vec.parseV [45] = (0, []) := by unfold Vec.parseV; rw [if_pos rfl]
theorem pp_ : parsedP [45] = (0, []) := by unfold parsedP parsedG; rw [if_pos rfl]
theorem pa_ : parsedA [45] = (0, []) := by unfold parsedA parsedG; rw [if_pos rfl]
theorem pp1 : parsedP [122, 111, 110, 101, 58, 97] = (0, p1) := by
  have e : ((partsOf [122, 111, 110, 101, 58, 97]).map pairL).take 9 = p1 := by rfl
  unfold parsedP parsedG
  rw [if_neg (by decide), if_neg (by decide), e, if_neg (by rw [chk_p]; decide)]
theorem pa1 : parsedA [103, 112, 117, 58, 121, 101, 115, 33] = (0, t1) := by
  have e : ((partsOf [103, 112, 117, 58, 121, 101, 115, 33]).map readA).take 9 = t1 := by rfl
  unfold parsedA parsedG
  rw [if_neg (by decide), if_neg (by decide), e, if_neg (by rw [chk_t]; decide)]
theorem five_ok {a b c d e : List UInt8} {V : Vec.V} {P : PL} {A : NL} (h1 : Vec.parseV b = (0, V)) (h2 : parsedP c = (0, P)) (h3 : parsedA d = (0, A)) (h4 : chkNod ⟨bytes a, V, P, A, e == cordonL⟩ = 0) : fiveR a b c d e = (0, ⟨bytes a, V, P, A, e == cordonL⟩) := by
  unfold fiveR madeNod
  rw [h1, h2, h3, if_neg (fun h => h rfl), if_neg (fun h => h rfl), if_neg (fun h => h rfl), if_neg (by rw [h4]; decide)]
theorem five_of {s a b c d e : List UInt8} (h : wordsL s = some [a, b, c, d, e]) : parseN s = fiveR a b c d e := by unfold parseN; rw [h]
theorem w1 : wordsL [110, 49, 32, 99, 112, 117, 61, 49, 48, 48, 44, 109, 101, 109, 61, 56, 32, 122, 111, 110, 101, 58, 97, 32, 103, 112, 117, 58, 121, 101, 115, 33, 32, 117, 112] = some [[110, 49], [99, 112, 117, 61, 49, 48, 48, 44, 109, 101, 109, 61, 56], [122, 111, 110, 101, 58, 97], [103, 112, 117, 58, 121, 101, 115, 33], [117, 112]] := by rfl
theorem w2 : wordsL [110, 50, 32, 45, 32, 45, 32, 45, 32, 99, 111, 114, 100, 111, 110] = some [[110, 50], [45], [45], [45], [99, 111, 114, 100, 111, 110]] := by rfl
theorem w3 : wordsL [110, 49, 32, 45, 32, 45, 32, 45, 32, 100, 111, 119, 110] = none := by rfl
theorem w4 : wordsL [110, 49, 32, 99, 112, 117, 61, 48, 32, 45, 32, 45, 32, 117, 112] = some [[110, 49], [99, 112, 117, 61, 48], [45], [45], [117, 112]] := by rfl
theorem r1 : parseN [110, 49, 32, 99, 112, 117, 61, 49, 48, 48, 44, 109, 101, 109, 61, 56, 32, 122, 111, 110, 101, 58, 97, 32, 103, 112, 117, 58, 121, 101, 115, 33, 32, 117, 112] = (0, k1) := by rw [five_of w1]; exact five_ok pv1 pp1 pa1 chk1
theorem r2 : parseN [110, 50, 32, 45, 32, 45, 32, 45, 32, 99, 111, 114, 100, 111, 110] = (0, k2) := by rw [five_of w2]; exact five_ok pv_ pp_ pa_ chk2
end Go.Proofs.YtflllkpnkcmegaaGreatDoor.Nk
