/- Labels and a selector, reckoned. -/
import Derived.Test.YtmmjcomoabfmnaaDoorLabReads
namespace Go.Proofs.YtmmjcomoabfmnaaDoor
open Go.RowKit
set_option linter.unusedVariables false

def bApp : ByteArray := ⟨#[97, 112, 112]⟩
def bWeb : ByteArray := ⟨#[119, 101, 98]⟩
def bZone : ByteArray := ⟨#[122, 111, 110, 101]⟩
def bA : ByteArray := ⟨#[97]⟩
def bB : ByteArray := ⟨#[98]⟩
def bGpu : ByteArray := ⟨#[103, 112, 117]⟩
def bX : ByteArray := ⟨#[120]⟩
def bNo : ByteArray := ⟨#[]⟩
def kS : PL := [(bApp, bWeb), (bZone, bA)]
def kL : TL := [(1, bApp, bWeb), (2, bZone, bB), (3, bApp, bNo), (4, bGpu, bNo)]
def kB : TL := [(1, bZone, bB)]
def kText : ByteArray := ⟨#[97, 112, 112, 58, 119, 101, 98, 44, 122, 111, 110, 101, 58, 97]⟩
def kSelText : ByteArray := ⟨#[97, 112, 112, 58, 119, 101, 98, 44, 122, 111, 110, 101, 33, 98, 44, 97, 112, 112, 44, 45, 103, 112, 117]⟩

theorem lt_list (s t : ByteArray) : ltS s t = Op.bytesLess s.data.toList t.data.toList := by unfold ltS; rw [Lib.toList_data, Lib.toList_data]
theorem eq_list (s t : ByteArray) : eqS s t = (s.data.toList == t.data.toList) := by unfold eqS; rw [Lib.toList_data, Lib.toList_data]
theorem n_app : isName bApp = true := by decide
theorem n_web : isName bWeb = true := by decide
theorem n_zone : isName bZone = true := by decide
theorem n_a : isName bA = true := by decide
theorem n_b : isName bB = true := by decide
theorem n_gpu : isName bGpu = true := by decide
theorem l_za : leS bZone bApp = false := by unfold leS; rw [lt_list, eq_list]; rfl
theorem l_az : leS bApp bZone = true := by unfold leS; rw [lt_list, eq_list]; rfl
theorem e_no : eqS bNo ByteArray.empty = true := by rw [eq_list]; rfl
theorem e_az : eqS bApp bZone = false := by rw [eq_list]; rfl
theorem e_aa : eqS bApp bApp = true := by rw [eq_list]; rfl
theorem e_zz : eqS bZone bZone = true := by rw [eq_list]; rfl
theorem e_ax : eqS bApp bX = false := by rw [eq_list]; rfl
theorem e_zx : eqS bZone bX = false := by rw [eq_list]; rfl
theorem e_za : eqS bZone bApp = false := by rw [eq_list]; rfl
theorem e_ag : eqS bApp bGpu = false := by rw [eq_list]; rfl
theorem e_zg : eqS bZone bGpu = false := by rw [eq_list]; rfl
theorem e_ww : eqS bWeb bWeb = true := by rw [eq_list]; rfl
theorem e_ab : eqS bA bB = false := by rw [eq_list]; rfl

theorem k_chk : chkS [(bApp, bWeb), (bZone, bA)] = 0 := by simp [chkS, chkFrom, n_app, n_web, n_zone, n_a, behindB, l_za]
theorem k_chk2 : chkS [(bZone, bA), (bApp, bWeb)] = 13 := by simp [chkS, chkFrom, n_app, n_web, n_zone, n_a, behindB, l_az]
theorem k_chkL : chkL [(1, bApp, bWeb), (2, bZone, bB), (3, bApp, bNo), (4, bGpu, bNo)] = 0 := by simp [chkL, chkLF, chkT, n_app, n_web, n_zone, n_b, n_gpu, e_no]
theorem g_z : getS kS bZone = some bA := by simp [kS, getS, e_az, e_zz]
theorem g_x : getS kS bX = none := by simp [kS, getS, e_ax, e_zx]
theorem g_a : getS kS bApp = some bWeb := by simp [kS, getS, e_aa]
theorem g_g : getS kS bGpu = none := by simp [kS, getS, e_ag, e_zg]
theorem k_match : matchT kL kS = true := by simp [matchT, kL, holdsT, hasS, getT, g_a, g_z, g_g, e_ww, e_ab]
theorem k_match2 : matchT kB kS = false := by simp [matchT, kB, holdsT, hasS, getT, g_z, e_ab]
theorem k_text : textS kS = kText := by
  unfold textS
  rw [if_neg (by simp [kS])]
  apply Go.WideShapes.bytes_inj
  simp [joinB, kS, pairB, kText, Lib.join, List.intercalate, bApp, bWeb, bZone, bA]
theorem k_selText : textL kL = kSelText := by
  unfold textL
  rw [if_neg (by simp [kL])]
  apply Go.WideShapes.bytes_inj
  simp [joinB, kL, termB, kSelText, Lib.join, List.intercalate, bApp, bWeb, bZone, bB, bGpu, bNo]
theorem k_parse : parsedP [97, 112, 112, 58, 119, 101, 98, 44, 122, 111, 110, 101, 58, 97] = (0, kS) := by
  have e : ((partsOf [97, 112, 112, 58, 119, 101, 98, 44, 122, 111, 110, 101, 58, 97]).map pairL).take 9 = [(bApp, bWeb), (bZone, bA)] := by rfl
  unfold parsedP parsedG
  rw [if_neg (by decide), if_neg (by decide), e, if_neg (by rw [k_chk]; decide)]; rfl
theorem k_parseSel : parsedT [97, 112, 112, 58, 119, 101, 98, 44, 122, 111, 110, 101, 33, 98, 44, 97, 112, 112, 44, 45, 103, 112, 117] = (0, kL) := by
  have e : ((partsOf [97, 112, 112, 58, 119, 101, 98, 44, 122, 111, 110, 101, 33, 98, 44, 97, 112, 112, 44, 45, 103, 112, 117]).map termL).take 9 = [(1, bApp, bWeb), (2, bZone, bB), (3, bApp, bNo), (4, bGpu, bNo)] := by rfl
  unfold parsedT parsedG
  rw [if_neg (by decide), if_neg (by decide), e, if_neg (by rw [k_chkL]; decide)]; rfl
theorem k_parse2 : parsedP [97, 112, 112] = (2, []) := by
  unfold parsedP parsedG
  rw [if_neg (by decide), if_pos (by decide)]
theorem k_parseSel2 : parsedT [45, 97, 58, 98] = (2, []) := by
  unfold parsedT parsedG
  rw [if_neg (by decide), if_pos (by decide)]
theorem k_parse3 : parsedP [122, 111, 110, 101, 58, 97, 44, 97, 112, 112, 58, 119, 101, 98] = (13, []) := by
  have e : ((partsOf [122, 111, 110, 101, 58, 97, 44, 97, 112, 112, 58, 119, 101, 98]).map pairL).take 9 = [(bZone, bA), (bApp, bWeb)] := by rfl
  unfold parsedP parsedG
  rw [if_neg (by decide), if_neg (by decide), e, if_pos (by rw [k_chk2]; decide), k_chk2]

end Go.Proofs.YtmmjcomoabfmnaaDoor
