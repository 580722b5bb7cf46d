/- The pods that the laws know, reckoned. -/
import Derived.Test.YtflllkpnkcmegaaGreatDoorPodTold
import Derived.Test.YtflllkpnkcmegaaGreatDoorPodChk
import Derived.Test.YtflllkpnkcmegaaGreatDoorPodCmp
import Derived.Test.YtflllkpnkcmegaaGreatDoorPodEq
import Derived.Test.YtflllkpnkcmegaaGreatDoorPodParse
namespace Go.Proofs.YtflllkpnkcmegaaGreatDoor.Pk
open Go.RowKit
set_option linter.unusedVariables false

def bP : ByteArray := ⟨#[112, 49]⟩
def bWeb : ByteArray := ⟨#[119, 101, 98]⟩
def bCpu : ByteArray := ⟨#[99, 112, 117]⟩
def bApp : ByteArray := ⟨#[97, 112, 112]⟩
def bZone : ByteArray := ⟨#[122, 111, 110, 101]⟩
def bA : ByteArray := ⟨#[97]⟩
def bGpu : ByteArray := ⟨#[103, 112, 117]⟩
def bN : ByteArray := ⟨#[110, 49]⟩
def bH : ByteArray := ⟨#[104, 111, 108, 100, 48]⟩
def kT1 : ByteArray := ⟨#[112, 49, 32, 119, 101, 98, 32, 49, 48, 32, 99, 112, 117, 61, 53, 32, 97, 112, 112, 58, 119, 101, 98, 32, 122, 111, 110, 101, 58, 97, 32, 103, 112, 117, 32, 122, 111, 110, 101, 47, 50, 32, 110, 49, 32, 114, 101, 97, 108]⟩
def kT2 : ByteArray := ⟨#[104, 111, 108, 100, 48, 32, 45, 32, 45, 49, 32, 99, 112, 117, 61, 53, 32, 45, 32, 45, 32, 45, 32, 45, 32, 110, 49, 32, 104, 111, 108, 100]⟩
abbrev bE : ByteArray := ByteArray.empty
abbrev c1 : Vec.V := [(bCpu, 5)]
abbrev p1 : PL := [(bApp, bWeb)]
abbrev s1 : TL := [(1, bZone, bA)]
abbrev t1 : NL := [(bGpu, bE, true)]
abbrev k1 : Pd := ⟨bP, bWeb, 10, c1, p1, s1, t1, bZone, 2, bN, false⟩
abbrev k2 : Pd := ⟨bH, bE, -1, c1, [], [], [], bE, 0, bN, true⟩
abbrev k4 : Pd := ⟨bP, bE, -1, [], [], [], [], bE, 0, bN, false⟩
abbrev k5 : Pd := ⟨bP, bE, 1, [], [], [], [], bZone, 0, bN, false⟩
theorem lt_list (s t : ByteArray) : ltS s t = Op.bytesLess s.data.toList t.data.toList := by unfold ltS; rw [Lib.toList_data, Lib.toList_data]
theorem eq_list (s t : ByteArray) : eqS s t = (s.data.toList == t.data.toList) := by unfold eqS; rw [Lib.toList_data, Lib.toList_data]
theorem no_list (s : ByteArray) : isNo s = (s.data.toList == []) := by unfold isNo; rw [eq_list]; rfl
theorem m_bP : isName bP = true := by decide
theorem m_bWeb : isName bWeb = true := by decide
theorem o_bWeb : isNo bWeb = false := by rw [no_list]; rfl
theorem m_bCpu : isName bCpu = true := by decide
theorem m_bApp : isName bApp = true := by decide
theorem m_bZone : isName bZone = true := by decide
theorem o_bZone : isNo bZone = false := by rw [no_list]; rfl
theorem m_bA : isName bA = true := by decide
theorem m_bGpu : isName bGpu = true := by decide
theorem o_bGpu : isNo bGpu = false := by rw [no_list]; rfl
theorem m_bN : isName bN = true := by decide
theorem o_bN : isNo bN = false := by rw [no_list]; rfl
theorem m_bH : isName bH = true := by decide
theorem o_E : isNo bE = true := by rw [no_list]; rfl
theorem or_E : nameOr bE = true := by unfold nameOr; rw [o_E]; rfl
theorem or_web : nameOr bWeb = true := by unfold nameOr; rw [m_bWeb]; simp
theorem or_zone : nameOr bZone = true := by unfold nameOr; rw [m_bZone]; simp
theorem or_n : nameOr bN = true := by unfold nameOr; rw [m_bN]; simp
theorem chk_c : Vec.checkV c1 = 0 := by simp [Vec.checkV, Vec.checkFrom, m_bCpu, Vec.behindB]
theorem chk_p : chkS p1 = 0 := by simp [chkS, chkFrom, m_bApp, m_bWeb, behindB]
theorem chk_s : chkL s1 = 0 := by simp [chkL, chkLF, chkT, m_bZone, m_bA]
theorem chk_t : chkO t1 = 0 := by simp [chkO, namedN, m_bGpu, o_E]
theorem chk_0 : Vec.checkV [] = 0 := by simp [Vec.checkV, Vec.checkFrom]
theorem chk_0p : chkS [] = 0 := by simp [chkS, chkFrom]
theorem chk_0s : chkL [] = 0 := by simp [chkL, chkLF]
theorem chk_0t : chkO [] = 0 := by simp [chkO]
theorem n_ok {x y : ByteArray} (h : isName x = true) (g : nameOr y = true) : chkNames x y = 0 := by unfold chkNames; rw [if_pos ⟨h, g⟩]
theorem d_ok {x : ByteArray} (h : nameOr x = true) : chkNode x = 0 := by unfold chkNode; rw [if_pos h]
theorem sp1 : chkSpread bZone 2 = 0 := by unfold chkSpread spreadBad; rw [or_zone, o_bZone]; decide
theorem sp0 : chkSpread bE 0 = 0 := by unfold chkSpread spreadBad; rw [or_E, o_E]; decide
theorem sp5 : chkSpread bZone 0 = 1 := by unfold chkSpread spreadBad; rw [or_zone, o_bZone]; decide
theorem chk1 : chkPod k1 = 0 := by
  unfold chkPod chkList
  dsimp only
  rw [n_ok m_bP or_web, chk_c, chk_p, chk_s, chk_t, sp1, d_ok or_n]; decide
theorem chk2 : chkPod k2 = 0 := by
  unfold chkPod chkList
  dsimp only
  rw [n_ok m_bH or_E, chk_c, chk_0p, chk_0s, chk_0t, sp0, d_ok or_n]; decide
theorem chk4 : chkPod k4 = 1 := by
  unfold chkPod chkList
  dsimp only
  rw [n_ok m_bP or_E]; decide
theorem chk5 : chkPod k5 = 1 := by
  unfold chkPod chkList
  dsimp only
  rw [n_ok m_bP or_E, chk_0, chk_0p, chk_0s, chk_0t, sp5, d_ok or_n]; decide
theorem i_10 : Lib.itoa 10 = [49, 48] := by simp [Lib.itoa, Lib.decDigits]
theorem i_m : Lib.itoa (-1) = [45, 49] := by simp [Lib.itoa, Lib.decDigits]
theorem i_2 : Lib.itoa 2 = [50] := by simp [Lib.itoa, Lib.decDigits]
theorem i_5 : Lib.itoa 5 = [53] := by simp [Lib.itoa, Lib.decDigits]
theorem tv1 : Vec.textV c1 = [99, 112, 117, 61, 53] := by simp [Vec.textV, Vec.joinFrom, i_5, bCpu]
theorem tp1 : textS p1 = ⟨#[97, 112, 112, 58, 119, 101, 98]⟩ := by
  unfold textS
  rw [if_neg (by simp)]
  apply Go.WideShapes.bytes_inj
  simp [joinB, pairB, Lib.join, List.intercalate, bApp, bWeb]
theorem ts1 : textL s1 = ⟨#[122, 111, 110, 101, 58, 97]⟩ := by
  unfold textL
  rw [if_neg (by simp)]
  apply Go.WideShapes.bytes_inj
  simp [joinB, termB, Lib.join, List.intercalate, bZone, bA]
theorem tt1 : textO t1 = ⟨#[103, 112, 117]⟩ := by
  have e : starB bGpu = bGpu := by unfold starB; rw [if_neg (by rw [o_bGpu]; decide)]
  have e2 : tolB (bGpu, bE, true) = bGpu := by unfold tolB; rw [if_pos rfl]; exact e
  unfold textO
  rw [if_neg (by simp)]
  show joinB [tolB (bGpu, bE, true)] = _
  rw [e2]
  apply Go.WideShapes.bytes_inj
  simp [joinB, Lib.join, List.intercalate, bGpu]
theorem op_web : optT bWeb = bWeb := by unfold optT; rw [if_neg (by rw [o_bWeb]; decide)]
theorem op_n : optT bN = bN := by unfold optT; rw [if_neg (by rw [o_bN]; decide)]
theorem op_E : optT bE = ⟨#[45]⟩ := by unfold optT; rw [if_pos o_E]
theorem st1 : spreadT bZone 2 = ⟨#[122, 111, 110, 101, 47, 50]⟩ := by
  unfold spreadT
  rw [if_neg (by rw [o_bZone]; decide), i_2]
  apply Go.WideShapes.bytes_inj
  simp [bZone, bytes]
theorem st0 : spreadT bE 0 = ⟨#[45]⟩ := by unfold spreadT; rw [if_pos o_E]
theorem text1 : textPd k1 = kT1 := by
  unfold textPd wordsT
  dsimp only
  rw [op_web, op_n, i_10, tv1, tp1, ts1, tt1, st1]
  rfl
theorem text2 : textPd k2 = kT2 := by
  unfold textPd wordsT
  dsimp only
  rw [op_E, op_n, i_m, tv1, st0]
  rfl
theorem fine_c : Vec.Fine c1 := by
  intro i hi
  match i, hi with
  | 0, _ => exact ⟨(by decide : bCpu.size ≤ maxLen), by decide, by decide⟩
theorem few1 : fewPd k1 = true := by decide
theorem few2 : fewPd k2 = true := by decide
theorem says1 : Says [112, 49, 32, 119, 101, 98, 32, 49, 48, 32, 99, 112, 117, 61, 53, 32, 97, 112, 112, 58, 119, 101, 98, 32, 122, 111, 110, 101, 58, 97, 32, 103, 112, 117, 32, 122, 111, 110, 101, 47, 50, 32, 110, 49, 32, 114, 101, 97, 108] k1 := by
  have h := textPd_says chk1 fine_c
  rw [text1] at h
  exact h
theorem says2 : Says [104, 111, 108, 100, 48, 32, 45, 32, 45, 49, 32, 99, 112, 117, 61, 53, 32, 45, 32, 45, 32, 45, 32, 45, 32, 110, 49, 32, 104, 111, 108, 100] k2 := by
  have h := textPd_says chk2 fine_c
  rw [text2] at h
  exact h
theorem pv_ : Vec.parseV [45] = (0, []) := by unfold Vec.parseV; rw [if_pos rfl]
theorem pp_ : parsedP [45] = (0, []) := by unfold parsedP parsedG; rw [if_pos rfl]
theorem ps_ : parsedT [45] = (0, []) := by unfold parsedT parsedG; rw [if_pos rfl]
theorem po_ : parsedO [45] = (0, []) := by unfold parsedO parsedG; rw [if_pos rfl]
theorem says4 : Says [112, 49, 32, 45, 32, 45, 49, 32, 45, 32, 45, 32, 45, 32, 45, 32, 45, 32, 110, 49, 32, 114, 101, 97, 108] k4 := ⟨_, _, _, _, _, _, _, _, _, _, rfl, rfl, rfl, rfl, pv_, pp_, ps_, po_, rfl, rfl, rfl⟩
theorem pr1 : prioL [49] = some 1 := by decide
theorem cut0 : Lib.cut [122, 111, 110, 101, 47, 48] [47] = ([122, 111, 110, 101], [48], true) := cut_mid (c := 47) (x := [122, 111, 110, 101]) [48] (by decide)
theorem num0 : numL [48] = some 0 := by decide
theorem spr0 : spreadL [122, 111, 110, 101, 47, 48] = some (bZone, 0) := by
  unfold spreadL
  rw [if_neg (by decide), cut0, if_neg (by decide), num0]
  rfl
theorem says5 : Says [112, 49, 32, 45, 32, 49, 32, 45, 32, 45, 32, 45, 32, 45, 32, 122, 111, 110, 101, 47, 48, 32, 110, 49, 32, 114, 101, 97, 108] k5 := ⟨_, _, _, _, _, _, _, _, _, _, rfl, rfl, rfl, pr1, pv_, pp_, ps_, po_, spr0, rfl, rfl⟩
theorem parts3 : partsAt 32 [112, 49, 32, 45, 32, 49, 32, 45, 32, 45, 32, 45, 32, 45, 32, 122, 111, 110, 101, 32, 110, 49, 32, 114, 101, 97, 108] = [[112, 49], [45], [49], [45], [45], [45], [45], [122, 111, 110, 101], [110, 49], [114, 101, 97, 108]] := by rfl
theorem cut3 : Lib.cut [122, 111, 110, 101] [47] = ([122, 111, 110, 101], [], false) := cut_none (by decide)
theorem cmp12 : cmpPd k1 k2 = -1 := by decide
theorem cmp11 : cmpPd k1 k1 = 0 := by
  unfold cmpPd cmpI cmpS
  rw [if_neg (by decide)]
  rw [show ltS bP bP = false by rw [lt_list]; rfl, show eqS bP bP = true by rw [eq_list]; rfl]
  rfl
theorem e_hp : eqS bH bP = false := by rw [eq_list]; rfl
theorem e_pp : eqS bP bP = true := by rw [eq_list]; rfl
theorem e_ph : eqS bP bH = false := by rw [eq_list]; rfl
theorem le_ph : leS bP bH = false := by unfold leS; rw [lt_list, eq_list]; rfl
theorem all21 : chkAllP [k2, k1] = 0 := by unfold chkAllP; rw [if_neg (by simp), chkP_next chk2 (show Vec.behindB none bH = false from rfl), chkP_next chk1 (show Vec.behindB (some bH) bP = false from le_ph)]; rfl
theorem find1 : findP [k2, k1] bP = some k1 := by unfold findP; rw [List.find?_cons, e_hp, List.find?_cons, e_pp]
theorem f1a : (findP [k2, k1] bP).getD Pd.zero = k1 := by rw [find1]; rfl
theorem f1b : (findP [k2, k1] bP).isSome = true := by rw [find1]; rfl
theorem same12 : samePd k1 k2 = false := by unfold samePd; rw [e_ph]; rfl
theorem low1 : LowPd k1 := ⟨by decide, by decide, by decide, by decide⟩
theorem low2 : LowPd k2 := ⟨by decide, by decide, by decide, by decide⟩
theorem lows : ∀ n ∈ [k2, k1], LowPd n := by
  intro n hn
  simp only [List.mem_cons, List.not_mem_nil, or_false] at hn
  rcases hn with rfl | rfl
  · exact low2
  · exact low1

end Go.Proofs.YtflllkpnkcmegaaGreatDoor.Pk
