/- The pods that the laws know, reckoned. -/
import Derived.Test.YtflllkpnkcmegaaGreatDoorPodTold
import Derived.Test.YtflllkpnkcmegaaGreatDoorPodChk
import Derived.Test.YtflllkpnkcmegaaGreatDoorPodCmp
import Derived.Test.YtflllkpnkcmegaaGreatDoorPodEq
import Derived.Test.YtflllkpnkcmegaaGreatDoorPodParse
namespace Go.Proofs.YtflllkpnkcmegaaGreatDoor.Pk
open Go.RowKit
set_option linter.unusedVariables false

def bP : ByteArray := ⟨#[112, 49]⟩
def bWeb : ByteArray := ⟨#[119, 101, 98]⟩
def bCpu : ByteArray := ⟨#[99, 112, 117]⟩
def bApp : ByteArray := ⟨#[97, 112, 112]⟩
def bZone : ByteArray := ⟨#[122, 111, 110, 101]⟩
def bA : ByteArray := ⟨#[97]⟩
def bGpu : ByteArray := ⟨#[103, 112, 117]⟩
def bN : ByteArray := ⟨#[110, 49]⟩
def bH : ByteArray := ⟨#[104, 111, 108, 100, 48]⟩
def kT1 : ByteArray := ⟨#[112, 49, 32, 119, 101, 98, 32, 49, 48, 32, 99, 112, 117, 61, 53, 32, 97, 112, 112, 58, 119, 101, 98, 32, 122, 111, 110, 101, 58, 97, 32, 103, 112, 117, 32, 122, 111, 110, 101, 47, 50, 32, 110, 49, 32, 114, 101, 97, 108]⟩
abbrev bE : ByteArray := ByteArray.empty
abbrev c1 : Vec.V := [(bCpu, 5)]
abbrev p1 : PL := [(bApp, bWeb)]
abbrev s1 : TL := [(1, bZone, bA)]
abbrev t1 : NL := [(bGpu, bE, true)]
abbrev k1 : Pd := ⟨bP, bWeb, 10, c1, p1, s1, t1, bZone, 2, bN, false⟩
abbrev k2 : Pd := ⟨bH, bE, -1, c1, [], [], [], bE, 0, bN, true⟩
abbrev k4 : Pd := ⟨bP, bE, -1, [], [], [], [], bE, 0, bN, false⟩
abbrev k5 : Pd := ⟨bP, bE, 1, [], [], [], [], bZone, 0, bN, false⟩
theorem eq_list (s t : ByteArray) : eqS s t = (s.data.toList == t.data.toList) := by unfold eqS; rw [Lib.toList_data, Lib.toList_data]
theorem no_list (s : ByteArray) : isNo s = (s.data.toList == []) := by unfold isNo; rw [eq_list]; rfl
theorem m_bP : isName bP = true := by decide
theorem m_bWeb : isName bWeb = true := by decide
theorem o_bWeb : isNo bWeb = false := by rw [no_list]; rfl
theorem m_bCpu : isName bCpu = true := by decide
theorem m_bApp : isName bApp = true := by decide
theorem m_bZone : isName bZone = true := by decide
theorem o_bZone : isNo bZone = false := by rw [no_list]; rfl
theorem m_bA : isName bA = true := by decide
theorem m_bGpu : isName bGpu = true := by decide
theorem o_bGpu : isNo bGpu = false := by rw [no_list]; rfl
theorem m_bN : isName bN = true := by decide
theorem o_bN : isNo bN = false := by rw [no_list]; rfl
theorem o_E : isNo bE = true := by rw [no_list]; rfl
theorem or_web : nameOr bWeb = true := by unfold nameOr; rw [m_bWeb]; simp
theorem or_zone : nameOr bZone = true := by unfold nameOr; rw [m_bZone]; simp
theorem or_n : nameOr bN = true := by unfold nameOr; rw [m_bN]; simp
theorem chk_c : Vec.checkV c1 = 0 := by simp [Vec.checkV, Vec.checkFrom, m_bCpu, Vec.behindB]
theorem chk_p : chkS p1 = 0 := by simp [chkS, chkFrom, m_bApp, m_bWeb, behindB]
theorem chk_s : chkL s1 = 0 := by simp [chkL, chkLF, chkT, m_bZone, m_bA]
theorem chk_t : chkO t1 = 0 := by simp [chkO, namedN, m_bGpu, o_E]
theorem n_ok {x y : ByteArray} (h : isName x = true) (g : nameOr y = true) : chkNames x y = 0 := by unfold chkNames; rw [if_pos ⟨h, g⟩]
theorem d_ok {x : ByteArray} (h : nameOr x = true) : chkNode x = 0 := by unfold chkNode; rw [if_pos h]
theorem sp1 : chkSpread bZone 2 = 0 := by unfold chkSpread spreadBad; rw [or_zone, o_bZone]; decide
theorem chk1 : chkPod k1 = 0 := by
  unfold chkPod chkList
  dsimp only
  rw [n_ok m_bP or_web, chk_c, chk_p, chk_s, chk_t, sp1, d_ok or_n]; decide
theorem i_10 : Lib.itoa 10 = [49, 48] := by simp [Lib.itoa, Lib.decDigits]
theorem i_2 : Lib.itoa 2 = [50] := by simp [Lib.itoa, Lib.decDigits]
theorem i_5 : Lib.itoa 5 = [53] := by simp [Lib.itoa, Lib.decDigits]
theorem tv1 : Vec.textV c1 = [99, 112, 117, 61, 53] := by simp [Vec.textV, Vec.joinFrom, i_5, bCpu]
theorem tp1 : textS p1 = ⟨#[97, 112, 112, 58, 119, 101, 98]⟩ := by
  unfold textS
  rw [if_neg (by simp)]
  apply Go.WideShapes.bytes_inj
  simp [joinB, pairB, Lib.join, List.intercalate, bApp, bWeb]
theorem ts1 : textL s1 = ⟨#[122, 111, 110, 101, 58, 97]⟩ := by
  unfold textL
  rw [if_neg (by simp)]
  apply Go.WideShapes.bytes_inj
  simp [joinB, termB, Lib.join, List.intercalate, bZone, bA]
theorem tt1 : textO t1 = ⟨#[103, 112, 117]⟩ := by
  have e : starB bGpu = bGpu := by unfold starB; rw [if_neg (by rw [o_bGpu]; decide)]
  have e2 : tolB (bGpu, bE, true) = bGpu := by unfold tolB; rw [if_pos rfl]; exact e
  unfold textO
  rw [if_neg (by simp)]
  show joinB [tolB (bGpu, bE, true)] = _
  rw [e2]
  apply Go.WideShapes.bytes_inj
  simp [joinB, Lib.join, List.intercalate, bGpu]
theorem op_web : optT bWeb = bWeb := by unfold optT; rw [if_neg (by rw [o_bWeb]; decide)]
theorem op_n : optT bN = bN := by unfold optT; rw [if_neg (by rw [o_bN]; decide)]
theorem st1 : spreadT bZone 2 = ⟨#[122, 111, 110, 101, 47, 50]⟩ := by
  unfold spreadT
  rw [if_neg (by rw [o_bZone]; decide), i_2]
  apply Go.WideShapes.bytes_inj
  simp [bZone, bytes]
theorem text1 : textPd k1 = kT1 := by
  unfold textPd wordsT
  dsimp only
  rw [op_web, op_n, i_10, tv1, tp1, ts1, tt1, st1]
  rfl
theorem fine_c : Vec.Fine c1 := by
  intro i hi
  match i, hi with
  | 0, _ => exact ⟨(by decide : bCpu.size ≤ maxLen), by decide, by decide⟩
theorem says1 : Says [112, 49, 32, 119, 101, 98, 32, 49, 48, 32, 99, 112, 117, 61, 53, 32, 97, 112, 112, 58, 119, 101, 98, 32, 122, 111, 110, 101, 58, 97, 32, 103, 112, 117, 32, 122, 111, 110, 101, 47, 50, 32, 110, 49, 32, 114, 101, 97, 108] k1 := by
  have h := textPd_says chk1 fine_c
  rw [text1] at h
  exact h
theorem parts3 : partsAt 32 [112, 49, 32, 45, 32, 49, 32, 45, 32, 45, 32, 45, 32, 45, 32, 122, 111, 110, 101, 32, 110, 49, 32, 114, 101, 97, 108] = [[112, 49], [45], [49], [45], [45], [45], [45], [122, 111, 110, 101], [110, 49], [114, 101, 97, 108]] := by rfl
theorem low1 : LowPd k1 := ⟨by decide, by decide, by decide, by decide⟩
theorem low2 : LowPd k2 := ⟨by decide, by decide, by decide, by decide⟩
theorem lows : ∀ n ∈ [k2, k1], LowPd n := by
  intro n hn
  simp only [List.mem_cons, List.not_mem_nil, or_false] at hn
  rcases hn with rfl | rfl
  · exact low2
  · exact low1

end Go.Proofs.YtflllkpnkcmegaaGreatDoor.Pk
