/- Pods: how they are held, whether they may be. -/
import Derived.Test.YtflllkpnkcmegaaGreatDoorNodA
import Derived.Test.YtflllkpnkcmegaaGreatDoorLab
import Derived.Test.YtflllkpnkcmegaaGreatDoorTai
import Derived.Test.YtflllkpnkcmegaaGreatDoorResC
import Derived.Test.YtflllkpnkcmegaaGreatDoorBase
import Derived.Deep.RegionHeld3
namespace Go.Proofs.YtflllkpnkcmegaaGreatDoor
open Go.RowKit
set_option linter.unusedVariables false

/-- A pod's parts. -/
structure Pd where
  name : ByteArray
  owner : ByteArray
  prio : Int
  need : Vec.V
  labels : PL
  sel : TL
  tols : NL
  key : ByteArray
  most : Int
  node : ByteArray
  hold : Bool
def Pd.zero : Pd := ⟨ByteArray.empty, ByteArray.empty, 0, [], [], [], [], ByteArray.empty, 0, ByteArray.empty, false⟩
abbrev PodV (n : Pd) (v1 v2 v3 v4 : Value) : Value := .agg #[.string n.name, .string n.owner, .int .i64 n.prio, v1, v2, v3, v4, .string n.key, .int .i64 n.most, .string n.node, .bool n.hold]
/-- The four rows read as the pod's. -/
structure PodAt (w : World) (v1 v2 v3 v4 : Value) (n : Pd) : Prop where
  name : n.name.size ≤ maxLen
  owner : n.owner.size ≤ maxLen
  key : n.key.size ≤ maxLen
  node : n.node.size ≤ maxLen
  prio : -9223372036854775808 ≤ n.prio ∧ n.prio ≤ 9223372036854775807
  most : -9223372036854775808 ≤ n.most ∧ n.most ≤ 9223372036854775807
  need : Vec.Reads w v1 n.need
  labels : Reads PairLay w v2 n.labels
  sel : Reads TermLay w v3 n.sel
  tols : Reads TaLay w v4 n.tols
theorem PodAt.kept {w w' : World} {v1 v2 v3 v4 : Value} {n : Pd} (h : PodAt w v1 v2 v3 v4 n) (k : Kept w w') : PodAt w' v1 v2 v3 v4 n := ⟨h.name, h.owner, h.key, h.node, h.prio, h.most, h.need.kept k, h.labels.kept k, h.sel.kept k, h.tols.kept k⟩
/-- A value that reads as a pod. -/
def PodR (w : World) (v : Value) (n : Pd) : Prop := ∃ v1 v2 v3 v4, v = PodV n v1 v2 v3 v4 ∧ PodAt w v1 v2 v3 v4 n
theorem PodR.kept {w w' : World} {v : Value} {n : Pd} (h : PodR w v n) (k : Kept w w') : PodR w' v n := by
  obtain ⟨v1, v2, v3, v4, e, h⟩ := h
  exact ⟨v1, v2, v3, v4, e, h.kept k⟩

def nameOr (s : ByteArray) : Bool := isNo s || isName s
def chkNames (x y : ByteArray) : Int := if isName x = true ∧ nameOr y = true then 0 else 3
def prioBad (p : Int) (b : Bool) : Bool := decide (p < -1) || (decide (1000000 < p) || (decide (p = -1) != b))
def chkPrio (p : Int) (b : Bool) : Int := if prioBad p b = true then 1 else 0
def spreadBad (k : ByteArray) (m : Int) : Bool := if isNo k = true then decide (m ≠ 0) else decide (m < 1) || decide (128 < m)
def chkSpread (k : ByteArray) (m : Int) : Int := if nameOr k = false then 3 else if spreadBad k m = true then 1 else 0
def chkNode (x : ByteArray) : Int := if nameOr x = true then 0 else 3
/-- The first that is something. -/
def orL : List Int → Int
  | [] => 0
  | x :: t => if x ≠ 0 then x else orL t
def chkList (n : Pd) : List Int := [chkNames n.name n.owner, chkPrio n.prio n.hold, Vec.checkV n.need, chkS n.labels, chkL n.sel, chkO n.tols, chkSpread n.key n.most, chkNode n.node]
/-- What is wrong with a pod. -/
def chkPod (n : Pd) : Int := orL (chkList n)

set_option maxHeartbeats 800000 in
theorem orE_any (b len : Nat) (l : List Int) (w : World) (hl : l.length = len) (hm : len ≤ 1000) (hc : ∀ (i : Nat) (x : Int), l[i]? = some x → w.cell? ⟨b, i, none⟩ = some (.int .i64 x)) :
    Calls Tryz.prog 54 #[.slice (some ⟨b, 0, none⟩) len len] w fun e w' => e = .returned (.int .i64 (orL l)) ∧ w = w' := by
  have HC := Lib.hid hc
  have HL := Lib.hid hl
  clear hc hl
  go_enter Tryz.func54, Tryz.ntmps54
  go_wp2
  go_loopw [8] (fun i wr => ∃ k : Nat, k ≤ len ∧ i = .int .i64 k ∧ orL (l.drop k) = orL l ∧ w = wr) (fun i _ => len - (intOf i).toNat)
  case atStart => exact ⟨0, Nat.zero_le _, rfl, rfl, rfl⟩
  case round =>
    obtain ⟨k, hk, rfl, hrest, rfl⟩ := hrel
    have HS := Lib.hid hrest
    by_cases hlt : k < len
    · have hkl : k < l.length := by rw [HL.out]; exact hlt
      obtain ⟨x, hx⟩ : ∃ x, l[k] = x := ⟨_, rfl⟩
      have hx' : l[k]? = some x := by rw [List.getElem?_eq_getElem hkl, hx]
      have c0 := HC.out k x hx'
      have HD := Lib.hid (show l.drop k = x :: l.drop (k + 1) by rw [List.drop_eq_getElem_cons hkl, hx])
      clear hrest hx hx' hkl
      by_cases z : x = 0
      · subst z
        have HE := Lib.hid (show orL (l.drop k) = orL (l.drop (k + 1)) by rw [HD.out]; rfl)
        go_wp2
        go_roundw
        case rel => exact ⟨k + 1, by omega, by go_num, HE.out.symm.trans HS.out, trivial⟩
        case measure => simp [intOf]; omega
      · have HE := Lib.hid (show orL l = x by rw [← HS.out, HD.out]; show (if x ≠ 0 then x else _) = x; rw [if_pos z])
        have z' : (x != 0) = true := by simpa using z
        clear z
        go_wp2
        go_ret
        exact ⟨ret_i64 HE.out.symm, rfl⟩
    · have HE := Lib.hid (show orL l = 0 by rw [← hrest, List.drop_of_length_le (by rw [HL.out]; omega)]; rfl)
      clear hrest
      go_wp2
      go_ret
      exact ⟨ret_i64 HE.out.symm, rfl⟩
end Go.Proofs.YtflllkpnkcmegaaGreatDoor
