/- Rows of pods: whether they may stand so. -/
import Derived.Test.YtflllkpnkcmegaaGreatDoorPodFind
namespace Go.Proofs.YtflllkpnkcmegaaGreatDoor
open Go.RowKit
set_option linter.unusedVariables false

def chkFromP : Option ByteArray → List Pd → Int
  | _, [] => 0
  | prev, n :: t => if chkPod n ≠ 0 then chkPod n else if Vec.behindB prev n.name = true then 13 else chkFromP (some n.name) t
def chkAllP (l : List Pd) : Int := if 128 < l.length then 4 else chkFromP none l
def prevPd (l : List Pd) (k : Nat) : Option ByteArray := if k = 0 then none else (l[k - 1]?).map Pd.name
theorem prevPd_zero {l : List Pd} {k : Nat} (h : k = 0) (s : ByteArray) : Vec.behindB (prevPd l k) s = false := by unfold prevPd; rw [if_pos h]; rfl
theorem prevPd_some {l : List Pd} {k : Nat} {n : Pd} (h : ¬ k = 0) (hn : l[k - 1]? = some n) (s : ByteArray) : Vec.behindB (prevPd l k) s = leS s n.name := by unfold prevPd; rw [if_neg h, hn]; rfl
theorem prevPd_succ {l : List Pd} {k : Nat} {n : Pd} (hn : l[k]? = some n) : prevPd l (k + 1) = some n.name := by unfold prevPd; rw [if_neg (by omega), Nat.add_sub_cancel, hn]; rfl
theorem chkP_bad {p : Option ByteArray} {n : Pd} {t : List Pd} (h : chkPod n ≠ 0) : chkFromP p (n :: t) = chkPod n := by rw [chkFromP, if_pos h]
theorem chkP_order {p : Option ByteArray} {n : Pd} {t : List Pd} (h : chkPod n = 0) (b : Vec.behindB p n.name = true) : chkFromP p (n :: t) = 13 := by rw [chkFromP, if_neg (by rw [h]; decide), if_pos b]
theorem chkP_next {p : Option ByteArray} {n : Pd} {t : List Pd} (h : chkPod n = 0) (b : Vec.behindB p n.name = false) : chkFromP p (n :: t) = chkFromP (some n.name) t := by rw [chkFromP, if_neg (by rw [h]; decide), if_neg (by rw [b]; decide)]

end Go.Proofs.YtflllkpnkcmegaaGreatDoor
