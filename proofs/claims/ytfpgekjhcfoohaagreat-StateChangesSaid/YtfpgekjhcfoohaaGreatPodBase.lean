/- Pods: how they are held, whether they may be. -/
import Derived.Test.YtfpgekjhcfoohaaGreatShort
import Derived.Test.YtfpgekjhcfoohaaGreatNodA
import Derived.Test.YtfpgekjhcfoohaaGreatLab
import Derived.Test.YtfpgekjhcfoohaaGreatTai
import Derived.Test.YtfpgekjhcfoohaaGreatResC
import Derived.Test.YtfpgekjhcfoohaaGreatBase
import Derived.Deep.RegionHeld3
set_option linter.unusedVariables false
namespace Go.Proofs.YtfpgekjhcfoohaaGreat
open Go.RowKit
structure Pd where
 name : ByteArray
 owner : ByteArray
 prio : Int
 need : Vec.V
 labels : PL
 sel : TL
 tols : NL
 key : ByteArray
 most : Int
 node : ByteArray
 hold : Bool
def Pd.zero : Pd := ⟨ByteArray.empty, ByteArray.empty, 0, [], [], [], [], ByteArray.empty, 0, ByteArray.empty, false⟩
abbrev PodV (n : Pd) (v1 v2 v3 v4 : Value) : Value := .agg #[.string n.name, .string n.owner, .int .i64 n.prio, v1, v2, v3, v4, .string n.key, .int .i64 n.most, .string n.node, .bool n.hold]
structure PodAt (w : World) (v1 v2 v3 v4 : Value) (n : Pd) : Prop where
 name : n.name.size ≤ maxLen
 owner : n.owner.size ≤ maxLen
 key : n.key.size ≤ maxLen
 node : n.node.size ≤ maxLen
 prio : -9223372036854775808 ≤ n.prio ∧ n.prio ≤ 9223372036854775807
 most : -9223372036854775808 ≤ n.most ∧ n.most ≤ 9223372036854775807
 need : Vec.Reads w v1 n.need
 labels : Reads PairLay w v2 n.labels
 sel : Reads TermLay w v3 n.sel
 tols : Reads TaLay w v4 n.tols
theorem PodAt.kept {w w' : World} {v1 v2 v3 v4 : Value} {n : Pd} (h : PodAt w v1 v2 v3 v4 n) (k : Kept w w') : PodAt w' v1 v2 v3 v4 n := ⟨h.name, h.owner, h.key, h.node, h.prio, h.most, h.need.kept k, h.labels.kept k, h.sel.kept k, h.tols.kept k⟩
def PodR (w : World) (v : Value) (n : Pd) : Prop := ∃ v1 v2 v3 v4, v = PodV n v1 v2 v3 v4 ∧ PodAt w v1 v2 v3 v4 n
theorem PodR.kept {w w' : World} {v : Value} {n : Pd} (h : PodR w v n) (k : Kept w w') : PodR w' v n := by
 obtain ⟨v1, v2, v3, v4, e, h⟩ := h
 exact ⟨v1, v2, v3, v4, e, h.kept k⟩
def nameOr (s : ByteArray) : Bool := isNo s || isName s
def chkNames (x y : ByteArray) : Int := if isName x = true ∧ nameOr y = true then 0 else 3
def prioBad (p : Int) (b : Bool) : Bool := decide (p < -1) || (decide (1000000 < p) || (decide (p = -1) != b))
def chkPrio (p : Int) (b : Bool) : Int := if prioBad p b = true then 1 else 0
def spreadBad (k : ByteArray) (m : Int) : Bool := if isNo k = true then decide (m ≠ 0) else decide (m < 1) || decide (128 < m)
def chkSpread (k : ByteArray) (m : Int) : Int := if nameOr k = false then 3 else if spreadBad k m = true then 1 else 0
def chkNode (x : ByteArray) : Int := if nameOr x = true then 0 else 3
def orL : List Int → Int
 | [] => 0
 | x :: t => if x ≠ 0 then x else orL t
def chkList (n : Pd) : List Int := [chkNames n.name n.owner, chkPrio n.prio n.hold, Vec.checkV n.need, chkS n.labels, chkL n.sel, chkO n.tols, chkSpread n.key n.most, chkNode n.node]
def chkPod (n : Pd) : Int := orL (chkList n)
set_option maxHeartbeats 800000 in
theorem orE_any (b len : Nat) (l : List Int) (w : World) (hl : l.length = len) (hm : len ≤ 1000) (hc : ∀ (i : Nat) (x : Int), l[i]? = some x → w.cell? ⟨b, i, none⟩ = some (.int .i64 x)) :
 Calls Tryz.prog 58 #[.slice (some ⟨b, 0, none⟩) len len] w fun e w' => e = .returned (.int .i64 (orL l)) ∧ w = w' := by
 have HC := lH hc
 have HL := lH hl
 clear hc hl
 go_enter Tryz.func58, Tryz.ntmps58
 go_wp2
 go_loopw [8] (fun i wr => ∃ k : Nat, k ≤ len ∧ i = .int .i64 k ∧ orL (l.drop k) = orL l ∧ w = wr) (fun i _ => len - (intOf i).toNat)
 case atStart => exact ⟨0, Nat.zero_le _, rfl, rfl, rfl⟩
 case round =>
  obtain ⟨k, hk, rfl, hrest, rfl⟩ := hrel
  have HS := lH hrest
  by_cases hlt : k < len
  · have hkl : k < l.length := by rw [HL.out]; exact hlt
    obtain ⟨x, hx⟩ : ∃ x, l[k] = x := ⟨_, rfl⟩
    have hx' : l[k]? = some x := by rw [List.getElem?_eq_getElem hkl, hx]
    have c0 := HC.out k x hx'
    have HD := lH (show l.drop k = x :: l.drop (k + 1) by rw [List.drop_eq_getElem_cons hkl, hx])
    clear hrest hx hx' hkl
    by_cases z : x = 0
    · subst z
      have HE := lH (show orL (l.drop k) = orL (l.drop (k + 1)) by rw [HD.out]; rfl)
      go_wp2
      go_roundw
      case rel => exact ⟨k + 1, by omega, by go_num, HE.out.symm.trans HS.out, trivial⟩
      case measure => simp [intOf]; omega
    · have HE := lH (show orL l = x by rw [← HS.out, HD.out]; show (if x ≠ 0 then x else _) = x; rw [if_pos z])
      have z' : (x != 0) = true := by simpa using z
      clear z
      go_wp2
      go_ret
      exact ⟨ret_i64 HE.out.symm, rfl⟩
  · have HE := lH (show orL l = 0 by rw [← hrest, List.drop_of_length_le (by rw [HL.out]; omega)]; rfl)
    clear hrest
    go_wp2
    go_ret
    exact ⟨ret_i64 HE.out.symm, rfl⟩
theorem nameOr_any (s : ByteArray) (w : World) (hs : s.size ≤ maxLen) :
 Calls Tryz.prog 126 #[.string s] w fun e w' => e = .returned (.bool (nameOr s)) ∧ w = w' := by
 obtain ⟨q, hq⟩ : ∃ q, (s.toList == ([] : List UInt8)) = q := ⟨_, rfl⟩
 obtain ⟨r, hr⟩ : ∃ r, isName s = r := ⟨_, rfl⟩
 have HV := lH (show nameOr s = (q || r) by unfold nameOr; rw [no_iff, hq, hr])
 have HR := lH hr
 clear hr
 cases q with
 | true =>
  go_enter Tryz.func126, Tryz.ntmps126
  go_wp2
  go_ret
  exact ⟨ret_bool HV.out.symm, rfl⟩
 | false =>
  go_enter Tryz.func126, Tryz.ntmps126
  go_wp2_with (go_at_call 125; refine (Vec.nameR hs HR.out).mono ?_; rintro e w' ⟨rfl, rfl⟩)
  go_ret
  exact ⟨ret_bool HV.out.symm, rfl⟩
theorem checkNames_any (x y : ByteArray) (w : World) (hx : x.size ≤ maxLen) (hy : y.size ≤ maxLen) :
 Calls Tryz.prog 59 #[.string x, .string y] w fun e w' => e = .returned (.int .i64 (chkNames x y)) ∧ w = w' := by
 obtain ⟨r, hr⟩ : ∃ r, isName x = r := ⟨_, rfl⟩
 obtain ⟨q, hq⟩ : ∃ q, nameOr y = q := ⟨_, rfl⟩
 have HV := lH (show chkNames x y = if r = true ∧ q = true then 0 else 3 by unfold chkNames; rw [hr, hq])
 have HN := lH (show Calls Tryz.prog 126 #[.string y] w _ from nameOr_any y w hy)
 rw [hq] at HN
 have HR := lH hr
 have HX := lH hx
 clear hr hq hx hy
 cases r with
 | false =>
  go_enter Tryz.func59, Tryz.ntmps59
  go_wp2_with (go_at_call 125; refine (Vec.nameR HX.out HR.out).mono ?_; rintro e w' ⟨rfl, rfl⟩)
  go_ret
  exact ⟨ret_i64 HV.out.symm, rfl⟩
 | true =>
  cases q with
  | false =>
   go_enter Tryz.func59, Tryz.ntmps59
   go_wp2_with fail
   refine (Vec.nameR HX.out HR.out).mono ?_
   rintro e w' ⟨rfl, rfl⟩
   go_wp2_with (go_at_call 126; refine HN.out.mono ?_; rintro e w' ⟨rfl, rfl⟩)
   go_ret
   exact ⟨ret_i64 HV.out.symm, rfl⟩
  | true =>
   go_enter Tryz.func59, Tryz.ntmps59
   go_wp2_with fail
   refine (Vec.nameR HX.out HR.out).mono ?_
   rintro e w' ⟨rfl, rfl⟩
   go_wp2_with (go_at_call 126; refine HN.out.mono ?_; rintro e w' ⟨rfl, rfl⟩)
   go_ret
   exact ⟨ret_i64 HV.out.symm, rfl⟩
theorem checkPrio_any (p : Int) (b : Bool) (w : World) :
 Calls Tryz.prog 60 #[.int .i64 p, .bool b] w fun e w' => e = .returned (.int .i64 (chkPrio p b)) ∧ w = w' := by
 obtain ⟨x, hx⟩ : ∃ x, decide (p < -1) = x := ⟨_, rfl⟩
 obtain ⟨y, hy⟩ : ∃ x, decide (1000000 < p) = x := ⟨_, rfl⟩
 obtain ⟨z, hz⟩ : ∃ x, decide (p = -1) = x := ⟨_, rfl⟩
 have hz' : (p == -1) = z := hz
 have HV := lH (show chkPrio p b = if (x || (y || (z != b))) = true then 1 else 0 by unfold chkPrio prioBad; rw [hx, hy, hz])
 cases x with
 | true =>
  have h1 : p < -1 := of_decide_eq_true hx
  clear hx hy hz
  go_enter Tryz.func60, Tryz.ntmps60
  go_wp2
  go_ret
  exact ⟨ret_i64 HV.out.symm, rfl⟩
 | false =>
  have h1 : -1 ≤ p := by have := of_decide_eq_false hx; omega
  cases y with
  | true =>
   have h2 : 1000000 < p := of_decide_eq_true hy
   clear hx hy hz
   go_enter Tryz.func60, Tryz.ntmps60
   go_wp2
   go_ret
   exact ⟨ret_i64 HV.out.symm, rfl⟩
  | false =>
   have h2 : p ≤ 1000000 := by have := of_decide_eq_false hy; omega
   clear hx hy hz
   cases z <;> cases b <;>
   (go_enter Tryz.func60, Tryz.ntmps60
    go_wp2
    go_ret
    exact ⟨ret_i64 HV.out.symm, rfl⟩)
theorem checkSpread_any (k : ByteArray) (m : Int) (w : World) (hk : k.size ≤ maxLen) :
 Calls Tryz.prog 65 #[.string k, .int .i64 m] w fun e w' => e = .returned (.int .i64 (chkSpread k m)) ∧ w = w' := by
 obtain ⟨q, hq⟩ : ∃ q, nameOr k = q := ⟨_, rfl⟩
 obtain ⟨r, hr⟩ : ∃ r, isNo k = r := ⟨_, rfl⟩
 have hr' : (k.toList == ([] : List UInt8)) = r := by rw [← no_iff]; exact hr
 have HN := lH (show Calls Tryz.prog 126 #[.string k] w _ from nameOr_any k w hk)
 rw [hq] at HN
 have HV := lH (show chkSpread k m = if q = false then 3 else if (if r = true then decide (m ≠ 0) else decide (m < 1) || decide (128 < m)) = true then 1 else 0 by unfold chkSpread spreadBad; rw [hq, hr])
 clear hq hr hk
 cases q with
 | false =>
  go_enter Tryz.func65, Tryz.ntmps65
  go_wp2_with (go_at_call 126; refine HN.out.mono ?_; rintro e w' ⟨rfl, rfl⟩)
  go_ret
  exact ⟨ret_i64 HV.out.symm, rfl⟩
 | true =>
  cases r with
  | true =>
   by_cases z : m = 0
   · subst z
     go_enter Tryz.func65, Tryz.ntmps65
     go_wp2_with (go_at_call 126; refine HN.out.mono ?_; rintro e w' ⟨rfl, rfl⟩)
     go_ret
     exact ⟨ret_i64 HV.out.symm, rfl⟩
   · have z' : (m != 0) = true := by simpa using z
     have HW := lH (show chkSpread k m = 1 by rw [HV.out]; simp [z])
     clear z
     go_enter Tryz.func65, Tryz.ntmps65
     go_wp2_with (go_at_call 126; refine HN.out.mono ?_; rintro e w' ⟨rfl, rfl⟩)
     go_ret
     exact ⟨ret_i64 HW.out.symm, rfl⟩
  | false =>
   by_cases z : m < 1
   · have HW := lH (show chkSpread k m = 1 by rw [HV.out]; simp [z])
     go_enter Tryz.func65, Tryz.ntmps65
     go_wp2_with (go_at_call 126; refine HN.out.mono ?_; rintro e w' ⟨rfl, rfl⟩)
     go_ret
     exact ⟨ret_i64 HW.out.symm, rfl⟩
   · by_cases y : 128 < m
     · have HW := lH (show chkSpread k m = 1 by rw [HV.out]; simp [y])
       have z' : 1 ≤ m := by omega
       clear z
       go_enter Tryz.func65, Tryz.ntmps65
       go_wp2_with (go_at_call 126; refine HN.out.mono ?_; rintro e w' ⟨rfl, rfl⟩)
       go_ret
       exact ⟨ret_i64 HW.out.symm, rfl⟩
     · have HW := lH (show chkSpread k m = 0 by rw [HV.out]; simp [z, y])
       have z' : 1 ≤ m := by omega
       have y' : m ≤ 128 := by omega
       clear z y
       go_enter Tryz.func65, Tryz.ntmps65
       go_wp2_with (go_at_call 126; refine HN.out.mono ?_; rintro e w' ⟨rfl, rfl⟩)
       go_ret
       exact ⟨ret_i64 HW.out.symm, rfl⟩
theorem checkNode_any (x : ByteArray) (w : World) (hx : x.size ≤ maxLen) :
 Calls Tryz.prog 66 #[.string x] w fun e w' => e = .returned (.int .i64 (chkNode x)) ∧ w = w' := by
 obtain ⟨q, hq⟩ : ∃ q, nameOr x = q := ⟨_, rfl⟩
 have HN := lH (show Calls Tryz.prog 126 #[.string x] w _ from nameOr_any x w hx)
 rw [hq] at HN
 have HV := lH (show chkNode x = if q = true then 0 else 3 by unfold chkNode; rw [hq])
 clear hq hx
 cases q <;>
 (go_enter Tryz.func66, Tryz.ntmps66
  go_wp2_with (go_at_call 126; refine HN.out.mono ?_; rintro e w' ⟨rfl, rfl⟩)
  go_ret
  exact ⟨ret_i64 HV.out.symm, rfl⟩)
theorem eight_cells (W : World) (x1 x2 x3 x4 x5 x6 x7 x8 : Int) (T : TypeId) (i : Nat) (x : Int) (hi : ([x1, x2, x3, x4, x5, x6, x7, x8] : List Int)[i]? = some x) :
 (W.alloc (.cells #[.int .i64 x1, .int .i64 x2, .int .i64 x3, .int .i64 x4, .int .i64 x5, .int .i64 x6, .int .i64 x7, .int .i64 x8] T)).cell? ⟨W.heap.size, i, none⟩ = some (.int .i64 x) := by
 refine (freshN W (.int .i64 x1) [.int .i64 x2, .int .i64 x3, .int .i64 x4, .int .i64 x5, .int .i64 x6, .int .i64 x7, .int .i64 x8] T _ (Kept.refl _)).at_ i _ ?_
 match i, hi with
 | 0, h => simpa using h
 | 1, h => simpa using h
 | 2, h => simpa using h
 | 3, h => simpa using h
 | 4, h => simpa using h
 | 5, h => simpa using h
 | 6, h => simpa using h
 | 7, h => simpa using h
 | j + 8, h => simp at h
set_option maxRecDepth 100000 in
set_option maxHeartbeats 4000000 in
theorem checkP_any (n : Pd) (v1 v2 v3 v4 : Value) (w : World) (h : PodAt w v1 v2 v3 v4 n) :
 Calls Tryz.prog 18 #[PodV n v1 v2 v3 v4] w (Say (.int .i64 (chkPod n)) w) := by
 obtain ⟨W0, hW0⟩ : ∃ W0, w.alloc (.cells #[.string n.name, .string n.owner, .int .i64 n.prio, v1, v2, v3, v4, .string n.key, .int .i64 n.most, .string n.node, .bool n.hold] 49) = W0 := ⟨_, rfl⟩
 have hk0 : Kept w W0 := by rw [← hW0]; exact kept_alloc _ _
 have HC := lH (show ∀ W, Kept W0 W → W.cell? ⟨w.heap.size, 0, none⟩ = some (.string n.name) ∧ W.cell? ⟨w.heap.size, 1, none⟩ = some (.string n.owner) ∧ W.cell? ⟨w.heap.size, 2, none⟩ = some (.int .i64 n.prio) ∧ W.cell? ⟨w.heap.size, 3, none⟩ = some (v1) ∧ W.cell? ⟨w.heap.size, 4, none⟩ = some (v2) ∧ W.cell? ⟨w.heap.size, 5, none⟩ = some (v3) ∧ W.cell? ⟨w.heap.size, 6, none⟩ = some (v4) ∧ W.cell? ⟨w.heap.size, 7, none⟩ = some (.string n.key) ∧ W.cell? ⟨w.heap.size, 8, none⟩ = some (.int .i64 n.most) ∧ W.cell? ⟨w.heap.size, 9, none⟩ = some (.string n.node) ∧ W.cell? ⟨w.heap.size, 10, none⟩ = some (.bool n.hold) from fun W k => by
  have c := freshN w (.string n.name) [.string n.owner, .int .i64 n.prio, v1, v2, v3, v4, .string n.key, .int .i64 n.most, .string n.node, .bool n.hold] 49 W (by rw [hW0]; exact k)
  exact ⟨c.at_ 0 _ rfl, c.at_ 1 _ rfl, c.at_ 2 _ rfl, c.at_ 3 _ rfl, c.at_ 4 _ rfl, c.at_ 5 _ rfl, c.at_ 6 _ rfl, c.at_ 7 _ rfl, c.at_ 8 _ rfl, c.at_ 9 _ rfl, c.at_ 10 _ rfl⟩)
 have E1 := lH (fun W => checkNames_any n.name n.owner W h.name h.owner)
 have E2 := lH (fun W => checkPrio_any n.prio n.hold W)
 have E3 := lH (fun W (k : Kept W0 W) => Vec.checkR (h.need.kept (hk0.trans k)) rfl)
 have E4 := lH (fun W (k : Kept W0 W) => checkR (h.labels.kept (hk0.trans k)) rfl)
 have E5 := lH (fun W (k : Kept W0 W) => checkSelR (h.sel.kept (hk0.trans k)) rfl)
 have E6 := lH (fun W (k : Kept W0 W) => checkOR (h.tols.kept (hk0.trans k)) rfl)
 have E7 := lH (fun W => checkSpread_any n.key n.most W h.key)
 have E8 := lH (fun W => checkNode_any n.node W h.node)
 have HK0 := lH hk0
 obtain ⟨x1, hx1⟩ : ∃ x, chkNames n.name n.owner = x := ⟨_, rfl⟩
 rw [hx1] at E1
 obtain ⟨x2, hx2⟩ : ∃ x, chkPrio n.prio n.hold = x := ⟨_, rfl⟩
 rw [hx2] at E2
 obtain ⟨x3, hx3⟩ : ∃ x, Vec.checkV n.need = x := ⟨_, rfl⟩
 rw [hx3] at E3
 obtain ⟨x4, hx4⟩ : ∃ x, chkS n.labels = x := ⟨_, rfl⟩
 rw [hx4] at E4
 obtain ⟨x5, hx5⟩ : ∃ x, chkL n.sel = x := ⟨_, rfl⟩
 rw [hx5] at E5
 obtain ⟨x6, hx6⟩ : ∃ x, chkO n.tols = x := ⟨_, rfl⟩
 rw [hx6] at E6
 obtain ⟨x7, hx7⟩ : ∃ x, chkSpread n.key n.most = x := ⟨_, rfl⟩
 rw [hx7] at E7
 obtain ⟨x8, hx8⟩ : ∃ x, chkNode n.node = x := ⟨_, rfl⟩
 rw [hx8] at E8
 have HV := lH (show chkPod n = orL [x1, x2, x3, x4, x5, x6, x7, x8] by unfold chkPod chkList; rw [hx1, hx2, hx3, hx4, hx5, hx6, hx7, hx8])
 have ORC := lH (fun W => eight_cells W x1 x2 x3 x4 x5 x6 x7 x8 53)
 clear hx1 hx2 hx3 hx4 hx5 hx6 hx7 hx8 h hk0
 obtain ⟨c0, c1, c2, c3, c4, c5, c6, c7, c8, c9, c10⟩ := HC.out _ (Kept.refl _)
 unfold PodV
 go_enter Tryz.func18, Tryz.ntmps18
 go_wp2
 try rw [hW0]
 clear hW0
 go_region_held3 (fun W => W.cell? ⟨w.heap.size, 0, none⟩ = some (.string n.name) ∧ W.cell? ⟨w.heap.size, 1, none⟩ = some (.string n.owner) ∧ W.cell? ⟨w.heap.size, 2, none⟩ = some (.int .i64 n.prio) ∧ W.cell? ⟨w.heap.size, 3, none⟩ = some (v1) ∧ W.cell? ⟨w.heap.size, 4, none⟩ = some (v2) ∧ W.cell? ⟨w.heap.size, 5, none⟩ = some (v3) ∧ W.cell? ⟨w.heap.size, 6, none⟩ = some (v4) ∧ W.cell? ⟨w.heap.size, 7, none⟩ = some (.string n.key) ∧ W.cell? ⟨w.heap.size, 8, none⟩ = some (.int .i64 n.most) ∧ W.cell? ⟨w.heap.size, 9, none⟩ = some (.string n.node) ∧ W.cell? ⟨w.heap.size, 10, none⟩ = some (.bool n.hold))
  (first | exact HC.out _ (Kept.drew _) | exact HC.out _ K3.out | exact HC.out _ K4.out | exact HC.out _ K5.out | exact HC.out _ K6.out | exact HC.out _ (K6.out.trans (kept_alloc _ _)))
  (first | (go_at_call 59; refine (E1.out _).mono ?_; rintro e1 w1 ⟨rfl, rfl⟩)
         | (go_at_call 60; refine (E2.out _).mono ?_; rintro e2 w2 ⟨rfl, rfl⟩)
         | (go_at_call 61; refine (E3.out _ (Kept.drew _)).mono ?_; rintro e3 w3 ⟨rfl, k3⟩; have K3 := lH ((Kept.drew _).trans k3); clear k3)
         | (go_at_call 62; refine (E4.out _ K3.out).mono ?_; rintro e4 w4 ⟨rfl, k4⟩; have K4 := lH (K3.out.trans k4); clear k4)
         | (go_at_call 63; refine (E5.out _ K4.out).mono ?_; rintro e5 w5 ⟨rfl, k5⟩; have K5 := lH (K4.out.trans k5); clear k5)
         | (go_at_call 64; refine (E6.out _ K5.out).mono ?_; rintro e6 w6 ⟨rfl, k6⟩; have K6 := lH (K5.out.trans k6); clear k6)
         | (go_at_call 65; refine (E7.out _).mono ?_; rintro e7 w7 ⟨rfl, rfl⟩)
         | (go_at_call 66; refine (E8.out _).mono ?_; rintro e8 w8 ⟨rfl, rfl⟩)
         | (go_at_call 58; refine (orE_any _ 8 [x1, x2, x3, x4, x5, x6, x7, x8] _ rfl (by decide) (ORC.out _)).mono ?_; rintro e9 w9 ⟨rfl, rfl⟩))
 go_wp2
 go_ret
 exact ⟨ret_i64 HV.out.symm, HK0.out.trans (K6.out.trans (kept_alloc _ _))⟩
end Go.Proofs.YtfpgekjhcfoohaaGreat
