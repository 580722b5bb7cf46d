/- Package by package: contracts of the functions that the laws call. -/
import Derived.Test.YtppbbgppooblfaaGreatDoorLab
import Derived.Test.YtppbbgppooblfaaGreatDoorTai
import Derived.Test.YtppbbgppooblfaaGreatDoorResC
import Derived.Deep.RegionHeld3
import Derived.Laws.BytesArg
import Derived.Test.YtppbbgppooblfaaGreatDoorBase

/- Whether two rows of pairs, of taints are the same: slices.Equal, and the reference's loops. -/
namespace Go.Proofs.YtppbbgppooblfaaGreatDoor
open Go.RowKit
set_option linter.unusedVariables false

/-- Alike, pair by pair. -/
def sameP : PL → PL → Bool
  | [], [] => true
  | x :: s, y :: t => (eqS x.1 y.1 && eqS x.2 y.2) && sameP s t
  | _, _ => false
/-- Alike, taint by taint. -/
def sameA : NL → NL → Bool
  | [], [] => true
  | x :: s, y :: t => (eqS x.1 y.1 && (eqS x.2.1 y.2.1 && (x.2.2 == y.2.2))) && sameA s t
  | _, _ => false
theorem sameP_length : ∀ {l l' : PL}, l.length ≠ l'.length → sameP l l' = false
  | [], [], h => absurd rfl h
  | [], _ :: _, _ => rfl
  | _ :: _, [], _ => rfl
  | x :: s, y :: t, h => by rw [sameP, sameP_length (l := s) (l' := t) (fun e => h (by simp [e])), Bool.and_false]
theorem sameA_length : ∀ {l l' : NL}, l.length ≠ l'.length → sameA l l' = false
  | [], [], h => absurd rfl h
  | [], _ :: _, _ => rfl
  | _ :: _, [], _ => rfl
  | x :: s, y :: t, h => by rw [sameA, sameA_length (l := s) (l' := t) (fun e => h (by simp [e])), Bool.and_false]
theorem sameP_self : ∀ l : PL, sameP l l = true
  | [] => rfl
  | x :: t => by rw [sameP, sameP_self t, eqS_self, eqS_self]; rfl
theorem sameA_self : ∀ l : NL, sameA l l = true
  | [] => rfl
  | x :: t => by rw [sameA, sameA_self t, eqS_self, eqS_self]; simp
set_option maxHeartbeats 800000 in
theorem equalP_any (a a' : Option Addr) (len cap len' cap' : Nat) (l l' : PL) (w : World) (hr : RowAt PairLay w a len l) (hr' : RowAt PairLay w a' len' l') :
    Calls Tryz.prog 113 #[.slice a len cap, .slice a' len' cap'] w fun e w' => e = .returned (.bool (sameP l l')) ∧ Kept w w' := by
  have hl := hr.1
  have hm := hr.2.1
  have hl' := hr'.1
  have hm' := hr'.2.1
  unfold maxLen at hm hm'
  by_cases hll : len = len'
  · subst hll
    by_cases h0 : len = 0
    · subst h0
      have HE := Lib.hid (show sameP l l' = true by rw [List.eq_nil_of_length_eq_zero hl, List.eq_nil_of_length_eq_zero hl']; rfl)
      clear hr hl hr' hl'
      go_enter Tryz.func113, Tryz.ntmps113
      go_wp2
      refine wp_loop_rounds 1 ?_
      rw [rounds_succ]
      go_wp2
      go_ret
      exact ⟨ret_bool HE.out.symm, Kept.refl _⟩
    · obtain ⟨b, off, rfl⟩ : ∃ b off, a = some ⟨b, off, none⟩ := hr.form.resolve_left h0
      obtain ⟨b', off', rfl⟩ : ∃ b off, a' = some ⟨b, off, none⟩ := hr'.form.resolve_left h0
      have HR := Lib.hid hr
      have HL := Lib.hid hl
      have HR' := Lib.hid hr'
      have HL' := Lib.hid hl'
      clear hr hl hr' hl' h0
      go_enter Tryz.func113, Tryz.ntmps113
      go_wp2
      go_loopw [13] (fun i wr => ∃ k : Nat, k ≤ len ∧ i = .int .i64 k ∧ sameP (l.drop k) (l'.drop k) = sameP l l' ∧ Kept w wr) (fun i _ => len - (intOf i).toNat)
      case atStart => exact ⟨0, Nat.zero_le _, rfl, rfl, Kept.refl _⟩
      case round =>
        obtain ⟨k, hk, rfl, hrest, hK⟩ := hrel
        have HS := Lib.hid hrest
        have HK := Lib.hid hK
        by_cases hlt : k < len
        · obtain ⟨x, y, hx, hd, hb, _, _, c1, c2⟩ := (HR.out.kept hK).pair hlt
          obtain ⟨x9, y9, hx9, hd9, hb9, _, _, d1, d2⟩ := (HR'.out.kept hK).pair hlt
          have HD := Lib.hid hd
          have HD9 := Lib.hid hd9
          clear hrest hK hx hx9 hd hd9
          by_cases e0 : eqS x x9 = true
          · have E0 := Lib.hid e0
            have e0' : (x.toList == x9.toList) = true := e0
            clear e0
            by_cases e1 : eqS y y9 = true
            · have E1 := Lib.hid e1
              have e1' : (y.toList == y9.toList) = true := e1
              clear e1
              have E := Lib.hid (show sameP (l.drop k) (l'.drop k) = sameP (l.drop (k + 1)) (l'.drop (k + 1)) by rw [HD.out, HD9.out, sameP, E0.out, E1.out]; rfl)
              go_wp2
              go_quiet (fail)
              go_wp2
              go_roundw
              case rel => exact ⟨k + 1, by omega, by go_num, E.out.symm.trans HS.out, HK.out.trans (Kept.drewN _ _)⟩
              case measure => simp [intOf]; omega
            · have e1 : eqS y y9 = false := by simpa using e1
              have E1 := Lib.hid e1
              have e1' : (y.toList == y9.toList) = false := e1
              clear e1
              have E := Lib.hid (show sameP (l.drop k) (l'.drop k) = false by rw [HD.out, HD9.out, sameP, E0.out, E1.out]; rfl)
              go_wp2
              go_quiet (fail)
              go_wp2
              go_ret
              exact ⟨ret_bool (HS.out.symm.trans E.out).symm, HK.out.trans (Kept.drewN _ _)⟩
          · have e0 : eqS x x9 = false := by simpa using e0
            have E0 := Lib.hid e0
            have e0' : (x.toList == x9.toList) = false := e0
            clear e0
            have E := Lib.hid (show sameP (l.drop k) (l'.drop k) = false by rw [HD.out, HD9.out, sameP, E0.out]; rfl)
            go_wp2
            go_quiet (fail)
            go_wp2
            go_ret
            exact ⟨ret_bool (HS.out.symm.trans E.out).symm, HK.out.trans (Kept.drewN _ _)⟩
        · have E := Lib.hid (show sameP (l.drop k) (l'.drop k) = true by
            rw [List.drop_of_length_le (by rw [HL.out]; omega), List.drop_of_length_le (by rw [HL'.out]; omega), sameP])
          clear hrest hK
          go_wp2
          go_ret
          exact ⟨ret_bool (HS.out.symm.trans E.out).symm, HK.out⟩
  · have HV := Lib.hid (show sameP l l' = false from sameP_length (by omega))
    clear hr hl hr' hl'
    have hn : ((len : Int) != (len' : Int)) = true := by
      simp only [bne_iff_ne, ne_eq]; omega
    clear hll
    go_enter Tryz.func113, Tryz.ntmps113
    go_wp2
    go_ret
    exact ⟨ret_bool HV.out.symm, Kept.refl _⟩
theorem equalPR {v v' : Value} {l l' : PL} {c : Bool} {w : World} (h : Reads PairLay w v l) (h' : Reads PairLay w v' l') (hc : sameP l l' = c) :
    Calls Tryz.prog 113 #[v, v'] w (Say (.bool c) w) := by
  subst hc
  obtain ⟨a, cap, rfl, _, _, hr⟩ := h
  obtain ⟨a', cap', rfl, _, _, hr'⟩ := h'
  exact equalP_any a a' _ cap _ cap' l l' w hr hr'

set_option maxHeartbeats 800000 in
theorem equalA_any (a a' : Option Addr) (len cap len' cap' : Nat) (l l' : NL) (w : World) (hr : RowAt TaLay w a len l) (hr' : RowAt TaLay w a' len' l') :
    Calls Tryz.prog 114 #[.slice a len cap, .slice a' len' cap'] w fun e w' => e = .returned (.bool (sameA l l')) ∧ Kept w w' := by
  have hl := hr.1
  have hm := hr.2.1
  have hl' := hr'.1
  have hm' := hr'.2.1
  unfold maxLen at hm hm'
  by_cases hll : len = len'
  · subst hll
    by_cases h0 : len = 0
    · subst h0
      have HE := Lib.hid (show sameA l l' = true by rw [List.eq_nil_of_length_eq_zero hl, List.eq_nil_of_length_eq_zero hl']; rfl)
      clear hr hl hr' hl'
      go_enter Tryz.func114, Tryz.ntmps114
      go_wp2
      refine wp_loop_rounds 1 ?_
      rw [rounds_succ]
      go_wp2
      go_ret
      exact ⟨ret_bool HE.out.symm, Kept.refl _⟩
    · obtain ⟨b, off, rfl⟩ : ∃ b off, a = some ⟨b, off, none⟩ := hr.form.resolve_left h0
      obtain ⟨b', off', rfl⟩ : ∃ b off, a' = some ⟨b, off, none⟩ := hr'.form.resolve_left h0
      have HR := Lib.hid hr
      have HL := Lib.hid hl
      have HR' := Lib.hid hr'
      have HL' := Lib.hid hl'
      clear hr hl hr' hl' h0
      go_enter Tryz.func114, Tryz.ntmps114
      go_wp2
      go_loopw [13] (fun i wr => ∃ k : Nat, k ≤ len ∧ i = .int .i64 k ∧ sameA (l.drop k) (l'.drop k) = sameA l l' ∧ Kept w wr) (fun i _ => len - (intOf i).toNat)
      case atStart => exact ⟨0, Nat.zero_le _, rfl, rfl, Kept.refl _⟩
      case round =>
        obtain ⟨k, hk, rfl, hrest, hK⟩ := hrel
        have HS := Lib.hid hrest
        have HK := Lib.hid hK
        by_cases hlt : k < len
        · obtain ⟨x, y, m, hx, hd, hb, _, _, c1, c2, c3⟩ := (HR.out.kept hK).tri hlt
          obtain ⟨x9, y9, m9, hx9, hd9, hb9, _, _, d1, d2, d3⟩ := (HR'.out.kept hK).tri hlt
          have HD := Lib.hid hd
          have HD9 := Lib.hid hd9
          clear hrest hK hx hx9 hd hd9
          by_cases e0 : eqS x x9 = true
          · have E0 := Lib.hid e0
            have e0' : (x.toList == x9.toList) = true := e0
            clear e0
            by_cases e1 : eqS y y9 = true
            · have E1 := Lib.hid e1
              have e1' : (y.toList == y9.toList) = true := e1
              clear e1
              by_cases e2 : (m == m9) = true
              · have E2 := Lib.hid e2
                have e2' : (m == m9) = true := e2
                clear e2
                have E := Lib.hid (show sameA (l.drop k) (l'.drop k) = sameA (l.drop (k + 1)) (l'.drop (k + 1)) by rw [HD.out, HD9.out, sameA, E0.out, E1.out, E2.out]; rfl)
                go_wp2
                go_quiet (fail)
                go_wp2
                go_roundw
                case rel => exact ⟨k + 1, by omega, by go_num, E.out.symm.trans HS.out, HK.out.trans (Kept.drewN _ _)⟩
                case measure => simp [intOf]; omega
              · have e2 : (m == m9) = false := by simpa using e2
                have E2 := Lib.hid e2
                have e2' : (m == m9) = false := e2
                clear e2
                have E := Lib.hid (show sameA (l.drop k) (l'.drop k) = false by rw [HD.out, HD9.out, sameA, E0.out, E1.out, E2.out]; rfl)
                go_wp2
                go_quiet (fail)
                go_wp2
                go_ret
                exact ⟨ret_bool (HS.out.symm.trans E.out).symm, HK.out.trans (Kept.drewN _ _)⟩
            · have e1 : eqS y y9 = false := by simpa using e1
              have E1 := Lib.hid e1
              have e1' : (y.toList == y9.toList) = false := e1
              clear e1
              have E := Lib.hid (show sameA (l.drop k) (l'.drop k) = false by rw [HD.out, HD9.out, sameA, E0.out, E1.out]; rfl)
              go_wp2
              go_quiet (fail)
              go_wp2
              go_ret
              exact ⟨ret_bool (HS.out.symm.trans E.out).symm, HK.out.trans (Kept.drewN _ _)⟩
          · have e0 : eqS x x9 = false := by simpa using e0
            have E0 := Lib.hid e0
            have e0' : (x.toList == x9.toList) = false := e0
            clear e0
            have E := Lib.hid (show sameA (l.drop k) (l'.drop k) = false by rw [HD.out, HD9.out, sameA, E0.out]; rfl)
            go_wp2
            go_quiet (fail)
            go_wp2
            go_ret
            exact ⟨ret_bool (HS.out.symm.trans E.out).symm, HK.out.trans (Kept.drewN _ _)⟩
        · have E := Lib.hid (show sameA (l.drop k) (l'.drop k) = true by
            rw [List.drop_of_length_le (by rw [HL.out]; omega), List.drop_of_length_le (by rw [HL'.out]; omega), sameA])
          clear hrest hK
          go_wp2
          go_ret
          exact ⟨ret_bool (HS.out.symm.trans E.out).symm, HK.out⟩
  · have HV := Lib.hid (show sameA l l' = false from sameA_length (by omega))
    clear hr hl hr' hl'
    have hn : ((len : Int) != (len' : Int)) = true := by
      simp only [bne_iff_ne, ne_eq]; omega
    clear hll
    go_enter Tryz.func114, Tryz.ntmps114
    go_wp2
    go_ret
    exact ⟨ret_bool HV.out.symm, Kept.refl _⟩
theorem equalAR {v v' : Value} {l l' : NL} {c : Bool} {w : World} (h : Reads TaLay w v l) (h' : Reads TaLay w v' l') (hc : sameA l l' = c) :
    Calls Tryz.prog 114 #[v, v'] w (Say (.bool c) w) := by
  subst hc
  obtain ⟨a, cap, rfl, _, _, hr⟩ := h
  obtain ⟨a', cap', rfl, _, _, hr'⟩ := h'
  exact equalA_any a a' _ cap _ cap' l l' w hr hr'

end Go.Proofs.YtppbbgppooblfaaGreatDoor

/- Nodes: how they are held, whether they may be, whether two are the same. -/
namespace Go.Proofs.YtppbbgppooblfaaGreatDoor
open Go.RowKit
set_option linter.unusedVariables false

/-- A node's parts. -/
structure Nod where
  name : ByteArray
  cap : Vec.V
  labels : PL
  taints : NL
  cordon : Bool
def Nod.zero : Nod := ⟨ByteArray.empty, [], [], [], false⟩
abbrev NodV (n : Nod) (v1 v2 v3 : Value) : Value := .agg #[.string n.name, v1, v2, v3, .bool n.cordon]
/-- The three rows read as the node's. -/
structure NodAt (w : World) (v1 v2 v3 : Value) (n : Nod) : Prop where
  size : n.name.size ≤ maxLen
  cap : Vec.Reads w v1 n.cap
  labels : Reads PairLay w v2 n.labels
  taints : Reads TaLay w v3 n.taints
theorem NodAt.kept {w w' : World} {v1 v2 v3 : Value} {n : Nod} (h : NodAt w v1 v2 v3 n) (k : Kept w w') : NodAt w' v1 v2 v3 n := ⟨h.size, h.cap.kept k, h.labels.kept k, h.taints.kept k⟩
/-- A value that reads as a node. -/
def NodR (w : World) (v : Value) (n : Nod) : Prop := ∃ v1 v2 v3, v = NodV n v1 v2 v3 ∧ NodAt w v1 v2 v3 n
theorem NodR.kept {w w' : World} {v : Value} {n : Nod} (h : NodR w v n) (k : Kept w w') : NodR w' v n := by
  obtain ⟨v1, v2, v3, e, h⟩ := h
  exact ⟨v1, v2, v3, e, h.kept k⟩

/-- What is wrong with a node. -/
def chkNod (n : Nod) : Int := if isName n.name = false then 3 else if Vec.checkV n.cap ≠ 0 then Vec.checkV n.cap else if chkS n.labels ≠ 0 then chkS n.labels else chkA n.taints
/-- Whether two are the same. -/
def sameN (a b : Nod) : Bool := eqS a.name b.name && ((a.cordon == b.cordon) && (Vec.sameFrom a.cap b.cap && (sameP a.labels b.labels && sameA a.taints b.taints)))
theorem sameN_self (a : Nod) : sameN a a = true := by
  unfold sameN
  rw [eqS_self, Vec.same_self, sameP_self, sameA_self]; simp

/-- The first of three that is none. -/
def or3 (a b c : Int) : Int := if a ≠ 0 then a else if b ≠ 0 then b else c
theorem or3_any (b : Nat) (x y z : Int) (w : World) (c0 : w.cell? ⟨b, 0, none⟩ = some (.int .i64 x)) (c1 : w.cell? ⟨b, 1, none⟩ = some (.int .i64 y)) (c2 : w.cell? ⟨b, 2, none⟩ = some (.int .i64 z)) :
    Calls Tryz.prog 110 #[.slice (some ⟨b, 0, none⟩) 3 3] w fun e w' => e = .returned (.int .i64 (or3 x y z)) ∧ w = w' := by
  by_cases hx : x = 0
  · subst hx
    by_cases hy : y = 0
    · subst hy
      by_cases hz : z = 0
      · subst hz
        have HV := Lib.hid (show or3 0 0 0 = 0 from rfl)
        go_enter Tryz.func110, Tryz.ntmps110
        go_wp2
        refine wp_loop_rounds 4 ?_
        iterate 4
          rw [rounds_succ]
          go_wp2
        go_ret
        exact ⟨ret_i64 HV.out.symm, rfl⟩
      · have HV := Lib.hid (show or3 0 0 z = z from rfl)
        have hz' : (z != 0) = true := by simpa using hz
        clear hz
        go_enter Tryz.func110, Tryz.ntmps110
        go_wp2
        refine wp_loop_rounds 3 ?_
        iterate 3
          rw [rounds_succ]
          go_wp2
        go_ret
        exact ⟨ret_i64 HV.out.symm, rfl⟩
    · have HV := Lib.hid (show or3 0 y z = y by unfold or3; rw [if_neg (by decide), if_pos hy])
      have hy' : (y != 0) = true := by simpa using hy
      clear hy
      go_enter Tryz.func110, Tryz.ntmps110
      go_wp2
      refine wp_loop_rounds 2 ?_
      iterate 2
        rw [rounds_succ]
        go_wp2
      go_ret
      exact ⟨ret_i64 HV.out.symm, rfl⟩
  · have HV := Lib.hid (show or3 x y z = x by unfold or3; rw [if_pos hx])
    have hx' : (x != 0) = true := by simpa using hx
    clear hx
    go_enter Tryz.func110, Tryz.ntmps110
    go_wp2
    refine wp_loop_rounds 1 ?_
    rw [rounds_succ]
    go_wp2
    go_ret
    exact ⟨ret_i64 HV.out.symm, rfl⟩

set_option maxHeartbeats 800000 in
theorem checkN_any (n : Nod) (v1 v2 v3 : Value) (w : World) (h : NodAt w v1 v2 v3 n) :
    Calls Tryz.prog 44 #[NodV n v1 v2 v3] w (Say (.int .i64 (chkNod n)) w) := by
  by_cases h1 : isName n.name = true
  · have HV := Lib.hid (show chkNod n = or3 (Vec.checkV n.cap) (chkS n.labels) (chkA n.taints) by unfold chkNod; rw [if_neg (by rw [h1]; decide)]; rfl)
    obtain ⟨W0, hW0⟩ : ∃ W0, w.alloc (.cells #[.string n.name, v1, v2, v3, .bool n.cordon] 53) = W0 := ⟨_, rfl⟩
    have hk0 : Kept w W0 := by rw [← hW0]; exact kept_alloc _ _
    have HC := Lib.hid (show ∀ W, Kept W0 W → W.cell? ⟨w.heap.size, 0, none⟩ = some (.string n.name) ∧ W.cell? ⟨w.heap.size, 1, none⟩ = some v1 ∧ W.cell? ⟨w.heap.size, 2, none⟩ = some v2 ∧ W.cell? ⟨w.heap.size, 3, none⟩ = some v3 from fun W k => by
      have hh := w.alloc_heap_new (.cells #[.string n.name, v1, v2, v3, .bool n.cordon] 53)
      rw [hW0] at hh
      exact ⟨cell_later k (by rw [Lib.cell_of_heap hh]; rfl), cell_later k (by rw [Lib.cell_of_heap hh]; rfl), cell_later k (by rw [Lib.cell_of_heap hh]; rfl), cell_later k (by rw [Lib.cell_of_heap hh]; rfl)⟩)
    have H1 := Lib.hid (fun W (k : Kept W0 W) => Vec.checkR (h.cap.kept (hk0.trans k)) rfl)
    have H2 := Lib.hid (fun W (k : Kept W0 W) => checkR (h.labels.kept (hk0.trans k)) rfl)
    have H3 := Lib.hid (fun W (k : Kept W0 W) => checkAR (h.taints.kept (hk0.trans k)) rfl)
    have hsz := h.size
    have HK0 := Lib.hid hk0
    obtain ⟨x1, hx1⟩ : ∃ x, Vec.checkV n.cap = x := ⟨_, rfl⟩
    obtain ⟨x2, hx2⟩ : ∃ x, chkS n.labels = x := ⟨_, rfl⟩
    obtain ⟨x3, hx3⟩ : ∃ x, chkA n.taints = x := ⟨_, rfl⟩
    rw [hx1] at HV H1
    rw [hx2] at HV H2
    rw [hx3] at HV H3
    obtain ⟨c0, c1, c2, c3⟩ := HC.out _ (Kept.refl _)
    clear hx1 hx2 hx3 h hk0
    unfold NodV
    go_enter Tryz.func44, Tryz.ntmps44
    go_wp2_with fail
    refine (Vec.nameR hsz h1).mono ?_
    rintro e w' ⟨rfl, rfl⟩
    try rw [hW0]
    clear hW0
    go_wp2
    go_region_held3 (fun W => W.cell? ⟨w.heap.size, 1, none⟩ = some v1 ∧ W.cell? ⟨w.heap.size, 2, none⟩ = some v2 ∧ W.cell? ⟨w.heap.size, 3, none⟩ = some v3)
      (first | exact (HC.out _ (Kept.drew _)).2 | exact (HC.out _ K1.out).2 | exact (HC.out _ K2.out).2 | exact (HC.out _ K3.out).2 | exact (HC.out _ (K3.out.trans (kept_alloc _ _))).2)
      (first | (go_at_call 17; refine (H1.out _ (Kept.drew _)).mono ?_; rintro e1 w1 ⟨rfl, k1⟩; have K1 := Lib.hid ((Kept.drew _).trans k1); clear k1)
             | (go_at_call 111; refine (H2.out _ K1.out).mono ?_; rintro e2 w2 ⟨rfl, k2⟩; have K2 := Lib.hid (K1.out.trans k2); clear k2)
             | (go_at_call 112; refine (H3.out _ K2.out).mono ?_; rintro e3 w3 ⟨rfl, k3⟩; have K3 := Lib.hid (K2.out.trans k3); clear k3)
             | (go_at_call 110; refine (or3_any _ x1 x2 x3 _ (by go_simp) (by go_simp) (by go_simp)).mono ?_; rintro e4 w4 ⟨rfl, rfl⟩))
    go_wp2
    go_ret
    exact ⟨ret_i64 HV.out.symm, HK0.out.trans (K3.out.trans (kept_alloc _ _))⟩
  · have h1 : isName n.name = false := by simpa using h1
    have HV := Lib.hid (show chkNod n = 3 by unfold chkNod; rw [if_pos h1])
    have hsz := h.size
    clear h
    unfold NodV
    go_enter Tryz.func44, Tryz.ntmps44
    go_wp2_with (go_at_call 36; refine (Vec.nameR hsz h1).mono ?_; rintro e w' ⟨rfl, rfl⟩)
    go_ret
    exact ⟨ret_i64 HV.out.symm, kept_alloc _ _⟩
theorem checkNR {v : Value} {n : Nod} {c : Int} {w : World} (h : NodR w v n) (hc : chkNod n = c) : Calls Tryz.prog 44 #[v] w (Say (.int .i64 c) w) := by
  subst hc
  obtain ⟨v1, v2, v3, rfl, h⟩ := h
  exact checkN_any n v1 v2 v3 w h

end Go.Proofs.YtppbbgppooblfaaGreatDoor

/- The reference's Decimal. -/
namespace Go.Proofs.YtppbbgppooblfaaGreatDoor.Vec
open Go.RowKit Go.Proofs.YtppbbgppooblfaaGreatDoor
set_option linter.unusedVariables false

end Go.Proofs.YtppbbgppooblfaaGreatDoor.Vec

/- The reference's VecText. -/
namespace Go.Proofs.YtppbbgppooblfaaGreatDoor.Vec
open Go.RowKit Go.Proofs.YtppbbgppooblfaaGreatDoor
set_option linter.unusedVariables false

end Go.Proofs.YtppbbgppooblfaaGreatDoor.Vec

/- A node in words: the program's, the reference's. -/
namespace Go.Proofs.YtppbbgppooblfaaGreatDoor
open Go.RowKit
set_option linter.unusedVariables false

/-- A node none of whose parts is very long. -/
structure MidNod (n : Nod) : Prop where
  name : n.name.size ≤ 1000000
  cap : Vec.fewV n.cap = true
  labels : n.labels.length ≤ 1000000 ∧ ∀ x ∈ n.labels, x.1.size ≤ 1000000 ∧ x.2.size ≤ 1000000
  taints : n.taints.length ≤ 1000000 ∧ ∀ x ∈ n.taints, x.1.size ≤ 900000 ∧ x.2.1.size ≤ 900000
def lastB (c : Bool) : ByteArray := if c = true then ⟨#[99, 111, 114, 100, 111, 110]⟩ else ⟨#[117, 112]⟩
theorem lastB_size (c : Bool) : (lastB c).size ≤ 6 := by cases c <;> decide
def textN (n : Nod) : ByteArray := n.name ++ ⟨#[32]⟩ ++ bytes (Vec.textV n.cap) ++ ⟨#[32]⟩ ++ textS n.labels ++ ⟨#[32]⟩ ++ textA n.taints ++ ⟨#[32]⟩ ++ lastB n.cordon

theorem textS_size {l : PL} (hn : l.length ≤ 1000000) (h : ∀ x ∈ l, x.1.size ≤ 1000000 ∧ x.2.size ≤ 1000000) : (textS l).size ≤ 3000000000000 := by
  unfold textS
  split
  · decide
  · have := joinB_size (ts := l.map pairB) (fun z hz => by obtain ⟨x, hx, rfl⟩ := List.mem_map.1 hz; exact pairB_size (h x hx).1 (h x hx).2)
    rw [List.length_map] at this
    omega
theorem textA_size {l : NL} (hn : l.length ≤ 1000000) (h : ∀ x ∈ l, x.1.size ≤ 900000 ∧ x.2.1.size ≤ 900000) : (textA l).size ≤ 3000000000000 := by
  unfold textA
  split
  · decide
  · have := joinB_size (ts := l.map taintB) (fun z hz => by obtain ⟨x, hx, rfl⟩ := List.mem_map.1 hz; exact taintB_size (h x hx).1 (h x hx).2)
    rw [List.length_map] at this
    omega
theorem joinFrom_len : ∀ (l : Vec.V) (b : Bool), (∀ x ∈ l, x.1.size ≤ 50 ∧ -9223372036854775808 ≤ x.2 ∧ x.2 ≤ 9223372036854775807) → (Vec.joinFrom b l).length ≤ 80 * l.length
  | [], b, _ => by rw [Vec.joinFrom]; simp
  | x :: t, b, h => by
    have ih := joinFrom_len t false (fun y hy => h y (List.mem_cons_of_mem _ hy))
    obtain ⟨h1, h2, h3⟩ := h x (List.mem_cons_self ..)
    have hi := Lib.itoa_length_le x.2 h2 h3
    have hx : x.1.data.toList.length = x.1.size := by rw [Array.length_toList, ByteArray.size_data]
    rw [Vec.joinFrom]
    simp only [List.length_append, List.length_cons, List.length_nil, hx]
    cases b <;> simp <;> omega
theorem textV_few {l : Vec.V} (h : Vec.fewV l = true) (hf : Vec.Fine l) : (Vec.textV l).length ≤ 2000 := by
  unfold Vec.fewV at h
  simp only [Bool.and_eq_true, decide_eq_true_eq] at h
  unfold Vec.textV
  split
  · decide
  · have := joinFrom_len l true (fun x hx => by
      obtain ⟨k, hk, rfl⟩ := List.getElem_of_mem hx
      have e : l.getD k (ByteArray.empty, 0) = l[k] := by simp [List.getD, hk]
      have h1 := Vec.fewFrom_at h.2 hk
      have h2 := (hf k hk).2
      unfold Vec.nm at h1
      unfold Vec.qn at h2
      rw [e] at h1 h2
      exact ⟨h1, h2⟩)
    omega
theorem join_five (x a b c d : ByteArray) : (⟨(Lib.join ([x, a, b, c, d].map (·.data.toList)) [32]).toArray⟩ : ByteArray) = x ++ ⟨#[32]⟩ ++ a ++ ⟨#[32]⟩ ++ b ++ ⟨#[32]⟩ ++ c ++ ⟨#[32]⟩ ++ d := by
  apply Go.WideShapes.bytes_inj
  simp [Lib.join, List.intercalate, ByteArray.data_append]

theorem cordonText_any (c : Bool) (w : World) : Calls Tryz.prog 123 #[.bool c] w fun e w' => e = .returned (.string (lastB c)) ∧ w = w' := by
  cases c
  · go_enter Tryz.func123, Tryz.ntmps123
    go_wp2
    go_ret
    exact ⟨rfl, rfl⟩
  · go_enter Tryz.func123, Tryz.ntmps123
    go_wp2
    go_ret
    exact ⟨rfl, rfl⟩

set_option maxRecDepth 100000 in
set_option maxHeartbeats 1600000 in
theorem textN_any (n : Nod) (v1 v2 v3 : Value) (w : World) (hE : Vec.EnvT w) (h : NodAt w v1 v2 v3 n) (hm : MidNod n) :
    Calls Tryz.prog 48 #[NodV n v1 v2 v3] w (Say (.string (textN n)) w) := by
  obtain ⟨A, hA⟩ : ∃ A, bytes (Vec.textV n.cap) = A := ⟨_, rfl⟩
  obtain ⟨B, hB⟩ : ∃ B, textS n.labels = B := ⟨_, rfl⟩
  obtain ⟨C, hC⟩ : ∃ C, textA n.taints = C := ⟨_, rfl⟩
  obtain ⟨D, hD⟩ : ∃ D, lastB n.cordon = D := ⟨_, rfl⟩
  obtain ⟨x, hx⟩ : ∃ x, n.name = x := ⟨_, rfl⟩
  obtain ⟨c, hc⟩ : ∃ c, n.cordon = c := ⟨_, rfl⟩
  have HV := Lib.hid (show textN n = ⟨(Lib.join ([x, A, B, C, D].map (·.data.toList)) [32]).toArray⟩ by rw [join_five]; unfold textN; rw [hA, hB, hC, hD, hx])
  have sA : A.size ≤ 2000 := by rw [← hA]; exact textV_few hm.cap h.cap.fine
  have sB : B.size ≤ 3000000000000 := by rw [← hB]; exact textS_size hm.labels.1 hm.labels.2
  have sC : C.size ≤ 3000000000000 := by rw [← hC]; exact textA_size hm.taints.1 hm.taints.2
  have sD : D.size ≤ 6 := by rw [← hD]; exact lastB_size _
  have sx : x.size ≤ 1000000 := by rw [← hx]; exact hm.name
  have HJ := Lib.hid (show (Lib.join ([x, A, B, C, D].map (·.data.toList)) [32]).length ≤ 140737488355328 by
    have := congrArg ByteArray.size (join_five x A B C D)
    have e : (⟨(Lib.join ([x, A, B, C, D].map (·.data.toList)) [32]).toArray⟩ : ByteArray).size = (Lib.join ([x, A, B, C, D].map (·.data.toList)) [32]).length := by simp [ByteArray.size]
    rw [e] at this
    rw [this]
    have z : (⟨#[32]⟩ : ByteArray).size = 1 := rfl
    simp only [ByteArray.size_append, z]
    omega)
  have H1 := Lib.hid (fun W (k : Kept w W) => Vec.textR (hE.kept k) (h.cap.kept k) hm.cap rfl)
  have H2 := Lib.hid (fun W (k : Kept w W) => textR (h.labels.kept k) hm.labels.2 hm.labels.1 rfl)
  have H3 := Lib.hid (fun W (k : Kept w W) => textAR (h.taints.kept k) hm.taints.2 hm.taints.1 rfl)
  have H4 := Lib.hid (fun W => cordonText_any c W)
  rw [hA] at H1
  rw [hB] at H2
  rw [hC] at H3
  rw [← hc, hD] at H4
  unfold NodV
  rw [hc] at H4 ⊢
  rw [hx]
  obtain ⟨W0, hW0⟩ : ∃ W0, w.alloc (.cells #[.string x, v1, v2, v3, .bool c] 53) = W0 := ⟨_, rfl⟩
  have K0 := Lib.hid (show Kept w W0 by rw [← hW0]; exact kept_alloc _ _)
  have HC := Lib.hid (show ∀ W, Kept W0 W → W.cell? ⟨w.heap.size, 0, none⟩ = some (.string x) ∧ W.cell? ⟨w.heap.size, 1, none⟩ = some v1 ∧ W.cell? ⟨w.heap.size, 2, none⟩ = some v2 ∧ W.cell? ⟨w.heap.size, 3, none⟩ = some v3 ∧ W.cell? ⟨w.heap.size, 4, none⟩ = some (.bool c) from fun W k => by
    have hh := w.alloc_heap_new (.cells #[.string x, v1, v2, v3, .bool c] 53)
    rw [hW0] at hh
    exact ⟨cell_later k (by rw [Lib.cell_of_heap hh]; rfl), cell_later k (by rw [Lib.cell_of_heap hh]; rfl), cell_later k (by rw [Lib.cell_of_heap hh]; rfl), cell_later k (by rw [Lib.cell_of_heap hh]; rfl), cell_later k (by rw [Lib.cell_of_heap hh]; rfl)⟩)
  have HJC := Lib.hid (show ∀ W : World, Calls Tryz.prog 120 #[.slice (some ⟨W.heap.size, 0, none⟩) 5 5] (W.alloc (.cells #[.string x, .string A, .string B, .string C, .string D] 9)) fun e w' => e = .returned (.string ⟨(Lib.join ([x, A, B, C, D].map (·.data.toList)) [32]).toArray⟩) ∧ Kept (W.alloc (.cells #[.string x, .string A, .string B, .string C, .string D] 9)) w' from fun W => by
    have hh := W.alloc_heap_new (.cells #[.string x, .string A, .string B, .string C, .string D] 9)
    refine pjoin_of ?_
    refine Tryz.strings_Join W.heap.size 0 5 [x, A, B, C, D] ⟨#[32]⟩ _ (fun j z hj => ?_) (by simp) (by simp) (by simp) HJ.out
    match j, hj with
    | 0, hj => have : x = z := by simpa using hj
               subst this; rw [Lib.cell_of_heap hh]; rfl
    | 1, hj => have : A = z := by simpa using hj
               subst this; rw [Lib.cell_of_heap hh]; rfl
    | 2, hj => have : B = z := by simpa using hj
               subst this; rw [Lib.cell_of_heap hh]; rfl
    | 3, hj => have : C = z := by simpa using hj
               subst this; rw [Lib.cell_of_heap hh]; rfl
    | 4, hj => have : D = z := by simpa using hj
               subst this; rw [Lib.cell_of_heap hh]; rfl
    | j + 5, hj => simp at hj)
  have HR := Lib.hid (show (.string (textN n) : Value) = .string ⟨(Lib.join ([x, A, B, C, D].map (·.data.toList)) [32]).toArray⟩ by rw [HV.out])
  obtain ⟨RES, hRES⟩ : ∃ R, (⟨(Lib.join ([x, A, B, C, D].map (·.data.toList)) [32]).toArray⟩ : ByteArray) = R := ⟨_, rfl⟩
  rw [hRES] at HR HJC
  rw [HR.out]
  clear hA hB hC hD hx hc sA sB sC sD sx h hm hE HV HJ HR hRES
  go_enter Tryz.func48, Tryz.ntmps48
  go_wp2
  try rw [hW0]
  go_region_held3 (fun W => W.cell? ⟨w.heap.size, 0, none⟩ = some (.string x) ∧ W.cell? ⟨w.heap.size, 1, none⟩ = some v1 ∧ W.cell? ⟨w.heap.size, 2, none⟩ = some v2 ∧ W.cell? ⟨w.heap.size, 3, none⟩ = some v3 ∧ W.cell? ⟨w.heap.size, 4, none⟩ = some (.bool c))
    (first | exact HC.out _ (Kept.drew _) | exact HC.out _ K1.out | exact HC.out _ K2.out | exact HC.out _ K3.out | exact HC.out _ (K3.out.trans (kept_alloc _ _)) | exact HC.out _ K5.out)
    (first | (go_at_call 21; refine (H1.out _ (K0.out.trans (Kept.drew _))).mono ?_; rintro e1 w1 ⟨rfl, k1⟩; have K1 := Lib.hid ((Kept.drew _).trans k1); clear k1)
           | (go_at_call 121; refine (H2.out _ (K0.out.trans K1.out)).mono ?_; rintro e2 w2 ⟨rfl, k2⟩; have K2 := Lib.hid (K1.out.trans k2); clear k2)
           | (go_at_call 122; refine (H3.out _ (K0.out.trans K2.out)).mono ?_; rintro e3 w3 ⟨rfl, k3⟩; have K3 := Lib.hid (K2.out.trans k3); clear k3)
           | (go_at_call 123; refine (H4.out _).mono ?_; rintro e4 w4 ⟨rfl, rfl⟩)
           | (go_at_call 120; refine (HJC.out _).mono ?_; rintro e5 w5 ⟨rfl, k5⟩; have K5 := Lib.hid ((K3.out.trans (kept_alloc _ _)).trans k5); clear k5))
  go_wp2
  go_ret
  exact ⟨rfl, K0.out.trans K5.out⟩
theorem textNR {v : Value} {n : Nod} {t : ByteArray} {w : World} (hE : Vec.EnvT w) (h : NodR w v n) (hm : MidNod n) (ht : textN n = t) : Calls Tryz.prog 48 #[v] w (Say (.string t) w) := by
  subst ht
  obtain ⟨v1, v2, v3, rfl, h⟩ := h
  exact textN_any n v1 v2 v3 w hE h hm

end Go.Proofs.YtppbbgppooblfaaGreatDoor

/- A node's five words. -/
namespace Go.Proofs.YtppbbgppooblfaaGreatDoor
open Go.RowKit
set_option linter.unusedVariables false

def upL : List UInt8 := [117, 112]
def cordonL : List UInt8 := [99, 111, 114, 100, 111, 110]
def lastOk (p : List UInt8) : Bool := p == upL || p == cordonL
/-- The words of a node's text, if it has them. -/
def wordsL (s : List UInt8) : Option (List (List UInt8)) := if (partsAt 32 s).length = 5 ∧ lastOk ((partsAt 32 s).getD 4 []) = true then some (partsAt 32 s) else none

/-- What wordsOf does. -/
def Worded (s : List UInt8) (w : World) (e : Ending) (w' : World) : Prop :=
  (∀ ps, wordsL s = some ps → ∃ g cap, e = .returned (.slice (some ⟨g, 0, none⟩) 5 cap) ∧ ∀ j p, ps[j]? = some p → w'.cell? ⟨g, j, none⟩ = some (.string (bytes p))) ∧
  (wordsL s = none → e = .panicked [perr 2]) ∧ Kept w w'

set_option maxRecDepth 100000 in
set_option maxHeartbeats 1600000 in
theorem words_any (s : List UInt8) (w : World) (hE : Env w) (hs : s.length ≤ 1000000) :
    Calls Tryz.prog 184 #[.string (bytes s)] w (Worded s w) := by
  have HW0 := Lib.hid (pwords5 s w hE hs)
  clear hE
  by_cases hp : (partsAt 32 s).length = 5
  · obtain ⟨p4, h4⟩ : ∃ p, (partsAt 32 s)[4]? = some p := ⟨_, List.getElem?_eq_getElem (by omega)⟩
    have hg4 : (partsAt 32 s).getD 4 [] = p4 := by simp [List.getD, h4]
    have t1 : ((bytes p4).toList == [117, 112]) = (p4 == upL) := by rw [bytes_toList]; rfl
    have t2 : ((bytes p4).toList == [99, 111, 114, 100, 111, 110]) = (p4 == cordonL) := by rw [bytes_toList]; rfl
    have HW := Lib.hid (show wordsL s = if lastOk p4 = true then some (partsAt 32 s) else none by
      unfold wordsL
      rw [hg4]
      by_cases hk : lastOk p4 = true
      · rw [if_pos ⟨hp, hk⟩, if_pos hk]
      · rw [if_neg (fun h => hk h.2), if_neg hk])
    have H4 := Lib.hid h4
    have HP := Lib.hid hp
    clear h4 hg4 hp
    by_cases q1 : (p4 == upL) = true
    · have HN := Lib.hid (show wordsL s = some (partsAt 32 s) by rw [HW.out, if_pos (by unfold lastOk; rw [q1]; rfl)])
      rw [q1] at t1
      clear HW
      go_enter Tryz.func184, Tryz.ntmps184
      go_wp2_with fail
      refine HW0.out.mono ?_
      rintro e w1 ⟨ha, -, hk⟩
      obtain ⟨g, cap, rfl, -, hc⟩ := ha HP.out
      have c4 := hc 4 p4 H4.out
      have HK := Lib.hid hk
      have HC := Lib.hid hc
      clear ha hk hc
      go_wp2
      go_ret
      exact ⟨fun qs h => (by rw [HN.out] at h; cases h; exact ⟨_, _, rfl, HC.out⟩), fun h => (by rw [HN.out] at h; cases h), HK.out⟩
    · have q1 : (p4 == upL) = false := by simpa using q1
      rw [q1] at t1
      by_cases q2 : (p4 == cordonL) = true
      · have HN := Lib.hid (show wordsL s = some (partsAt 32 s) by rw [HW.out, if_pos (by unfold lastOk; rw [q2]; simp)])
        rw [q2] at t2
        clear HW
        go_enter Tryz.func184, Tryz.ntmps184
        go_wp2_with fail
        refine HW0.out.mono ?_
        rintro e w1 ⟨ha, -, hk⟩
        obtain ⟨g, cap, rfl, -, hc⟩ := ha HP.out
        have c4 := hc 4 p4 H4.out
        have HK := Lib.hid hk
        have HC := Lib.hid hc
        clear ha hk hc
        go_wp2
        go_ret
        exact ⟨fun qs h => (by rw [HN.out] at h; cases h; exact ⟨_, _, rfl, HC.out⟩), fun h => (by rw [HN.out] at h; cases h), HK.out⟩
      · have q2 : (p4 == cordonL) = false := by simpa using q2
        have HN := Lib.hid (show wordsL s = none by rw [HW.out, if_neg (by unfold lastOk; rw [q1, q2]; decide)])
        rw [q2] at t2
        clear HW
        go_enter Tryz.func184, Tryz.ntmps184
        go_wp2_with fail
        refine HW0.out.mono ?_
        rintro e w1 ⟨ha, -, hk⟩
        obtain ⟨g, cap, rfl, -, hc⟩ := ha HP.out
        have c4 := hc 4 p4 H4.out
        have HK := Lib.hid hk
        have HC := Lib.hid hc
        clear ha hk hc
        go_wp2
        exact ⟨rfl, ⟨fun qs h => (by rw [HN.out] at h; cases h), fun _ => rfl, HK.out⟩⟩
  · have HN := Lib.hid (show wordsL s = none by unfold wordsL; rw [if_neg (by intro h; exact hp h.1)])
    have HP := Lib.hid hp
    clear hp
    go_enter Tryz.func184, Tryz.ntmps184
    go_wp2_with fail
    refine HW0.out.mono ?_
    rintro e w1 ⟨-, hb, hk⟩
    obtain rfl := hb HP.out
    have HK := Lib.hid hk
    clear hb hk
    go_wp2
    exact ⟨rfl, ⟨fun ps h => (by rw [HN.out] at h; cases h), fun _ => rfl, HK.out⟩⟩

end Go.Proofs.YtppbbgppooblfaaGreatDoor
