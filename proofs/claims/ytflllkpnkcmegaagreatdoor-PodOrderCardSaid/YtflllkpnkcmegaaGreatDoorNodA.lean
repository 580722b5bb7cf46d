/- Package by package: contracts of the functions that the laws call. -/
import Derived.Test.YtflllkpnkcmegaaGreatDoorLab
import Derived.Test.YtflllkpnkcmegaaGreatDoorTai
import Derived.Test.YtflllkpnkcmegaaGreatDoorResC
import Derived.Deep.RegionHeld3
import Derived.Laws.BytesArg
import Derived.Test.YtflllkpnkcmegaaGreatDoorBase

/- Whether two rows of pairs, of taints are the same: slices.Equal, and the reference's loops. -/
namespace Go.Proofs.YtflllkpnkcmegaaGreatDoor
open Go.RowKit
set_option linter.unusedVariables false

/-- Alike, pair by pair. -/
def sameP : PL → PL → Bool
  | [], [] => true
  | x :: s, y :: t => (eqS x.1 y.1 && eqS x.2 y.2) && sameP s t
  | _, _ => false
/-- Alike, taint by taint. -/
def sameA : NL → NL → Bool
  | [], [] => true
  | x :: s, y :: t => (eqS x.1 y.1 && (eqS x.2.1 y.2.1 && (x.2.2 == y.2.2))) && sameA s t
  | _, _ => false
theorem sameP_length : ∀ {l l' : PL}, l.length ≠ l'.length → sameP l l' = false
  | [], [], h => absurd rfl h
  | [], _ :: _, _ => rfl
  | _ :: _, [], _ => rfl
  | x :: s, y :: t, h => by rw [sameP, sameP_length (l := s) (l' := t) (fun e => h (by simp [e])), Bool.and_false]
theorem sameA_length : ∀ {l l' : NL}, l.length ≠ l'.length → sameA l l' = false
  | [], [], h => absurd rfl h
  | [], _ :: _, _ => rfl
  | _ :: _, [], _ => rfl
  | x :: s, y :: t, h => by rw [sameA, sameA_length (l := s) (l' := t) (fun e => h (by simp [e])), Bool.and_false]
theorem sameP_self : ∀ l : PL, sameP l l = true
  | [] => rfl
  | x :: t => by rw [sameP, sameP_self t, eqS_self, eqS_self]; rfl
theorem sameA_self : ∀ l : NL, sameA l l = true
  | [] => rfl
  | x :: t => by rw [sameA, sameA_self t, eqS_self, eqS_self]; simp
set_option maxHeartbeats 800000 in
theorem equalP_any (a a' : Option Addr) (len cap len' cap' : Nat) (l l' : PL) (w : World) (hr : RowAt PairLay w a len l) (hr' : RowAt PairLay w a' len' l') :
    Calls Tryz.prog 64 #[.slice a len cap, .slice a' len' cap'] w fun e w' => e = .returned (.bool (sameP l l')) ∧ Kept w w' := by
  have hl := hr.1
  have hm := hr.2.1
  have hl' := hr'.1
  have hm' := hr'.2.1
  unfold maxLen at hm hm'
  by_cases hll : len = len'
  · subst hll
    by_cases h0 : len = 0
    · subst h0
      have HE := Lib.hid (show sameP l l' = true by rw [List.eq_nil_of_length_eq_zero hl, List.eq_nil_of_length_eq_zero hl']; rfl)
      clear hr hl hr' hl'
      go_enter Tryz.func64, Tryz.ntmps64
      go_wp2
      refine wp_loop_rounds 1 ?_
      rw [rounds_succ]
      go_wp2
      go_ret
      exact ⟨ret_bool HE.out.symm, Kept.refl _⟩
    · obtain ⟨b, off, rfl⟩ : ∃ b off, a = some ⟨b, off, none⟩ := hr.form.resolve_left h0
      obtain ⟨b', off', rfl⟩ : ∃ b off, a' = some ⟨b, off, none⟩ := hr'.form.resolve_left h0
      have HR := Lib.hid hr
      have HL := Lib.hid hl
      have HR' := Lib.hid hr'
      have HL' := Lib.hid hl'
      clear hr hl hr' hl' h0
      go_enter Tryz.func64, Tryz.ntmps64
      go_wp2
      go_loopw [13] (fun i wr => ∃ k : Nat, k ≤ len ∧ i = .int .i64 k ∧ sameP (l.drop k) (l'.drop k) = sameP l l' ∧ Kept w wr) (fun i _ => len - (intOf i).toNat)
      case atStart => exact ⟨0, Nat.zero_le _, rfl, rfl, Kept.refl _⟩
      case round =>
        obtain ⟨k, hk, rfl, hrest, hK⟩ := hrel
        have HS := Lib.hid hrest
        have HK := Lib.hid hK
        by_cases hlt : k < len
        · obtain ⟨x, y, hx, hd, hb, _, _, c1, c2⟩ := (HR.out.kept hK).pair hlt
          obtain ⟨x9, y9, hx9, hd9, hb9, _, _, d1, d2⟩ := (HR'.out.kept hK).pair hlt
          have HD := Lib.hid hd
          have HD9 := Lib.hid hd9
          clear hrest hK hx hx9 hd hd9
          by_cases e0 : eqS x x9 = true
          · have E0 := Lib.hid e0
            have e0' : (x.toList == x9.toList) = true := e0
            clear e0
            by_cases e1 : eqS y y9 = true
            · have E1 := Lib.hid e1
              have e1' : (y.toList == y9.toList) = true := e1
              clear e1
              have E := Lib.hid (show sameP (l.drop k) (l'.drop k) = sameP (l.drop (k + 1)) (l'.drop (k + 1)) by rw [HD.out, HD9.out, sameP, E0.out, E1.out]; rfl)
              go_wp2
              go_quiet (fail)
              go_wp2
              go_roundw
              case rel => exact ⟨k + 1, by omega, by go_num, E.out.symm.trans HS.out, HK.out.trans (Kept.drewN _ _)⟩
              case measure => simp [intOf]; omega
            · have e1 : eqS y y9 = false := by simpa using e1
              have E1 := Lib.hid e1
              have e1' : (y.toList == y9.toList) = false := e1
              clear e1
              have E := Lib.hid (show sameP (l.drop k) (l'.drop k) = false by rw [HD.out, HD9.out, sameP, E0.out, E1.out]; rfl)
              go_wp2
              go_quiet (fail)
              go_wp2
              go_ret
              exact ⟨ret_bool (HS.out.symm.trans E.out).symm, HK.out.trans (Kept.drewN _ _)⟩
          · have e0 : eqS x x9 = false := by simpa using e0
            have E0 := Lib.hid e0
            have e0' : (x.toList == x9.toList) = false := e0
            clear e0
            have E := Lib.hid (show sameP (l.drop k) (l'.drop k) = false by rw [HD.out, HD9.out, sameP, E0.out]; rfl)
            go_wp2
            go_quiet (fail)
            go_wp2
            go_ret
            exact ⟨ret_bool (HS.out.symm.trans E.out).symm, HK.out.trans (Kept.drewN _ _)⟩
        · have E := Lib.hid (show sameP (l.drop k) (l'.drop k) = true by
            rw [List.drop_of_length_le (by rw [HL.out]; omega), List.drop_of_length_le (by rw [HL'.out]; omega), sameP])
          clear hrest hK
          go_wp2
          go_ret
          exact ⟨ret_bool (HS.out.symm.trans E.out).symm, HK.out⟩
  · have HV := Lib.hid (show sameP l l' = false from sameP_length (by omega))
    clear hr hl hr' hl'
    have hn : ((len : Int) != (len' : Int)) = true := by
      simp only [bne_iff_ne, ne_eq]; omega
    clear hll
    go_enter Tryz.func64, Tryz.ntmps64
    go_wp2
    go_ret
    exact ⟨ret_bool HV.out.symm, Kept.refl _⟩
theorem equalPR {v v' : Value} {l l' : PL} {c : Bool} {w : World} (h : Reads PairLay w v l) (h' : Reads PairLay w v' l') (hc : sameP l l' = c) :
    Calls Tryz.prog 64 #[v, v'] w (Say (.bool c) w) := by
  subst hc
  obtain ⟨a, cap, rfl, _, _, hr⟩ := h
  obtain ⟨a', cap', rfl, _, _, hr'⟩ := h'
  exact equalP_any a a' _ cap _ cap' l l' w hr hr'

end Go.Proofs.YtflllkpnkcmegaaGreatDoor

/- Nodes: how they are held, whether they may be, whether two are the same. -/
namespace Go.Proofs.YtflllkpnkcmegaaGreatDoor
open Go.RowKit
set_option linter.unusedVariables false

/-- A node's parts. -/
structure Nod where
  name : ByteArray
  cap : Vec.V
  labels : PL
  taints : NL
  cordon : Bool
def Nod.zero : Nod := ⟨ByteArray.empty, [], [], [], false⟩
abbrev NodV (n : Nod) (v1 v2 v3 : Value) : Value := .agg #[.string n.name, v1, v2, v3, .bool n.cordon]
/-- The three rows read as the node's. -/
structure NodAt (w : World) (v1 v2 v3 : Value) (n : Nod) : Prop where
  size : n.name.size ≤ maxLen
  cap : Vec.Reads w v1 n.cap
  labels : Reads PairLay w v2 n.labels
  taints : Reads TaLay w v3 n.taints
theorem NodAt.kept {w w' : World} {v1 v2 v3 : Value} {n : Nod} (h : NodAt w v1 v2 v3 n) (k : Kept w w') : NodAt w' v1 v2 v3 n := ⟨h.size, h.cap.kept k, h.labels.kept k, h.taints.kept k⟩
/-- A value that reads as a node. -/
def NodR (w : World) (v : Value) (n : Nod) : Prop := ∃ v1 v2 v3, v = NodV n v1 v2 v3 ∧ NodAt w v1 v2 v3 n
theorem NodR.kept {w w' : World} {v : Value} {n : Nod} (h : NodR w v n) (k : Kept w w') : NodR w' v n := by
  obtain ⟨v1, v2, v3, e, h⟩ := h
  exact ⟨v1, v2, v3, e, h.kept k⟩

end Go.Proofs.YtflllkpnkcmegaaGreatDoor

/- The reference's Decimal. -/
namespace Go.Proofs.YtflllkpnkcmegaaGreatDoor.Vec
open Go.RowKit Go.Proofs.YtflllkpnkcmegaaGreatDoor
set_option linter.unusedVariables false

end Go.Proofs.YtflllkpnkcmegaaGreatDoor.Vec

/- The reference's VecText. -/
namespace Go.Proofs.YtflllkpnkcmegaaGreatDoor.Vec
open Go.RowKit Go.Proofs.YtflllkpnkcmegaaGreatDoor
set_option linter.unusedVariables false

end Go.Proofs.YtflllkpnkcmegaaGreatDoor.Vec

/- A node in words: the program's, the reference's. -/
namespace Go.Proofs.YtflllkpnkcmegaaGreatDoor
open Go.RowKit
set_option linter.unusedVariables false

theorem joinFrom_len : ∀ (l : Vec.V) (b : Bool), (∀ x ∈ l, x.1.size ≤ 50 ∧ -9223372036854775808 ≤ x.2 ∧ x.2 ≤ 9223372036854775807) → (Vec.joinFrom b l).length ≤ 80 * l.length
  | [], b, _ => by rw [Vec.joinFrom]; simp
  | x :: t, b, h => by
    have ih := joinFrom_len t false (fun y hy => h y (List.mem_cons_of_mem _ hy))
    obtain ⟨h1, h2, h3⟩ := h x (List.mem_cons_self ..)
    have hi := Lib.itoa_length_le x.2 h2 h3
    have hx : x.1.data.toList.length = x.1.size := by rw [Array.length_toList, ByteArray.size_data]
    rw [Vec.joinFrom]
    simp only [List.length_append, List.length_cons, List.length_nil, hx]
    cases b <;> simp <;> omega
theorem textV_few {l : Vec.V} (h : Vec.fewV l = true) (hf : Vec.Fine l) : (Vec.textV l).length ≤ 2000 := by
  unfold Vec.fewV at h
  simp only [Bool.and_eq_true, decide_eq_true_eq] at h
  unfold Vec.textV
  split
  · decide
  · have := joinFrom_len l true (fun x hx => by
      obtain ⟨k, hk, rfl⟩ := List.getElem_of_mem hx
      have e : l.getD k (ByteArray.empty, 0) = l[k] := by simp [List.getD, hk]
      have h1 := Vec.fewFrom_at h.2 hk
      have h2 := (hf k hk).2
      unfold Vec.nm at h1
      unfold Vec.qn at h2
      rw [e] at h1 h2
      exact ⟨h1, h2⟩)
    omega
end Go.Proofs.YtflllkpnkcmegaaGreatDoor

/- A node's five words. -/
namespace Go.Proofs.YtflllkpnkcmegaaGreatDoor
open Go.RowKit
set_option linter.unusedVariables false

end Go.Proofs.YtflllkpnkcmegaaGreatDoor
