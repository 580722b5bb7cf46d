/- Package by package: contracts of the functions that the laws call. -/
import Derived.Test.YtflllkpnkcmegaaGreatDoorLab
import Derived.Test.YtflllkpnkcmegaaGreatDoorTai
import Derived.Test.YtflllkpnkcmegaaGreatDoorResC
import Derived.Deep.RegionHeld3
import Derived.Laws.BytesArg
import Derived.Test.YtflllkpnkcmegaaGreatDoorBase

/- Whether two rows of pairs, of taints are the same: slices.Equal, and the reference's loops. -/
namespace Go.Proofs.YtflllkpnkcmegaaGreatDoor
open Go.RowKit
set_option linter.unusedVariables false

/-- Alike, pair by pair. -/
def sameP : PL → PL → Bool
  | [], [] => true
  | x :: s, y :: t => (eqS x.1 y.1 && eqS x.2 y.2) && sameP s t
  | _, _ => false
/-- Alike, taint by taint. -/
def sameA : NL → NL → Bool
  | [], [] => true
  | x :: s, y :: t => (eqS x.1 y.1 && (eqS x.2.1 y.2.1 && (x.2.2 == y.2.2))) && sameA s t
  | _, _ => false
theorem sameP_length : ∀ {l l' : PL}, l.length ≠ l'.length → sameP l l' = false
  | [], [], h => absurd rfl h
  | [], _ :: _, _ => rfl
  | _ :: _, [], _ => rfl
  | x :: s, y :: t, h => by rw [sameP, sameP_length (l := s) (l' := t) (fun e => h (by simp [e])), Bool.and_false]
theorem sameA_length : ∀ {l l' : NL}, l.length ≠ l'.length → sameA l l' = false
  | [], [], h => absurd rfl h
  | [], _ :: _, _ => rfl
  | _ :: _, [], _ => rfl
  | x :: s, y :: t, h => by rw [sameA, sameA_length (l := s) (l' := t) (fun e => h (by simp [e])), Bool.and_false]
theorem sameP_self : ∀ l : PL, sameP l l = true
  | [] => rfl
  | x :: t => by rw [sameP, sameP_self t, eqS_self, eqS_self]; rfl
theorem sameA_self : ∀ l : NL, sameA l l = true
  | [] => rfl
  | x :: t => by rw [sameA, sameA_self t, eqS_self, eqS_self]; simp
set_option maxHeartbeats 800000 in
theorem equalP_any (a a' : Option Addr) (len cap len' cap' : Nat) (l l' : PL) (w : World) (hr : RowAt PairLay w a len l) (hr' : RowAt PairLay w a' len' l') :
    Calls Tryz.prog 64 #[.slice a len cap, .slice a' len' cap'] w fun e w' => e = .returned (.bool (sameP l l')) ∧ Kept w w' := by
  have hl := hr.1
  have hm := hr.2.1
  have hl' := hr'.1
  have hm' := hr'.2.1
  unfold maxLen at hm hm'
  by_cases hll : len = len'
  · subst hll
    by_cases h0 : len = 0
    · subst h0
      have HE := Lib.hid (show sameP l l' = true by rw [List.eq_nil_of_length_eq_zero hl, List.eq_nil_of_length_eq_zero hl']; rfl)
      clear hr hl hr' hl'
      go_enter Tryz.func64, Tryz.ntmps64
      go_wp2
      refine wp_loop_rounds 1 ?_
      rw [rounds_succ]
      go_wp2
      go_ret
      exact ⟨ret_bool HE.out.symm, Kept.refl _⟩
    · obtain ⟨b, off, rfl⟩ : ∃ b off, a = some ⟨b, off, none⟩ := hr.form.resolve_left h0
      obtain ⟨b', off', rfl⟩ : ∃ b off, a' = some ⟨b, off, none⟩ := hr'.form.resolve_left h0
      have HR := Lib.hid hr
      have HL := Lib.hid hl
      have HR' := Lib.hid hr'
      have HL' := Lib.hid hl'
      clear hr hl hr' hl' h0
      go_enter Tryz.func64, Tryz.ntmps64
      go_wp2
      go_loopw [13] (fun i wr => ∃ k : Nat, k ≤ len ∧ i = .int .i64 k ∧ sameP (l.drop k) (l'.drop k) = sameP l l' ∧ Kept w wr) (fun i _ => len - (intOf i).toNat)
      case atStart => exact ⟨0, Nat.zero_le _, rfl, rfl, Kept.refl _⟩
      case round =>
        obtain ⟨k, hk, rfl, hrest, hK⟩ := hrel
        have HS := Lib.hid hrest
        have HK := Lib.hid hK
        by_cases hlt : k < len
        · obtain ⟨x, y, hx, hd, hb, _, _, c1, c2⟩ := (HR.out.kept hK).pair hlt
          obtain ⟨x9, y9, hx9, hd9, hb9, _, _, d1, d2⟩ := (HR'.out.kept hK).pair hlt
          have HD := Lib.hid hd
          have HD9 := Lib.hid hd9
          clear hrest hK hx hx9 hd hd9
          by_cases e0 : eqS x x9 = true
          · have E0 := Lib.hid e0
            have e0' : (x.toList == x9.toList) = true := e0
            clear e0
            by_cases e1 : eqS y y9 = true
            · have E1 := Lib.hid e1
              have e1' : (y.toList == y9.toList) = true := e1
              clear e1
              have E := Lib.hid (show sameP (l.drop k) (l'.drop k) = sameP (l.drop (k + 1)) (l'.drop (k + 1)) by rw [HD.out, HD9.out, sameP, E0.out, E1.out]; rfl)
              go_wp2
              go_quiet (fail)
              go_wp2
              go_roundw
              case rel => exact ⟨k + 1, by omega, by go_num, E.out.symm.trans HS.out, HK.out.trans (Kept.drewN _ _)⟩
              case measure => simp [intOf]; omega
            · have e1 : eqS y y9 = false := by simpa using e1
              have E1 := Lib.hid e1
              have e1' : (y.toList == y9.toList) = false := e1
              clear e1
              have E := Lib.hid (show sameP (l.drop k) (l'.drop k) = false by rw [HD.out, HD9.out, sameP, E0.out, E1.out]; rfl)
              go_wp2
              go_quiet (fail)
              go_wp2
              go_ret
              exact ⟨ret_bool (HS.out.symm.trans E.out).symm, HK.out.trans (Kept.drewN _ _)⟩
          · have e0 : eqS x x9 = false := by simpa using e0
            have E0 := Lib.hid e0
            have e0' : (x.toList == x9.toList) = false := e0
            clear e0
            have E := Lib.hid (show sameP (l.drop k) (l'.drop k) = false by rw [HD.out, HD9.out, sameP, E0.out]; rfl)
            go_wp2
            go_quiet (fail)
            go_wp2
            go_ret
            exact ⟨ret_bool (HS.out.symm.trans E.out).symm, HK.out.trans (Kept.drewN _ _)⟩
        · have E := Lib.hid (show sameP (l.drop k) (l'.drop k) = true by
            rw [List.drop_of_length_le (by rw [HL.out]; omega), List.drop_of_length_le (by rw [HL'.out]; omega), sameP])
          clear hrest hK
          go_wp2
          go_ret
          exact ⟨ret_bool (HS.out.symm.trans E.out).symm, HK.out⟩
  · have HV := Lib.hid (show sameP l l' = false from sameP_length (by omega))
    clear hr hl hr' hl'
    have hn : ((len : Int) != (len' : Int)) = true := by
      simp only [bne_iff_ne, ne_eq]; omega
    clear hll
    go_enter Tryz.func64, Tryz.ntmps64
    go_wp2
    go_ret
    exact ⟨ret_bool HV.out.symm, Kept.refl _⟩
theorem equalPR {v v' : Value} {l l' : PL} {c : Bool} {w : World} (h : Reads PairLay w v l) (h' : Reads PairLay w v' l') (hc : sameP l l' = c) :
    Calls Tryz.prog 64 #[v, v'] w (Say (.bool c) w) := by
  subst hc
  obtain ⟨a, cap, rfl, _, _, hr⟩ := h
  obtain ⟨a', cap', rfl, _, _, hr'⟩ := h'
  exact equalP_any a a' _ cap _ cap' l l' w hr hr'

set_option maxHeartbeats 800000 in
theorem rsameP_any (a a' : Option Addr) (len cap len' cap' : Nat) (l l' : PL) (w : World) (hr : RowAt PairLay w a len l) (hr' : RowAt PairLay w a' len' l') :
    Calls Tryz.prog 68 #[.slice a len cap, .slice a' len' cap'] w fun e w' => e = .returned (.bool (sameP l l')) ∧ Kept w w' := by
  have hl := hr.1
  have hm := hr.2.1
  have hl' := hr'.1
  have hm' := hr'.2.1
  unfold maxLen at hm hm'
  by_cases hll : len = len'
  · subst hll
    by_cases h0 : len = 0
    · subst h0
      have HE := Lib.hid (show sameP l l' = true by rw [List.eq_nil_of_length_eq_zero hl, List.eq_nil_of_length_eq_zero hl']; rfl)
      clear hr hl hr' hl'
      go_enter Tryz.func68, Tryz.ntmps68
      go_wp2
      refine wp_loop_rounds 1 ?_
      rw [rounds_succ]
      go_wp2
      go_ret
      exact ⟨ret_bool HE.out.symm, Kept.refl _⟩
    · obtain ⟨b, off, rfl⟩ : ∃ b off, a = some ⟨b, off, none⟩ := hr.form.resolve_left h0
      obtain ⟨b', off', rfl⟩ : ∃ b off, a' = some ⟨b, off, none⟩ := hr'.form.resolve_left h0
      have HR := Lib.hid hr
      have HL := Lib.hid hl
      have HR' := Lib.hid hr'
      have HL' := Lib.hid hl'
      clear hr hl hr' hl' h0
      go_enter Tryz.func68, Tryz.ntmps68
      go_wp2
      go_loopw [5] (fun i wr => ∃ k : Nat, k ≤ len ∧ i = .int .i64 k ∧ sameP (l.drop k) (l'.drop k) = sameP l l' ∧ Kept w wr) (fun i _ => len - (intOf i).toNat)
      case atStart => exact ⟨0, Nat.zero_le _, rfl, rfl, Kept.refl _⟩
      case round =>
        obtain ⟨k, hk, rfl, hrest, hK⟩ := hrel
        have HS := Lib.hid hrest
        have HK := Lib.hid hK
        by_cases hlt : k < len
        · obtain ⟨x, y, hx, hd, hb, _, _, c1, c2⟩ := (HR.out.kept hK).pair hlt
          obtain ⟨x9, y9, hx9, hd9, hb9, _, _, d1, d2⟩ := (HR'.out.kept hK).pair hlt
          have HD := Lib.hid hd
          have HD9 := Lib.hid hd9
          clear hrest hK hx hx9 hd hd9
          by_cases e0 : eqS x x9 = true
          · have E0 := Lib.hid e0
            have e0' : (x.toList == x9.toList) = true := e0
            clear e0
            by_cases e1 : eqS y y9 = true
            · have E1 := Lib.hid e1
              have e1' : (y.toList == y9.toList) = true := e1
              clear e1
              have E := Lib.hid (show sameP (l.drop k) (l'.drop k) = sameP (l.drop (k + 1)) (l'.drop (k + 1)) by rw [HD.out, HD9.out, sameP, E0.out, E1.out]; rfl)
              go_wp2
              go_quiet (fail)
              go_wp2
              go_roundw
              case rel => exact ⟨k + 1, by omega, by go_num, E.out.symm.trans HS.out, HK.out.trans (Kept.drewN _ _)⟩
              case measure => simp [intOf]; omega
            · have e1 : eqS y y9 = false := by simpa using e1
              have E1 := Lib.hid e1
              have e1' : (y.toList == y9.toList) = false := e1
              clear e1
              have E := Lib.hid (show sameP (l.drop k) (l'.drop k) = false by rw [HD.out, HD9.out, sameP, E0.out, E1.out]; rfl)
              go_wp2
              go_quiet (fail)
              go_wp2
              go_ret
              exact ⟨ret_bool (HS.out.symm.trans E.out).symm, HK.out.trans (Kept.drewN _ _)⟩
          · have e0 : eqS x x9 = false := by simpa using e0
            have E0 := Lib.hid e0
            have e0' : (x.toList == x9.toList) = false := e0
            clear e0
            have E := Lib.hid (show sameP (l.drop k) (l'.drop k) = false by rw [HD.out, HD9.out, sameP, E0.out]; rfl)
            go_wp2
            go_quiet (fail)
            go_wp2
            go_ret
            exact ⟨ret_bool (HS.out.symm.trans E.out).symm, HK.out.trans (Kept.drewN _ _)⟩
        · have E := Lib.hid (show sameP (l.drop k) (l'.drop k) = true by
            rw [List.drop_of_length_le (by rw [HL.out]; omega), List.drop_of_length_le (by rw [HL'.out]; omega), sameP])
          clear hrest hK
          go_wp2
          go_ret
          exact ⟨ret_bool (HS.out.symm.trans E.out).symm, HK.out⟩
  · have HV := Lib.hid (show sameP l l' = false from sameP_length (by omega))
    clear hr hl hr' hl'
    have hn : ((len : Int) != (len' : Int)) = true := by
      simp only [bne_iff_ne, ne_eq]; omega
    clear hll
    go_enter Tryz.func68, Tryz.ntmps68
    go_wp2
    go_ret
    exact ⟨ret_bool HV.out.symm, Kept.refl _⟩
theorem rsamePR {v v' : Value} {l l' : PL} {c : Bool} {w : World} (h : Reads PairLay w v l) (h' : Reads PairLay w v' l') (hc : sameP l l' = c) :
    Calls Tryz.prog 68 #[v, v'] w (Say (.bool c) w) := by
  subst hc
  obtain ⟨a, cap, rfl, _, _, hr⟩ := h
  obtain ⟨a', cap', rfl, _, _, hr'⟩ := h'
  exact rsameP_any a a' _ cap _ cap' l l' w hr hr'

end Go.Proofs.YtflllkpnkcmegaaGreatDoor

/- Nodes: how they are held, whether they may be, whether two are the same. -/
namespace Go.Proofs.YtflllkpnkcmegaaGreatDoor
open Go.RowKit
set_option linter.unusedVariables false

/-- A node's parts. -/
structure Nod where
  name : ByteArray
  cap : Vec.V
  labels : PL
  taints : NL
  cordon : Bool
def Nod.zero : Nod := ⟨ByteArray.empty, [], [], [], false⟩
abbrev NodV (n : Nod) (v1 v2 v3 : Value) : Value := .agg #[.string n.name, v1, v2, v3, .bool n.cordon]
/-- The three rows read as the node's. -/
structure NodAt (w : World) (v1 v2 v3 : Value) (n : Nod) : Prop where
  size : n.name.size ≤ maxLen
  cap : Vec.Reads w v1 n.cap
  labels : Reads PairLay w v2 n.labels
  taints : Reads TaLay w v3 n.taints
theorem NodAt.kept {w w' : World} {v1 v2 v3 : Value} {n : Nod} (h : NodAt w v1 v2 v3 n) (k : Kept w w') : NodAt w' v1 v2 v3 n := ⟨h.size, h.cap.kept k, h.labels.kept k, h.taints.kept k⟩
/-- A value that reads as a node. -/
def NodR (w : World) (v : Value) (n : Nod) : Prop := ∃ v1 v2 v3, v = NodV n v1 v2 v3 ∧ NodAt w v1 v2 v3 n
theorem NodR.kept {w w' : World} {v : Value} {n : Nod} (h : NodR w v n) (k : Kept w w') : NodR w' v n := by
  obtain ⟨v1, v2, v3, e, h⟩ := h
  exact ⟨v1, v2, v3, e, h.kept k⟩

end Go.Proofs.YtflllkpnkcmegaaGreatDoor

/- The reference's Decimal. -/
namespace Go.Proofs.YtflllkpnkcmegaaGreatDoor.Vec
open Go.RowKit Go.Proofs.YtflllkpnkcmegaaGreatDoor
set_option linter.unusedVariables false

/-- The digits ahead of the last. -/
def aheadD (u : Nat) : List UInt8 := if u < 10 then [] else Lib.decDigits (u / 10)
theorem ahead_last (u : Nat) : Lib.decDigits u = aheadD u ++ [UInt8.ofNat (48 + u % 10)] := by
  unfold aheadD
  by_cases h : u < 10
  · rw [Lib.decDigits, dif_pos h, if_pos h, Nat.mod_eq_of_lt h]; rfl
  · rw [Lib.decDigits, dif_neg h, if_neg h]
/-- A number's byte. -/
def dig (d : Int) : UInt8 := UInt8.ofNat d.toNat
theorem dig_nat (u : Nat) : dig (48 + (u : Int) % 10) = UInt8.ofNat (48 + u % 10) := by
  unfold dig
  rw [show (48 + (u : Int) % 10).toNat = 48 + u % 10 by omega]
/-- One byte as a text. -/
theorem conv_one (W : World) (d : Int) : Sem.run Tryz.prog (convert 85 9 (.slice (some ⟨W.heap.size, 0, none⟩) 1 1)) (W.alloc (.cells #[.int .u8 d] 5)) = .ok (.string (bytes [dig d])) (W.alloc (.cells #[.int .u8 d] 5)) :=
  run_convert_bytes_arg (W.alloc (.cells #[.int .u8 d] 5)) 85 5 Tryz.underlying85 Tryz.underlying5 W.heap.size 0 1 1 [d] rfl (fun i hi => by
    obtain rfl : i = 0 := by omega
    have hh := W.alloc_heap_new (.cells #[.int .u8 d] 5)
    rw [Lib.cell_of_heap hh]; rfl) 9 Tryz.underlying9
theorem dd_len : ∀ (k u : Nat), u < 10 ^ (k + 1) → (Lib.decDigits u).length ≤ k + 1
  | 0, u, h => by rw [Lib.decDigits, dif_pos (by simpa using h)]; simp
  | k + 1, u, h => by
    by_cases h10 : u < 10
    · rw [Lib.decDigits, dif_pos h10]; simp
    · rw [Lib.decDigits, dif_neg h10, List.length_append]
      have := dd_len k (u / 10) (by rw [Nat.pow_succ] at h; omega)
      simp; omega
theorem dd_short {u : Nat} (h : u ≤ 9223372036854775808) : (Lib.decDigits u).length ≤ 19 := dd_len 18 u (Nat.lt_of_le_of_lt h (by decide))
theorem bytes_app (x y : List UInt8) : bytes x ++ bytes y = bytes (x ++ y) := by
  apply Go.WideShapes.bytes_inj
  simp [bytes, ByteArray.data_append]

set_option maxRecDepth 100000 in
set_option maxHeartbeats 1600000 in
theorem dec_nat (u : Nat) (w : World) (hu : u ≤ 9223372036854775807) :
    Calls Tryz.prog 86 #[.int .i64 (u : Int)] w fun e w' => e = .returned (.string (bytes (Lib.decDigits u))) ∧ Kept w w' := by
  have hn : ¬ (u : Int) < 0 := by omega
  have cv := conv_one
  go_enter Tryz.func86, Tryz.ntmps86
  go_wp2
  go_loopw [0, 3] (fun n s wr => ∃ (v : Nat) (t : List UInt8), v ≤ u ∧ n = .int .i64 v ∧ s = .string (bytes t) ∧ Hid (Lib.decDigits u = aheadD v ++ t) ∧ Kept w wr) (fun n _ _ => (intOf n).toNat)
  case atStart =>
    refine ⟨u, [UInt8.ofNat (48 + u % 10)], Nat.le_refl _, rfl, ?_, Lib.hid (ahead_last u), kept_alloc _ _⟩
    rw [dig_nat]
  case round =>
    obtain ⟨v, t, hv, rfl, rfl, HT, hK⟩ := hrel
    have HK := Lib.hid hK
    clear hK
    by_cases h10 : v < 10
    · have HE := Lib.hid (show Lib.decDigits u = t by rw [HT]; unfold aheadD; rw [if_pos h10]; rfl)
      go_wp2
      go_ret
      rw [HE.out]
      exact ⟨rfl, HK.out⟩
    · obtain ⟨q, hq⟩ : ∃ q, v / 10 = q := ⟨_, rfl⟩
      have hqi : (v : Int) / 10 = (q : Int) := by omega
      have hge : (10 : Int) ≤ (v : Int) := by omega
      have hsz : (bytes [dig (48 + (q : Int) % 10)]).size = 1 := by simp [bytes, ByteArray.size]
      have hst : (bytes t).size = t.length := bytes_size t
      have hlen : t.length ≤ 19 := by
        have h1 := congrArg List.length HT
        rw [List.length_append] at h1
        have := dd_short (u := u) (by omega)
        omega
      have HN := Lib.hid (show Lib.decDigits u = aheadD q ++ (dig (48 + (q : Int) % 10) :: t) by
        rw [HT, dig_nat]
        have : aheadD v = Lib.decDigits q := by unfold aheadD; rw [if_neg h10, hq]
        rw [this, ahead_last q]; simp)
      clear HT
      go_wp2
      go_roundw
      case rel =>
        refine ⟨q, dig (48 + (q : Int) % 10) :: t, by omega, rfl, ?_, HN, HK.out.trans (kept_alloc _ _)⟩
        rw [bytes_app]; rfl
      case measure => simp [intOf]; omega

theorem itoa_least : bytes (Lib.itoa (-9223372036854775808)) = ⟨#[45, 57, 50, 50, 51, 51, 55, 50, 48, 51, 54, 56, 53, 52, 55, 55, 53, 56, 48, 56]⟩ := by
  simp [Lib.itoa, Lib.decDigits, bytes]
theorem decimal_any (n : Int) (w : World) (h1 : -9223372036854775808 ≤ n) (h2 : n ≤ 9223372036854775807) :
    Calls Tryz.prog 86 #[.int .i64 n] w fun e w' => e = .returned (.string (bytes (Lib.itoa n))) ∧ Kept w w' := by
  by_cases h0 : 0 ≤ n
  · obtain ⟨u, rfl⟩ : ∃ u : Nat, n = (u : Int) := ⟨n.toNat, by omega⟩
    have e : Lib.itoa (u : Int) = Lib.decDigits u := by unfold Lib.itoa; rw [if_neg (by omega)]; rfl
    rw [e]
    exact dec_nat u w (by omega)
  · by_cases hm : n = -9223372036854775808
    · subst hm
      have HV := Lib.hid itoa_least
      clear h0 h1 h2
      go_enter Tryz.func86, Tryz.ntmps86
      go_wp2
      go_ret
      rw [HV.out]
      exact ⟨rfl, Kept.refl _⟩
    · obtain ⟨u, hu⟩ : ∃ u : Nat, -n = (u : Int) := ⟨(-n).toNat, by omega⟩
      have e : Lib.itoa n = 45 :: Lib.decDigits u := by
        unfold Lib.itoa
        rw [if_pos (by omega), show n.natAbs = u by omega]
      have HE := Lib.hid e
      have hs : (0 : Int) - n = (u : Int) := by omega
      have hl := dd_short (u := u) (by omega)
      have hsz : (bytes (Lib.decDigits u)).size = (Lib.decDigits u).length := bytes_size _
      have hlt : n < 0 := by omega
      have hne : (n == -9223372036854775808) = false := by simpa using hm
      have HD := Lib.hid (fun W => dec_nat u W (by omega))
      have hw : IntKind.i64.wrap (0 - n) = (u : Int) := by rw [hs, IntKind.wrap_i64]; omega
      clear e hu h0
      go_enter Tryz.func86, Tryz.ntmps86
      go_wp2_with fail
      refine (HD.out _).mono ?_
      rintro e w1 ⟨rfl, k⟩
      have K := Lib.hid k
      clear k
      go_wp2
      go_ret
      rw [HE.out]
      exact ⟨by rw [show (⟨#[45]⟩ : ByteArray) = bytes [45] from rfl, bytes_app]; rfl, K.out⟩

end Go.Proofs.YtflllkpnkcmegaaGreatDoor.Vec

/- The reference's VecText. -/
namespace Go.Proofs.YtflllkpnkcmegaaGreatDoor.Vec
open Go.RowKit Go.Proofs.YtflllkpnkcmegaaGreatDoor
set_option linter.unusedVariables false

theorem piece_eq (acc : List UInt8) (x : ByteArray) (n : Int) : bytes acc ++ x ++ ⟨#[61]⟩ ++ bytes (Lib.itoa n) = bytes (acc ++ (x.data.toList ++ ([61] ++ Lib.itoa n))) := by
  apply Go.WideShapes.bytes_inj
  simp [bytes, ByteArray.data_append]
theorem comma_eq (acc : List UInt8) : bytes acc ++ ⟨#[44]⟩ = bytes (acc ++ [44]) := by
  apply Go.WideShapes.bytes_inj
  simp [bytes, ByteArray.data_append]

set_option maxRecDepth 100000 in
set_option maxHeartbeats 1600000 in
theorem rtext_any (a : Option Addr) (len cap : Nat) (l : V) (w : World) (hr : VecAt w a len l) (hfew : fewV l = true) :
    Calls Tryz.prog 88 #[.slice a len cap] w fun e w' => e = .returned (.string (bytes (textV l))) ∧ Kept w w' := by
  have hl := hr.1
  have hf := hr.2.2.1
  unfold fewV at hfew
  simp only [Bool.and_eq_true, decide_eq_true_eq] at hfew
  have h20 : len ≤ 20 := by omega
  by_cases h0 : len = 0
  · subst h0
    have HE := Lib.hid (show textV l = [45] by rw [List.eq_nil_of_length_eq_zero hl]; rfl)
    clear hr hl hf hfew
    go_enter Tryz.func88, Tryz.ntmps88
    go_wp2
    go_ret
    exact ⟨by rw [HE.out]; rfl, Kept.refl _⟩
  · obtain ⟨b, off, rfl⟩ := hr.form.resolve_left h0
    have hne : ((len : Int) == 0) = false := by
      have : (len : Int) ≠ 0 := by omega
      simpa using this
    have HV := Lib.hid (show textV l = joinFrom true l by unfold textV; rw [if_neg (by intro e; rw [e] at hl; simp at hl; omega)])
    have HS := Lib.hid (fun k (hk : k < l.length) => fewFrom_at hfew.2 hk)
    have HF := Lib.hid hf
    have HR := Lib.hid hr
    have HL := Lib.hid hl
    clear hr hl hf hfew h0
    go_enter Tryz.func88, Tryz.ntmps88
    go_wp2
    go_loopw [3, 4] (fun s i wr => ∃ (k : Nat) (acc : List UInt8), k ≤ len ∧ i = .int .i64 k ∧ s = .string (bytes acc) ∧ acc ++ joinFrom (decide (k = 0)) (l.drop k) = joinFrom true l ∧ acc.length ≤ k * 80 ∧ Kept w wr) (fun _ i _ => len - (intOf i).toNat)
    case atStart => exact ⟨0, [], Nat.zero_le _, rfl, rfl, rfl, Nat.le_refl _, Kept.refl _⟩
    case round =>
      obtain ⟨k, acc, hk, rfl, rfl, hrest, hacc, hB⟩ := hrel
      have HB := Lib.hid hB
      by_cases hlt : k < len
      · have HI := Lib.hid (show k < l.length by rw [HL.out]; exact hlt)
        have hs50 := HS.out k HI.out
        have hq := (HF.out k HI.out).2
        have hit := Lib.itoa_length_le (qn l k) hq.1 hq.2
        have hszn : (nm l k).data.toList.length = (nm l k).size := by rw [Array.length_toList, ByteArray.size_data]
        obtain ⟨x, hx⟩ : ∃ x, nm l k = x := ⟨_, rfl⟩
        obtain ⟨n, hn⟩ : ∃ n, qn l k = n := ⟨_, rfl⟩
        have HREST := Lib.hid (show acc ++ (if decide (k = 0) = true then [] else [44]) ++ (x.data.toList ++ ([61] ++ Lib.itoa n)) ++ joinFrom (decide (k + 1 = 0)) (l.drop (k + 1)) = joinFrom true l by
          rw [← hrest, drop_cons HI.out, hx, hn]; simp [joinFrom, List.append_assoc])
        have HC := Lib.hid (show ∀ W, Kept wr W → W.cell? ⟨b, off + k * 2, none⟩ = some (.string x) ∧ W.cell? ⟨b, off + k * 2 + 1, none⟩ = some (.int .i64 n) from fun W kk => by
          have := ((HR.out.kept hB).kept kk).cells hlt
          rw [hx, hn] at this
          exact this.2)
        rw [hx] at hs50 hszn
        rw [hn] at hq hit
        have HD := Lib.hid (fun W => decimal_any n W hq.1 hq.2)
        have hk1 : (k : Int) < (len : Int) := by omega
        have hax : acc.length ≤ 2000 := by
          have : k * 80 ≤ 20 * 80 := Nat.mul_le_mul_right _ (by omega)
          omega
        have hsd : (bytes (Lib.itoa n)).size ≤ 21 := hit
        have hnew : ∀ z : List UInt8, z.length ≤ acc.length + 1 → (z ++ (x.data.toList ++ ([61] ++ Lib.itoa n))).length ≤ (k + 1) * 80 := fun z hz => by
          simp only [List.length_append, List.length_cons, List.length_nil, hszn]
          omega
        have HNEW := Lib.hid hnew
        clear hrest hB hx hn hszn hit hq hnew hk
        obtain ⟨c1, c2⟩ := HC.out _ (Kept.refl _)
        by_cases hk0 : k = 0
        · have hd : decide (0 < k) = false := by subst hk0; decide
          have HREST := Lib.hid (show acc ++ (x.data.toList ++ ([61] ++ Lib.itoa n)) ++ joinFrom (decide (k + 1 = 0)) (l.drop (k + 1)) = joinFrom true l by
            have := HREST.out; rw [decide_eq_true hk0] at this; simpa using this)
          have HLEN := Lib.hid (HNEW.out acc (by omega))
          have HP := Lib.hid (piece_eq acc x n)
          obtain ⟨S, hS⟩ : ∃ S, bytes acc = S := ⟨_, rfl⟩
          have hSs : S.size = acc.length := by rw [← hS]; exact bytes_size _
          rw [hS] at HP ⊢
          obtain ⟨D, hD⟩ : ∃ D, bytes (Lib.itoa n) = D := ⟨_, rfl⟩
          rw [hD] at HP hsd HD
          have adz : (⟨#[61]⟩ : ByteArray).size = 1 := rfl
          have ad1 : ∀ W, (Op.stringOp .add S x).run Tryz.prog W = .ok (.string (S ++ x)) W := fun W => run_string_add_sum W _ _ (by omega)
          have ad2 : ∀ W, (Op.stringOp .add (S ++ x) (⟨#[61]⟩ : ByteArray)).run Tryz.prog W = .ok (.string (S ++ x ++ (⟨#[61]⟩ : ByteArray))) W := fun W => run_string_add_sum W _ _ (by rw [ByteArray.size_append]; omega)
          have ad3 : ∀ W, (Op.stringOp .add (S ++ x ++ (⟨#[61]⟩ : ByteArray)) D).run Tryz.prog W = .ok (.string (S ++ x ++ (⟨#[61]⟩ : ByteArray) ++ D)) W := fun W => run_string_add_sum W _ _ (by rw [ByteArray.size_append, ByteArray.size_append]; omega)
          clear hS hD hSs adz hsd hs50 hax hk0 HNEW
          go_wp2
          go_region_held3 (fun W => W.cell? ⟨b, off + k * 2, none⟩ = some (.string x) ∧ W.cell? ⟨b, off + k * 2 + 1, none⟩ = some (.int .i64 n))
            (first | exact HC.out _ (Kept.drew _) | exact HC.out _ ((Kept.drew _).trans k1))
            (first | (go_at_call 86; refine (HD.out _).mono ?_; rintro e1 w1 ⟨rfl, k1⟩))
          go_wp2
          go_roundw
          case rel => exact ⟨k + 1, _, by omega, by go_num, congrArg Value.string HP.out, HREST.out, HLEN.out, HB.out.trans ((Kept.drew _).trans k1)⟩
          case measure => simp [intOf]; omega
        · have hd : decide (0 < k) = true := by simp; omega
          have HREST := Lib.hid (show (acc ++ [44]) ++ (x.data.toList ++ ([61] ++ Lib.itoa n)) ++ joinFrom (decide (k + 1 = 0)) (l.drop (k + 1)) = joinFrom true l by
            have := HREST.out; rw [decide_eq_false hk0] at this; simpa using this)
          have HLEN := Lib.hid (HNEW.out (acc ++ [44]) (by simp))
          have HP := Lib.hid (piece_eq (acc ++ [44]) x n)
          rw [← comma_eq] at HP
          obtain ⟨S, hS⟩ : ∃ S, bytes acc = S := ⟨_, rfl⟩
          have hSs : S.size = acc.length := by rw [← hS]; exact bytes_size _
          rw [hS] at HP ⊢
          obtain ⟨D, hD⟩ : ∃ D, bytes (Lib.itoa n) = D := ⟨_, rfl⟩
          rw [hD] at HP hsd HD
          have adz : (⟨#[61]⟩ : ByteArray).size = 1 := rfl
          have adc : (⟨#[44]⟩ : ByteArray).size = 1 := rfl
          have ad0 : ∀ W, (Op.stringOp .add S (⟨#[44]⟩ : ByteArray)).run Tryz.prog W = .ok (.string (S ++ (⟨#[44]⟩ : ByteArray))) W := fun W => run_string_add_sum W _ _ (by omega)
          have ad1 : ∀ W, (Op.stringOp .add (S ++ (⟨#[44]⟩ : ByteArray)) x).run Tryz.prog W = .ok (.string (S ++ (⟨#[44]⟩ : ByteArray) ++ x)) W := fun W => run_string_add_sum W _ _ (by rw [ByteArray.size_append]; omega)
          have ad2 : ∀ W, (Op.stringOp .add (S ++ (⟨#[44]⟩ : ByteArray) ++ x) (⟨#[61]⟩ : ByteArray)).run Tryz.prog W = .ok (.string (S ++ (⟨#[44]⟩ : ByteArray) ++ x ++ (⟨#[61]⟩ : ByteArray))) W := fun W => run_string_add_sum W _ _ (by rw [ByteArray.size_append, ByteArray.size_append]; omega)
          have ad3 : ∀ W, (Op.stringOp .add (S ++ (⟨#[44]⟩ : ByteArray) ++ x ++ (⟨#[61]⟩ : ByteArray)) D).run Tryz.prog W = .ok (.string (S ++ (⟨#[44]⟩ : ByteArray) ++ x ++ (⟨#[61]⟩ : ByteArray) ++ D)) W := fun W => run_string_add_sum W _ _ (by rw [ByteArray.size_append, ByteArray.size_append, ByteArray.size_append]; omega)
          clear hS hD adz adc hsd hs50 hk0 HNEW
          go_wp2
          go_region_held3 (fun W => W.cell? ⟨b, off + k * 2, none⟩ = some (.string x) ∧ W.cell? ⟨b, off + k * 2 + 1, none⟩ = some (.int .i64 n))
            (first | exact HC.out _ (Kept.drew _) | exact HC.out _ ((Kept.drew _).trans k1))
            (first | (go_at_call 86; refine (HD.out _).mono ?_; rintro e1 w1 ⟨rfl, k1⟩))
          go_wp2
          go_roundw
          case rel => exact ⟨k + 1, _, by omega, by go_num, congrArg Value.string HP.out, HREST.out, HLEN.out, HB.out.trans ((Kept.drew _).trans k1)⟩
          case measure => simp [intOf]; omega
      · have HE := Lib.hid (show textV l = acc by
          rw [HV.out, ← hrest, List.drop_of_length_le (by rw [HL.out]; omega), joinFrom, List.append_nil])
        clear hrest hB
        go_wp2
        go_ret
        exact ⟨congrArg (fun z => Ending.returned (.string (bytes z))) HE.out.symm, HB.out⟩
theorem rtextR {v : Value} {l : V} {s : List UInt8} {w : World} (h : Reads w v l) (hf : fewV l = true) (e : textV l = s) :
    Calls Tryz.prog 88 #[v] w fun x w' => x = .returned (.string (bytes s)) ∧ Kept w w' := by
  subst e
  obtain ⟨a, cap, rfl, h1, h2, h3⟩ := h
  exact rtext_any a _ cap l w h3 hf

end Go.Proofs.YtflllkpnkcmegaaGreatDoor.Vec

/- A node in words: the program's, the reference's. -/
namespace Go.Proofs.YtflllkpnkcmegaaGreatDoor
open Go.RowKit
set_option linter.unusedVariables false

theorem joinFrom_len : ∀ (l : Vec.V) (b : Bool), (∀ x ∈ l, x.1.size ≤ 50 ∧ -9223372036854775808 ≤ x.2 ∧ x.2 ≤ 9223372036854775807) → (Vec.joinFrom b l).length ≤ 80 * l.length
  | [], b, _ => by rw [Vec.joinFrom]; simp
  | x :: t, b, h => by
    have ih := joinFrom_len t false (fun y hy => h y (List.mem_cons_of_mem _ hy))
    obtain ⟨h1, h2, h3⟩ := h x (List.mem_cons_self ..)
    have hi := Lib.itoa_length_le x.2 h2 h3
    have hx : x.1.data.toList.length = x.1.size := by rw [Array.length_toList, ByteArray.size_data]
    rw [Vec.joinFrom]
    simp only [List.length_append, List.length_cons, List.length_nil, hx]
    cases b <;> simp <;> omega
theorem textV_few {l : Vec.V} (h : Vec.fewV l = true) (hf : Vec.Fine l) : (Vec.textV l).length ≤ 2000 := by
  unfold Vec.fewV at h
  simp only [Bool.and_eq_true, decide_eq_true_eq] at h
  unfold Vec.textV
  split
  · decide
  · have := joinFrom_len l true (fun x hx => by
      obtain ⟨k, hk, rfl⟩ := List.getElem_of_mem hx
      have e : l.getD k (ByteArray.empty, 0) = l[k] := by simp [List.getD, hk]
      have h1 := Vec.fewFrom_at h.2 hk
      have h2 := (hf k hk).2
      unfold Vec.nm at h1
      unfold Vec.qn at h2
      rw [e] at h1 h2
      exact ⟨h1, h2⟩)
    omega
end Go.Proofs.YtflllkpnkcmegaaGreatDoor

/- A node's five words. -/
namespace Go.Proofs.YtflllkpnkcmegaaGreatDoor
open Go.RowKit
set_option linter.unusedVariables false

end Go.Proofs.YtflllkpnkcmegaaGreatDoor
