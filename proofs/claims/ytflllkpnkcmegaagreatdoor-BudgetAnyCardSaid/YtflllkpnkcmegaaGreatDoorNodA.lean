/- Package by package: contracts of the functions that the laws call. -/
import Derived.Test.YtflllkpnkcmegaaGreatDoorLab
import Derived.Test.YtflllkpnkcmegaaGreatDoorTai
import Derived.Test.YtflllkpnkcmegaaGreatDoorResC
import Derived.Deep.RegionHeld3
import Derived.Laws.BytesArg
import Derived.Test.YtflllkpnkcmegaaGreatDoorBase

/- Whether two rows of pairs, of taints are the same: slices.Equal, and the reference's loops. -/
namespace Go.Proofs.YtflllkpnkcmegaaGreatDoor
open Go.RowKit
set_option linter.unusedVariables false

end Go.Proofs.YtflllkpnkcmegaaGreatDoor

/- Nodes: how they are held, whether they may be, whether two are the same. -/
namespace Go.Proofs.YtflllkpnkcmegaaGreatDoor
open Go.RowKit
set_option linter.unusedVariables false

/-- A node's parts. -/
structure Nod where
  name : ByteArray
  cap : Vec.V
  labels : PL
  taints : NL
  cordon : Bool
def Nod.zero : Nod := ⟨ByteArray.empty, [], [], [], false⟩
abbrev NodV (n : Nod) (v1 v2 v3 : Value) : Value := .agg #[.string n.name, v1, v2, v3, .bool n.cordon]
/-- The three rows read as the node's. -/
structure NodAt (w : World) (v1 v2 v3 : Value) (n : Nod) : Prop where
  size : n.name.size ≤ maxLen
  cap : Vec.Reads w v1 n.cap
  labels : Reads PairLay w v2 n.labels
  taints : Reads TaLay w v3 n.taints
theorem NodAt.kept {w w' : World} {v1 v2 v3 : Value} {n : Nod} (h : NodAt w v1 v2 v3 n) (k : Kept w w') : NodAt w' v1 v2 v3 n := ⟨h.size, h.cap.kept k, h.labels.kept k, h.taints.kept k⟩
/-- A value that reads as a node. -/
def NodR (w : World) (v : Value) (n : Nod) : Prop := ∃ v1 v2 v3, v = NodV n v1 v2 v3 ∧ NodAt w v1 v2 v3 n
theorem NodR.kept {w w' : World} {v : Value} {n : Nod} (h : NodR w v n) (k : Kept w w') : NodR w' v n := by
  obtain ⟨v1, v2, v3, e, h⟩ := h
  exact ⟨v1, v2, v3, e, h.kept k⟩

end Go.Proofs.YtflllkpnkcmegaaGreatDoor

/- The reference's Decimal. -/
namespace Go.Proofs.YtflllkpnkcmegaaGreatDoor.Vec
open Go.RowKit Go.Proofs.YtflllkpnkcmegaaGreatDoor
set_option linter.unusedVariables false

/-- The digits ahead of the last. -/
def aheadD (u : Nat) : List UInt8 := if u < 10 then [] else Lib.decDigits (u / 10)
theorem ahead_last (u : Nat) : Lib.decDigits u = aheadD u ++ [UInt8.ofNat (48 + u % 10)] := by
  unfold aheadD
  by_cases h : u < 10
  · rw [Lib.decDigits, dif_pos h, if_pos h, Nat.mod_eq_of_lt h]; rfl
  · rw [Lib.decDigits, dif_neg h, if_neg h]
/-- A number's byte. -/
def dig (d : Int) : UInt8 := UInt8.ofNat d.toNat
theorem dig_nat (u : Nat) : dig (48 + (u : Int) % 10) = UInt8.ofNat (48 + u % 10) := by
  unfold dig
  rw [show (48 + (u : Int) % 10).toNat = 48 + u % 10 by omega]
/-- One byte as a text. -/
theorem conv_one (W : World) (d : Int) : Sem.run Tryz.prog (convert 85 9 (.slice (some ⟨W.heap.size, 0, none⟩) 1 1)) (W.alloc (.cells #[.int .u8 d] 5)) = .ok (.string (bytes [dig d])) (W.alloc (.cells #[.int .u8 d] 5)) :=
  run_convert_bytes_arg (W.alloc (.cells #[.int .u8 d] 5)) 85 5 Tryz.underlying85 Tryz.underlying5 W.heap.size 0 1 1 [d] rfl (fun i hi => by
    obtain rfl : i = 0 := by omega
    have hh := W.alloc_heap_new (.cells #[.int .u8 d] 5)
    rw [Lib.cell_of_heap hh]; rfl) 9 Tryz.underlying9
theorem dd_len : ∀ (k u : Nat), u < 10 ^ (k + 1) → (Lib.decDigits u).length ≤ k + 1
  | 0, u, h => by rw [Lib.decDigits, dif_pos (by simpa using h)]; simp
  | k + 1, u, h => by
    by_cases h10 : u < 10
    · rw [Lib.decDigits, dif_pos h10]; simp
    · rw [Lib.decDigits, dif_neg h10, List.length_append]
      have := dd_len k (u / 10) (by rw [Nat.pow_succ] at h; omega)
      simp; omega
theorem dd_short {u : Nat} (h : u ≤ 9223372036854775808) : (Lib.decDigits u).length ≤ 19 := dd_len 18 u (Nat.lt_of_le_of_lt h (by decide))
theorem bytes_app (x y : List UInt8) : bytes x ++ bytes y = bytes (x ++ y) := by
  apply Go.WideShapes.bytes_inj
  simp [bytes, ByteArray.data_append]

set_option maxRecDepth 100000 in
set_option maxHeartbeats 1600000 in
theorem dec_nat (u : Nat) (w : World) (hu : u ≤ 9223372036854775807) :
    Calls Tryz.prog 86 #[.int .i64 (u : Int)] w fun e w' => e = .returned (.string (bytes (Lib.decDigits u))) ∧ Kept w w' := by
  have hn : ¬ (u : Int) < 0 := by omega
  have cv := conv_one
  go_enter Tryz.func86, Tryz.ntmps86
  go_wp2
  go_loopw [0, 3] (fun n s wr => ∃ (v : Nat) (t : List UInt8), v ≤ u ∧ n = .int .i64 v ∧ s = .string (bytes t) ∧ Hid (Lib.decDigits u = aheadD v ++ t) ∧ Kept w wr) (fun n _ _ => (intOf n).toNat)
  case atStart =>
    refine ⟨u, [UInt8.ofNat (48 + u % 10)], Nat.le_refl _, rfl, ?_, Lib.hid (ahead_last u), kept_alloc _ _⟩
    rw [dig_nat]
  case round =>
    obtain ⟨v, t, hv, rfl, rfl, HT, hK⟩ := hrel
    have HK := Lib.hid hK
    clear hK
    by_cases h10 : v < 10
    · have HE := Lib.hid (show Lib.decDigits u = t by rw [HT]; unfold aheadD; rw [if_pos h10]; rfl)
      go_wp2
      go_ret
      rw [HE.out]
      exact ⟨rfl, HK.out⟩
    · obtain ⟨q, hq⟩ : ∃ q, v / 10 = q := ⟨_, rfl⟩
      have hqi : (v : Int) / 10 = (q : Int) := by omega
      have hge : (10 : Int) ≤ (v : Int) := by omega
      have hsz : (bytes [dig (48 + (q : Int) % 10)]).size = 1 := by simp [bytes, ByteArray.size]
      have hst : (bytes t).size = t.length := bytes_size t
      have hlen : t.length ≤ 19 := by
        have h1 := congrArg List.length HT
        rw [List.length_append] at h1
        have := dd_short (u := u) (by omega)
        omega
      have HN := Lib.hid (show Lib.decDigits u = aheadD q ++ (dig (48 + (q : Int) % 10) :: t) by
        rw [HT, dig_nat]
        have : aheadD v = Lib.decDigits q := by unfold aheadD; rw [if_neg h10, hq]
        rw [this, ahead_last q]; simp)
      clear HT
      go_wp2
      go_roundw
      case rel =>
        refine ⟨q, dig (48 + (q : Int) % 10) :: t, by omega, rfl, ?_, HN, HK.out.trans (kept_alloc _ _)⟩
        rw [bytes_app]; rfl
      case measure => simp [intOf]; omega

theorem itoa_least : bytes (Lib.itoa (-9223372036854775808)) = ⟨#[45, 57, 50, 50, 51, 51, 55, 50, 48, 51, 54, 56, 53, 52, 55, 55, 53, 56, 48, 56]⟩ := by
  simp [Lib.itoa, Lib.decDigits, bytes]
theorem decimal_any (n : Int) (w : World) (h1 : -9223372036854775808 ≤ n) (h2 : n ≤ 9223372036854775807) :
    Calls Tryz.prog 86 #[.int .i64 n] w fun e w' => e = .returned (.string (bytes (Lib.itoa n))) ∧ Kept w w' := by
  by_cases h0 : 0 ≤ n
  · obtain ⟨u, rfl⟩ : ∃ u : Nat, n = (u : Int) := ⟨n.toNat, by omega⟩
    have e : Lib.itoa (u : Int) = Lib.decDigits u := by unfold Lib.itoa; rw [if_neg (by omega)]; rfl
    rw [e]
    exact dec_nat u w (by omega)
  · by_cases hm : n = -9223372036854775808
    · subst hm
      have HV := Lib.hid itoa_least
      clear h0 h1 h2
      go_enter Tryz.func86, Tryz.ntmps86
      go_wp2
      go_ret
      rw [HV.out]
      exact ⟨rfl, Kept.refl _⟩
    · obtain ⟨u, hu⟩ : ∃ u : Nat, -n = (u : Int) := ⟨(-n).toNat, by omega⟩
      have e : Lib.itoa n = 45 :: Lib.decDigits u := by
        unfold Lib.itoa
        rw [if_pos (by omega), show n.natAbs = u by omega]
      have HE := Lib.hid e
      have hs : (0 : Int) - n = (u : Int) := by omega
      have hl := dd_short (u := u) (by omega)
      have hsz : (bytes (Lib.decDigits u)).size = (Lib.decDigits u).length := bytes_size _
      have hlt : n < 0 := by omega
      have hne : (n == -9223372036854775808) = false := by simpa using hm
      have HD := Lib.hid (fun W => dec_nat u W (by omega))
      have hw : IntKind.i64.wrap (0 - n) = (u : Int) := by rw [hs, IntKind.wrap_i64]; omega
      clear e hu h0
      go_enter Tryz.func86, Tryz.ntmps86
      go_wp2_with fail
      refine (HD.out _).mono ?_
      rintro e w1 ⟨rfl, k⟩
      have K := Lib.hid k
      clear k
      go_wp2
      go_ret
      rw [HE.out]
      exact ⟨by rw [show (⟨#[45]⟩ : ByteArray) = bytes [45] from rfl, bytes_app]; rfl, K.out⟩

end Go.Proofs.YtflllkpnkcmegaaGreatDoor.Vec

/- The reference's VecText. -/
namespace Go.Proofs.YtflllkpnkcmegaaGreatDoor.Vec
open Go.RowKit Go.Proofs.YtflllkpnkcmegaaGreatDoor
set_option linter.unusedVariables false

end Go.Proofs.YtflllkpnkcmegaaGreatDoor.Vec

/- A node in words: the program's, the reference's. -/
namespace Go.Proofs.YtflllkpnkcmegaaGreatDoor
open Go.RowKit
set_option linter.unusedVariables false

end Go.Proofs.YtflllkpnkcmegaaGreatDoor

/- A node's five words. -/
namespace Go.Proofs.YtflllkpnkcmegaaGreatDoor
open Go.RowKit
set_option linter.unusedVariables false

end Go.Proofs.YtflllkpnkcmegaaGreatDoor
