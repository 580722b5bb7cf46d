/- A pod's single words read. -/
import Derived.Test.YtflllkpnkcmegaaGreatDoorPodClone
import Derived.Test.YtflllkpnkcmegaaGreatDoorBase
import Derived.Test.YtflllkpnkcmegaaGreatDoorResB
import Derived.Lib.AtoiErrMem
namespace Go.Proofs.YtflllkpnkcmegaaGreatDoor
open Go.RowKit
set_option linter.unusedVariables false

/-- .. and the error of wrong words. -/
structure EnvP (w : World) : Prop extends Vec.EnvT w where
  bad : ∃ ev, w.cell? ⟨2, 0, none⟩ = some ev ∧ (ev = .nilIface ∨ ∃ te pe, ev = .iface te pe)
theorem EnvP.kept {w w' : World} (h : EnvP w) (k : Kept w w') : EnvP w' := by
  obtain ⟨h1, ev, hv, h2⟩ := h
  exact ⟨h1.kept k, ev, cell_later k hv, h2⟩

def numL (p : List UInt8) : Option Int := if Vec.isDecL p = true ∧ Vec.valL p ≤ 2147483647 then some (Vec.valL p : Int) else none
def prioL (p : List UInt8) : Option Int := if p = [45, 49] then some (-1) else numL p
def optL (p : List UInt8) : Option ByteArray := if p = [] then none else if p = [45] then some ByteArray.empty else some (bytes p)
def spreadL (p : List UInt8) : Option (ByteArray × Int) := if p = [45] then some (ByteArray.empty, 0) else if (Lib.cut p [47]).1 = [] then none else (numL (Lib.cut p [47]).2.1).map fun m => (bytes (Lib.cut p [47]).1, m)
def holdL : List UInt8 := [104, 111, 108, 100]
def realL : List UInt8 := [114, 101, 97, 108]
def kindL (p : List UInt8) : Option Bool := if p = holdL then some true else if p = realL then some false else none

theorem parse_dec32 {l : List UInt8} (h : Vec.isDecL l = true) (hv : Vec.valL l ≤ 2147483647) : Lib.parseIntB 32 l = .ok (Vec.valL l : Int) := by
  cases l with
  | nil => cases h
  | cons c t =>
    rw [Vec.isDecL_cons, Bool.and_eq_true] at h
    have hc : Vec.okDigit c = true := by have := h.2; simp only [List.all_cons, Bool.and_eq_true] at this; exact this.1
    have hd := Vec.digit_nat hc
    have hu : Lib.parseUintB 32 (c :: t) = .ok (Vec.valL (c :: t)) := by
      unfold Lib.parseUintB
      rw [if_neg (by simp)]
      have e := Vec.parse_digits (2 ^ 32 - 1) (by decide) (c :: t) 0 h.2 (by omega)
      have hq : Vec.valFrom 0 (c :: t) ≤ 2 ^ 32 - 1 := by have : Vec.valL (c :: t) = Vec.valFrom 0 (c :: t) := rfl; omega
      rw [e, if_pos hq]
      rfl
    unfold Lib.parseIntB
    dsimp only
    rw [if_neg (by omega), hu]
    dsimp only
    rw [if_neg (by simp; omega), if_neg (by omega), if_neg (by omega)]
theorem num_parts {p : List UInt8} {n : Int} (h : numL p = some n) : Vec.isDecL p = true ∧ Vec.valL p ≤ 2147483647 ∧ n = (Vec.valL p : Int) := by
  unfold numL at h
  split at h
  · rename_i g
    exact ⟨g.1, g.2, (Option.some.inj h).symm⟩
  · cases h

set_option maxHeartbeats 800000 in
theorem number_ok (p : List UInt8) (n : Int) (w : World) (hp : p.length ≤ 1000000) (h : numL p = some n) :
    Calls Tryz.prog 160 #[.string (bytes p)] w fun e w' => e = .returned (.int .i64 n) ∧ Kept w w' := by
  obtain ⟨h1, h2, h3⟩ := num_parts h
  have HZ := Lib.hid (show (bytes p).size ≤ 9223372036854775806 by rw [bytes_size]; omega)
  have HM := Lib.hid (show (bytes p).size ≤ maxLen by rw [bytes_size]; unfold maxLen; omega)
  have HP := Lib.hid (show Lib.parseIntB 32 (bytes p).data.toList = .ok (Vec.valL p : Int) by simp only [bytes]; exact parse_dec32 h1 h2)
  have HD := Lib.hid (show Vec.isDec (bytes p) = true by unfold Vec.isDec; simpa [bytes] using h1)
  have HN := Lib.hid h3
  clear h h1 h2 h3
  go_enter Tryz.func160, Tryz.ntmps160
  go_wp2_with fail
  refine (Tryz.strconv_ParseInt_10_at32_ok (bytes p) HZ.out _ HP.out _).mono ?_
  rintro e w2 ⟨rfl, hw⟩
  have K := Lib.hid (show Kept w w2 by
    rcases hw with rfl | ⟨t, rfl⟩
    · exact Kept.refl _
    · exact Lib.bytesWorld_below _ _ _)
  clear hw
  go_wp2_with fail
  refine (Vec.dec_any (bytes p) _ HM.out).mono ?_
  rintro e w3 ⟨rfl, rfl⟩
  rw [HD.out]
  go_wp2
  go_ret
  exact ⟨ret_i64 HN.out.symm, K.out⟩
end Go.Proofs.YtflllkpnkcmegaaGreatDoor
