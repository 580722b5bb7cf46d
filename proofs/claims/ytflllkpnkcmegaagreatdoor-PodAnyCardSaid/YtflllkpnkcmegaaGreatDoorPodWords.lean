/- A pod's single words read. -/
import Derived.Test.YtflllkpnkcmegaaGreatDoorPodClone
import Derived.Test.YtflllkpnkcmegaaGreatDoorBase
import Derived.Test.YtflllkpnkcmegaaGreatDoorResB
import Derived.Lib.AtoiErrMem
namespace Go.Proofs.YtflllkpnkcmegaaGreatDoor
open Go.RowKit
set_option linter.unusedVariables false

/-- .. and the error of wrong words. -/
structure EnvP (w : World) : Prop extends Vec.EnvT w where
  bad : ∃ ev, w.cell? ⟨2, 0, none⟩ = some ev ∧ (ev = .nilIface ∨ ∃ te pe, ev = .iface te pe)
theorem EnvP.kept {w w' : World} (h : EnvP w) (k : Kept w w') : EnvP w' := by
  obtain ⟨h1, ev, hv, h2⟩ := h
  exact ⟨h1.kept k, ev, cell_later k hv, h2⟩

def numL (p : List UInt8) : Option Int := if Vec.isDecL p = true ∧ Vec.valL p ≤ 2147483647 then some (Vec.valL p : Int) else none
def prioL (p : List UInt8) : Option Int := if p = [45, 49] then some (-1) else numL p
def optL (p : List UInt8) : Option ByteArray := if p = [] then none else if p = [45] then some ByteArray.empty else some (bytes p)
def spreadL (p : List UInt8) : Option (ByteArray × Int) := if p = [45] then some (ByteArray.empty, 0) else if (Lib.cut p [47]).1 = [] then none else (numL (Lib.cut p [47]).2.1).map fun m => (bytes (Lib.cut p [47]).1, m)
def holdL : List UInt8 := [104, 111, 108, 100]
def realL : List UInt8 := [114, 101, 97, 108]
def kindL (p : List UInt8) : Option Bool := if p = holdL then some true else if p = realL then some false else none

theorem parse_dec32 {l : List UInt8} (h : Vec.isDecL l = true) (hv : Vec.valL l ≤ 2147483647) : Lib.parseIntB 32 l = .ok (Vec.valL l : Int) := by
  cases l with
  | nil => cases h
  | cons c t =>
    rw [Vec.isDecL_cons, Bool.and_eq_true] at h
    have hc : Vec.okDigit c = true := by have := h.2; simp only [List.all_cons, Bool.and_eq_true] at this; exact this.1
    have hd := Vec.digit_nat hc
    have hu : Lib.parseUintB 32 (c :: t) = .ok (Vec.valL (c :: t)) := by
      unfold Lib.parseUintB
      rw [if_neg (by simp)]
      have e := Vec.parse_digits (2 ^ 32 - 1) (by decide) (c :: t) 0 h.2 (by omega)
      have hq : Vec.valFrom 0 (c :: t) ≤ 2 ^ 32 - 1 := by have : Vec.valL (c :: t) = Vec.valFrom 0 (c :: t) := rfl; omega
      rw [e, if_pos hq]
      rfl
    unfold Lib.parseIntB
    dsimp only
    rw [if_neg (by omega), hu]
    dsimp only
    rw [if_neg (by simp; omega), if_neg (by omega), if_neg (by omega)]
theorem num_parts {p : List UInt8} {n : Int} (h : numL p = some n) : Vec.isDecL p = true ∧ Vec.valL p ≤ 2147483647 ∧ n = (Vec.valL p : Int) := by
  unfold numL at h
  split at h
  · rename_i g
    exact ⟨g.1, g.2, (Option.some.inj h).symm⟩
  · cases h

set_option maxHeartbeats 800000 in
theorem number_ok (p : List UInt8) (n : Int) (w : World) (hp : p.length ≤ 1000000) (h : numL p = some n) :
    Calls Tryz.prog 160 #[.string (bytes p)] w fun e w' => e = .returned (.int .i64 n) ∧ Kept w w' := by
  obtain ⟨h1, h2, h3⟩ := num_parts h
  have HZ := Lib.hid (show (bytes p).size ≤ 9223372036854775806 by rw [bytes_size]; omega)
  have HM := Lib.hid (show (bytes p).size ≤ maxLen by rw [bytes_size]; unfold maxLen; omega)
  have HP := Lib.hid (show Lib.parseIntB 32 (bytes p).data.toList = .ok (Vec.valL p : Int) by simp only [bytes]; exact parse_dec32 h1 h2)
  have HD := Lib.hid (show Vec.isDec (bytes p) = true by unfold Vec.isDec; simpa [bytes] using h1)
  have HN := Lib.hid h3
  clear h h1 h2 h3
  go_enter Tryz.func160, Tryz.ntmps160
  go_wp2_with fail
  refine (Tryz.strconv_ParseInt_10_at32_ok (bytes p) HZ.out _ HP.out _).mono ?_
  rintro e w2 ⟨rfl, hw⟩
  have K := Lib.hid (show Kept w w2 by
    rcases hw with rfl | ⟨t, rfl⟩
    · exact Kept.refl _
    · exact Lib.bytesWorld_below _ _ _)
  clear hw
  go_wp2_with fail
  refine (Vec.dec_any (bytes p) _ HM.out).mono ?_
  rintro e w3 ⟨rfl, rfl⟩
  rw [HD.out]
  go_wp2
  go_ret
  exact ⟨ret_i64 HN.out.symm, K.out⟩
set_option maxHeartbeats 800000 in
theorem number_empty (w : World) (hE : EnvP w) :
    Calls Tryz.prog 160 #[.string ⟨#[]⟩] w fun e w' => e = .panicked [perr 2] ∧ Kept w w' := by
  obtain ⟨ev, hev, hev2⟩ := hE.bad
  have HC := Lib.hid (Any.strconv_ParseInt_10_at32_syntax Tryz.laysC174 ⟨#[]⟩ (by decide) (by rfl) ev w hev hev2)
  clear hE hev hev2
  go_enter Tryz.func160, Tryz.ntmps160
  go_wp2_with fail
  refine HC.out.mono ?_
  rintro e w2 ⟨N, rfl, _, _, k⟩
  have K := Lib.hid (show Kept w w2 from k)
  clear k
  go_wp2
  exact ⟨rfl, rfl, K.out⟩

theorem prio_ok (p : List UInt8) (n : Int) (w : World) (hp : p.length ≤ 1000000) (h : prioL p = some n) :
    Calls Tryz.prog 116 #[.string (bytes p)] w fun e w' => e = .returned (.int .i64 n) ∧ Kept w w' := by
  have t : ((bytes p).toList == [45, 49]) = (p == [45, 49]) := by rw [bytes_toList]
  unfold prioL at h
  by_cases z : p = [45, 49]
  · rw [if_pos z] at h
    obtain rfl : -1 = n := Option.some.inj h
    rw [show (p == [45, 49]) = true from beq_iff_eq.2 z] at t
    clear z h hp
    go_enter Tryz.func116, Tryz.ntmps116
    go_wp2
    go_ret
    exact ⟨rfl, Kept.refl _⟩
  · rw [if_neg z] at h
    have HN := Lib.hid (fun W => number_ok p n W hp h)
    rw [show (p == [45, 49]) = false from beq_eq_false_iff_ne.2 z] at t
    clear z h hp
    go_enter Tryz.func116, Tryz.ntmps116
    go_wp2_with fail
    refine (HN.out _).mono ?_
    rintro e w2 ⟨rfl, k⟩
    have K := Lib.hid k
    clear k
    go_wp2
    go_ret
    exact ⟨rfl, K.out⟩
theorem kind_ok (p : List UInt8) (b : Bool) (w : World) (h : kindL p = some b) :
    Calls Tryz.prog 117 #[.string (bytes p)] w fun e w' => e = .returned (.bool b) ∧ w = w' := by
  have t1 : ((bytes p).toList == [104, 111, 108, 100]) = (p == holdL) := by rw [bytes_toList]; rfl
  have t2 : ((bytes p).toList == [114, 101, 97, 108]) = (p == realL) := by rw [bytes_toList]; rfl
  unfold kindL at h
  by_cases z : p = holdL
  · rw [if_pos z] at h
    obtain rfl : true = b := Option.some.inj h
    rw [show (p == holdL) = true from beq_iff_eq.2 z] at t1
    clear z h t2
    go_enter Tryz.func117, Tryz.ntmps117
    go_wp2
    go_ret
    exact ⟨rfl, rfl⟩
  · rw [if_neg z] at h
    by_cases y : p = realL
    · rw [if_pos y] at h
      obtain rfl : false = b := Option.some.inj h
      rw [show (p == holdL) = false from beq_eq_false_iff_ne.2 z] at t1
      rw [show (p == realL) = true from beq_iff_eq.2 y] at t2
      clear z y h
      go_enter Tryz.func117, Tryz.ntmps117
      go_wp2
      go_ret
      exact ⟨rfl, rfl⟩
    · rw [if_neg y] at h; cases h
theorem opt_ok (p : List UInt8) (x : ByteArray) (w : World) (hp : p.length ≤ 1000000) (h : optL p = some x) :
    Calls Tryz.prog 120 #[.string (bytes p)] w fun e w' => e = .returned (.string x) ∧ Kept w w' := by
  have t1 : ((bytes p).toList == ([] : List UInt8)) = (p == []) := by rw [bytes_toList]
  have t2 : ((bytes p).toList == [45]) = (p == [45]) := by rw [bytes_toList]
  unfold optL at h
  by_cases z : p = []
  · rw [if_pos z] at h; cases h
  · rw [if_neg z] at h
    rw [show (p == []) = false from beq_eq_false_iff_ne.2 z] at t1
    by_cases y : p = [45]
    · rw [if_pos y] at h
      obtain rfl := Option.some.inj h
      rw [show (p == [45]) = true from beq_iff_eq.2 y] at t2
      clear z y h hp
      go_enter Tryz.func120, Tryz.ntmps120
      go_wp2
      go_ret
      exact ⟨rfl, Kept.refl _⟩
    · rw [if_neg y] at h
      obtain rfl := Option.some.inj h
      rw [show (p == [45]) = false from beq_eq_false_iff_ne.2 y] at t2
      have HC := Lib.hid (fun W => clone_any (bytes p) W (by rw [bytes_size]; omega))
      clear z y h hp
      go_enter Tryz.func120, Tryz.ntmps120
      go_wp2_with fail
      refine (HC.out _).mono ?_
      rintro e w2 ⟨rfl, k⟩
      have K := Lib.hid k
      clear k
      go_wp2
      go_ret
      exact ⟨rfl, K.out⟩
set_option maxHeartbeats 800000 in
theorem spread_ok (p : List UInt8) (x : ByteArray) (m : Int) (w : World) (hE : Env w) (hp : p.length ≤ 1000000) (h : spreadL p = some (x, m)) :
    Calls Tryz.prog 118 #[.string (bytes p)] w fun e w' => e = .returned (.tuple #[.string x, .int .i64 m]) ∧ Kept w w' := by
  have t1 : ((bytes p).toList == [45]) = (p == [45]) := by rw [bytes_toList]
  have hlen := cut_le p [47]
  have HCT := Lib.hid (cut_any 47 p w hE hp)
  unfold spreadL at h
  by_cases z : p = [45]
  · rw [if_pos z] at h
    obtain ⟨rfl, rfl⟩ := Prod.mk.inj (Option.some.inj h)
    rw [show (p == [45]) = true from beq_iff_eq.2 z] at t1
    clear z h hp hE hlen HCT
    go_enter Tryz.func118, Tryz.ntmps118
    go_wp2
    go_ret2
    exact ⟨rfl, Kept.refl _⟩
  · rw [if_neg z] at h
    rw [show (p == [45]) = false from beq_eq_false_iff_ne.2 z] at t1
    obtain ⟨⟨a, b, f⟩, hc⟩ : ∃ c, Lib.cut p [47] = c := ⟨_, rfl⟩
    rw [hc] at h hlen HCT
    dsimp only at h hlen HCT
    by_cases y : a = []
    · rw [if_pos y] at h; cases h
    · rw [if_neg y] at h
      have t2 : ((bytes a).toList == ([] : List UInt8)) = false := by rw [bytes_toList]; exact beq_eq_false_iff_ne.2 y
      cases hn : numL b with
      | none => rw [hn] at h; cases h
      | some m' =>
        rw [hn] at h
        obtain ⟨rfl, rfl⟩ := Prod.mk.inj (Option.some.inj h)
        have HN := Lib.hid (fun W => number_ok b m' W (by omega) hn)
        have HL := Lib.hid (fun W => clone_any (bytes a) W (by rw [bytes_size]; omega))
        clear z y h hp hE hlen hn hc
        go_enter Tryz.func118, Tryz.ntmps118
        go_wp2_with fail
        refine HCT.out.mono ?_
        rintro e w1 ⟨rfl, n, rfl⟩
        go_wp2_with fail
        refine (HL.out _).mono ?_
        rintro e w2 ⟨rfl, k⟩
        have K := Lib.hid ((Kept.drewN w n).trans k)
        clear k
        go_wp2_with fail
        refine (HN.out _).mono ?_
        rintro e w3 ⟨rfl, k⟩
        have K := Lib.hid (K.out.trans k)
        clear k
        go_wp2
        go_ret2
        exact ⟨rfl, K.out⟩
set_option maxHeartbeats 800000 in
theorem spread_none (p a : List UInt8) (f : Bool) (w : World) (hE : EnvP w) (hp : p.length ≤ 1000000) (hc : Lib.cut p [47] = (a, [], f)) (ha : a ≠ []) (hd : p ≠ [45]) :
    Calls Tryz.prog 118 #[.string (bytes p)] w fun e w' => e = .panicked [perr 2] ∧ Kept w w' := by
  have t1 : ((bytes p).toList == [45]) = false := by rw [bytes_toList]; exact beq_eq_false_iff_ne.2 hd
  have t2 : ((bytes a).toList == ([] : List UInt8)) = false := by rw [bytes_toList]; exact beq_eq_false_iff_ne.2 ha
  have hlen := cut_le p [47]
  have HCT := Lib.hid (cut_any 47 p w hE.toEnvT.toEnv.base hp)
  rw [hc] at HCT hlen
  have HE := Lib.hid hE
  have HL := Lib.hid (fun W => clone_any (bytes a) W (by have : a.length ≤ p.length := hlen.1; rw [bytes_size]; omega))
  dsimp only at HCT
  rw [show bytes [] = (⟨#[]⟩ : ByteArray) from rfl] at HCT
  clear hE hp hc ha hd hlen
  go_enter Tryz.func118, Tryz.ntmps118
  go_wp2_with fail
  refine HCT.out.mono ?_
  rintro e w1 ⟨rfl, n, rfl⟩
  go_wp2_with fail
  refine (HL.out _).mono ?_
  rintro e w2 ⟨rfl, k⟩
  have K := Lib.hid ((Kept.drewN w n).trans k)
  clear k
  go_wp2_with fail
  refine (number_empty _ (HE.out.kept K.out)).mono ?_
  rintro e w3 ⟨rfl, k⟩
  have K := Lib.hid (K.out.trans k)
  clear k
  go_wp2
  exact ⟨rfl, rfl, K.out⟩

end Go.Proofs.YtflllkpnkcmegaaGreatDoor
