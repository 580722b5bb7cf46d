/- Package by package: contracts of the functions that the laws call. -/
import Derived.Test.YtflllkpnkcmegaaGreatDoorBase
import Derived.Deep.RegionHeld3
import Derived.Recover
import Derived.Defers
import Derived.Laws.Pointers
import Derived.StillTailTactics
import Derived.RegionTactic
import Derived.ChangeAlike

/- Rows of a key, a value and a mark: taints and tolerations alike. -/
namespace Go.Proofs.YtflllkpnkcmegaaGreatDoor
open Go.RowKit
set_option linter.unusedVariables false

abbrev NT := ByteArray × ByteArray × Bool
abbrev NL := List NT
theorem one_ssb (x y : ByteArray) (b : Bool) (u : Value) (h : u ∈ [Value.string x, Value.string y, Value.bool b]) : u.oneCell' = true := by
  have e : u = Value.string x ∨ u = Value.string y ∨ u = Value.bool b := by simpa using h
  rcases e with e | e | e <;> rw [e] <;> rfl
def TaLay : Lay NT := { m := 3, cs := fun x => [.string x.1, .string x.2.1, .bool x.2.2], fine := fun x => x.1.size ≤ maxLen ∧ x.2.1.size ≤ maxLen, len := fun _ => rfl, one := fun x => one_ssb x.1 x.2.1 x.2.2, pos := by decide }

theorem RowAt.tri {w : World} {b off len : Nat} {l : NL} {k : Nat} (h : RowAt TaLay w (some ⟨b, off, none⟩) len l) (hk : k < len) :
    ∃ (x y : ByteArray) (m : Bool), l[k]? = some (x, y, m) ∧ l.drop k = (x, y, m) :: l.drop (k + 1) ∧ b < w.heap.size ∧ x.size ≤ maxLen ∧ y.size ≤ maxLen ∧
      w.cell? ⟨b, off + k * 3, none⟩ = some (.string x) ∧ w.cell? ⟨b, off + k * 3 + 1, none⟩ = some (.string y) ∧ w.cell? ⟨b, off + k * 3 + 2, none⟩ = some (.bool m) := by
  obtain ⟨⟨x, y, m⟩, h1, h2, h3, h4, h5⟩ := h.cells hk
  exact ⟨x, y, m, h1, h2, h3, h4.1, h4.2, h5 0 _ rfl, h5 1 _ rfl, h5 2 _ rfl⟩

/-- What is wrong with tolerations. -/
def isNo (s : ByteArray) : Bool := eqS s ByteArray.empty
def namedN (x : NT) : Bool := (isNo x.1 || isName x.1) && (if x.2.2 = true then isNo x.2.1 else isName x.2.1)
def chkO (l : NL) : Int := if 8 < l.length then 4 else if l.all namedN = true then 0 else 3

theorem no_iff {s : ByteArray} : isNo s = (s.toList == ([] : List UInt8)) := by
  unfold isNo eqS; rw [show ByteArray.empty.toList = ([] : List UInt8) from by rw [Lib.toList_data]; rfl]

end Go.Proofs.YtflllkpnkcmegaaGreatDoor

/- Whether a pair is there ahead; what is borne. -/
namespace Go.Proofs.YtflllkpnkcmegaaGreatDoor
open Go.RowKit Go.Sort
set_option linter.unusedVariables false

/-- A key, a value and a mark lie at c. -/
def TriAt (w : World) (c : Nat) (t : NT) : Prop := w.cell? ⟨c, 0, none⟩ = some (.string t.1) ∧ w.cell? ⟨c, 1, none⟩ = some (.string t.2.1) ∧ w.cell? ⟨c, 2, none⟩ = some (.bool t.2.2)
theorem TriAt.kept {w w' : World} {c : Nat} {t : NT} (h : TriAt w c t) (k : Kept w w') : TriAt w' c t := ⟨cell_later k h.1, cell_later k h.2.1, cell_later k h.2.2⟩
end Go.Proofs.YtflllkpnkcmegaaGreatDoor

/- A taint, a toleration in words. -/
namespace Go.Proofs.YtflllkpnkcmegaaGreatDoor
open Go.RowKit
set_option linter.unusedVariables false

def starB (x : ByteArray) : ByteArray := if isNo x = true then ⟨#[42]⟩ else x
def tolB (x : NT) : ByteArray := if x.2.2 = true then starB x.1 else starB x.1 ++ ⟨#[58]⟩ ++ x.2.1
end Go.Proofs.YtflllkpnkcmegaaGreatDoor

/- Taints, tolerations joined: Text. -/
namespace Go.Proofs.YtflllkpnkcmegaaGreatDoor
open Go.RowKit
set_option linter.unusedVariables false

end Go.Proofs.YtflllkpnkcmegaaGreatDoor

/- Taints, tolerations joined: TolText. -/
namespace Go.Proofs.YtflllkpnkcmegaaGreatDoor
open Go.RowKit
set_option linter.unusedVariables false

def textO (l : NL) : ByteArray := if l = [] then ⟨#[45]⟩ else joinB (l.map tolB)

end Go.Proofs.YtflllkpnkcmegaaGreatDoor

/- A part's form: a taint, a toleration. -/
namespace Go.Proofs.YtflllkpnkcmegaaGreatDoor
open Go.RowKit
set_option linter.unusedVariables false

/-- A toleration's part. -/
def keyO (k : List UInt8) : ByteArray := if k = [42] then ByteArray.empty else bytes k
def readO (p : List UInt8) : NT := (keyO (Lib.cut p [58]).1, bytes (Lib.cut p [58]).2.1, !(Lib.cut p [58]).2.2)
def readOBad (p : List UInt8) : Bool := decide (p = []) || Lib.hasPrefix p [58] || decide (1 < Lib.countByte p 58)

end Go.Proofs.YtflllkpnkcmegaaGreatDoor

/- Whether taints, tolerations may be. -/
namespace Go.Proofs.YtflllkpnkcmegaaGreatDoor
open Go.RowKit Go.Sort
set_option linter.unusedVariables false

theorem all_named {x : NT} {t : NL} : (x :: t).all namedN = (namedN x && t.all namedN) := rfl

end Go.Proofs.YtflllkpnkcmegaaGreatDoor

/- parsed, at []taint.Taint: every part's form, then the check. -/
namespace Go.Proofs.YtflllkpnkcmegaaGreatDoor
open Go.RowKit Go.Shelf
set_option linter.unusedVariables false
attribute [local go_sem] Oper.semAt_some

end Go.Proofs.YtflllkpnkcmegaaGreatDoor

/- parsed, at 28: every part's form, then the check. -/
namespace Go.Proofs.YtflllkpnkcmegaaGreatDoor
open Go.RowKit Go.Shelf
set_option linter.unusedVariables false
attribute [local go_sem] Oper.semAt_some

def parsedO (s : List UInt8) := parsedG readOBad readO chkO s

end Go.Proofs.YtflllkpnkcmegaaGreatDoor

/- parseA: the closure, the recovery, the face. -/
namespace Go.Proofs.YtflllkpnkcmegaaGreatDoor
open Go.RowKit
set_option linter.unusedVariables false

end Go.Proofs.YtflllkpnkcmegaaGreatDoor

/- parseO: the closure, the recovery, the face. -/
namespace Go.Proofs.YtflllkpnkcmegaaGreatDoor
open Go.RowKit
set_option linter.unusedVariables false

end Go.Proofs.YtflllkpnkcmegaaGreatDoor

/- The worst taint; how many soft ones are not borne. -/
namespace Go.Proofs.YtflllkpnkcmegaaGreatDoor
open Go.RowKit Go.Sort
set_option linter.unusedVariables false

end Go.Proofs.YtflllkpnkcmegaaGreatDoor

/- Each call of package taint, asked of values that read so. -/
namespace Go.Proofs.YtflllkpnkcmegaaGreatDoor
open Go.RowKit
set_option linter.unusedVariables false

end Go.Proofs.YtflllkpnkcmegaaGreatDoor

/- Whether taints, tolerations are short. -/
namespace Go.Proofs.YtflllkpnkcmegaaGreatDoor
open Go.RowKit
set_option linter.unusedVariables false

end Go.Proofs.YtflllkpnkcmegaaGreatDoor

/- As the reference has them: Of, OfTols. -/
namespace Go.Proofs.YtflllkpnkcmegaaGreatDoor
open Go.RowKit
set_option linter.unusedVariables false

theorem refInfoO : (Tryz.prog.info? 159).map (fun i => (i.zero, i.size, i.bytes)) = some (some (.agg #[.string ByteArray.empty, .string ByteArray.empty, .bool false]), 3, 40) := by kernel_rfl

end Go.Proofs.YtflllkpnkcmegaaGreatDoor

/- The reference's checks of taints, of tolerations. -/
namespace Go.Proofs.YtflllkpnkcmegaaGreatDoor
open Go.RowKit Go.Sort
set_option linter.unusedVariables false

set_option maxHeartbeats 3200000 in
theorem refCheckO_any (a : Option Addr) (len cap : Nat) (l : NL) (w : World) (hr : RowAt TaLay w a len l) :
    Calls Tryz.prog 53 #[.slice a len cap] w fun e w' => e = .returned (.int .i64 (chkO l)) ∧ Kept w w' := by
  have hl := hr.1
  have hm := hr.2.1
  unfold maxLen at hm
  by_cases h8 : len ≤ 8
  · have HV := Lib.hid (show chkO l = if l.all namedN = true then 0 else 3 by unfold chkO; rw [if_neg (by omega)])
    rcases hr.form with h0 | ⟨b, off, rfl⟩
    · subst h0
      have HE := Lib.hid (show chkO l = 0 by rw [HV.out]; rw [List.eq_nil_of_length_eq_zero hl]; rfl)
      clear hr hl
      go_enter Tryz.func53, Tryz.ntmps53
      go_wp2
      refine wp_loop_rounds 1 ?_
      rw [rounds_succ]
      go_wp2
      go_ret
      exact ⟨ret_i64 HE.out.symm, Kept.refl _⟩
    · have HR := Lib.hid hr
      have HL := Lib.hid hl
      clear hr hl
      go_enter Tryz.func53, Tryz.ntmps53
      go_wp2
      go_loopw [3] (fun i wr => ∃ k : Nat, k ≤ len ∧ i = .int .i64 k ∧ (l.drop k).all namedN = l.all namedN ∧ Kept w wr) (fun i _ => len - (intOf i).toNat)
      case atStart => exact ⟨0, Nat.zero_le _, rfl, rfl, Kept.refl _⟩
      case round =>
        obtain ⟨k, hk, rfl, hrest, hK⟩ := hrel
        by_cases hlt : k < len
        · obtain ⟨x, y, m, hx, hd, hb, hz, hz2, c1, c2, c3⟩ := (HR.out.kept hK).tri hlt
          have HK := Lib.hid hK
          have HS := Lib.hid (hrest.symm.trans ((congrArg (fun z => z.all namedN) hd).trans all_named))
          obtain ⟨q0, hq0⟩ : ∃ q, (x.toList == ([] : List UInt8)) = q := ⟨_, rfl⟩
          obtain ⟨q2, hq2⟩ : ∃ q, (y.toList == ([] : List UInt8)) = q := ⟨_, rfl⟩
          obtain ⟨n1, hn1⟩ : ∃ q, isName x = q := ⟨_, rfl⟩
          obtain ⟨n2, hn2⟩ : ∃ q, isName y = q := ⟨_, rfl⟩
          have HN := Lib.hid (show namedN (x, y, m) = ((q0 || n1) && (if m = true then q2 else n2)) by unfold namedN; rw [no_iff, no_iff, hq0, hq2, hn1, hn2])
          clear hK hrest hx hd
          cases q0 with
          | true =>
            cases m with
            | true =>
              cases q2 with
              | true =>
                have HQ := Lib.hid (show namedN (x, y, true) = true by rw [HN.out]; rfl)
                go_wp2_with (go_at_call 49; refine (refName_any _ _ (by assumption)).mono ?_; rintro e w' ⟨rfl, rfl⟩)
                go_roundw
                case rel => exact ⟨k + 1, by omega, by go_num, (HS.out.trans (by rw [HQ.out]; exact Bool.true_and _)).symm, HK.out.trans (kept_alloc _ _)⟩
                case measure => simp [intOf]; omega
              | false =>
                have HQ := Lib.hid (show chkO l = 3 by rw [HV.out, HS.out, HN.out]; rfl)
                go_wp2_with (go_at_call 49; refine (refName_any _ _ (by assumption)).mono ?_; rintro e w' ⟨rfl, rfl⟩)
                go_ret
                exact ⟨ret_i64 HQ.out.symm, HK.out.trans (kept_alloc _ _)⟩
            | false =>
              cases n2 with
              | true =>
                have HQ := Lib.hid (show namedN (x, y, false) = true by rw [HN.out]; rfl)
                go_wp2_with (go_at_call 49; refine (refName_any _ _ (by assumption)).mono ?_; rintro e w' ⟨rfl, rfl⟩)
                go_roundw
                case rel => exact ⟨k + 1, by omega, by go_num, (HS.out.trans (by rw [HQ.out]; exact Bool.true_and _)).symm, HK.out.trans (kept_alloc _ _)⟩
                case measure => simp [intOf]; omega
              | false =>
                have HQ := Lib.hid (show chkO l = 3 by rw [HV.out, HS.out, HN.out]; rfl)
                go_wp2_with (go_at_call 49; refine (refName_any _ _ (by assumption)).mono ?_; rintro e w' ⟨rfl, rfl⟩)
                go_ret
                exact ⟨ret_i64 HQ.out.symm, HK.out.trans (kept_alloc _ _)⟩
          | false =>
            cases n1 with
            | true =>
              cases m with
              | true =>
                cases q2 with
                | true =>
                  have HQ := Lib.hid (show namedN (x, y, true) = true by rw [HN.out]; rfl)
                  go_wp2_with (go_at_call 49; refine (refName_any _ _ (by assumption)).mono ?_; rintro e w' ⟨rfl, rfl⟩)
                  go_roundw
                  case rel => exact ⟨k + 1, by omega, by go_num, (HS.out.trans (by rw [HQ.out]; exact Bool.true_and _)).symm, HK.out.trans (kept_alloc _ _)⟩
                  case measure => simp [intOf]; omega
                | false =>
                  have HQ := Lib.hid (show chkO l = 3 by rw [HV.out, HS.out, HN.out]; rfl)
                  go_wp2_with (go_at_call 49; refine (refName_any _ _ (by assumption)).mono ?_; rintro e w' ⟨rfl, rfl⟩)
                  go_ret
                  exact ⟨ret_i64 HQ.out.symm, HK.out.trans (kept_alloc _ _)⟩
              | false =>
                cases n2 with
                | true =>
                  have HQ := Lib.hid (show namedN (x, y, false) = true by rw [HN.out]; rfl)
                  go_wp2_with (go_at_call 49; refine (refName_any _ _ (by assumption)).mono ?_; rintro e w' ⟨rfl, rfl⟩)
                  go_roundw
                  case rel => exact ⟨k + 1, by omega, by go_num, (HS.out.trans (by rw [HQ.out]; exact Bool.true_and _)).symm, HK.out.trans (kept_alloc _ _)⟩
                  case measure => simp [intOf]; omega
                | false =>
                  have HQ := Lib.hid (show chkO l = 3 by rw [HV.out, HS.out, HN.out]; rfl)
                  go_wp2_with (go_at_call 49; refine (refName_any _ _ (by assumption)).mono ?_; rintro e w' ⟨rfl, rfl⟩)
                  go_ret
                  exact ⟨ret_i64 HQ.out.symm, HK.out.trans (kept_alloc _ _)⟩
            | false =>
              have HQ := Lib.hid (show chkO l = 3 by rw [HV.out, HS.out, HN.out]; rfl)
              go_wp2_with (go_at_call 49; refine (refName_any _ _ (by assumption)).mono ?_; rintro e w' ⟨rfl, rfl⟩)
              go_ret
              exact ⟨ret_i64 HQ.out.symm, HK.out.trans (kept_alloc _ _)⟩
        · have HK := Lib.hid hK
          have HS := Lib.hid (hrest.symm.trans (congrArg (fun z => z.all namedN) (drop_end (by rw [HL.out]; exact hlt))))
          have HF := Lib.hid (show chkO l = 0 by rw [HV.out, HS.out]; rfl)
          clear hK hrest
          go_wp2
          go_ret
          exact ⟨ret_i64 HF.out.symm, HK.out⟩
  · have HV := Lib.hid (show chkO l = 4 by unfold chkO; rw [if_pos (by omega)])
    have h9 : 8 < len := by omega
    clear h8 hr hl
    go_enter Tryz.func53, Tryz.ntmps53
    go_wp2
    go_ret
    exact ⟨ret_i64 HV.out.symm, Kept.refl _⟩

theorem refCheckOR {v : Value} {l : NL} {c : Int} {w : World} (h : Reads TaLay w v l) (hc : chkO l = c) : Calls Tryz.prog 53 #[v] w (Say (.int .i64 c) w) := by
  obtain ⟨a, cap, rfl, _, _, hr⟩ := h
  exact (refCheckO_any a _ cap l w hr).mono fun e w' ⟨he, k⟩ => ⟨by rw [he, hc], k⟩

end Go.Proofs.YtflllkpnkcmegaaGreatDoor

/- The reference's TaintText. -/
namespace Go.Proofs.YtflllkpnkcmegaaGreatDoor
open Go.RowKit
set_option linter.unusedVariables false

end Go.Proofs.YtflllkpnkcmegaaGreatDoor

/- A taint's, a toleration's part: how it is parted. -/
namespace Go.Proofs.YtflllkpnkcmegaaGreatDoor
open Go.RowKit
set_option linter.unusedVariables false

theorem count_cons (c b : UInt8) (t : List UInt8) : Lib.countByte (b :: t) c = Lib.countByte t c + (if b = c then 1 else 0) := by
  unfold Lib.countByte
  rw [List.count_cons]
  by_cases h : b = c
  · simp [h]
  · simp [h]
theorem prefix_head (b c : UInt8) (t : List UInt8) : Lib.hasPrefix (b :: t) [c] = (b == c) := by
  unfold Lib.hasPrefix
  simp only [List.isPrefixOf, List.reverse_append, List.reverse_cons, List.reverse_nil, List.nil_append, List.cons_append, Bool.and_true]
  rw [Bool.eq_iff_iff, beq_iff_eq, beq_iff_eq]; exact eq_comm
end Go.Proofs.YtflllkpnkcmegaaGreatDoor

/- The reference's ParseTaints. -/
namespace Go.Proofs.YtflllkpnkcmegaaGreatDoor
open Go.RowKit
set_option linter.unusedVariables false

end Go.Proofs.YtflllkpnkcmegaaGreatDoor

/- What is told is parsed just so, and what is parsed is told just so. -/
namespace Go.Proofs.YtflllkpnkcmegaaGreatDoor
open Go.RowKit
set_option linter.unusedVariables false

theorem count_app (c : UInt8) (x y : List UInt8) : Lib.countByte (x ++ y) c = Lib.countByte x c + Lib.countByte y c := by unfold Lib.countByte; exact List.count_append
theorem count_none {c : UInt8} {x : List UInt8} (h : c ∉ x) : Lib.countByte x c = 0 := by unfold Lib.countByte; exact List.count_eq_zero.2 h
theorem no_eq {s : ByteArray} (h : isNo s = true) : s = ByteArray.empty := eqS_iff.1 h
theorem star_told {x : ByteArray} (h : (isNo x || isName x) = true) :
    (58 : UInt8) ∉ (starB x).data.toList ∧ (44 : UInt8) ∉ (starB x).data.toList ∧ keyO (starB x).data.toList = x ∧ ∃ b t, (starB x).data.toList = b :: t ∧ b ≠ 58 ∧ b ≠ 45 := by
  cases hn : isNo x with
  | true =>
    have e : starB x = ⟨#[42]⟩ := by unfold starB; rw [hn]; rfl
    rw [e, no_eq hn]
    exact ⟨by decide, by decide, rfl, 42, [], rfl, by decide, by decide⟩
  | false =>
    rw [hn, Bool.false_or] at h
    have e : starB x = x := by unfold starB; rw [hn]; rfl
    have nx := name_no h
    obtain ⟨b, t, eb, hb⟩ := name_some h
    rw [e]
    refine ⟨nx.1, nx.2.2, ?_, b, t, eb, (ok_not hb).1, (ok_not hb).2.2.2⟩
    unfold keyO
    rw [if_neg, bytes_data]
    intro h42
    rw [h42] at eb
    have : b = 42 := by simpa using (List.cons.inj eb).1.symm
    subst this
    exact absurd hb (by decide)
theorem tol_told {x y : ByteArray} {m : Bool} (h : namedN (x, y, m) = true) :
    (44 : UInt8) ∉ (tolB (x, y, m)).data.toList ∧ readOBad (tolB (x, y, m)).data.toList = false ∧ readO (tolB (x, y, m)).data.toList = (x, y, m) ∧ (tolB (x, y, m)).data.toList ≠ [45] := by
  unfold namedN at h
  rw [Bool.and_eq_true] at h
  obtain ⟨h1, h2⟩ := h
  obtain ⟨s1, s2, s3, b, t, eb, hb, hb5⟩ := star_told h1
  cases m with
  | true =>
    have hy : y = ByteArray.empty := no_eq (by simpa using h2)
    subst hy
    have e : tolB (x, ByteArray.empty, true) = starB x := rfl
    rw [e]
    have hcut := cut_none s1
    refine ⟨s2, ?_, ?_, ?_⟩
    · unfold readOBad
      rw [count_none s1, eb, prefix_head]
      simp [hb]
    · unfold readO
      rw [hcut, s3]; rfl
    · intro h45; rw [h45] at eb; exact hb5 (List.cons.inj eb).1.symm
  | false =>
    have hy : isName y = true := by simpa using h2
    have ny := name_no hy
    have e : (tolB (x, y, false)).data.toList = (starB x).data.toList ++ 58 :: y.data.toList := mid_data (starB x) y 58
    rw [e]
    have hcut := cut_mid (c := 58) y.data.toList s1
    refine ⟨by simp [s2, ny.2.2], ?_, ?_, ?_⟩
    · unfold readOBad
      rw [count_app, count_none s1, count_cons, count_none ny.1, eb, List.cons_append, prefix_head]
      simp [hb]
    · unfold readO
      rw [hcut, s3, bytes_data]; rfl
    · intro h45
      rw [eb] at h45
      exact hb5 (List.cons.inj h45).1

theorem chkO_named {s : NL} (h : chkO s = 0) : ∀ x ∈ s, namedN x = true := by
  unfold chkO at h
  split at h
  · cases h
  · split at h
    · rename_i h1; exact fun x hx => List.all_eq_true.1 h1 x hx
    · cases h
theorem chkO_len {l : NL} (h : chkO l = 0) : l.length ≤ 8 := by
  unfold chkO at h
  split at h
  · cases h
  · omega

theorem textO_told {s : NL} (h : chkO s = 0) : parsedO (textO s).data.toList = (0, s) := by
  by_cases h0 : s = []
  · subst h0; rfl
  · have hn := chkO_named h
    have e : textO s = joinB (s.map tolB) := by unfold textO; rw [if_neg h0]
    rw [e]
    exact told_parsed (chkO_len h) h0 h (fun x hx => ⟨(tol_told (hn x hx)).1, (tol_told (hn x hx)).2.1, (tol_told (hn x hx)).2.2.1⟩) (fun x hx => (tol_told (hn x hx)).2.2.2)

end Go.Proofs.YtflllkpnkcmegaaGreatDoor

/- What a law of taints is told: its arguments. -/
namespace Go.Proofs.YtflllkpnkcmegaaGreatDoor
open Go.ChangeShapes Go.WideShapes Go.ChangeAt Go.RowKit Go.Deep
set_option linter.unusedVariables false

theorem cellsB : Tryz.prog.cellsOf 4 = 1 := by kernel_rfl
theorem cellsO : Tryz.prog.cellsOf 118 = 3 := by kernel_rfl
set_option maxRecDepth 100000 in
theorem triO_of_trod {H : Type} {enc : TypeId × Value → H} {w : World} {base fuel : Nat} {sp : Nat → Bool} {held : Bool} {cs : List Value} {x : DataW H × List MemPlace} (h : DataW.trod enc Tryz.prog w base sp held fuel 118 cs = some x) :
    ∃ a : NT, cs = TaLay.cs a ∧ TaLay.fine a := by
  obtain ⟨ys, m, -, -, hlen, hyl, hf⟩ := DataW.trod_struct Tryz.underlying118 h
  rw [cellsO] at hlen
  match cs, hlen with
  | [c0, c1, c2], _ =>
    have h0 : DataW.trod enc Tryz.prog w base sp held m 9 (([c0, c1, c2].drop 0).take (Tryz.prog.cellsOf 9)) = ys[0]? := hf 0 _ rfl
    have h1 : DataW.trod enc Tryz.prog w base sp held m 9 (([c0, c1, c2].drop 1).take (Tryz.prog.cellsOf 9)) = ys[1]? := hf 1 _ rfl
    have h2 : DataW.trod enc Tryz.prog w base sp held m 4 (([c0, c1, c2].drop 2).take (Tryz.prog.cellsOf 4)) = ys[2]? := hf 2 _ rfl
    rw [cellsS] at h0 h1
    rw [cellsB] at h2
    obtain ⟨y0, e0⟩ : ∃ y, ys[0]? = some y := ⟨_, List.getElem?_eq_getElem (by rw [hyl]; decide)⟩
    obtain ⟨y1, e1⟩ : ∃ y, ys[1]? = some y := ⟨_, List.getElem?_eq_getElem (by rw [hyl]; decide)⟩
    obtain ⟨y2, e2⟩ : ∃ y, ys[2]? = some y := ⟨_, List.getElem?_eq_getElem (by rw [hyl]; decide)⟩
    rw [e0] at h0
    rw [e1] at h1
    rw [e2] at h2
    obtain ⟨s, q0, -, hs⟩ := DataW.trod_string Tryz.underlying9 h0
    obtain ⟨t, q1, -, ht⟩ := DataW.trod_string Tryz.underlying9 h1
    obtain ⟨b, q2, -⟩ := DataW.trod_bool Tryz.underlying4 h2
    simp only [List.drop_zero, List.take_succ_cons, List.take_zero, List.cons.injEq, and_true, List.drop_succ_cons] at q0 q1 q2
    subst q0; subst q1; subst q2
    exact ⟨(s, t, b), rfl, hs, ht⟩
theorem rowO_of_trod {H : Type} {enc : TypeId × Value → H} {w : World} {base fuel : Nat} {sp : Nat → Bool} {held : Bool} {v : Value} {x : DataW H × List MemPlace} (h : DataW.trod enc Tryz.prog w base sp held fuel 28 [v] = some x) : ∃ l, Reads TaLay w v l :=
  reads_of_trod TaLay Tryz.underlying28 cellsO (fun _ _ _ h => triO_of_trod h) h

end Go.Proofs.YtflllkpnkcmegaaGreatDoor
