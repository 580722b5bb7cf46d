/- Package by package: contracts of the functions that the laws call. -/
import Derived.Test.YtflllkpnkcmegaaGreatDoorBase
import Derived.WalkKit
import Derived.WalkLawsBesides
import Derived.WalkSpells
import Derived.BigQuiet
import Derived.Deep.QuietTactic
import Derived.Lib.Hide
import Derived.Laws.Bits64b
import Derived.Below
import Derived.LoopTactic
import Derived.Deep.RegionHeld3
import Derived.Laws.StructEq
import Derived.Laws.OwnMore
import Derived.Deep.AppendLies
import Derived.RangeFuncRecord
import Derived.OwnWalk
import Derived.Recover
import Derived.Defers
import Derived.Laws.Pointers

/- The library's products and quotients of 64 bits: a product's two halves; two halves by a thousand. -/
namespace Go.Proofs.YtflllkpnkcmegaaGreatDoor.Vec
open Go.RowKit
set_option linter.unusedVariables false

end Go.Proofs.YtflllkpnkcmegaaGreatDoor.Vec

/- The library's quotient of two halves by a thousand, where the high half is some. -/
namespace Go.Proofs.YtflllkpnkcmegaaGreatDoor.Vec
open Go.RowKit
set_option linter.unusedVariables false

end Go.Proofs.YtflllkpnkcmegaaGreatDoor.Vec

/- What each call of package qty answers, said of whole numbers, and what each call of the reference does. -/
namespace Go.Proofs.YtflllkpnkcmegaaGreatDoor.Vec
open Go.RowKit
set_option linter.unusedVariables false

end Go.Proofs.YtflllkpnkcmegaaGreatDoor.Vec

/- Vectors as lists of names and numbers: plain words, and how a slice of them lies in memory. -/
namespace Go.Proofs.YtflllkpnkcmegaaGreatDoor.Vec
open Go.RowKit
set_option linter.unusedVariables false

abbrev V := List (ByteArray × Int)
/-- The i-th name, the i-th number. -/
def nm (l : V) (i : Nat) : ByteArray := (l.getD i (ByteArray.empty, 0)).1
def qn (l : V) (i : Nat) : Int := (l.getD i (ByteArray.empty, 0)).2

/-- Each number fits 64 bits, each name is no longer than memory is. -/
def Fine (l : V) : Prop := ∀ i, i < l.length → (nm l i).size ≤ maxLen ∧ -9223372036854775808 ≤ qn l i ∧ qn l i ≤ 9223372036854775807

/-- A slice of so many amounts lies at a. -/
def VecAt (w : World) (a : Option Addr) (len : Nat) (l : V) : Prop :=
  l.length = len ∧ len ≤ maxLen ∧ Fine l ∧
    (len = 0 ∨ ∃ b off, a = some ⟨b, off, none⟩ ∧ b < w.heap.size ∧
      ∀ i, i < len → w.cell? ⟨b, off + i * 2, none⟩ = some (.string (nm l i)) ∧ w.cell? ⟨b, off + i * 2 + 1, none⟩ = some (.int .i64 (qn l i)))

theorem VecAt.kept {w w' : World} {a : Option Addr} {len : Nat} {l : V} (h : VecAt w a len l) (k : Kept w w') : VecAt w' a len l := by
  obtain ⟨h0, h1, h2, h3⟩ := h
  refine ⟨h0, h1, h2, h3.imp id ?_⟩
  rintro ⟨b, off, ha, hb, hc⟩
  exact ⟨b, off, ha, Nat.lt_of_lt_of_le hb k.size, fun i hi =>
    ⟨(Below.cell k (p := ⟨b, off + i * 2, none⟩) hb).trans (hc i hi).1, (Below.cell k (p := ⟨b, off + i * 2 + 1, none⟩) hb).trans (hc i hi).2⟩⟩

theorem VecAt.nil (w : World) : VecAt w none 0 [] := ⟨rfl, by decide, fun i hi => absurd hi (by simp), .inl rfl⟩

end Go.Proofs.YtflllkpnkcmegaaGreatDoor.Vec

/- Vectors read: whether they may be, a name's amount, whether short. -/
namespace Go.Proofs.YtflllkpnkcmegaaGreatDoor.Vec
open Go.RowKit
set_option linter.unusedVariables false

theorem drop_cons {l : V} {k : Nat} (h : k < l.length) : l.drop k = (nm l k, qn l k) :: l.drop (k + 1) := by
  rw [List.drop_eq_getElem_cons h]
  have : l.getD k (ByteArray.empty, 0) = l[k] := by simp [List.getD, h]
  simp only [nm, qn, this]

theorem VecAt.cells {w : World} {b off len : Nat} {l : V} {k : Nat} (h : VecAt w (some ⟨b, off, none⟩) len l) (hk : k < len) :
    b < w.heap.size ∧ w.cell? ⟨b, off + k * 2, none⟩ = some (.string (nm l k)) ∧ w.cell? ⟨b, off + k * 2 + 1, none⟩ = some (.int .i64 (qn l k)) := by
  obtain ⟨_, _, _, h3⟩ := h
  rcases h3 with h3 | ⟨b', off', e, hb, hc⟩
  · omega
  · injection e with e; injection e with e1 e2 e3; subst e1; subst e2
    exact ⟨hb, hc k hk⟩
theorem VecAt.form {w : World} {a : Option Addr} {len : Nat} {l : V} (h : VecAt w a len l) : len = 0 ∨ ∃ b off, a = some ⟨b, off, none⟩ := by
  obtain ⟨_, _, _, h3⟩ := h
  exact h3.imp id fun ⟨b, off, e, _⟩ => ⟨b, off, e⟩

def prevAt (l : V) (k : Nat) : Option ByteArray := if k = 0 then none else some (nm l (k - 1))
def behindB (prev : Option ByteArray) (s : ByteArray) : Bool := match prev with | none => false | some p => leS s p
def checkFrom : Option ByteArray → V → Int
  | _, [] => 0
  | prev, x :: t => if isName x.1 = false then 3 else if x.2 ≤ 0 then 1 else if behindB prev x.1 = true then 13 else checkFrom (some x.1) t
def checkV (l : V) : Int := if 8 < l.length then 4 else checkFrom none l

theorem behind_zero {l : V} {k : Nat} (h : k = 0) (s : ByteArray) : behindB (prevAt l k) s = false := by unfold prevAt; rw [if_pos h]; rfl
theorem behind_prev {l : V} {k : Nat} (h : ¬ k = 0) (s : ByteArray) : behindB (prevAt l k) s = leS s (nm l (k - 1)) := by unfold prevAt; rw [if_neg h]; rfl
theorem prev_succ (l : V) (k : Nat) : prevAt l (k + 1) = some (nm l k) := by unfold prevAt; rw [if_neg (by omega)]; rfl
theorem chk_name {l : V} {k : Nat} {p : Option ByteArray} (h : k < l.length) (n1 : isName (nm l k) = false) : checkFrom p (l.drop k) = 3 := by
  rw [drop_cons h, checkFrom, if_pos n1]
theorem chk_arg {l : V} {k : Nat} {p : Option ByteArray} (h : k < l.length) (n1 : isName (nm l k) = true) (n2 : qn l k ≤ 0) : checkFrom p (l.drop k) = 1 := by
  rw [drop_cons h, checkFrom, if_neg (by rw [n1]; decide), if_pos n2]
theorem chk_order {l : V} {k : Nat} {p : Option ByteArray} (h : k < l.length) (n1 : isName (nm l k) = true) (n2 : 0 < qn l k) (n3 : behindB p (nm l k) = true) : checkFrom p (l.drop k) = 13 := by
  rw [drop_cons h, checkFrom, if_neg (by rw [n1]; decide), if_neg (by omega), if_pos n3]
theorem chk_next {l : V} {k : Nat} {p : Option ByteArray} (h : k < l.length) (n1 : isName (nm l k) = true) (n2 : 0 < qn l k) (n3 : behindB p (nm l k) = false) : checkFrom p (l.drop k) = checkFrom (prevAt l (k + 1)) (l.drop (k + 1)) := by
  rw [drop_cons h, checkFrom, if_neg (by rw [n1]; decide), if_neg (by omega), if_neg (by rw [n3]; decide), prev_succ]
theorem chk_end {l : V} {k : Nat} {p : Option ByteArray} (h : ¬ k < l.length) : checkFrom p (l.drop k) = 0 := by
  rw [List.drop_of_length_le (by omega), checkFrom]

set_option maxHeartbeats 800000 in
theorem refCheck_any (a : Option Addr) (len cap : Nat) (l : V) (w : World) (hr : VecAt w a len l) :
    Calls Tryz.prog 50 #[.slice a len cap] w fun e w' => e = .returned (.int .i64 (checkV l)) ∧ Kept w w' := by
  have hl := hr.1
  have hm := hr.2.1
  unfold maxLen at hm
  have hf := hr.2.2.1
  by_cases h8 : len ≤ 8
  · have HV := Lib.hid (show checkV l = checkFrom none l by unfold checkV; rw [if_neg (by omega)])
    rcases hr.form with h0 | ⟨b, off, rfl⟩
    · subst h0
      have HE := Lib.hid (show checkV l = 0 by rw [HV.out]; rw [List.eq_nil_of_length_eq_zero hl]; rfl)
      clear hr hl hf
      go_enter Tryz.func50, Tryz.ntmps50
      go_wp2
      refine wp_loop_rounds 1 ?_
      rw [rounds_succ]
      go_wp2
      go_ret
      exact ⟨ret_i64 HE.out.symm, Kept.refl _⟩
    · have HF := Lib.hid hf
      have HR := Lib.hid hr
      have HL := Lib.hid hl
      clear hf hr hl
      go_enter Tryz.func50, Tryz.ntmps50
      go_wp2
      go_loopw [3] (fun i wr => ∃ k : Nat, k ≤ len ∧ i = .int .i64 k ∧ checkFrom (prevAt l k) (l.drop k) = checkFrom none l ∧ Kept w wr) (fun i _ => len - (intOf i).toNat)
      case atStart => exact ⟨0, Nat.zero_le _, rfl, rfl, Kept.refl _⟩
      case round =>
        obtain ⟨k, hk, rfl, hrest, hK⟩ := hrel
        by_cases hlt : k < len
        · have HK := Lib.hid hK
          have HS := Lib.hid (HV.out.trans hrest.symm)
          have HT := Lib.hid hrest
          obtain ⟨hb, c1, c2⟩ := (HR.out.kept hK).cells hlt
          clear hK hrest
          have hz : (nm l k).size ≤ maxLen := (HF.out k (by rw [HL.out]; exact hlt)).1
          have HI := Lib.hid (show k < l.length by rw [HL.out]; exact hlt)
          by_cases n1 : isName (nm l k) = true
          · have N1 := Lib.hid n1
            by_cases n2 : qn l k ≤ 0
            · have N2 := Lib.hid n2
              go_wp2_with (go_at_call 49; refine (refName_any _ _ hz).mono ?_; rintro e w' ⟨rfl, rfl⟩)
              go_ret
              exact ⟨ret_i64 (HS.out.trans (chk_arg HI.out N1.out N2.out)).symm, HK.out⟩
            · have n2 : 0 < qn l k := by omega
              have N2 := Lib.hid n2
              by_cases h0 : k = 0
              · have hd : decide (0 < k) = false := by subst h0; decide
                have HP := Lib.hid (behind_zero (l := l) h0 (nm l k))
                clear h0
                go_wp2_with (go_at_call 49; refine (refName_any _ _ hz).mono ?_; rintro e w' ⟨rfl, rfl⟩)
                go_quiet (fail)
                go_wp2
                go_roundw
                case rel => exact ⟨k + 1, by omega, by go_num, (chk_next HI.out N1.out N2.out HP.out).symm.trans HT.out, HK.out.trans (Kept.drewN _ _)⟩
                case measure => simp [intOf]; omega
              · have hd : decide (0 < k) = true := by simp; omega
                have g1 : 0 ≤ (k : Int) - 1 := by omega
                have g2 : (k : Int) - 1 < (len : Int) := by omega
                have g3 : ((k : Int) - 1).toNat = k - 1 := by omega
                have HP := Lib.hid (behind_prev (l := l) h0 (nm l k))
                obtain ⟨_, d1, d2⟩ := (HR.out.kept HK.out).cells (show k - 1 < len by omega)
                by_cases n3 : leS (nm l k) (nm l (k - 1)) = true
                · have n3' : (Op.bytesLess (nm l k).toList (nm l (k - 1)).toList || (nm l k).toList == (nm l (k - 1)).toList) = true := n3
                  have N3 := Lib.hid n3
                  clear n3
                  go_wp2_with (go_at_call 49; refine (refName_any _ _ hz).mono ?_; rintro e w' ⟨rfl, rfl⟩)
                  go_quiet (fail)
                  go_wp2
                  go_ret
                  exact ⟨ret_i64 (HS.out.trans (chk_order HI.out N1.out N2.out (HP.out.trans N3.out))).symm, HK.out.trans (Kept.drewN _ _)⟩
                · have n3 : leS (nm l k) (nm l (k - 1)) = false := by simpa using n3
                  have n3' : (Op.bytesLess (nm l k).toList (nm l (k - 1)).toList || (nm l k).toList == (nm l (k - 1)).toList) = false := n3
                  have N3 := Lib.hid n3
                  clear n3
                  go_wp2_with (go_at_call 49; refine (refName_any _ _ hz).mono ?_; rintro e w' ⟨rfl, rfl⟩)
                  go_quiet (fail)
                  go_wp2
                  go_roundw
                  case rel => exact ⟨k + 1, by omega, by go_num, (chk_next HI.out N1.out N2.out (HP.out.trans N3.out)).symm.trans HT.out, HK.out.trans (Kept.drewN _ _)⟩
                  case measure => simp [intOf]; omega
          · have n1 : isName (nm l k) = false := by simpa using n1
            have N1 := Lib.hid n1
            go_wp2_with (go_at_call 49; refine (refName_any _ _ hz).mono ?_; rintro e w' ⟨rfl, rfl⟩)
            go_ret
            exact ⟨ret_i64 (HS.out.trans (chk_name HI.out N1.out)).symm, HK.out⟩
        · have HK := Lib.hid hK
          have HS := Lib.hid (HV.out.trans hrest.symm)
          have HI := Lib.hid (show ¬ k < l.length by rw [HL.out]; exact hlt)
          clear hK hrest
          go_wp2
          go_ret
          exact ⟨ret_i64 (HS.out.trans (chk_end HI.out)).symm, HK.out⟩
  · have HV := Lib.hid (show checkV l = 4 by unfold checkV; rw [if_pos (by omega)])
    have h9 : 8 < len := by omega
    clear h8 hr hl hf
    go_enter Tryz.func50, Tryz.ntmps50
    go_wp2
    go_ret
    exact ⟨ret_i64 HV.out.symm, Kept.refl _⟩

/-- What checked does. -/
def Chk (l : V) (v : Value) (w : World) (e : Ending) (w' : World) : Prop :=
  (checkV l = 0 → e = .returned v) ∧ (checkV l ≠ 0 → e = .panicked [perr (checkV l)]) ∧ Kept w w'
theorem Chk.bad {l : V} {v : Value} {w w' : World} {c : Int} (h : checkV l = c) (hc : c ≠ 0) (k : Kept w w') : Chk l v w (.panicked [perr c]) w' := ⟨fun g => absurd (h.symm.trans g) hc, fun _ => by rw [h], k⟩

end Go.Proofs.YtflllkpnkcmegaaGreatDoor.Vec

/- Vectors read: a name's amount, whether short, whether alike, whether the one fits the other. -/
namespace Go.Proofs.YtflllkpnkcmegaaGreatDoor.Vec
open Go.RowKit
set_option linter.unusedVariables false

def getV : V → ByteArray → Int
  | [], _ => 0
  | x :: t, n => if eqS x.1 n = true then x.2 else getV t n
end Go.Proofs.YtflllkpnkcmegaaGreatDoor.Vec

/- Vectors made: a row of the call's own, one amount more; the foremost name, its amount taken. -/
namespace Go.Proofs.YtflllkpnkcmegaaGreatDoor.Vec
open Go.RowKit
set_option linter.unusedVariables false

def cellsOf : V → List Value
  | [] => []
  | x :: t => .string x.1 :: .int .i64 x.2 :: cellsOf t
theorem cellsOf_length : ∀ l : V, (cellsOf l).length = l.length * 2
  | [] => rfl
  | x :: t => by simp only [cellsOf, List.length_cons, cellsOf_length t]; omega
theorem cellsOf_append : ∀ l m : V, cellsOf (l ++ m) = cellsOf l ++ cellsOf m
  | [], _ => rfl
  | x :: t, m => by simp only [List.cons_append, cellsOf, cellsOf_append t m]
theorem nm_zero (x : ByteArray × Int) (t : V) : nm (x :: t) 0 = x.1 := rfl
theorem nm_succ (x : ByteArray × Int) (t : V) (i : Nat) : nm (x :: t) (i + 1) = nm t i := rfl
theorem qn_zero (x : ByteArray × Int) (t : V) : qn (x :: t) 0 = x.2 := rfl
theorem qn_succ (x : ByteArray × Int) (t : V) (i : Nat) : qn (x :: t) (i + 1) = qn t i := rfl
theorem cellsOf_at : ∀ (l : V) (i : Nat), i < l.length → (cellsOf l)[i * 2]? = some (.string (nm l i)) ∧ (cellsOf l)[i * 2 + 1]? = some (.int .i64 (qn l i))
  | [], i, h => absurd h (by simp)
  | x :: t, 0, _ => ⟨rfl, rfl⟩
  | x :: t, i + 1, h => by
    have := cellsOf_at t i (by simpa using h)
    rw [nm_succ, qn_succ, show (i + 1) * 2 = i * 2 + 1 + 1 from by omega]
    exact this
theorem cellsOf_one : ∀ (l : V) (u : Value), u ∈ cellsOf l → u.oneCell' = true
  | x :: t, u, h => by
    simp only [cellsOf, List.mem_cons] at h
    rcases h with rfl | rfl | h
    · rfl
    · rfl
    · exact cellsOf_one t u h

theorem Fine.cons {x : ByteArray × Int} {t : V} : Fine (x :: t) ↔ (x.1.size ≤ maxLen ∧ -9223372036854775808 ≤ x.2 ∧ x.2 ≤ 9223372036854775807) ∧ Fine t := by
  constructor
  · intro h
    exact ⟨h 0 (by simp), fun i hi => h (i + 1) (by simpa using hi)⟩
  · rintro ⟨h0, h⟩ i hi
    cases i with
    | zero => exact h0
    | succ i => exact h i (by simpa using hi)
theorem Fine.nil : Fine [] := fun i hi => absurd hi (by simp)
theorem Fine.snoc : ∀ {l : V} {s : ByteArray} {n : Int}, Fine l → s.size ≤ maxLen → -9223372036854775808 ≤ n → n ≤ 9223372036854775807 → Fine (l ++ [(s, n)])
  | [], s, n, _, h1, h2, h3 => Fine.cons.2 ⟨⟨h1, h2, h3⟩, Fine.nil⟩
  | x :: t, s, n, h, h1, h2, h3 => by
    rw [Fine.cons] at h
    exact Fine.cons.2 ⟨h.1, h.2.snoc h1 h2 h3⟩

/-- v is a row of the call's own (from block base on) that reads as l. -/
def OwnV (e : TypeId) (w : World) (base : Nat) (v : Value) (l : V) : Prop := w.ownsRow base e 2 v l.length (cellsOf l) ∧ Fine l

theorem OwnV.nil (e : TypeId) (w : World) (base : Nat) : OwnV e w base (.slice none 0 0) [] := ⟨World.ownsRow_nil w base e 2, Fine.nil⟩

theorem OwnV.at_ {e : TypeId} {w : World} {base : Nat} {v : Value} {l : V} (h : OwnV e w base v l) :
    ∃ a cap, v = .slice a l.length cap ∧ l.length ≤ cap ∧ cap ≤ maxLen ∧ VecAt w a l.length l := by
  obtain ⟨h, hf⟩ := h
  have h' := h
  obtain ⟨_, h1⟩ := h
  rcases h1 with ⟨rfl, h0⟩ | ⟨g, cap, cur, rfl, hbg, hg, hn, hm, hs, ht⟩
  · have : l = [] := List.eq_nil_of_length_eq_zero h0
    subst this
    exact ⟨none, 0, rfl, Nat.le_refl _, by decide, VecAt.nil w⟩
  · refine ⟨_, cap, rfl, hn, hm, rfl, Nat.le_trans hn hm, hf, .inr ⟨g, 0, rfl, ?_, fun i hi => ?_⟩⟩
    · rcases Nat.lt_or_ge g w.heap.size with hlt | hge
      · exact hlt
      · rw [Array.getElem?_eq_none hge] at hg; cases hg
    · have c := h'.cells (g := g) rfl
      have d := cellsOf_at l i hi
      have c1 := c _ _ d.1
      have c2 := c _ _ d.2
      constructor
      · rw [← c1]; congr 1; unfold Addr.add; split <;> simp_all
      · rw [← c2]; congr 1

theorem OwnV.kept {e : TypeId} {w w' : World} {base : Nat} {v : Value} {l : V} (h : OwnV e w base v l) (k : Kept w w') : OwnV e w' base v l := by
  obtain ⟨⟨h0, h1⟩, hf⟩ := h
  refine ⟨⟨h0, h1.imp id ?_⟩, hf⟩
  rintro ⟨g, cap, cur, rfl, hbg, hg, hn, hm, hs, ht⟩
  refine ⟨g, cap, cur, rfl, hbg, ?_, hn, hm, hs, ht⟩
  have hlt : g < w.heap.size := by
    rcases Nat.lt_or_ge g w.heap.size with hlt | hge
    · exact hlt
    · rw [Array.getElem?_eq_none hge] at hg; cases hg
  exact (k.block g hlt).trans hg

/-- A slice that reads as l. -/
def Reads (w : World) (v : Value) (l : V) : Prop := ∃ a cap, v = .slice a l.length cap ∧ l.length ≤ cap ∧ cap ≤ maxLen ∧ VecAt w a l.length l
theorem Reads.kept {w w' : World} {v : Value} {l : V} (h : Reads w v l) (k : Kept w w') : Reads w' v l := by
  obtain ⟨a, cap, e, h1, h2, h3⟩ := h
  exact ⟨a, cap, e, h1, h2, h3.kept k⟩

theorem VecAt.first {w : World} {b off len : Nat} {x : ByteArray × Int} {t : V} (h : VecAt w (some ⟨b, off, none⟩) len (x :: t)) :
    b < w.heap.size ∧ w.cell? ⟨b, off, none⟩ = some (.string x.1) ∧ w.cell? ⟨b, off + 1, none⟩ = some (.int .i64 x.2) := by
  have hl : 0 < len := by have := h.1; simp only [List.length_cons] at this; omega
  have := h.cells hl
  simpa [nm_zero, qn_zero] using this

theorem VecAt.tail {w : World} {b off len : Nat} {x : ByteArray × Int} {t : V} (h : VecAt w (some ⟨b, off, none⟩) len (x :: t)) : VecAt w (some ⟨b, off + 2, none⟩) (len - 1) t := by
  have hl := h.1
  simp only [List.length_cons] at hl
  refine ⟨by omega, by have := h.2.1; omega, (Fine.cons.1 h.2.2.1).2, ?_⟩
  by_cases h0 : len - 1 = 0
  · exact .inl h0
  · refine .inr ⟨b, off + 2, rfl, (h.cells (k := 0) (by omega)).1, fun i hi => ?_⟩
    have := (h.cells (k := i + 1) (by omega)).2
    rw [nm_succ, qn_succ, show off + (i + 1) * 2 = off + 2 + i * 2 from by omega] at this
    exact this
end Go.Proofs.YtflllkpnkcmegaaGreatDoor.Vec

/- Two vectors name by name: plain words. -/
namespace Go.Proofs.YtflllkpnkcmegaaGreatDoor.Vec
open Go.RowKit
set_option linter.unusedVariables false

theorem eqS_self (s : ByteArray) : eqS s s = true := by unfold eqS; exact beq_self_eq_true _
theorem check_len {l : V} (h : checkV l = 0) : l.length ≤ 8 := by
  unfold checkV at h
  split at h
  · cases h
  · omega

/-- What a call answers that makes a vector, or panics. -/
def VecRes (r : Int × V) (base : Nat) (w : World) (e : Ending) (w' : World) : Prop :=
  (r.1 = 0 → ∃ v, e = .returned v ∧ OwnV 155 w' base v r.2) ∧ (r.1 ≠ 0 → e = .panicked [perr r.1]) ∧ Below base w w'
theorem VecRes.bad {r : Int × V} {base : Nat} {w w' : World} {c : Int} (h : r.1 = c) (hc : c ≠ 0) (hb : Below base w w') : VecRes r base w (.panicked [perr c]) w' := ⟨fun g => absurd (h.symm.trans g) hc, fun _ => by rw [h], hb⟩

end Go.Proofs.YtflllkpnkcmegaaGreatDoor.Vec

/- The deferred function that recovers what goes out of the work by a panic. -/
namespace Go.Proofs.YtflllkpnkcmegaaGreatDoor.Vec
open Go.RowKit
set_option linter.unusedVariables false

/-- What a call answers that recovers: a vector and an error. -/
def Done (r : Int × V) (w : World) (e : Ending) (w' : World) : Prop :=
  ∃ v, e = .returned (.tuple #[v, .int .i64 r.1]) ∧ OwnV 155 w' w.heap.size v r.2 ∧ Kept w w'

end Go.Proofs.YtflllkpnkcmegaaGreatDoor.Vec

/- Two vectors merged name by name by qty's Add. -/
namespace Go.Proofs.YtflllkpnkcmegaaGreatDoor.Vec
open Go.RowKit
set_option linter.unusedVariables false

end Go.Proofs.YtflllkpnkcmegaaGreatDoor.Vec

/- Two vectors merged name by name by qty's Sub. -/
namespace Go.Proofs.YtflllkpnkcmegaaGreatDoor.Vec
open Go.RowKit
set_option linter.unusedVariables false

end Go.Proofs.YtflllkpnkcmegaaGreatDoor.Vec

/- Package res's Add: the closure, the recovery, the face. -/
namespace Go.Proofs.YtflllkpnkcmegaaGreatDoor.Vec
open Go.RowKit
set_option linter.unusedVariables false

end Go.Proofs.YtflllkpnkcmegaaGreatDoor.Vec

/- Package res's Sub: the closure, the recovery, the face. -/
namespace Go.Proofs.YtflllkpnkcmegaaGreatDoor.Vec
open Go.RowKit
set_option linter.unusedVariables false

end Go.Proofs.YtflllkpnkcmegaaGreatDoor.Vec
