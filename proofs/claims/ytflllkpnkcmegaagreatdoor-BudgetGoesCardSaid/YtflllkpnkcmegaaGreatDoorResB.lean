/- Package by package: contracts of the functions that the laws call. -/
import Derived.Test.YtflllkpnkcmegaaGreatDoorResA
import Derived.StillTailTactics
import Derived.RegionCalls
import Derived.Test.YtflllkpnkcmegaaGreatDoorBase
import Derived.Lib.AtoiErrMem
import Derived.Shelf.Strings.BuilderX
import Derived.Lib.Walk
import Derived.Lib.Builder
import Derived.Lib.AppendStr
import Derived.Lib.UnsafeStr
import Derived.Laws.Externs
import Derived.Lib.ItoaLen
import Derived.Lib.AppendIntMem
import Derived.Lib.SmallJoins

/- A vector amount by amount: plain words. -/
namespace Go.Proofs.YtflllkpnkcmegaaGreatDoor.Vec
open Go.RowKit
set_option linter.unusedVariables false

end Go.Proofs.YtflllkpnkcmegaaGreatDoor.Vec

/- A vector amount by amount by qty's Mul. -/
namespace Go.Proofs.YtflllkpnkcmegaaGreatDoor.Vec
open Go.RowKit
set_option linter.unusedVariables false

end Go.Proofs.YtflllkpnkcmegaaGreatDoor.Vec

/- A vector amount by amount by qty's Part. -/
namespace Go.Proofs.YtflllkpnkcmegaaGreatDoor.Vec
open Go.RowKit
set_option linter.unusedVariables false

end Go.Proofs.YtflllkpnkcmegaaGreatDoor.Vec

/- Package res's Mul: the closure, the recovery, the face. -/
namespace Go.Proofs.YtflllkpnkcmegaaGreatDoor.Vec
open Go.RowKit
set_option linter.unusedVariables false

end Go.Proofs.YtflllkpnkcmegaaGreatDoor.Vec

/- Package res's Part: the closure, the recovery, the face. -/
namespace Go.Proofs.YtflllkpnkcmegaaGreatDoor.Vec
open Go.RowKit
set_option linter.unusedVariables false

end Go.Proofs.YtflllkpnkcmegaaGreatDoor.Vec

/- Decimals without leading noughts; a part's form; a part as an amount. -/
namespace Go.Proofs.YtflllkpnkcmegaaGreatDoor.Vec
open Go.RowKit
set_option linter.unusedVariables false

def okDigit (c : UInt8) : Bool := decide (48 ≤ (c.toNat : Int)) && decide ((c.toNat : Int) ≤ 57)
theorem okDigit_iff (c : UInt8) : okDigit c = true ↔ (48 ≤ (c.toNat : Int) ∧ (c.toNat : Int) ≤ 57) := by
  unfold okDigit; simp only [Bool.and_eq_true, decide_eq_true_eq]
/-- A decimal without leading noughts. -/
def isDecL : List UInt8 → Bool
  | [] => false
  | c :: t => !(c == 48 && !t.isEmpty) && (c :: t).all okDigit
theorem isDecL_cons (c : UInt8) (t : List UInt8) : isDecL (c :: t) = (!(c == 48 && !t.isEmpty) && (c :: t).all okDigit) := rfl
def isDec (s : ByteArray) : Bool := isDecL s.data.toList

theorem all_dig {s : ByteArray} (h : s.data.toList.all okDigit = true) (i : Nat) (hi : i < s.size) : okDigit s[i] = true := by
  rw [List.all_eq_true] at h
  exact h _ (by simp [ByteArray.getElem_eq_getElem_data])
theorem not_all_dig {s : ByteArray} (h : ¬ s.data.toList.all okDigit = true) : ∃ (j : Nat) (hj : j < s.size), okDigit s[j] = false := by
  rw [List.all_eq_true] at h
  obtain ⟨x, h⟩ := Classical.not_forall.1 h
  obtain ⟨hx, hn⟩ := Classical.not_imp.1 h
  obtain ⟨j, hj, e⟩ := List.getElem_of_mem hx
  refine ⟨j, by simpa using hj, ?_⟩
  have : s[j]'(by simpa using hj) = x := by rw [← e]; simp [ByteArray.getElem_eq_getElem_data]
  rw [this]; simpa using hn

set_option maxHeartbeats 800000 in
theorem dec_any (s : ByteArray) (w : World) (hs : s.size ≤ maxLen) :
    Calls Tryz.prog 186 #[.string s] w fun e w' => e = .returned (.bool (isDec s)) ∧ w = w' := by
  unfold maxLen at hs
  obtain ⟨l, hl⟩ : ∃ l, s.data.toList = l := ⟨_, rfl⟩
  have hsz : s.size = l.length := by rw [← hl, Array.length_toList, ByteArray.size_data]
  cases l with
  | nil =>
    have HV := Lib.hid (show isDec s = false by unfold isDec; rw [hl]; rfl)
    have h0 : s = ByteArray.empty := empty_of_size hsz
    subst h0
    clear hl hsz
    go_enter Tryz.func186, Tryz.ntmps186
    go_wp2
    go_ret
    exact ⟨ret_bool HV.out.symm, rfl⟩
  | cons c t =>
    have h0 : 0 < s.size := by rw [hsz]; simp
    have hne : (s.toList == ([] : List UInt8)) = false := by rw [Lib.toList_data, hl]; rfl
    have hc : s[0] = c := by
      have : s.data.toList[0]'(by rw [hl]; simp) = c := by simp [hl]
      rw [← this]; simp [ByteArray.getElem_eq_getElem_data]
    by_cases hz : c = 48 ∧ t ≠ []
    · obtain ⟨rfl, ht⟩ := hz
      have HV := Lib.hid (show isDec s = false by
        unfold isDec; rw [hl, isDecL_cons]
        cases t with
        | nil => exact absurd rfl ht
        | cons d u => rfl)
      have h1 : 1 < s.size := by
        rw [hsz]
        cases t with
        | nil => exact absurd rfl ht
        | cons d u => simp
      have h48 : ((s[0].toNat : Int) == 48) = true := by rw [hc]; rfl
      clear hl hsz hc ht
      go_enter Tryz.func186, Tryz.ntmps186
      go_wp2
      go_ret
      exact ⟨ret_bool HV.out.symm, rfl⟩
    · have hcase : (s.size = 1) ∨ (1 < s.size ∧ ((s[0].toNat : Int) == 48) = false) := by
        by_cases h1 : s.size = 1
        · exact .inl h1
        · refine .inr ⟨by omega, ?_⟩
          rw [hc]
          have ht : t ≠ [] := by intro e; rw [e] at hsz; simp at hsz; omega
          have hc48 : c ≠ 48 := fun e => hz ⟨e, ht⟩
          have : (c.toNat : Int) ≠ 48 := by
            intro e
            apply hc48
            apply UInt8.toNat.inj
            have : c.toNat = 48 := by omega
            rw [this]; rfl
          simpa using this
      have hdec : isDec s = s.data.toList.all okDigit := by
        unfold isDec; rw [hl, isDecL_cons]
        have : (c == 48 && !t.isEmpty) = false := by
          cases t with
          | nil => simp
          | cons d u =>
            have : c ≠ 48 := fun e => hz ⟨e, by simp⟩
            simp [this]
        rw [this]; rfl
      clear hz hc
      by_cases hall : s.data.toList.all okDigit = true
      · have HV := Lib.hid (show isDec s = true from hdec.trans hall)
        have HA := Lib.hid (all_dig hall)
        clear hall hdec hl hsz
        rcases hcase with h1 | ⟨h1, h48⟩
        case' inl => (have h1' : s.size ≤ 1 := by omega)
        case' inl => (clear h1)
        all_goals
          go_enter Tryz.func186, Tryz.ntmps186
          go_wp2
          go_loop [18] (fun i => ∃ k : Nat, k ≤ s.size ∧ i = .int .i64 k) (fun i => s.size - (intOf i).toNat)
          case atStart => exact ⟨0, Nat.zero_le _, rfl⟩
          case round =>
            obtain ⟨k, hk, rfl⟩ := hrel
            by_cases hlt : k < s.size
            · obtain ⟨c2, c3⟩ := (okDigit_iff _).1 (HA.out k hlt)
              go_wp2_with (go_at_call 155; refine (digit_yes _ _ c2 c3).mono ?_; rintro e w' ⟨rfl, rfl⟩)
              go_round
              case rel => exact ⟨k + 1, by omega, by go_num⟩
              case measure => simp [intOf]; omega
            · go_wp2
              go_ret
              exact ⟨ret_bool HV.out.symm, rfl⟩
      · have HV := Lib.hid (show isDec s = false from hdec.trans (by simpa using hall))
        obtain ⟨j, hj, hbad⟩ := not_all_dig hall
        have HB := Lib.hid hbad
        clear hall hdec hl hsz hbad
        rcases hcase with h1 | ⟨h1, h48⟩
        case' inl => (have h1' : s.size ≤ 1 := by omega)
        case' inl => (clear h1)
        all_goals
          go_enter Tryz.func186, Tryz.ntmps186
          go_wp2
          go_loop [18] (fun i => ∃ k : Nat, k ≤ j ∧ i = .int .i64 k) (fun i => s.size - (intOf i).toNat)
          case atStart => exact ⟨0, Nat.zero_le _, rfl⟩
          case round =>
            obtain ⟨k, hk, rfl⟩ := hrel
            have hlt : k < s.size := by omega
            by_cases hok : okDigit s[k] = true
            · have hkj : k + 1 ≤ j := by
                rcases Nat.lt_or_eq_of_le hk with g | g
                · exact g
                · subst g; rw [HB.out] at hok; cases hok
              obtain ⟨c2, c3⟩ := (okDigit_iff _).1 hok
              clear hok
              go_wp2_with (go_at_call 155; refine (digit_yes _ _ c2 c3).mono ?_; rintro e w' ⟨rfl, rfl⟩)
              go_round
              case rel => exact ⟨k + 1, by omega, by go_num⟩
              case measure => simp [intOf]; omega
            · have c4 : (s[k].toNat : Int) < 48 ∨ 57 < (s[k].toNat : Int) := by
                have : ¬ (48 ≤ (s[k].toNat : Int) ∧ (s[k].toNat : Int) ≤ 57) := fun g => hok ((okDigit_iff _).2 g)
                omega
              have C4 := Lib.hid c4
              clear hok c4
              go_wp2_with (go_at_call 155; refine (digit_no _ _ C4.out).mono ?_; rintro e w' ⟨rfl, rfl⟩)
              go_ret
              exact ⟨ret_bool HV.out.symm, rfl⟩

/-- What the library leaves in memory that the calls read: a machine's measure, an error, a table. -/
structure Env (w : World) : Prop where
  most : ∃ m, w.cell? ⟨1, 0, none⟩ = some (.int .i64 m)
  range : ∃ ev, w.cell? ⟨3, 0, none⟩ = some ev ∧ (ev = .nilIface ∨ ∃ te pe, ev = .iface te pe)

theorem Env.kept {w w' : World} (h : Env w) (k : Kept w w') : Env w' := by
  obtain ⟨⟨m, hm⟩, ⟨ev, hv, h2⟩⟩ := h
  exact ⟨⟨m, cell_later k hm⟩, ⟨ev, cell_later k hv, h2⟩⟩
theorem Env.base {w : World} (h : Env w) : Go.Proofs.YtflllkpnkcmegaaGreatDoor.Env w := ⟨h.most⟩
theorem Env.lt {w : World} (h : Env w) : 1 < w.heap.size ∧ 3 < w.heap.size := by
  obtain ⟨⟨m, hm⟩, ⟨ev, hv, h2⟩⟩ := h
  exact ⟨World.block_lt_of_cell? _ _ hm, World.block_lt_of_cell? _ _ hv⟩
theorem Env.setCell {w : World} (h : Env w) {b : Nat} (hb : 1 < b ∧ 3 < b) (u : Value) : Env (w.setCell ⟨b, 0, none⟩ u) := by
  obtain ⟨⟨m, hm⟩, ⟨ev, hv, h2⟩⟩ := h
  refine ⟨⟨m, ?_⟩, ⟨ev, ?_, h2⟩⟩
  · rw [World.cell?_setCell_other _ _ _ _ (by intro e; injection e with e; omega)]; exact hm
  · rw [World.cell?_setCell_other _ _ _ _ (by intro e; injection e with e; omega)]; exact hv

/-- A part before and behind the first '='. -/
def nameOf (p : List UInt8) : List UInt8 := (Lib.cut p [61]).1
def numOf' (p : List UInt8) : List UInt8 := (Lib.cut p [61]).2.1

end Go.Proofs.YtflllkpnkcmegaaGreatDoor.Vec

/- A part as an amount; names taken anew. -/
namespace Go.Proofs.YtflllkpnkcmegaaGreatDoor.Vec
open Go.RowKit
set_option linter.unusedVariables false

/-- What decimal digits spell. -/
def valFrom (acc : Nat) (l : List UInt8) : Nat := l.foldl (fun a c => a * 10 + (c.toNat - 48)) acc
theorem valFrom_cons (acc : Nat) (c : UInt8) (t : List UInt8) : valFrom acc (c :: t) = valFrom (acc * 10 + (c.toNat - 48)) t := List.foldl_cons ..
def valL (l : List UInt8) : Nat := valFrom 0 l

theorem valFrom_ge : ∀ (l : List UInt8) (acc : Nat), acc ≤ valFrom acc l
  | [], _ => Nat.le_refl _
  | c :: t, acc => by have := valFrom_ge t (acc * 10 + (c.toNat - 48)); rw [valFrom_cons]; omega

theorem digit_nat {c : UInt8} (h : okDigit c = true) : 48 ≤ c.toNat ∧ c.toNat ≤ 57 := by
  have := (okDigit_iff c).1 h; omega

theorem parseM_cons (M acc : Nat) (c : UInt8) (r : List UInt8) (h : 48 ≤ c.toNat ∧ c.toNat ≤ 57) : Lib.parseUintM M acc (c :: r) = (if 1844674407370955162 ≤ acc then .range else if M < acc * 10 + (c.toNat - 48) then .range else Lib.parseUintM M (acc * 10 + (c.toNat - 48)) r) := by rw [Lib.parseUintM, if_pos h]
theorem parse_digits (M : Nat) (hM : M < 18446744073709551620) : ∀ (l : List UInt8) (acc : Nat), l.all okDigit = true → acc ≤ M → Lib.parseUintM M acc l = if valFrom acc l ≤ M then .ok (valFrom acc l) else .range
  | [], acc, _, h => by rw [Lib.parseUintM, if_pos (show valFrom acc [] ≤ M from h)]; rfl
  | c :: t, acc, h, ha => by
    simp only [List.all_cons, Bool.and_eq_true] at h
    have hd := digit_nat h.1
    have hge := valFrom_ge t (acc * 10 + (c.toNat - 48))
    rw [parseM_cons _ _ _ _ hd, valFrom_cons]
    by_cases h1 : 1844674407370955162 ≤ acc
    · rw [if_pos h1, if_neg (by omega)]
    · rw [if_neg h1]
      by_cases h2 : M < acc * 10 + (c.toNat - 48)
      · rw [if_pos h2, if_neg (by omega)]
      · rw [if_neg h2]
        exact parse_digits M hM t _ h.2 (by omega)

/-- A part's amount. -/
def amtOf (p : List UInt8) : ByteArray × Int := (bytes (nameOf p), (valL (numOf' p) : Int))

end Go.Proofs.YtflllkpnkcmegaaGreatDoor.Vec

/- Names taken anew in a row of the call's own. -/
namespace Go.Proofs.YtflllkpnkcmegaaGreatDoor.Vec
open Go.RowKit
set_option linter.unusedVariables false

end Go.Proofs.YtflllkpnkcmegaaGreatDoor.Vec

/- parsed: the form of all parts, then their numbers, then what Check asks. -/
namespace Go.Proofs.YtflllkpnkcmegaaGreatDoor.Vec
open Go.RowKit Go.Shelf
set_option linter.unusedVariables false
attribute [local go_sem] Oper.semAt_some

theorem OwnV.st {e : TypeId} {b2 D : Nat} {W W' : World} {v : Value} {l : V} (h : OwnV e W (D + 2) v l) (k : St b2 D W W') (h2 : b2 < D) : OwnV e W' (D + 2) v l := by
  obtain ⟨⟨h0, h1⟩, hf⟩ := h
  refine ⟨⟨h0, h1.imp id ?_⟩, hf⟩
  rintro ⟨g, cap, cur, rfl, hbg, hg, hn, hm, hs, ht⟩
  exact ⟨g, cap, cur, rfl, hbg, (k.block g (by omega) (by omega) (by omega)).trans hg, hn, hm, hs, ht⟩

/-- The box of the vector under way. -/
def VBox (B vb : Nat) (l : V) (W : World) : Prop := ∃ v, W.cell? ⟨vb, 0, none⟩ = some v ∧ W.frozen? ⟨vb, 0, none⟩ = false ∧ OwnV 155 W B v l
theorem VBox.st {b2 D vb : Nat} {W W' : World} {l : V} {B : Nat} (h : VBox B vb l W) (k : St b2 D W W') (hB : B = D + 2) (hvb : vb < b2) (h2 : b2 < D) : VBox B vb l W' := by
  subst hB
  obtain ⟨v, h1, h3, h4⟩ := h
  have hb := k.block vb (by omega) (by omega) (by omega)
  exact ⟨v, (World.cell?_of_block (a := ⟨vb, 0, none⟩) hb).trans h1, (World.frozen?_of_block (a := ⟨vb, 0, none⟩) hb).trans h3, h4.st k h2⟩

theorem OwnV.put {e : TypeId} {w : World} {B D : Nat} {v : Value} {l : V} (h : OwnV e w B v l) (hD : D < B) (o : Obj) : OwnV e (w.putObj D o) B v l := by
  obtain ⟨⟨h0, h1⟩, hf⟩ := h
  refine ⟨⟨h0, h1.imp id ?_⟩, hf⟩
  rintro ⟨g, cap, cur, rfl, hbg, hg, rest⟩
  exact ⟨g, cap, cur, rfl, hbg, (World.putObj_heap_other (by omega)).trans hg, rest⟩
theorem OwnV.row {e : TypeId} {w : World} {B n : Nat} {v : Value} {l : V} (h : OwnV e w B v l) (hn : l.length = n) : w.ownsRow B e 2 v n (cellsOf l) := hn ▸ h.1

def formBad (ps : List (List UInt8)) : Bool := ps.any fun p => !isDecL (numOf' p)
def overBad (ps : List (List UInt8)) : Bool := ps.any fun p => decide (9223372036854775807 < valL (numOf' p))
def parsedV (s : List UInt8) : Int × V :=
  if formBad (partsOf s) = true then (2, [])
  else if overBad (partsOf s) = true then (5, [])
  else if checkV (((partsOf s).map amtOf).take 9) ≠ 0 then (checkV (((partsOf s).map amtOf).take 9), [])
  else (0, ((partsOf s).map amtOf).take 9)

end Go.Proofs.YtflllkpnkcmegaaGreatDoor.Vec

/- Package res's Parse: the closure, the recovery, the face. -/
namespace Go.Proofs.YtflllkpnkcmegaaGreatDoor.Vec
open Go.RowKit
set_option linter.unusedVariables false

/-- Parse. -/
def parseV (s : List UInt8) : Int × V := if s = [45] then (0, []) else parsedV s

end Go.Proofs.YtflllkpnkcmegaaGreatDoor.Vec

/- Package res's Check: the closure, the recovery, the face. -/
namespace Go.Proofs.YtflllkpnkcmegaaGreatDoor.Vec
open Go.RowKit
set_option linter.unusedVariables false

end Go.Proofs.YtflllkpnkcmegaaGreatDoor.Vec

/- A builder that the call itself has made: a text written to it. (The library's own contracts lack this program's copyCheck, whose last branch the model refuses; it is never come to.) -/
namespace Go.Proofs.YtflllkpnkcmegaaGreatDoor.Vec
open Go.RowKit Go.Shelf
set_option linter.unusedVariables false

abbrev IsB (B b : Nat) (l : List UInt8) (w : World) : Prop := Lib.IsBuilder 188 5 B b (Lib.byteCells l) w

theorem IsB.lt {B b : Nat} {l : List UInt8} {w : World} (h : IsB B b l w) : b < w.heap.size := by
  rcases h with h | h <;> exact h.lt
theorem IsB.kept {B b : Nat} {l : List UInt8} {w w' : World} (h : IsB B b l w) (k : Kept w w') : IsB B b l w' := by
  have key : ∀ p, Lib.BuilderAt 188 5 B b p (Lib.byteCells l) w → Lib.BuilderAt 188 5 B b p (Lib.byteCells l) w' := by
    rintro p ⟨hB, v, hb, ⟨h0, h1⟩, hne⟩
    refine ⟨hB, v, (k.block b (Array.getElem?_eq_some_iff.1 hb).1).trans hb, ⟨h0, h1.imp id ?_⟩, hne⟩
    rintro ⟨g, cap, cur, rfl, hbg, hg, rest⟩
    exact ⟨g, cap, cur, rfl, hbg, (k.block g (Array.getElem?_eq_some_iff.1 hg).1).trans hg, rest⟩
  exact h.imp (key _) (key _)

/-- Blocks of amounts that are not the builder's. -/
def Others (b : Nat) (w w' : World) : Prop := ∀ g cs fr, g ≠ b → w.heap[g]? = some (.cells cs 155 fr) → w'.heap[g]? = w.heap[g]?
theorem Others.trans {b : Nat} {x y z : World} (h : Others b x y) (k : Others b y z) : Others b x z := fun g cs fr hg hc => (k g cs fr hg ((h g cs fr hg hc).trans hc)).trans (h g cs fr hg hc)

end Go.Proofs.YtflllkpnkcmegaaGreatDoor.Vec

/- A vector in words. -/
namespace Go.Proofs.YtflllkpnkcmegaaGreatDoor.Vec
open Go.RowKit Go.Shelf
set_option linter.unusedVariables false

/-- .. and the table of powers that numbers are written by. -/
structure EnvT (w : World) : Prop extends Env w where
  tab : Lib.TabIs Tryz.prog w "internal/strconv.uint64pow10" .u64 Lib.pow10Tab

theorem tabName : Tryz.prog.globalNamed "internal/strconv.uint64pow10" = some 0 := by kernel_rfl
theorem EnvT.kept {w w' : World} (h : EnvT w) (k : Kept w w') : EnvT w' := by
  refine ⟨h.toEnv.kept k, Joins.tab_stays tabName h.tab k (Nat.le_refl _)⟩

def joinFrom (first : Bool) : V → List UInt8
  | [] => []
  | x :: t => (if first = true then [] else [44]) ++ (x.1.data.toList ++ ([61] ++ (Lib.itoa x.2 ++ joinFrom false t)))
def textV (l : V) : List UInt8 := if l = [] then [45] else joinFrom true l

theorem bytes_size (l : List UInt8) : (bytes l).size = l.length := rfl

end Go.Proofs.YtflllkpnkcmegaaGreatDoor.Vec

/- The calls over whatever reads as a vector. -/
namespace Go.Proofs.YtflllkpnkcmegaaGreatDoor.Vec
open Go.RowKit
set_option linter.unusedVariables false

theorem Reads.nil (w : World) : Reads w (.slice none 0 0) [] := ⟨none, 0, rfl, Nat.le_refl _, by decide, VecAt.nil w⟩
theorem refCheckR {v : Value} {l : V} {c : Int} {w : World} (h : Reads w v l) (e : checkV l = c) :
    Calls Tryz.prog 50 #[v] w fun x w' => x = .returned (.int .i64 c) ∧ Kept w w' := by
  subst e
  obtain ⟨a, cap, rfl, h1, h2, h3⟩ := h
  exact refCheck_any a _ cap l w h3
theorem nameR {n : ByteArray} {c : Bool} {w : World} (h : n.size ≤ maxLen) (e : isName n = c) :
    Calls Tryz.prog 104 #[.string n] w fun x w' => x = .returned (.bool c) ∧ w = w' := by
  subst e
  exact name_any n w h
end Go.Proofs.YtflllkpnkcmegaaGreatDoor.Vec
