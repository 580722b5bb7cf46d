/- Package by package: contracts of the functions that the laws call. -/
import Derived.Test.YtflllkpnkcmegaaGreatDoorResB
import Derived.StillTailTactics
import Derived.Test.YtflllkpnkcmegaaGreatDoorResA
import Derived.WideShapes
import Derived.IntWalk
import Derived.Test.YtflllkpnkcmegaaGreatDoorBase
import Derived.Lib.ItoaNum
import Derived.Test.YtflllkpnkcmegaaGreatDoorRows
import Derived.WalkKit
import Derived.ProofKit
import Derived.OpenShut
import Derived.ChangeOld
import Derived.Below
import Derived.Deep.Slices
import Derived.Deep.Fields
import Derived.ChangeSame
import Derived.Lib.LaidTab
import Derived.Stop.LaidErr
import Derived.Stop.Joined
import Derived.Shelf.Vars
import Derived.MakeChecks
import Derived.LaidLaws
import Derived.RowKitTokens

/- Two vectors, reckoned. -/
namespace Go.Proofs.YtflllkpnkcmegaaGreatDoor.Vec
open Go.RowKit
set_option linter.unusedVariables false

def cpu : ByteArray := ⟨#[99, 112, 117]⟩
def gpu : ByteArray := ⟨#[103, 112, 117]⟩
def kT : V := [(cpu, 120), (gpu, 3)]
theorem eq_list (s t : ByteArray) : eqS s t = (s.data.toList == t.data.toList) := by unfold eqS; rw [Lib.toList_data, Lib.toList_data]
theorem i_10 : Lib.itoa 10 = [49, 48] := by simp [Lib.itoa, Lib.decDigits]
theorem i_1 : Lib.itoa 1 = [49] := by simp [Lib.itoa, Lib.decDigits]
theorem i_5 : Lib.itoa 5 = [53] := by simp [Lib.itoa, Lib.decDigits]
end Go.Proofs.YtflllkpnkcmegaaGreatDoor.Vec

/- What the laws know: two vectors. -/
namespace Go.Proofs.YtflllkpnkcmegaaGreatDoor.Vec
open Go.RowKit
set_option linter.unusedVariables false

end Go.Proofs.YtflllkpnkcmegaaGreatDoor.Vec

/- A vector as the document's: as it is. -/
namespace Go.Proofs.YtflllkpnkcmegaaGreatDoor.Vec
open Go.RowKit
set_option linter.unusedVariables false

theorem refInfo : (Tryz.prog.info? 156).map (fun i => (i.zero, i.size, i.bytes)) = some (some (.agg #[.string ByteArray.empty, .int .i64 0]), 2, 24) := by kernel_rfl

theorem take_next {l : V} {k : Nat} (h : k < l.length) : l.take (k + 1) = l.take k ++ [(nm l k, qn l k)] := by
  rw [List.take_add_one]; congr 1
  have : l.getD k (ByteArray.empty, 0) = l[k] := by simp [List.getD, h]
  have e : (nm l k, qn l k) = l[k] := by simp only [nm, qn, this]
  rw [e]; simp [h]

end Go.Proofs.YtflllkpnkcmegaaGreatDoor.Vec

/- The algebra of vectors that may be: names in their order, numbers above 0. -/
namespace Go.Proofs.YtflllkpnkcmegaaGreatDoor.Vec
open Go.RowKit
set_option linter.unusedVariables false

theorem less_irrefl : ∀ s : List UInt8, Op.bytesLess s s = false
  | [] => rfl
  | a :: s => by
    have : ¬ a < a := UInt8.lt_irrefl a
    simp [Op.bytesLess, less_irrefl s, this]
theorem less_trans : ∀ {a b c : List UInt8}, Op.bytesLess a b = true → Op.bytesLess b c = true → Op.bytesLess a c = true
  | _, _, [], _, h => by simp [Op.bytesLess] at h
  | [], _, _ :: _, _, _ => by simp [Op.bytesLess]
  | x :: a, [], z :: c, h, _ => by simp [Op.bytesLess] at h
  | x :: a, y :: b, z :: c, h, g => by
    simp only [Op.bytesLess, Bool.or_eq_true, Bool.and_eq_true, decide_eq_true_eq, beq_iff_eq] at h g ⊢
    rcases h with h | ⟨rfl, h⟩
    · rcases g with g | ⟨rfl, g⟩
      · exact .inl (UInt8.lt_trans h g)
      · exact .inl h
    · rcases g with g | ⟨rfl, g⟩
      · exact .inl g
      · exact .inr ⟨rfl, less_trans h g⟩
theorem less_tri : ∀ {a b : List UInt8}, Op.bytesLess a b = false → Op.bytesLess b a = false → a = b
  | [], [], _, _ => rfl
  | [], _ :: _, h, _ => by simp [Op.bytesLess] at h
  | _ :: _, [], _, h => by simp [Op.bytesLess] at h
  | x :: a, y :: b, h, g => by
    simp only [Op.bytesLess, Bool.or_eq_false_iff, decide_eq_false_iff_not, Bool.and_eq_false_iff, beq_eq_false_iff_ne] at h g
    have e : x = y := by
      have h1 := UInt8.not_lt.1 h.1
      have h2 := UInt8.not_lt.1 g.1
      exact UInt8.le_antisymm h2 h1
    subst e
    have h2 := h.2.resolve_left (by simp)
    have g2 := g.2.resolve_left (by simp)
    rw [less_tri h2 g2]

theorem lt_of (s t : ByteArray) : ltS s t = Op.bytesLess s.data.toList t.data.toList := by unfold ltS; rw [Lib.toList_data, Lib.toList_data]
theorem eqS_iff {s t : ByteArray} : eqS s t = true ↔ s = t := by
  unfold eqS; rw [Lib.toList_data, Lib.toList_data, beq_iff_eq]
  exact ⟨fun h => Go.WideShapes.bytes_inj h, fun h => by rw [h]⟩
theorem lt_irrefl' (s : ByteArray) : ltS s s = false := by rw [lt_of]; exact less_irrefl _
theorem lt_trans' {s t u : ByteArray} (h : ltS s t = true) (g : ltS t u = true) : ltS s u = true := by
  rw [lt_of] at *; exact less_trans h g
theorem lt_tri' {s t : ByteArray} (h : ltS s t = false) (g : ltS t s = false) : s = t := by
  rw [lt_of] at *; exact Go.WideShapes.bytes_inj (less_tri h g)
theorem lt_ne {s t : ByteArray} (h : ltS s t = true) : s ≠ t := by rintro rfl; rw [lt_irrefl'] at h; cases h
theorem lt_asymm' {s t : ByteArray} (h : ltS s t = true) (g : ltS t s = true) : False := lt_ne (lt_trans' h g) rfl

/-- May be: names as they must, numbers above 0, names rising. -/
def Gd (l : V) : Prop := (∀ x ∈ l, isName x.1 = true ∧ 0 < x.2 ∧ x.2 ≤ 9223372036854775807) ∧ l.Pairwise (fun x y => ltS x.1 y.1 = true)
theorem Gd.nil : Gd [] := ⟨fun x hx => absurd hx (by simp), .nil⟩
theorem Gd.cons {x : ByteArray × Int} {t : V} : Gd (x :: t) ↔ (isName x.1 = true ∧ 0 < x.2 ∧ x.2 ≤ 9223372036854775807) ∧ (∀ y ∈ t, ltS x.1 y.1 = true) ∧ Gd t := by
  unfold Gd
  rw [List.pairwise_cons, List.forall_mem_cons]
  constructor
  · rintro ⟨⟨a, b⟩, c, d⟩; exact ⟨a, c, b, d⟩
  · rintro ⟨a, c, b, d⟩; exact ⟨⟨a, b⟩, c, d⟩

theorem get_same (x : ByteArray × Int) (t : V) : getV (x :: t) x.1 = x.2 := by rw [getV, if_pos (eqS_iff.2 rfl)]
theorem get_other {x : ByteArray × Int} {n : ByteArray} (t : V) (h : x.1 ≠ n) : getV (x :: t) n = getV t n := by rw [getV, if_neg (fun e => h (eqS_iff.1 e))]
theorem get_mem : ∀ {l : V} {n : ByteArray}, getV l n ≠ 0 → ∃ y ∈ l, y.1 = n
  | [], _, h => absurd rfl h
  | x :: t, n, h => by
    by_cases e : x.1 = n
    · exact ⟨x, by simp, e⟩
    · rw [get_other t e] at h
      obtain ⟨y, hy, hn⟩ := get_mem h
      exact ⟨y, by simp [hy], hn⟩
theorem Gd.len : ∀ {b r : V}, Gd r → Gd b → (∀ n, getV r n ≠ 0 → getV b n ≠ 0) → r.length ≤ b.length
  | [], [], _, _, _ => Nat.le_refl _
  | [], x :: s, hr, _, h => by
    have := h x.1; rw [get_same] at this; have h1 := (Gd.cons.1 hr).1
    exact absurd rfl (this (by omega))
  | y :: t, [], _, _, _ => Nat.zero_le _
  | y :: t, x :: s, hr, hb, h => by
    have hr' := Gd.cons.1 hr
    have hb' := Gd.cons.1 hb
    have : s.length ≤ t.length := Gd.len hr'.2.2 hb'.2.2 fun n hn => by
      obtain ⟨z, hz, rfl⟩ := get_mem hn
      have hlt := hr'.2.1 z hz
      have hb2 := h z.1 (by rw [get_other s (lt_ne hlt)]; exact hn)
      by_cases e : y.1 = z.1
      · obtain ⟨u, hu, hux⟩ := get_mem (h x.1 (by rw [get_same]; omega))
        rcases List.mem_cons.1 hu with rfl | hu
        · rw [← hux, e, lt_irrefl'] at hlt; cases hlt
        · have := hb'.2.1 u hu
          rw [hux, e] at this
          exact (lt_asymm' hlt this).elim
      · rw [get_other t e] at hb2; exact hb2
    simp only [List.length_cons]; omega

theorem leS_false {s t : ByteArray} (h : leS s t = false) : ltS t s = true := by
  unfold leS at h
  rw [Bool.or_eq_false_iff] at h
  cases e : ltS t s with
  | true => rfl
  | false => rw [lt_tri' h.1 e, eqS_iff.2 rfl] at h; cases h.2
end Go.Proofs.YtflllkpnkcmegaaGreatDoor.Vec

/- What is merged, by its names' amounts. -/
namespace Go.Proofs.YtflllkpnkcmegaaGreatDoor.Vec
open Go.RowKit
set_option linter.unusedVariables false

end Go.Proofs.YtflllkpnkcmegaaGreatDoor.Vec

/- What the laws say of vectors that may be. -/
namespace Go.Proofs.YtflllkpnkcmegaaGreatDoor.Vec
open Go.RowKit
set_option linter.unusedVariables false

end Go.Proofs.YtflllkpnkcmegaaGreatDoor.Vec

/- What the laws begin with. -/
namespace Go.Proofs.YtflllkpnkcmegaaGreatDoor.Vec
open Go.RowKit
set_option linter.unusedVariables false

theorem Reads.fine {v : Value} {l : V} {w : World} (h : Reads w v l) : Fine l := by
  obtain ⟨a, cap, rfl, h1, h2, h3⟩ := h
  exact h3.2.2.1
end Go.Proofs.YtflllkpnkcmegaaGreatDoor.Vec

/- The reference's quantities: what each call answers, said of whole numbers. -/
namespace Go.Proofs.YtflllkpnkcmegaaGreatDoor.Vec
open Go.RowKit
set_option linter.unusedVariables false

end Go.Proofs.YtflllkpnkcmegaaGreatDoor.Vec

/- The reference's vectors read: a name's amount, whether alike, whether the one fits the other. -/
namespace Go.Proofs.YtflllkpnkcmegaaGreatDoor.Vec
open Go.RowKit
set_option linter.unusedVariables false

end Go.Proofs.YtflllkpnkcmegaaGreatDoor.Vec

/- The reference's products and parts, as one answer each. -/
namespace Go.Proofs.YtflllkpnkcmegaaGreatDoor.Vec
open Go.RowKit
set_option linter.unusedVariables false

/-- What the reference answers: a vector and an error. -/
def Told (c : Int) (m : V) (w : World) (e : Ending) (w' : World) : Prop := ∃ x, e = .returned (.tuple #[x, .int .i64 c]) ∧ OwnV 156 w' w.heap.size x m ∧ Kept w w'
theorem Told.none {c : Int} {w w' : World} (k : Kept w w') : Told c [] w (.returned (.tuple #[.slice none 0 0, .int .i64 c])) w' := ⟨_, rfl, OwnV.nil _ _ _, k⟩

end Go.Proofs.YtflllkpnkcmegaaGreatDoor.Vec

/- The reference's decimals and what they spell. -/
namespace Go.Proofs.YtflllkpnkcmegaaGreatDoor.Vec
open Go.RowKit
set_option linter.unusedVariables false

end Go.Proofs.YtflllkpnkcmegaaGreatDoor.Vec

/- A part's form, told by every '=' as by the first; a decimal told back. -/
namespace Go.Proofs.YtflllkpnkcmegaaGreatDoor.Vec
open Go.RowKit Go.Proofs.YtflllkpnkcmegaaGreatDoor
set_option linter.unusedVariables false

theorem dec_all {l : List UInt8} (h : isDecL l = true) : l.all okDigit = true := by
  cases l with
  | nil => cases h
  | cons c t => rw [isDecL_cons, Bool.and_eq_true] at h; exact h.2
theorem cut_missing {c : UInt8} : ∀ {p : List UInt8}, ¬ (Lib.cut p [c]).2.2 = true → (Lib.cut p [c]).2.1 = []
  | [], _ => by rw [cut_nil]
  | b :: t, h => by
    rw [cut_cons] at h ⊢
    by_cases hb : b = c
    · rw [if_pos hb] at h; exact absurd rfl h
    · rw [if_neg hb] at h ⊢
      exact cut_missing (p := t) h
theorem valFrom_snoc (acc : Nat) (l : List UInt8) (c : UInt8) : valFrom acc (l ++ [c]) = valFrom acc l * 10 + (c.toNat - 48) := by
  unfold valFrom; rw [List.foldl_append]; rfl
theorem digit_of {c : UInt8} (h : okDigit c = true) : UInt8.ofNat (48 + (c.toNat - 48)) = c := by
  have := digit_nat h
  rw [show 48 + (c.toNat - 48) = c.toNat by omega]
  exact UInt8.ofNat_toNat
theorem dec_step {n d : Nat} (hn : 0 < n) (hd : d < 10) : Lib.decDigits (n * 10 + d) = Lib.decDigits n ++ [UInt8.ofNat (48 + d)] := by
  rw [Lib.decDigits, dif_neg (by omega), show (n * 10 + d) / 10 = n by omega, show (n * 10 + d) % 10 = d by omega]
theorem dec_first {c : UInt8} (hc : okDigit c = true) (h0 : c ≠ 48) : ∀ (n : Nat) (t : List UInt8), t.length = n → t.all okDigit = true → 0 < valL (c :: t) ∧ Lib.decDigits (valL (c :: t)) = c :: t
  | 0, t, hl, _ => by
    obtain rfl : t = [] := List.eq_nil_of_length_eq_zero hl
    have hd := digit_nat hc
    have hne : c.toNat ≠ 48 := fun e => h0 (UInt8.toNat.inj e)
    have e : valL [c] = c.toNat - 48 := by unfold valL; rw [valFrom_cons]; show 0 * 10 + _ = _; omega
    refine ⟨by omega, ?_⟩
    rw [e, Lib.decDigits, dif_pos (by omega), digit_of hc]
  | n + 1, t, hl, ha => by
    obtain ⟨q, z, rfl⟩ : ∃ q z, t = q ++ [z] := ⟨_, _, (List.dropLast_concat_getLast (by intro e; rw [e] at hl; cases hl)).symm⟩
    rw [List.all_append, Bool.and_eq_true] at ha
    have hz : okDigit z = true := by have := ha.2; simpa using this
    have hd := digit_nat hz
    obtain ⟨i1, i2⟩ := dec_first hc h0 n q (by simpa using hl) ha.1
    have e : valL (c :: (q ++ [z])) = valL (c :: q) * 10 + (z.toNat - 48) := valFrom_snoc 0 (c :: q) z
    refine ⟨by omega, ?_⟩
    rw [e, dec_step i1 (by omega), i2, digit_of hz]; rfl
/-- A decimal without leading noughts is its number's decimal. -/
theorem dec_back {l : List UInt8} (h : isDecL l = true) : Lib.itoa (valL l : Int) = l := by
  have e : Lib.itoa (valL l : Int) = Lib.decDigits (valL l) := by
    unfold Lib.itoa; rw [if_neg (by omega)]; rfl
  rw [e]
  cases l with
  | nil => cases h
  | cons c t =>
    have ha := dec_all h
    rw [List.all_cons, Bool.and_eq_true] at ha
    by_cases h0 : c = 48
    · subst h0
      rw [isDecL_cons, Bool.and_eq_true] at h
      have ht : t = [] := by
        cases t with
        | nil => rfl
        | cons d u => exact absurd h.1 (by simp)
      subst ht
      rw [show valL [48] = 0 from rfl, Lib.decDigits, dif_pos (by omega)]; rfl
    · exact (dec_first ha.1 h0 t.length t rfl ha.2).2

theorem amt_back {p : List UInt8} (h : isDecL (numOf' p) = true) : (amtOf p).1.data.toList ++ ([61] ++ Lib.itoa (amtOf p).2) = p := by
  have hf : (Lib.cut p [61]).2.2 = true := Classical.byContradiction fun hf => by
    have : numOf' p = [] := cut_missing hf
    rw [this] at h; cases h
  show (bytes (nameOf p)).data.toList ++ ([61] ++ Lib.itoa (valL (numOf' p) : Int)) = p
  rw [dec_back h]
  have := cut_back 61 p hf
  unfold nameOf numOf'
  simpa [bytes] using this
theorem joinFrom_more : ∀ (ps : List (List UInt8)), (∀ p ∈ ps, isDecL (numOf' p) = true) → ∀ q, isDecL (numOf' q) = true → joinFrom true ((q :: ps).map amtOf) = Lib.join (q :: ps) [44] ∧ joinFrom false ((q :: ps).map amtOf) = 44 :: Lib.join (q :: ps) [44]
  | [], _, q, hq => by
    have e := amt_back hq
    have h1 : joinFrom true ([q].map amtOf) = q := by
      show (amtOf q).1.data.toList ++ ([61] ++ (Lib.itoa (amtOf q).2 ++ [])) = q
      rw [List.append_nil]; exact e
    refine ⟨by rw [h1, Lib.join_one], ?_⟩
    show 44 :: joinFrom true ([q].map amtOf) = _
    rw [h1, Lib.join_one]
  | x :: ps, hps, q, hq => by
    have e := amt_back hq
    have ih := (joinFrom_more ps (fun p hp => hps p (List.mem_cons_of_mem _ hp)) x (hps x (List.mem_cons_self ..))).2
    have h1 : joinFrom true ((q :: x :: ps).map amtOf) = q ++ 44 :: Lib.join (x :: ps) [44] := by
      show (amtOf q).1.data.toList ++ ([61] ++ (Lib.itoa (amtOf q).2 ++ joinFrom false ((x :: ps).map amtOf))) = _
      rw [ih, ← List.append_assoc [61], ← List.append_assoc, e]
    refine ⟨by rw [h1, join_cons2]; simp, ?_⟩
    show 44 :: joinFrom true ((q :: x :: ps).map amtOf) = _
    rw [h1, join_cons2]; simp
end Go.Proofs.YtflllkpnkcmegaaGreatDoor.Vec

/- A row of the call's own whose elements are rows of two strings each. -/
namespace Go.Proofs.YtflllkpnkcmegaaGreatDoor.Vec
open Go.RowKit Go.Proofs.YtflllkpnkcmegaaGreatDoor
set_option linter.unusedVariables false

/-- Each element reads as its part's two sides, and lies elsewhere than the row itself. -/
def Inner (w : World) (v : Value) (vs : List (Nat × Nat)) (ps : List (List UInt8)) : Prop :=
  ∀ (i : Nat) (x : Nat × Nat) (p : List UInt8), vs[i]? = some x → ps[i]? = some p → x.1 < w.heap.size ∧ v.ownBlock ≠ some x.1 ∧
    w.cell? ⟨x.1, 0, none⟩ = some (.string (bytes (nameOf p))) ∧ w.cell? ⟨x.1, 1, none⟩ = some (.string (bytes (numOf' p)))
theorem Inner.nil (w : World) (v : Value) (ps : List (List UInt8)) : Inner w v [] ps := fun i x p h => by simp at h
theorem Inner.kept {w w' : World} {v : Value} {vs : List (Nat × Nat)} {ps : List (List UInt8)} (h : Inner w v vs ps) (k : Kept w w') : Inner w' v vs ps := fun i x p hx hp => by
  obtain ⟨h1, h2, h3, h4⟩ := h i x p hx hp
  exact ⟨Nat.lt_of_lt_of_le h1 k.size, h2, cell_later k h3, cell_later k h4⟩
theorem Inner.snoc {w w' : World} {v : Value} {vs : List (Nat × Nat)} {ps : List (List UInt8)} {g n cap b c : Nat} {p : List UInt8} (h : Inner w v vs ps) (hg : w.grownBy w' v.ownBlock) (hgo : v.ownBlock = some g ∨ g = w.heap.size)
    (hp : ps[vs.length]? = some p) (hb : b < w.heap.size) (hne : v.ownBlock ≠ some b)
    (c0 : w.cell? ⟨b, 0, none⟩ = some (.string (bytes (nameOf p)))) (c1 : w.cell? ⟨b, 1, none⟩ = some (.string (bytes (numOf' p)))) :
    Inner w' (.slice (some ⟨g, 0, none⟩) n cap) (vs ++ [(b, c)]) ps := by
  have far : ∀ d, d < w.heap.size → v.ownBlock ≠ some d → d < w'.heap.size ∧ (Value.slice (some ⟨g, 0, none⟩) n cap).ownBlock ≠ some d ∧ ∀ j, w'.cell? ⟨d, j, none⟩ = w.cell? ⟨d, j, none⟩ := fun d hd hn => by
    refine ⟨Nat.lt_of_lt_of_le hd hg.size, ?_, fun j => hg.cell_far ⟨d, j, none⟩ hd (fun e => hn e.symm)⟩
    show some g ≠ some d
    intro e
    have e' : g = d := Option.some.inj e
    rcases hgo with h1 | h1
    · exact hn (by rw [h1, e'])
    · omega
  intro i x q hx hq
  by_cases hi : i < vs.length
  · rw [List.getElem?_append_left hi] at hx
    obtain ⟨h1, h2, h3, h4⟩ := h i x q hx hq
    obtain ⟨f1, f2, f3⟩ := far x.1 h1 h2
    exact ⟨f1, f2, (f3 0).trans h3, (f3 1).trans h4⟩
  · have hi2 : i = vs.length := by
      have := (List.getElem?_eq_some_iff.1 hx).1
      simp at this; omega
    subst hi2
    have hxx : (b, c) = x := by simpa using hx
    have hqq : q = p := Option.some.inj (hq.symm.trans hp)
    subst hxx; subst hqq
    obtain ⟨f1, f2, f3⟩ := far b hb hne
    exact ⟨f1, f2, (f3 0).trans c0, (f3 1).trans c1⟩

end Go.Proofs.YtflllkpnkcmegaaGreatDoor.Vec

/- The reference's Times. -/
namespace Go.Proofs.YtflllkpnkcmegaaGreatDoor.Vec
open Go.RowKit
set_option linter.unusedVariables false

end Go.Proofs.YtflllkpnkcmegaaGreatDoor.Vec

/- The reference's ParseVec. -/
namespace Go.Proofs.YtflllkpnkcmegaaGreatDoor.Vec
open Go.RowKit Go.Proofs.YtflllkpnkcmegaaGreatDoor
set_option linter.unusedVariables false

end Go.Proofs.YtflllkpnkcmegaaGreatDoor.Vec

/- The law's own comparison; what is checked is short; the reference's calls over whatever reads so. -/
namespace Go.Proofs.YtflllkpnkcmegaaGreatDoor.Vec
open Go.RowKit Go.Proofs.YtflllkpnkcmegaaGreatDoor
set_option linter.unusedVariables false

theorem OwnV.reads {e : TypeId} {w : World} {B : Nat} {v : Value} {l : V} (h : OwnV e w B v l) : Reads w v l := h.at_
theorem rnameR {n : ByteArray} {c : Bool} {w : World} (h : n.size ≤ maxLen) (e : isName n = c) :
    Calls Tryz.prog 49 #[.string n] w fun x w' => x = .returned (.bool c) ∧ w = w' := by
  subst e
  exact refName_any n w h
end Go.Proofs.YtflllkpnkcmegaaGreatDoor.Vec

/- What a law of vectors is told: its arguments, the library's variables. -/
namespace Go.Proofs.YtflllkpnkcmegaaGreatDoor.Vec
open Go.ChangeShapes Go.WideShapes Go.ChangeAt Go.RowKit Go.Deep
set_option linter.unusedVariables false

theorem cells2 : Tryz.prog.cellsOf 155 = 2 := by kernel_rfl
theorem cellsE : Tryz.prog.cellsOf 289 = 1 := by kernel_rfl
theorem cellsS : Tryz.prog.cellsOf 9 = 1 := by kernel_rfl
theorem cellsI : Tryz.prog.cellsOf 2 = 1 := by kernel_rfl

set_option maxRecDepth 100000 in
/-- One amount, read: a name and a number. -/
theorem amount_of_trod {H : Type} {enc : TypeId × Value → H} {w : World} {base fuel : Nat} {sp : Nat → Bool} {held : Bool} {cs : List Value} {x : DataW H × List MemPlace} (h : DataW.trod enc Tryz.prog w base sp held fuel 155 cs = some x) :
    ∃ (s : ByteArray) (n : Int), cs = [.string s, .int .i64 n] ∧ s.size ≤ maxLen ∧ -9223372036854775808 ≤ n ∧ n ≤ 9223372036854775807 := by
  obtain ⟨ys, m, -, -, hlen, hyl, hf⟩ := DataW.trod_struct Tryz.underlying155 h
  rw [cells2] at hlen
  match cs, hlen with
  | [c0, c1], _ =>
    have h0 : DataW.trod enc Tryz.prog w base sp held m 9 (([c0, c1].drop 0).take (Tryz.prog.cellsOf 9)) = ys[0]? := hf 0 _ rfl
    have h1 : DataW.trod enc Tryz.prog w base sp held m 2 (([c0, c1].drop 1).take (Tryz.prog.cellsOf 2)) = ys[1]? := hf 1 _ rfl
    rw [cellsS] at h0
    rw [cellsI] at h1
    obtain ⟨y0, e0⟩ : ∃ y, ys[0]? = some y := ⟨_, List.getElem?_eq_getElem (by rw [hyl]; decide)⟩
    obtain ⟨y1, e1⟩ : ∃ y, ys[1]? = some y := ⟨_, List.getElem?_eq_getElem (by rw [hyl]; decide)⟩
    rw [e0] at h0
    rw [e1] at h1
    obtain ⟨s, q0, -, hs⟩ := DataW.trod_string Tryz.underlying9 h0
    obtain ⟨n, q1, -, hn⟩ := DataW.trod_int Tryz.underlying2 h1
    simp only [List.drop_zero, List.take_succ_cons, List.take_zero, List.cons.injEq, and_true, List.drop_succ_cons] at q0 q1
    subst q0; subst q1
    have := bounds_i64 hn
    exact ⟨s, n, rfl, hs, this.1, this.2⟩

theorem nm_left {l m : V} {i : Nat} (h : i < l.length) : nm (l ++ m) i = nm l i ∧ qn (l ++ m) i = qn l i := by
  unfold nm qn
  simp [List.getD, List.getElem?_append_left h]
theorem nm_last (l : V) (s : ByteArray) (n : Int) : nm (l ++ [(s, n)]) l.length = s ∧ qn (l ++ [(s, n)]) l.length = n := by
  unfold nm qn
  simp [List.getD]

/-- A vector that came in. -/
theorem reads_of_trod {H : Type} {enc : TypeId × Value → H} {w : World} {base fuel : Nat} {sp : Nat → Bool} {held : Bool} {v : Value} {x : DataW H × List MemPlace} (h : DataW.trod enc Tryz.prog w base sp held fuel 23 [v] = some x) :
    ∃ l, Reads w v l := by
  rcases open_slice Tryz.underlying23 h with ⟨hcs, -⟩ | ⟨a, len, cap, m, n, D, Pl, hcs, hb, hl, hm, hmm, hx, hi⟩
  · cases hcs; exact ⟨[], Reads.nil w⟩
  · cases hcs
    have hlm : len ≤ m := by rw [hmm]; split <;> omega
    have key : ∀ k, k ≤ len → ∃ l : V, l.length = k ∧ ∀ i, i < k → ((nm l i).size ≤ maxLen ∧ -9223372036854775808 ≤ qn l i ∧ qn l i ≤ 9223372036854775807) ∧
        w.cell? ((a.add (i * 2)).add 0) = some (.string (nm l i)) ∧ w.cell? ((a.add (i * 2)).add 1) = some (.int .i64 (qn l i)) := by
      intro k
      induction k with
      | zero => exact fun _ => ⟨[], rfl, fun i hi => absurd hi (by omega)⟩
      | succ k ih =>
        intro hk
        obtain ⟨l, e, hall⟩ := ih (by omega)
        obtain ⟨cs', hc, ht'⟩ := hi k (by omega)
        obtain ⟨s, q, rfl, b1, b2, b3⟩ := amount_of_trod ht'
        rw [cells2] at hc
        obtain ⟨-, -, hat⟩ := World.cells?_some hc
        refine ⟨l ++ [(s, q)], by simp [e], fun i hi => ?_⟩
        by_cases e2 : i = k
        · subst e2
          subst e
          rw [(nm_last l s q).1, (nm_last l s q).2]
          exact ⟨⟨b1, b2, b3⟩, hat 0 (by decide), hat 1 (by decide)⟩
        · rw [(nm_left (by omega)).1, (nm_left (by omega)).2]
          exact hall i (by omega)
    obtain ⟨l, e, hall⟩ := key len (Nat.le_refl _)
    subst e
    refine ⟨l, _, cap, rfl, hl, hm, rfl, Nat.le_trans hl hm, fun i hi => (hall i hi).1, ?_⟩
    by_cases h0 : l.length = 0
    · exact .inl h0
    · obtain ⟨b, off, spot⟩ := a
      have hc := (hall 0 (by omega)).2.1
      have hspot : spot = none := by simpa [Addr.add] using World.cell?_spot hc
      subst hspot
      have hcell : ∀ i, i < l.length → w.cell? ⟨b, off + i * 2, none⟩ = some (.string (nm l i)) ∧ w.cell? ⟨b, off + i * 2 + 1, none⟩ = some (.int .i64 (qn l i)) := fun i hi => by
        have c := (hall i hi).2
        by_cases hi0 : i = 0
        · subst hi0; simpa [Addr.add] using c
        · have h2 : ¬ i * 2 = 0 := by omega
          simpa [Addr.add, h2] using c
      exact .inr ⟨b, off, rfl, World.block_lt_of_cell? _ _ (hcell 0 (by omega)).1, hcell⟩

theorem star : "*" ++ "errors.errorString" = "*errors.errorString" := by decide
theorem rowError (u : TypeId) (h : Tryz.prog.typeName? 3 u = some "*errors.errorString") : u = 287 :=
  typeName_ptr_named (nm := "errors.errorString") (by rw [star]; kernel_rfl) (by kernel_rfl) (by decide) u (by rw [star]; exact h)
theorem pow_data : (Rows.laid_internal_strconv_uint64pow10 : DataW Unit) = Lib.tabData .u64 Lib.pow10Tab := by kernel_rfl
theorem rangeName : Tryz.prog.globalNamed "strconv.ErrRange" = some 3 := by kernel_rfl
/-- What the row's list and the world's shape give a walk. -/
theorem env_of {W : World} (hL : laidMetH Tryz.prog Rows.podAnyRow.laid W) (hS : W.ShapedOpen Tryz.prog) : EnvT W := by
  rw [MakeChecks.laidMetH_plain _ _ _ (by kernel_rfl)] at hL
  have h3 : laidMet Tryz.prog (("internal/strconv.uint64pow10", Rows.laid_internal_strconv_uint64pow10) :: _) W := hL.tail.tail
  rw [pow_data] at h3
  refine ⟨⟨?_, ?_⟩, ?_⟩
  · exact cell_of_shapedOpen_int (zero := #[.int .i64 0]) (t := 3) hS (of_decide_eq_true (by kernel_rfl)) (by kernel_rfl) rfl (by kernel_rfl) (by kernel_rfl) Tryz.underlying3
  · have h5 : laidMet Tryz.prog (("strconv.ErrRange", Rows.laid_strconv_ErrRange) :: _) W := hL.tail.tail.tail.tail
    unfold Rows.laid_strconv_ErrRange at h5
    obtain ⟨a, s, hv, -⟩ := laid_sentinel h5 rangeName (by kernel_rfl) Tryz.underlying190 rowError Tryz.underlying287 Tryz.underlying289 rfl rfl Tryz.underlying9 cellsE cellsS
    exact ⟨_, by simpa using World.var?_cell rangeName hv 0, .inr ⟨_, _, rfl⟩⟩
  · exact Lib.tabIs_of_head tabName (by kernel_rfl) Tryz.underlying261 Tryz.underlying247 (by kernel_rfl) (by kernel_rfl) h3

end Go.Proofs.YtflllkpnkcmegaaGreatDoor.Vec
