/- Package by package: contracts of the functions that the laws call. -/
import Derived.Test.YtjihpbbeoiddkaaGreatResB
import Derived.StillTailTactics
import Derived.Test.YtjihpbbeoiddkaaGreatResA
import Derived.WideShapes
import Derived.IntWalk
import Derived.Test.YtjihpbbeoiddkaaGreatBase
import Derived.Lib.ItoaNum
import Derived.Test.YtjihpbbeoiddkaaGreatRows
import Derived.WalkKit
import Derived.ProofKit
import Derived.OpenShut
import Derived.ChangeOld
import Derived.Below
import Derived.Deep.Slices
import Derived.Deep.Fields
import Derived.ChangeSame
import Derived.Lib.LaidTab
import Derived.Stop.LaidErr
import Derived.Stop.Joined
import Derived.Shelf.Vars
import Derived.MakeChecks
import Derived.LaidLaws
import Derived.RowKitTokens

/- Two vectors, reckoned. -/
namespace Go.Proofs.YtjihpbbeoiddkaaGreat.Vec
open Go.RowKit
set_option linter.unusedVariables false

def cpu : ByteArray := ⟨#[99, 112, 117]⟩
def gpu : ByteArray := ⟨#[103, 112, 117]⟩
def mem : ByteArray := ⟨#[109, 101, 109]⟩
def kA : V := [(cpu, 100), (mem, 5)]
def kS : V := [(cpu, 140), (gpu, 1), (mem, 5)]
end Go.Proofs.YtjihpbbeoiddkaaGreat.Vec

/- What the laws know: two vectors. -/
namespace Go.Proofs.YtjihpbbeoiddkaaGreat.Vec
open Go.RowKit
set_option linter.unusedVariables false

end Go.Proofs.YtjihpbbeoiddkaaGreat.Vec

/- A vector as the document's: as it is. -/
namespace Go.Proofs.YtjihpbbeoiddkaaGreat.Vec
open Go.RowKit
set_option linter.unusedVariables false

end Go.Proofs.YtjihpbbeoiddkaaGreat.Vec

/- The algebra of vectors that may be: names in their order, numbers above 0. -/
namespace Go.Proofs.YtjihpbbeoiddkaaGreat.Vec
open Go.RowKit
set_option linter.unusedVariables false

theorem less_irrefl : ∀ s : List UInt8, Op.bytesLess s s = false
  | [] => rfl
  | a :: s => by
    have : ¬ a < a := UInt8.lt_irrefl a
    simp [Op.bytesLess, less_irrefl s, this]
theorem less_trans : ∀ {a b c : List UInt8}, Op.bytesLess a b = true → Op.bytesLess b c = true → Op.bytesLess a c = true
  | _, _, [], _, h => by simp [Op.bytesLess] at h
  | [], _, _ :: _, _, _ => by simp [Op.bytesLess]
  | x :: a, [], z :: c, h, _ => by simp [Op.bytesLess] at h
  | x :: a, y :: b, z :: c, h, g => by
    simp only [Op.bytesLess, Bool.or_eq_true, Bool.and_eq_true, decide_eq_true_eq, beq_iff_eq] at h g ⊢
    rcases h with h | ⟨rfl, h⟩
    · rcases g with g | ⟨rfl, g⟩
      · exact .inl (UInt8.lt_trans h g)
      · exact .inl h
    · rcases g with g | ⟨rfl, g⟩
      · exact .inl g
      · exact .inr ⟨rfl, less_trans h g⟩
theorem less_tri : ∀ {a b : List UInt8}, Op.bytesLess a b = false → Op.bytesLess b a = false → a = b
  | [], [], _, _ => rfl
  | [], _ :: _, h, _ => by simp [Op.bytesLess] at h
  | _ :: _, [], _, h => by simp [Op.bytesLess] at h
  | x :: a, y :: b, h, g => by
    simp only [Op.bytesLess, Bool.or_eq_false_iff, decide_eq_false_iff_not, Bool.and_eq_false_iff, beq_eq_false_iff_ne] at h g
    have e : x = y := by
      have h1 := UInt8.not_lt.1 h.1
      have h2 := UInt8.not_lt.1 g.1
      exact UInt8.le_antisymm h2 h1
    subst e
    have h2 := h.2.resolve_left (by simp)
    have g2 := g.2.resolve_left (by simp)
    rw [less_tri h2 g2]

theorem lt_of (s t : ByteArray) : ltS s t = Op.bytesLess s.data.toList t.data.toList := by unfold ltS; rw [Lib.toList_data, Lib.toList_data]
theorem eqS_iff {s t : ByteArray} : eqS s t = true ↔ s = t := by
  unfold eqS; rw [Lib.toList_data, Lib.toList_data, beq_iff_eq]
  exact ⟨fun h => Go.WideShapes.bytes_inj h, fun h => by rw [h]⟩
theorem lt_irrefl' (s : ByteArray) : ltS s s = false := by rw [lt_of]; exact less_irrefl _
theorem lt_trans' {s t u : ByteArray} (h : ltS s t = true) (g : ltS t u = true) : ltS s u = true := by
  rw [lt_of] at *; exact less_trans h g
theorem lt_tri' {s t : ByteArray} (h : ltS s t = false) (g : ltS t s = false) : s = t := by
  rw [lt_of] at *; exact Go.WideShapes.bytes_inj (less_tri h g)
theorem lt_ne {s t : ByteArray} (h : ltS s t = true) : s ≠ t := by rintro rfl; rw [lt_irrefl'] at h; cases h
theorem lt_asymm' {s t : ByteArray} (h : ltS s t = true) (g : ltS t s = true) : False := lt_ne (lt_trans' h g) rfl

/-- May be: names as they must, numbers above 0, names rising. -/
def Gd (l : V) : Prop := (∀ x ∈ l, isName x.1 = true ∧ 0 < x.2 ∧ x.2 ≤ 9223372036854775807) ∧ l.Pairwise (fun x y => ltS x.1 y.1 = true)
theorem Gd.nil : Gd [] := ⟨fun x hx => absurd hx (by simp), .nil⟩
theorem Gd.cons {x : ByteArray × Int} {t : V} : Gd (x :: t) ↔ (isName x.1 = true ∧ 0 < x.2 ∧ x.2 ≤ 9223372036854775807) ∧ (∀ y ∈ t, ltS x.1 y.1 = true) ∧ Gd t := by
  unfold Gd
  rw [List.pairwise_cons, List.forall_mem_cons]
  constructor
  · rintro ⟨⟨a, b⟩, c, d⟩; exact ⟨a, c, b, d⟩
  · rintro ⟨a, c, b, d⟩; exact ⟨⟨a, b⟩, c, d⟩

theorem get_same (x : ByteArray × Int) (t : V) : getV (x :: t) x.1 = x.2 := by rw [getV, if_pos (eqS_iff.2 rfl)]
theorem get_other {x : ByteArray × Int} {n : ByteArray} (t : V) (h : x.1 ≠ n) : getV (x :: t) n = getV t n := by rw [getV, if_neg (fun e => h (eqS_iff.1 e))]
theorem get_mem : ∀ {l : V} {n : ByteArray}, getV l n ≠ 0 → ∃ y ∈ l, y.1 = n
  | [], _, h => absurd rfl h
  | x :: t, n, h => by
    by_cases e : x.1 = n
    · exact ⟨x, by simp, e⟩
    · rw [get_other t e] at h
      obtain ⟨y, hy, hn⟩ := get_mem h
      exact ⟨y, by simp [hy], hn⟩
theorem Gd.len : ∀ {b r : V}, Gd r → Gd b → (∀ n, getV r n ≠ 0 → getV b n ≠ 0) → r.length ≤ b.length
  | [], [], _, _, _ => Nat.le_refl _
  | [], x :: s, hr, _, h => by
    have := h x.1; rw [get_same] at this; have h1 := (Gd.cons.1 hr).1
    exact absurd rfl (this (by omega))
  | y :: t, [], _, _, _ => Nat.zero_le _
  | y :: t, x :: s, hr, hb, h => by
    have hr' := Gd.cons.1 hr
    have hb' := Gd.cons.1 hb
    have : s.length ≤ t.length := Gd.len hr'.2.2 hb'.2.2 fun n hn => by
      obtain ⟨z, hz, rfl⟩ := get_mem hn
      have hlt := hr'.2.1 z hz
      have hb2 := h z.1 (by rw [get_other s (lt_ne hlt)]; exact hn)
      by_cases e : y.1 = z.1
      · obtain ⟨u, hu, hux⟩ := get_mem (h x.1 (by rw [get_same]; omega))
        rcases List.mem_cons.1 hu with rfl | hu
        · rw [← hux, e, lt_irrefl'] at hlt; cases hlt
        · have := hb'.2.1 u hu
          rw [hux, e] at this
          exact (lt_asymm' hlt this).elim
      · rw [get_other t e] at hb2; exact hb2
    simp only [List.length_cons]; omega

theorem leS_false {s t : ByteArray} (h : leS s t = false) : ltS t s = true := by
  unfold leS at h
  rw [Bool.or_eq_false_iff] at h
  cases e : ltS t s with
  | true => rfl
  | false => rw [lt_tri' h.1 e, eqS_iff.2 rfl] at h; cases h.2
theorem leS_of_lt {s t : ByteArray} (h : ltS t s = true) : leS s t = false := by
  unfold leS
  rw [Bool.or_eq_false_iff]
  refine ⟨?_, ?_⟩
  · cases e : ltS s t with
    | false => rfl
    | true => exact (lt_asymm' h e).elim
  · cases e : eqS s t with
    | false => rfl
    | true => exact absurd (eqS_iff.1 e).symm (lt_ne h)

end Go.Proofs.YtjihpbbeoiddkaaGreat.Vec

/- What is merged, by its names' amounts. -/
namespace Go.Proofs.YtjihpbbeoiddkaaGreat.Vec
open Go.RowKit
set_option linter.unusedVariables false

end Go.Proofs.YtjihpbbeoiddkaaGreat.Vec

/- What the laws say of vectors that may be. -/
namespace Go.Proofs.YtjihpbbeoiddkaaGreat.Vec
open Go.RowKit
set_option linter.unusedVariables false

theorem same_self : ∀ l : V, sameFrom l l = true
  | [] => rfl
  | x :: t => by rw [sameFrom, same_self t, eqS_iff.2 rfl]; simp
end Go.Proofs.YtjihpbbeoiddkaaGreat.Vec

/- What the laws begin with. -/
namespace Go.Proofs.YtjihpbbeoiddkaaGreat.Vec
open Go.RowKit
set_option linter.unusedVariables false

theorem Reads.fine {v : Value} {l : V} {w : World} (h : Reads w v l) : Fine l := by
  obtain ⟨a, cap, rfl, h1, h2, h3⟩ := h
  exact h3.2.2.1
end Go.Proofs.YtjihpbbeoiddkaaGreat.Vec

/- The reference's quantities: what each call answers, said of whole numbers. -/
namespace Go.Proofs.YtjihpbbeoiddkaaGreat.Vec
open Go.RowKit
set_option linter.unusedVariables false

end Go.Proofs.YtjihpbbeoiddkaaGreat.Vec

/- The reference's vectors read: a name's amount, whether alike, whether the one fits the other. -/
namespace Go.Proofs.YtjihpbbeoiddkaaGreat.Vec
open Go.RowKit
set_option linter.unusedVariables false

end Go.Proofs.YtjihpbbeoiddkaaGreat.Vec

/- The reference's products and parts, as one answer each. -/
namespace Go.Proofs.YtjihpbbeoiddkaaGreat.Vec
open Go.RowKit
set_option linter.unusedVariables false

/-- What the reference answers: a vector and an error. -/
def Told (c : Int) (m : V) (w : World) (e : Ending) (w' : World) : Prop := ∃ x, e = .returned (.tuple #[x, .int .i64 c]) ∧ OwnV 193 w' w.heap.size x m ∧ Kept w w'
theorem Told.none {c : Int} {w w' : World} (k : Kept w w') : Told c [] w (.returned (.tuple #[.slice none 0 0, .int .i64 c])) w' := ⟨_, rfl, OwnV.nil _ _ _, k⟩

end Go.Proofs.YtjihpbbeoiddkaaGreat.Vec

/- The reference's decimals and what they spell. -/
namespace Go.Proofs.YtjihpbbeoiddkaaGreat.Vec
open Go.RowKit
set_option linter.unusedVariables false

end Go.Proofs.YtjihpbbeoiddkaaGreat.Vec

/- A part's form, told by every '=' as by the first; a decimal told back. -/
namespace Go.Proofs.YtjihpbbeoiddkaaGreat.Vec
open Go.RowKit Go.Proofs.YtjihpbbeoiddkaaGreat
set_option linter.unusedVariables false

end Go.Proofs.YtjihpbbeoiddkaaGreat.Vec

/- A row of the call's own whose elements are rows of two strings each. -/
namespace Go.Proofs.YtjihpbbeoiddkaaGreat.Vec
open Go.RowKit Go.Proofs.YtjihpbbeoiddkaaGreat
set_option linter.unusedVariables false

/-- Each element reads as its part's two sides, and lies elsewhere than the row itself. -/
def Inner (w : World) (v : Value) (vs : List (Nat × Nat)) (ps : List (List UInt8)) : Prop :=
  ∀ (i : Nat) (x : Nat × Nat) (p : List UInt8), vs[i]? = some x → ps[i]? = some p → x.1 < w.heap.size ∧ v.ownBlock ≠ some x.1 ∧
    w.cell? ⟨x.1, 0, none⟩ = some (.string (bytes (nameOf p))) ∧ w.cell? ⟨x.1, 1, none⟩ = some (.string (bytes (numOf' p)))
theorem Inner.nil (w : World) (v : Value) (ps : List (List UInt8)) : Inner w v [] ps := fun i x p h => by simp at h
theorem Inner.kept {w w' : World} {v : Value} {vs : List (Nat × Nat)} {ps : List (List UInt8)} (h : Inner w v vs ps) (k : Kept w w') : Inner w' v vs ps := fun i x p hx hp => by
  obtain ⟨h1, h2, h3, h4⟩ := h i x p hx hp
  exact ⟨Nat.lt_of_lt_of_le h1 k.size, h2, cell_later k h3, cell_later k h4⟩
theorem Inner.snoc {w w' : World} {v : Value} {vs : List (Nat × Nat)} {ps : List (List UInt8)} {g n cap b c : Nat} {p : List UInt8} (h : Inner w v vs ps) (hg : w.grownBy w' v.ownBlock) (hgo : v.ownBlock = some g ∨ g = w.heap.size)
    (hp : ps[vs.length]? = some p) (hb : b < w.heap.size) (hne : v.ownBlock ≠ some b)
    (c0 : w.cell? ⟨b, 0, none⟩ = some (.string (bytes (nameOf p)))) (c1 : w.cell? ⟨b, 1, none⟩ = some (.string (bytes (numOf' p)))) :
    Inner w' (.slice (some ⟨g, 0, none⟩) n cap) (vs ++ [(b, c)]) ps := by
  have far : ∀ d, d < w.heap.size → v.ownBlock ≠ some d → d < w'.heap.size ∧ (Value.slice (some ⟨g, 0, none⟩) n cap).ownBlock ≠ some d ∧ ∀ j, w'.cell? ⟨d, j, none⟩ = w.cell? ⟨d, j, none⟩ := fun d hd hn => by
    refine ⟨Nat.lt_of_lt_of_le hd hg.size, ?_, fun j => hg.cell_far ⟨d, j, none⟩ hd (fun e => hn e.symm)⟩
    show some g ≠ some d
    intro e
    have e' : g = d := Option.some.inj e
    rcases hgo with h1 | h1
    · exact hn (by rw [h1, e'])
    · omega
  intro i x q hx hq
  by_cases hi : i < vs.length
  · rw [List.getElem?_append_left hi] at hx
    obtain ⟨h1, h2, h3, h4⟩ := h i x q hx hq
    obtain ⟨f1, f2, f3⟩ := far x.1 h1 h2
    exact ⟨f1, f2, (f3 0).trans h3, (f3 1).trans h4⟩
  · have hi2 : i = vs.length := by
      have := (List.getElem?_eq_some_iff.1 hx).1
      simp at this; omega
    subst hi2
    have hxx : (b, c) = x := by simpa using hx
    have hqq : q = p := Option.some.inj (hq.symm.trans hp)
    subst hxx; subst hqq
    obtain ⟨f1, f2, f3⟩ := far b hb hne
    exact ⟨f1, f2, (f3 0).trans c0, (f3 1).trans c1⟩

end Go.Proofs.YtjihpbbeoiddkaaGreat.Vec

/- The reference's Times. -/
namespace Go.Proofs.YtjihpbbeoiddkaaGreat.Vec
open Go.RowKit
set_option linter.unusedVariables false

end Go.Proofs.YtjihpbbeoiddkaaGreat.Vec

/- The reference's ParseVec. -/
namespace Go.Proofs.YtjihpbbeoiddkaaGreat.Vec
open Go.RowKit Go.Proofs.YtjihpbbeoiddkaaGreat
set_option linter.unusedVariables false

end Go.Proofs.YtjihpbbeoiddkaaGreat.Vec

/- The law's own comparison; what is checked is short; the reference's calls over whatever reads so. -/
namespace Go.Proofs.YtjihpbbeoiddkaaGreat.Vec
open Go.RowKit Go.Proofs.YtjihpbbeoiddkaaGreat
set_option linter.unusedVariables false

theorem OwnV.reads {e : TypeId} {w : World} {B : Nat} {v : Value} {l : V} (h : OwnV e w B v l) : Reads w v l := h.at_
end Go.Proofs.YtjihpbbeoiddkaaGreat.Vec

/- What a law of vectors is told: its arguments, the library's variables. -/
namespace Go.Proofs.YtjihpbbeoiddkaaGreat.Vec
open Go.ChangeShapes Go.WideShapes Go.ChangeAt Go.RowKit Go.Deep
set_option linter.unusedVariables false

end Go.Proofs.YtjihpbbeoiddkaaGreat.Vec
