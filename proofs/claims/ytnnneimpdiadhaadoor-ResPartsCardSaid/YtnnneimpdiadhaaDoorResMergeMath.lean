/- Two vectors name by name: plain words. -/
import Derived.Test.YtnnneimpdiadhaaDoorResMake
namespace Go.Proofs.YtnnneimpdiadhaaDoor.Vec
open Go.RowKit
set_option linter.unusedVariables false

def addF (x y : Int) : Int × Int := if x + y ≤ 9223372036854775807 then (x + y, 0) else (0, 5)
def subF (x y : Int) : Int × Int := if y ≤ x then (x - y, 0) else (0, 5)
def mulF (x n : Int) : Int × Int := if n < 0 then (0, 1) else if x * n ≤ 9223372036854775807 then (x * n, 0) else (0, 5)
def partF (x n : Int) : Int × Int := if n < 0 then (0, 1) else if parQ x n ≤ 9223372036854775807 then (parQ x n, 0) else (0, 5)

theorem addF_bd {x y : Int} (h : 0 ≤ x ∧ x ≤ 9223372036854775807) (g : 0 ≤ y ∧ y ≤ 9223372036854775807) : 0 ≤ (addF x y).1 ∧ (addF x y).1 ≤ 9223372036854775807 := by
  unfold addF; split
  · dsimp only; omega
  · decide
theorem subF_bd {x y : Int} (h : 0 ≤ x ∧ x ≤ 9223372036854775807) (g : 0 ≤ y ∧ y ≤ 9223372036854775807) : 0 ≤ (subF x y).1 ∧ (subF x y).1 ≤ 9223372036854775807 := by
  unfold subF; split
  · dsimp only; omega
  · decide

/-- What is added to what is made. -/
def plusV (acc : V) (s : ByteArray) (n : Int) : V := if n = 0 then acc else acc ++ [(s, n)]

def mergeAcc (f : Int → Int → Int × Int) : Nat → V → V → V → Int × V
  | 0, _, _, acc => (0, acc)
  | fuel + 1, la, lb, acc =>
    if la.length + lb.length = 0 then (0, acc)
    else
      let s := foremostV la lb
      let r := f (takenV la s).1 (takenV lb s).1
      if r.2 ≠ 0 then (r.2, []) else mergeAcc f fuel (takenV la s).2 (takenV lb s).2 (plusV acc s r.1)

/-- Add, Sub. -/
def mergedV (f : Int → Int → Int × Int) (l l' : V) : Int × V :=
  if checkV l ≠ 0 then (checkV l, [])
  else if checkV l' ≠ 0 then (checkV l', [])
  else
    let r := mergeAcc f (l.length + l'.length) l l' []
    if r.1 ≠ 0 then (r.1, []) else if 8 < r.2.length then (4, []) else (0, r.2)

theorem merge_end {f : Int → Int → Int × Int} {fuel : Nat} {la lb acc : V} (h : la.length + lb.length = 0) : mergeAcc f fuel la lb acc = (0, acc) := by
  cases fuel with
  | zero => rfl
  | succ n => rw [mergeAcc, if_pos h]
theorem merge_bad {f : Int → Int → Int × Int} {fuel : Nat} {la lb acc : V} (h : 0 < la.length + lb.length) (hf : la.length + lb.length ≤ fuel)
    (hx : (f (takenV la (foremostV la lb)).1 (takenV lb (foremostV la lb)).1).2 ≠ 0) : mergeAcc f fuel la lb acc = ((f (takenV la (foremostV la lb)).1 (takenV lb (foremostV la lb)).1).2, []) := by
  cases fuel with
  | zero => omega
  | succ n => rw [mergeAcc, if_neg (by omega)]; dsimp only; rw [if_pos hx]
theorem merge_next {f : Int → Int → Int × Int} {fuel : Nat} {la lb acc : V} (h : 0 < la.length + lb.length) (hf : la.length + lb.length ≤ fuel)
    (hx : (f (takenV la (foremostV la lb)).1 (takenV lb (foremostV la lb)).1).2 = 0) :
    ∃ fuel', fuel = fuel' + 1 ∧ mergeAcc f fuel la lb acc = mergeAcc f fuel' (takenV la (foremostV la lb)).2 (takenV lb (foremostV la lb)).2 (plusV acc (foremostV la lb) (f (takenV la (foremostV la lb)).1 (takenV lb (foremostV la lb)).1).1) := by
  cases fuel with
  | zero => omega
  | succ n => exact ⟨n, rfl, by rw [mergeAcc, if_neg (by omega)]; dsimp only; rw [if_neg (by rw [hx]; decide)]⟩

theorem eqS_self (s : ByteArray) : eqS s s = true := by unfold eqS; exact beq_self_eq_true _
theorem taken_cons (x : ByteArray × Int) (t : V) (n : ByteArray) : takenV (x :: t) n = if eqS x.1 n = true then (x.2, t) else (0, x :: t) := rfl
theorem foremost_cons (x y : ByteArray × Int) (s t : V) : foremostV (x :: s) (y :: t) = if ltS y.1 x.1 = true then y.1 else x.1 := rfl
theorem taken_le (l : V) (s : ByteArray) : (takenV l s).2.length ≤ l.length := by
  cases l with
  | nil => exact Nat.le_refl _
  | cons x t => rw [taken_cons]; split <;> simp
theorem taken_lt {x : ByteArray × Int} (t : V) : (takenV (x :: t) x.1).2.length = t.length := by
  rw [taken_cons, if_pos (eqS_self _)]
/-- Each round takes one amount at least. -/
theorem merge_less {la lb : V} (h : 0 < la.length + lb.length) : (takenV la (foremostV la lb)).2.length + (takenV lb (foremostV la lb)).2.length + 1 ≤ la.length + lb.length := by
  cases la with
  | nil =>
    cases lb with
    | nil => simp at h
    | cons y t =>
      have e : foremostV [] (y :: t) = y.1 := rfl
      rw [e, taken_lt t]; simp [takenV]
  | cons x s =>
    cases lb with
    | nil =>
      have e : foremostV (x :: s) [] = x.1 := rfl
      rw [e, taken_lt s]; simp [takenV]
    | cons y t =>
      by_cases hlt : ltS y.1 x.1 = true
      · have e : foremostV (x :: s) (y :: t) = y.1 := by rw [foremostV, if_pos hlt]
        have := taken_le (x :: s) y.1
        rw [e, taken_lt t]; simp only [List.length_cons] at *; omega
      · have e : foremostV (x :: s) (y :: t) = x.1 := by rw [foremostV, if_neg hlt]
        have := taken_le (y :: t) x.1
        rw [e, taken_lt s]; simp only [List.length_cons] at *; omega

/-- Numbers that may be reckoned with: 0 or above, of 63 bits. -/
def Pos (l : V) : Prop := ∀ x ∈ l, 0 ≤ x.2 ∧ x.2 ≤ 9223372036854775807 ∧ x.1.size ≤ maxLen
theorem taken_pos {l : V} (h : Pos l) (s : ByteArray) : (0 ≤ (takenV l s).1 ∧ (takenV l s).1 ≤ 9223372036854775807) ∧ Pos (takenV l s).2 := by
  cases l with
  | nil => exact ⟨⟨by simp [takenV], by simp [takenV]⟩, h⟩
  | cons x t =>
    have hx := h x (by simp)
    rw [taken_cons]
    split
    · exact ⟨⟨hx.1, hx.2.1⟩, fun y hy => h y (by simp [hy])⟩
    · exact ⟨⟨Int.le_refl _, by show (0 : Int) ≤ _; omega⟩, h⟩
theorem foremost_size {la lb : V} (ha : Pos la) (hb : Pos lb) : (foremostV la lb).size ≤ maxLen := by
  cases la with
  | nil =>
    cases lb with
    | nil => show 0 ≤ maxLen; exact Nat.zero_le _
    | cons y t => exact (hb y (by simp)).2.2
  | cons x s =>
    cases lb with
    | nil => exact (ha x (by simp)).2.2
    | cons y t =>
      rw [foremost_cons]
      split
      · exact (hb y (by simp)).2.2
      · exact (ha x (by simp)).2.2

/-- What Check takes has numbers above 0. -/
theorem check_pos {l : V} (h : checkV l = 0) (hf : Fine l) : Pos l := by
  have h2 : checkFrom none l = 0 := by
    unfold checkV at h
    split at h
    · cases h
    · exact h
  have key : ∀ (l : V) (p : Option ByteArray), checkFrom p l = 0 → Fine l → Pos l := by
    intro l
    induction l with
    | nil => intro _ _ _ x hx; cases hx
    | cons x t ih =>
      intro p hc hf
      rw [Fine.cons] at hf
      unfold checkFrom at hc
      split at hc
      · cases hc
      · split at hc
        · cases hc
        · split at hc
          · cases hc
          · intro y hy
            rcases List.mem_cons.1 hy with rfl | hy
            · exact ⟨by omega, hf.1.2.2, hf.1.1⟩
            · exact ih _ hc hf.2 y hy
  exact key l none h2 hf
theorem check_len {l : V} (h : checkV l = 0) : l.length ≤ 8 := by
  unfold checkV at h
  split at h
  · cases h
  · omega

def lenOf : Value → Nat
  | .slice _ n _ => n
  | _ => 0

/-- What a call answers that makes a vector, or panics. -/
def VecRes (r : Int × V) (base : Nat) (w : World) (e : Ending) (w' : World) : Prop :=
  (r.1 = 0 → ∃ v, e = .returned v ∧ OwnV 38 w' base v r.2) ∧ (r.1 ≠ 0 → e = .panicked [perr r.1]) ∧ Below base w w'
theorem VecRes.good {r : Int × V} {base : Nat} {w w' : World} {v : Value} (h : r.1 = 0) (ho : OwnV 38 w' base v r.2) (hb : Below base w w') : VecRes r base w (.returned v) w' := ⟨fun _ => ⟨v, rfl, ho⟩, fun g => absurd h g, hb⟩
theorem VecRes.bad {r : Int × V} {base : Nat} {w w' : World} {c : Int} (h : r.1 = c) (hc : c ≠ 0) (hb : Below base w w') : VecRes r base w (.panicked [perr c]) w' := ⟨fun g => absurd (h.symm.trans g) hc, fun _ => by rw [h], hb⟩

end Go.Proofs.YtnnneimpdiadhaaDoor.Vec
