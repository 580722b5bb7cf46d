/- Vectors as lists of names and numbers: plain words, and how a slice of them lies in memory. -/
import Derived.Test.YtnnneimpdiadhaaDoorResQty
import Derived.Below
import Derived.LoopTactic
namespace Go.Proofs.YtnnneimpdiadhaaDoor.Vec
open Go.RowKit
set_option linter.unusedVariables false

abbrev V := List (ByteArray × Int)
/-- The i-th name, the i-th number. -/
def nm (l : V) (i : Nat) : ByteArray := (l.getD i (ByteArray.empty, 0)).1
def qn (l : V) (i : Nat) : Int := (l.getD i (ByteArray.empty, 0)).2

/-- Each number fits 64 bits, each name is no longer than memory is. -/
def Fine (l : V) : Prop := ∀ i, i < l.length → (nm l i).size ≤ maxLen ∧ -9223372036854775808 ≤ qn l i ∧ qn l i ≤ 9223372036854775807

/-- A slice of so many amounts lies at a. -/
def VecAt (w : World) (a : Option Addr) (len : Nat) (l : V) : Prop :=
  l.length = len ∧ len ≤ maxLen ∧ Fine l ∧
    (len = 0 ∨ ∃ b off, a = some ⟨b, off, none⟩ ∧ b < w.heap.size ∧
      ∀ i, i < len → w.cell? ⟨b, off + i * 2, none⟩ = some (.string (nm l i)) ∧ w.cell? ⟨b, off + i * 2 + 1, none⟩ = some (.int .i64 (qn l i)))

theorem VecAt.kept {w w' : World} {a : Option Addr} {len : Nat} {l : V} (h : VecAt w a len l) (k : Kept w w') : VecAt w' a len l := by
  obtain ⟨h0, h1, h2, h3⟩ := h
  refine ⟨h0, h1, h2, h3.imp id ?_⟩
  rintro ⟨b, off, ha, hb, hc⟩
  exact ⟨b, off, ha, Nat.lt_of_lt_of_le hb k.size, fun i hi =>
    ⟨(Below.cell k (p := ⟨b, off + i * 2, none⟩) hb).trans (hc i hi).1, (Below.cell k (p := ⟨b, off + i * 2 + 1, none⟩) hb).trans (hc i hi).2⟩⟩

theorem VecAt.nil (w : World) : VecAt w none 0 [] := ⟨rfl, by decide, fun i hi => absurd hi (by simp), .inl rfl⟩

end Go.Proofs.YtnnneimpdiadhaaDoor.Vec
