/- A pod as the reference has it: Of. -/
import Derived.Test.YtflllkpnkcmegaaGreatDoorPodParsed
import Derived.Test.YtflllkpnkcmegaaGreatDoorNodOf
namespace Go.Proofs.YtflllkpnkcmegaaGreatDoor
open Go.RowKit
set_option linter.unusedVariables false

theorem ofLO {v : Value} {l : TL} {w : World} (h : Reads TermLay w v l) (hf : l.length ≤ 1000000) :
    Calls Tryz.prog 47 #[v] w (fun e w' => ∃ x, e = .returned x ∧ Own TermLay 158 w' w.heap.size x l ∧ Kept w w') := by
  obtain ⟨a, cap, rfl, h1, h2, h3⟩ := h
  exact ofSel_own a _ cap l w h3 hf
/-- A pod, its four rows spelt. -/
abbrev PX := Pd × SX × SX × SX × SX
abbrev aggP (z : PX) : Value := PodV z.1 (slV z.2.1) (slV z.2.2.1) (slV z.2.2.2.1) (slV z.2.2.2.2)
def At4 (w : World) (z : PX) : Prop := PodAt w (slV z.2.1) (slV z.2.2.1) (slV z.2.2.2.1) (slV z.2.2.2.2) z.1
/-- A row lies between two blocks. -/
def Btw (lo hi : Nat) (a : Option Addr) : Prop := ∀ b off sp, a = some ⟨b, off, sp⟩ → lo ≤ b ∧ b < hi
theorem Btw.up {lo hi lo' hi' : Nat} {a : Option Addr} (h : Btw lo hi a) (h1 : lo' ≤ lo) (h2 : hi ≤ hi') : Btw lo' hi' a := fun b o s e => ⟨Nat.le_trans h1 (h b o s e).1, Nat.lt_of_lt_of_le (h b o s e).2 h2⟩
theorem Btw.behind {lo hi : Nat} {a : Option Addr} (h : Btw lo hi a) : Behind lo a := fun b o s e => (h b o s e).1
def Within4 (lo hi : Nat) (z : PX) : Prop := Btw lo hi z.2.1.1 ∧ Btw lo hi z.2.2.1.1 ∧ Btw lo hi z.2.2.2.1.1 ∧ Btw lo hi z.2.2.2.2.1
theorem Within4.up {lo hi lo' hi' : Nat} {z : PX} (h : Within4 lo hi z) (h1 : lo' ≤ lo) (h2 : hi ≤ hi') : Within4 lo' hi' z := ⟨h.1.up h1 h2, h.2.1.up h1 h2, h.2.2.1.up h1 h2, h.2.2.2.up h1 h2⟩
theorem PodAt.at4 {w : World} {n : Pd} {x1 x2 x3 x4 : SX} (h : PodAt w (slV x1) (slV x2) (slV x3) (slV x4) n) : At4 w (n, x1, x2, x3, x4) := h

end Go.Proofs.YtflllkpnkcmegaaGreatDoor
