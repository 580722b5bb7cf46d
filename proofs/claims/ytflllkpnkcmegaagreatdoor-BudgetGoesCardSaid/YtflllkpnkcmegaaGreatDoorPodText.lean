/- A pod in words. -/
import Derived.Test.YtflllkpnkcmegaaGreatDoorPodBase
import Derived.Test.YtflllkpnkcmegaaGreatDoorNodShort
import Derived.Test.YtflllkpnkcmegaaGreatDoorBase
import Derived.Test.YtflllkpnkcmegaaGreatDoorTai
namespace Go.Proofs.YtflllkpnkcmegaaGreatDoor
open Go.RowKit
set_option linter.unusedVariables false

def optT (x : ByteArray) : ByteArray := if isNo x = true then ⟨#[45]⟩ else x
def spreadT (k : ByteArray) (m : Int) : ByteArray := if isNo k = true then ⟨#[45]⟩ else k ++ ⟨#[47]⟩ ++ bytes (Lib.itoa m)
def kindW (b : Bool) : ByteArray := if b = true then ⟨#[104, 111, 108, 100]⟩ else ⟨#[114, 101, 97, 108]⟩
def wordsT (n : Pd) : List ByteArray := [n.name, optT n.owner, bytes (Lib.itoa n.prio), bytes (Vec.textV n.need), textS n.labels, textL n.sel, textO n.tols, spreadT n.key n.most, optT n.node, kindW n.hold]
def textPd (n : Pd) : ByteArray := ⟨(Lib.join ((wordsT n).map (·.data.toList)) [32]).toArray⟩
theorem textL_few {l : TL} (h : fewL l = true) : (textL l).size ≤ 5000 := by
  obtain ⟨h1, h2⟩ := fewL_parts h
  unfold textL
  split
  · decide
  · have := joinB_short (ts := l.map termB) (B := 101) (fun z hz => by
      obtain ⟨x, hx, rfl⟩ := List.mem_map.1 hz
      have := h2 x hx
      have e1 : (⟨#[58]⟩ : ByteArray).size = 1 := rfl
      have e2 : (⟨#[33]⟩ : ByteArray).size = 1 := rfl
      have e3 : (⟨#[45]⟩ : ByteArray).size = 1 := rfl
      unfold termB
      split
      · rw [ByteArray.size_append, ByteArray.size_append]; omega
      · split
        · rw [ByteArray.size_append, ByteArray.size_append]; omega
        · split
          · rw [ByteArray.size_append]; omega
          · omega)
    rw [List.length_map] at this
    omega
theorem join_ten (a b c d e f g h i j : ByteArray) : (⟨(Lib.join ([a, b, c, d, e, f, g, h, i, j].map (·.data.toList)) [32]).toArray⟩ : ByteArray) = a ++ ⟨#[32]⟩ ++ b ++ ⟨#[32]⟩ ++ c ++ ⟨#[32]⟩ ++ d ++ ⟨#[32]⟩ ++ e ++ ⟨#[32]⟩ ++ f ++ ⟨#[32]⟩ ++ g ++ ⟨#[32]⟩ ++ h ++ ⟨#[32]⟩ ++ i ++ ⟨#[32]⟩ ++ j := by
  apply Go.WideShapes.bytes_inj
  simp [Lib.join, List.intercalate, ByteArray.data_append]
theorem itoa_any (n : Int) (w : World) (hE : Vec.EnvT w) (h0 : -9223372036854775808 ≤ n) (h1 : n ≤ 9223372036854775807) :
    Calls Tryz.prog 79 #[.int .i64 n] w fun e w' => e = .returned (.string (bytes (Lib.itoa n))) ∧ Kept w w' := by
  refine (Tryz.strconv_Itoa n h0 h1 w hE.tab).mono ?_
  rintro e w' ⟨rfl, k, os, rfl⟩
  exact ⟨rfl, Lib.below_grow _ _ (Nat.le_refl _) _ _⟩
end Go.Proofs.YtflllkpnkcmegaaGreatDoor
