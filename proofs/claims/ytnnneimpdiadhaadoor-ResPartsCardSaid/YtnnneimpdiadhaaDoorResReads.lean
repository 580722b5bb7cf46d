/- The calls over whatever reads as a vector. -/
import Derived.Test.YtnnneimpdiadhaaDoorResRead
import Derived.Test.YtnnneimpdiadhaaDoorResFaceAdd
import Derived.Test.YtnnneimpdiadhaaDoorResFaceSub
import Derived.Test.YtnnneimpdiadhaaDoorResFaceMul
import Derived.Test.YtnnneimpdiadhaaDoorResFacePart
import Derived.Test.YtnnneimpdiadhaaDoorResFaceParse
import Derived.Test.YtnnneimpdiadhaaDoorResFaceCheck
import Derived.Test.YtnnneimpdiadhaaDoorResText
namespace Go.Proofs.YtnnneimpdiadhaaDoor.Vec
open Go.RowKit
set_option linter.unusedVariables false

/-- An answer: a vector and an error. -/
def Got (c : Int) (m : V) (w : World) (e : Ending) (w' : World) : Prop := ∃ x, e = .returned (.tuple #[x, .int .i64 c]) ∧ Reads w' x m ∧ Kept w w'

theorem Reads.nil (w : World) : Reads w (.slice none 0 0) [] := ⟨none, 0, rfl, Nat.le_refl _, by decide, VecAt.nil w⟩
theorem Done.got {r : Int × V} {c : Int} {m : V} {w w' : World} {e : Ending} (he : r = (c, m)) (h : Done r w e w') : Got c m w e w' := by
  subst he
  obtain ⟨v, rfl, ho, k⟩ := h
  exact ⟨v, rfl, ho.at_, k⟩

theorem addR {v v' : Value} {l l' m : V} {c : Int} {w : World} (h : Reads w v l) (h' : Reads w v' l') (e : mergedV addF l l' = (c, m)) :
    Calls Tryd.prog 10 #[v, v'] w (Got c m w) := by
  obtain ⟨a, cap, rfl, h1, h2, h3⟩ := h
  obtain ⟨a', cap', rfl, h1', h2', h3'⟩ := h'
  exact (add_any a a' _ cap _ cap' l l' w h3 h3' h1 h2 h1' h2').mono fun _ _ => Done.got e
theorem subR {v v' : Value} {l l' m : V} {c : Int} {w : World} (h : Reads w v l) (h' : Reads w v' l') (e : mergedV subF l l' = (c, m)) :
    Calls Tryd.prog 12 #[v, v'] w (Got c m w) := by
  obtain ⟨a, cap, rfl, h1, h2, h3⟩ := h
  obtain ⟨a', cap', rfl, h1', h2', h3'⟩ := h'
  exact (sub_any a a' _ cap _ cap' l l' w h3 h3' h1 h2 h1' h2').mono fun _ _ => Done.got e
theorem mulR {v : Value} {l m : V} {c n : Int} {w : World} (h : Reads w v l) (hn : -9223372036854775808 ≤ n) (hn' : n ≤ 9223372036854775807) (e : eachV mulF n l = (c, m)) :
    Calls Tryd.prog 15 #[v, .int .i64 n] w (Got c m w) := by
  obtain ⟨a, cap, rfl, h1, h2, h3⟩ := h
  exact (mul_any a _ cap l n w h3 hn hn').mono fun _ _ => Done.got e
theorem partR {v : Value} {l m : V} {c n : Int} {w : World} (h : Reads w v l) (hn : -9223372036854775808 ≤ n) (hn' : n ≤ 9223372036854775807) (e : eachV partF n l = (c, m)) :
    Calls Tryd.prog 16 #[v, .int .i64 n] w (Got c m w) := by
  obtain ⟨a, cap, rfl, h1, h2, h3⟩ := h
  exact (part_any a _ cap l n w h3 hn hn').mono fun _ _ => Done.got e
theorem parseR {s : List UInt8} {m : V} {c : Int} {w : World} (hE : Env w) (hs : s.length ≤ 1000000) (e : parseV s = (c, m)) :
    Calls Tryd.prog 17 #[.string (bytes s)] w (Got c m w) :=
  (parse_any s w hE hs).mono fun _ _ => Done.got e
theorem checkR {v : Value} {l : V} {c : Int} {w : World} (h : Reads w v l) (e : checkV l = c) :
    Calls Tryd.prog 14 #[v] w fun x w' => x = .returned (.int .i64 c) ∧ Kept w w' := by
  subst e
  obtain ⟨a, cap, rfl, h1, h2, h3⟩ := h
  exact check_any a _ cap l w h3
theorem refCheckR {v : Value} {l : V} {c : Int} {w : World} (h : Reads w v l) (e : checkV l = c) :
    Calls Tryd.prog 8 #[v] w fun x w' => x = .returned (.int .i64 c) ∧ Kept w w' := by
  subst e
  obtain ⟨a, cap, rfl, h1, h2, h3⟩ := h
  exact refCheck_any a _ cap l w h3
theorem textR {v : Value} {l : V} {s : List UInt8} {w : World} (hE : EnvT w) (h : Reads w v l) (hf : fewV l = true) (e : textV l = s) :
    Calls Tryd.prog 18 #[v] w fun x w' => x = .returned (.string (bytes s)) ∧ Kept w w' := by
  subst e
  obtain ⟨a, cap, rfl, h1, h2, h3⟩ := h
  exact text_any a _ cap l w hE h3 hf
theorem getR {v : Value} {l : V} {n : ByteArray} {c : Int} {w : World} (h : Reads w v l) (e : getV l n = c) :
    Calls Tryd.prog 19 #[v, .string n] w fun x w' => x = .returned (.int .i64 c) ∧ Kept w w' := by
  subst e
  obtain ⟨a, cap, rfl, h1, h2, h3⟩ := h
  exact get_any a _ cap l n w h3
theorem sameR {v v' : Value} {l l' : V} {c : Bool} {w : World} (h : Reads w v l) (h' : Reads w v' l') (e : sameFrom l l' = c) :
    Calls Tryd.prog 11 #[v, v'] w fun x w' => x = .returned (.bool c) ∧ Kept w w' := by
  subst e
  obtain ⟨a, cap, rfl, h1, h2, h3⟩ := h
  obtain ⟨a', cap', rfl, h1', h2', h3'⟩ := h'
  exact same_any a a' _ cap _ cap' l l' w h3 h3'
theorem fitsR {v v' : Value} {l l' : V} {c : Bool} {w : World} (h : Reads w v l) (h' : Reads w v' l') (e : fitsFrom l' l = c) :
    Calls Tryd.prog 13 #[v, v'] w fun x w' => x = .returned (.bool c) ∧ Kept w w' := by
  subst e
  obtain ⟨a, cap, rfl, h1, h2, h3⟩ := h
  obtain ⟨a', cap', rfl, h1', h2', h3'⟩ := h'
  exact fits_any a a' _ cap _ cap' l l' w h3 h3'
theorem nameR {n : ByteArray} {c : Bool} {w : World} (h : n.size ≤ maxLen) (e : isName n = c) :
    Calls Tryd.prog 20 #[.string n] w fun x w' => x = .returned (.bool c) ∧ w = w' := by
  subst e
  exact name_any n w h
theorem fewR {v : Value} {l : V} {c : Bool} {w : World} (h : Reads w v l) (e : fewV l = c) :
    Calls Tryd.prog 7 #[v] w fun x w' => x = .returned (.bool c) ∧ w = w' := by
  subst e
  obtain ⟨a, cap, rfl, h1, h2, h3⟩ := h
  exact few_any a _ cap l w h3

end Go.Proofs.YtnnneimpdiadhaaDoor.Vec
