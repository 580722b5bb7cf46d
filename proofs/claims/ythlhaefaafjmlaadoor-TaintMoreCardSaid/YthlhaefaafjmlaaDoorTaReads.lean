/- Each call of package taint, asked of values that read so. -/
import Derived.Test.YthlhaefaafjmlaaDoorTaFaceA
import Derived.Test.YthlhaefaafjmlaaDoorTaFaceO
import Derived.Test.YthlhaefaafjmlaaDoorTaJoinA
import Derived.Test.YthlhaefaafjmlaaDoorTaJoinO
import Derived.Test.YthlhaefaafjmlaaDoorTaWorst
namespace Go.Proofs.YthlhaefaafjmlaaDoor
open Go.RowKit
set_option linter.unusedVariables false

theorem parseAR {s : List UInt8} {c : Int} {l : NL} {w : World} (hE : Env w) (hs : s.length ≤ 1000000) (h : parsedA s = (c, l)) :
    Calls Tryd.prog 27 #[.string (bytes s)] w (Got TaLay c l w) := by
  refine (parseA_any s w hE hs).mono fun e w' ⟨v, he, ho, k⟩ => ⟨v, ?_, ?_, k⟩
  · rw [he, h]
  · have := ho.reads; rw [h] at this; exact this
theorem parseOR {s : List UInt8} {c : Int} {l : NL} {w : World} (hE : Env w) (hs : s.length ≤ 1000000) (h : parsedO s = (c, l)) :
    Calls Tryd.prog 28 #[.string (bytes s)] w (Got TaLay c l w) := by
  refine (parseO_any s w hE hs).mono fun e w' ⟨v, he, ho, k⟩ => ⟨v, ?_, ?_, k⟩
  · rw [he, h]
  · have := ho.reads; rw [h] at this; exact this
theorem checkAR {v : Value} {l : NL} {c : Int} {w : World} (h : Reads TaLay w v l) (hc : chkA l = c) :
    Calls Tryd.prog 15 #[v] w (Say (.int .i64 c) w) := by
  obtain ⟨a, cap, rfl, hcap, _, hr⟩ := h
  exact (checkA_any a _ cap l w hr hcap).mono fun e w' ⟨he, k⟩ => ⟨by rw [he, hc], k⟩
theorem checkOR {v : Value} {l : NL} {c : Int} {w : World} (h : Reads TaLay w v l) (hc : chkO l = c) :
    Calls Tryd.prog 16 #[v] w (Say (.int .i64 c) w) := by
  obtain ⟨a, cap, rfl, _, _, hr⟩ := h
  exact (checkO_any a _ cap l w hr).mono fun e w' ⟨he, k⟩ => ⟨by rw [he, hc], k⟩
theorem bearsR {v : Value} {l : NL} {x y : ByteArray} {m b : Bool} {w : World} (h : Reads TaLay w v l) (hb : bearsN l (x, y, m) = b) :
    Calls Tryd.prog 25 #[v, NV x y m] w (Say (.bool b) w) := by
  obtain ⟨a, cap, rfl, _, _, hr⟩ := h
  exact (bears_any a _ cap l x y m w hr).mono fun e w' ⟨he, k⟩ => ⟨by rw [he]; exact ret_bool hb, k.kept⟩
theorem worstR {v v' : Value} {l t : NL} {x y : ByteArray} {m b : Bool} {w : World} (h : Reads TaLay w v l) (h' : Reads TaLay w v' t) (hx : wT (worstN l t) = (x, y, m)) (hb : (worstN l t).isSome = b) :
    Calls Tryd.prog 17 #[v, v'] w (Say (.tuple #[NV x y m, .bool b]) w) := by
  obtain ⟨a, cap, rfl, _, _, hr⟩ := h
  obtain ⟨a', cap', rfl, _, _, hr'⟩ := h'
  exact (worst_any a a' _ cap _ cap' l t w hr hr').mono fun e w' ⟨he, k⟩ => ⟨by rw [he, hx, hb], k⟩
theorem softR {v v' : Value} {l t : NL} {n : Nat} {w : World} (h : Reads TaLay w v l) (h' : Reads TaLay w v' t) (hn : softN l t = n) :
    Calls Tryd.prog 19 #[v, v'] w (Say (.int .i64 n) w) := by
  obtain ⟨a, cap, rfl, _, _, hr⟩ := h
  obtain ⟨a', cap', rfl, _, _, hr'⟩ := h'
  exact (soft_any a a' _ cap _ cap' l t w hr hr').mono fun e w' ⟨he, k⟩ => ⟨by rw [he, hn], k⟩
theorem textAR {v : Value} {l : NL} {t : ByteArray} {w : World} (h : Reads TaLay w v l) (hf : ∀ x ∈ l, x.1.size ≤ 900000 ∧ x.2.1.size ≤ 900000) (hn : l.length ≤ 1000000) (ht : textA l = t) :
    Calls Tryd.prog 21 #[v] w (Say (.string t) w) := by
  obtain ⟨a, cap, rfl, _, _, hr⟩ := h
  exact (textA_any a _ cap l w hr hf hn).mono fun e w' ⟨he, k⟩ => ⟨by rw [he, ht], k⟩
theorem textOR {v : Value} {l : NL} {t : ByteArray} {w : World} (h : Reads TaLay w v l) (hf : ∀ x ∈ l, x.1.size ≤ 900000 ∧ x.2.1.size ≤ 900000) (hn : l.length ≤ 1000000) (ht : textO l = t) :
    Calls Tryd.prog 23 #[v] w (Say (.string t) w) := by
  obtain ⟨a, cap, rfl, _, _, hr⟩ := h
  exact (textO_any a _ cap l w hr hf hn).mono fun e w' ⟨he, k⟩ => ⟨by rw [he, ht], k⟩

end Go.Proofs.YthlhaefaafjmlaaDoor
