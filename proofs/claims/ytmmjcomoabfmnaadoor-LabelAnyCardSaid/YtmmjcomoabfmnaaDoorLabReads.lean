/- Each call of package label, asked of values that read so. -/
import Derived.Test.YtmmjcomoabfmnaaDoorLabFaceP
import Derived.Test.YtmmjcomoabfmnaaDoorLabFaceT
import Derived.Test.YtmmjcomoabfmnaaDoorLabJoin
namespace Go.Proofs.YtmmjcomoabfmnaaDoor
open Go.RowKit
set_option linter.unusedVariables false

theorem parseR {s : List UInt8} {c : Int} {l : PL} {w : World} (hE : Env w) (hs : s.length ≤ 1000000) (h : parsedP s = (c, l)) :
    Calls Tryd.prog 25 #[.string (bytes s)] w (Got PairLay c l w) := by
  refine (parse_any s w hE hs).mono fun e w' ⟨v, he, ho, k⟩ => ⟨v, ?_, ?_, k⟩
  · rw [he, h]
  · have := ho.reads; rw [h] at this; exact this
theorem parseSelR {s : List UInt8} {c : Int} {l : TL} {w : World} (hE : Env w) (hs : s.length ≤ 1000000) (h : parsedT s = (c, l)) :
    Calls Tryd.prog 26 #[.string (bytes s)] w (Got TermLay c l w) := by
  refine (parseSel_any s w hE hs).mono fun e w' ⟨v, he, ho, k⟩ => ⟨v, ?_, ?_, k⟩
  · rw [he, h]
  · have := ho.reads; rw [h] at this; exact this
theorem checkR {v : Value} {l : PL} {c : Int} {w : World} (h : Reads PairLay w v l) (hc : chkS l = c) :
    Calls Tryd.prog 15 #[v] w (Say (.int .i64 c) w) := by
  obtain ⟨a, cap, rfl, _, _, hr⟩ := h
  exact (check_any a _ cap l w hr).mono fun e w' ⟨he, k⟩ => ⟨by rw [he, hc], k⟩
theorem checkSelR {v : Value} {l : TL} {c : Int} {w : World} (h : Reads TermLay w v l) (hc : chkL l = c) :
    Calls Tryd.prog 16 #[v] w (Say (.int .i64 c) w) := by
  obtain ⟨a, cap, rfl, _, _, hr⟩ := h
  exact (checkSel_any a _ cap l w hr).mono fun e w' ⟨he, k⟩ => ⟨by rw [he, hc], k⟩
theorem getR {v : Value} {l : PL} {n x : ByteArray} {b : Bool} {w : World} (h : Reads PairLay w v l) (hx : getT l n = x) (hb : hasS l n = b) :
    Calls Tryd.prog 17 #[v, .string n] w (Say (.tuple #[.string x, .bool b]) w) := by
  obtain ⟨a, cap, rfl, _, _, hr⟩ := h
  exact (get_any a _ cap l n w hr).mono fun e w' ⟨he, k⟩ => ⟨by rw [he, hx, hb], k⟩
theorem matchR {v v' : Value} {l : TL} {s : PL} {b : Bool} {w : World} (h : Reads TermLay w v l) (h' : Reads PairLay w v' s) (hb : matchT l s = b) :
    Calls Tryd.prog 19 #[v, v'] w (Say (.bool b) w) := by
  obtain ⟨a, cap, rfl, _, _, hr⟩ := h
  obtain ⟨a', cap', rfl, _, _, hr'⟩ := h'
  exact (match_any a a' _ cap _ cap' l s w hr hr').mono fun e w' ⟨he, k⟩ => ⟨by rw [he, hb], k⟩
theorem textR {v : Value} {l : PL} {t : ByteArray} {w : World} (h : Reads PairLay w v l) (hf : ∀ x ∈ l, x.1.size ≤ 1000000 ∧ x.2.size ≤ 1000000) (hn : l.length ≤ 1000000) (ht : textS l = t) :
    Calls Tryd.prog 21 #[v] w (Say (.string t) w) := by
  obtain ⟨a, cap, rfl, _, _, hr⟩ := h
  exact (text_any a _ cap l w hr hf hn).mono fun e w' ⟨he, k⟩ => ⟨by rw [he, ht], k⟩
theorem selTextR {v : Value} {l : TL} {t : ByteArray} {w : World} (h : Reads TermLay w v l) (hf : ∀ x ∈ l, x.2.1.size ≤ 1000000 ∧ x.2.2.size ≤ 1000000) (hn : l.length ≤ 1000000) (ht : textL l = t) :
    Calls Tryd.prog 23 #[v] w (Say (.string t) w) := by
  obtain ⟨a, cap, rfl, _, _, hr⟩ := h
  exact (selText_any a _ cap l w hr hf hn).mono fun e w' ⟨he, k⟩ => ⟨by rw [he, ht], k⟩

theorem lit_term (w : World) (o : Int) (x y : ByteArray) (T : TypeId) (ho : -9223372036854775808 ≤ o ∧ o ≤ 9223372036854775807) (hx : x.size ≤ maxLen) (hy : y.size ≤ maxLen) :
    Reads TermLay (w.alloc (.cells #[.int .i64 o, .string x, .string y] T)) (.slice (some ⟨w.heap.size, 0, none⟩) 1 1) [(o, x, y)] := by
  have hh := w.alloc_heap_new (.cells #[.int .i64 o, .string x, .string y] T)
  refine ⟨_, 1, rfl, Nat.le_refl _, by decide, rfl, (by decide : 1 ≤ maxLen), fun z hz => ?_, .inr ⟨w.heap.size, 0, rfl, by simp, fun i z j u hi hj => ?_⟩⟩
  · have : z = (o, x, y) := by simpa using hz
    subst this; exact ⟨ho, hx, hy⟩
  · match i, hi with
    | 0, hi =>
      have hz : (o, x, y) = z := by simpa using hi
      subst hz
      match j, hj with
      | 0, hj => have : Value.int .i64 o = u := by simpa [TermLay] using hj
                 subst this; rw [Lib.cell_of_heap hh]; rfl
      | 1, hj => have : Value.string x = u := by simpa [TermLay] using hj
                 subst this; rw [Lib.cell_of_heap hh]; rfl
      | 2, hj => have : Value.string y = u := by simpa [TermLay] using hj
                 subst this; rw [Lib.cell_of_heap hh]; rfl
      | j + 3, hj => simp [TermLay] at hj
    | i + 1, hi => simp at hi
theorem lit_pair (w : World) (x y : ByteArray) (T : TypeId) (hx : x.size ≤ maxLen) (hy : y.size ≤ maxLen) :
    Reads PairLay (w.alloc (.cells #[.string x, .string y] T)) (.slice (some ⟨w.heap.size, 0, none⟩) 1 1) [(x, y)] := by
  have hh := w.alloc_heap_new (.cells #[.string x, .string y] T)
  refine ⟨_, 1, rfl, Nat.le_refl _, by decide, rfl, (by decide : 1 ≤ maxLen), fun z hz => ?_, .inr ⟨w.heap.size, 0, rfl, by simp, fun i z j u hi hj => ?_⟩⟩
  · have : z = (x, y) := by simpa using hz
    subst this; exact ⟨hx, hy⟩
  · match i, hi with
    | 0, hi =>
      have hz : (x, y) = z := by simpa using hi
      subst hz
      match j, hj with
      | 0, hj => have : Value.string x = u := by simpa [PairLay] using hj
                 subst this; rw [Lib.cell_of_heap hh]; rfl
      | 1, hj => have : Value.string y = u := by simpa [PairLay] using hj
                 subst this; rw [Lib.cell_of_heap hh]; rfl
      | j + 2, hj => simp [PairLay] at hj
    | i + 1, hi => simp at hi

end Go.Proofs.YtmmjcomoabfmnaaDoor
