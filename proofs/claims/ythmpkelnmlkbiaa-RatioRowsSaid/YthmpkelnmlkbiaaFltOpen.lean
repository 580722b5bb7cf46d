/- A slice of floats among the arguments, opened: a row of floats. -/
import Derived.Test.YthmpkelnmlkbiaaFltRow
import Derived.ChangeArms
import Derived.ChangeSlices
namespace Go.Proofs.Ythmpkelnmlkbiaa
open Go.RowKit Go.ChangeShapes Go.WideShapes
set_option linter.unusedVariables false

theorem trod_float_cells {H : Type} {enc : TypeId × Value → H} {P : Program} {w : World} {base fuel : Nat} {spare : Nat → Bool} {held : Bool} {t : TypeId} {cs : List Value} {x : DataW H × List MemPlace}
    (ht : P.underlying t = some (.float .f64)) (h : DataW.trod enc P w base spare held fuel t cs = some x) : ∃ b, cs = [.float .f64 b] ∧ (Lit.float .f64 b).wf = true := by
  cases fuel with
  | zero => simp [DataW.trod] at h
  | succ n =>
    unfold DataW.trod at h
    rw [ht] at h
    split at h <;> simp_all

theorem cells_float : Try.prog.cellsOf 22 = 1 := by kernel_rfl

theorem frow_of_trod {H : Type} {enc : TypeId × Value → H} {w : World} {base : Nat} {spare : Nat → Bool} {held : Bool} {a : Option Addr} {len cap : Nat} {d : DataW H} {ps : List MemPlace}
    (h : DataW.Trod enc Try.prog w base spare held 31 (.slice a len cap) d ps) : ∃ z, FRow w a len z := by
  obtain ⟨fuel, hf⟩ := h
  rcases DataW.trod_slice Try.underlying31 hf with ⟨h0, _⟩ | ⟨x, l2, c2, elems, rest, n, _, h0, _, hb, hl, hm, hlen, hel, _, _⟩
  · simp [Value.cells] at h0
    obtain ⟨rfl, rfl, rfl⟩ := h0
    exact ⟨[], rfl, by decide, by simp, .inl rfl⟩
  · simp [Value.cells] at h0
    obtain ⟨rfl, rfl, rfl⟩ := h0
    have each : ∀ i, i < len → ∃ b, w.cell? (x.add i) = some (.float .f64 b) ∧ (Lit.float .f64 b).wf = true := by
      intro i hi
      have he := hel i hi
      rw [List.getElem?_eq_getElem (by omega), cells_float, Nat.mul_one, Option.bind_eq_some_iff] at he
      obtain ⟨cs', hcs, hy'⟩ := he
      obtain ⟨b, rfl, hw⟩ := trod_float_cells Try.underlying22 hy'
      exact ⟨b, cell_of_cells?_one hcs, hw⟩
    by_cases hz : len = 0
    · subst hz; exact ⟨[], rfl, by decide, by simp, .inl rfl⟩
    · obtain ⟨f, hf⟩ : ∃ f : Nat → Nat, ∀ i, i < len → w.cell? (x.add i) = some (.float .f64 (f i)) ∧ (Lit.float .f64 (f i)).wf = true :=
        ⟨fun i => if h : i < len then Classical.choose (each i h) else 0, fun i hi => by simp only [dif_pos hi]; exact Classical.choose_spec (each i hi)⟩
      obtain ⟨b, off, spot⟩ := x
      have hc := (hf 0 (by omega)).1
      have hspot : spot = none := by simpa [Addr.add] using World.cell?_spot hc
      subst hspot
      refine ⟨(List.range len).map f, by simp, Nat.le_trans hl hm, fun y hy => ?_, .inr ⟨b, off, rfl, World.block_lt_of_cell? _ _ hc, fun i hi => ?_⟩⟩
      · obtain ⟨i, hi, rfl⟩ := List.mem_map.1 hy
        have := (hf i (by simpa using hi)).2
        simpa [Lit.wf] using this
      · have := (hf i hi).1
        have e : ((List.range len).map f).getD i 0 = f i := by simp [List.getD, hi]
        rw [e]
        by_cases hi0 : i = 0
        · subst hi0; simpa [Addr.add] using this
        · simpa [Addr.add, hi0] using this

end Go.Proofs.Ythmpkelnmlkbiaa
