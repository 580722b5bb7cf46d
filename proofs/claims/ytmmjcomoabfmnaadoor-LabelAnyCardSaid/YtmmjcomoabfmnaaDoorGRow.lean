/- A row that came in; what the world's shape gives a walk. -/
import Derived.Test.YtmmjcomoabfmnaaDoorGStr
import Derived.Test.YtmmjcomoabfmnaaDoorRows
import Derived.WalkKit
import Derived.ProofKit
import Derived.OpenShut
import Derived.ChangeOld
import Derived.ChangeMaps5
import Derived.Below
import Derived.Deep.Slices
import Derived.Deep.Fields
import Derived.ChangeSame
import Derived.Lib.LaidTab
import Derived.Stop.Joined
import Derived.Shelf.Vars
import Derived.MakeChecks
import Derived.LaidLaws
import Derived.RowKitTokens
namespace Go.Proofs.YtmmjcomoabfmnaaDoor
open Go.ChangeShapes Go.WideShapes Go.ChangeAt Go.RowKit Go.Deep
set_option linter.unusedVariables false

theorem cellsS : Tryd.prog.cellsOf 9 = 1 := by kernel_rfl
/-- A row that came in. -/
theorem reads_of_trod {α : Type} (L : Lay α) {t e : TypeId} (ht : Tryd.prog.underlying t = some (.slice e)) (hc : Tryd.prog.cellsOf e = L.m) {H : Type} {enc : TypeId × Value → H} {w : World} {base fuel : Nat} {sp : Nat → Bool} {held : Bool} {v : Value} {x : DataW H × List MemPlace}
    (el : ∀ (m : Nat) (cs : List Value) (x : DataW H × List MemPlace), DataW.trod enc Tryd.prog w base sp held m e cs = some x → ∃ a, cs = L.cs a ∧ L.fine a)
    (h : DataW.trod enc Tryd.prog w base sp held fuel t [v] = some x) : ∃ l, Reads L w v l := by
  rcases open_slice ht h with ⟨hcs, -⟩ | ⟨a, len, cap, m, n, D, Pl, hcs, hb, hl, hm, hmm, hx, hi⟩
  · cases hcs; exact ⟨[], Reads.nil w⟩
  · cases hcs
    have hlm : len ≤ m := by rw [hmm]; split <;> omega
    have key : ∀ k, k ≤ len → ∃ l : List α, l.length = k ∧ (∀ z ∈ l, L.fine z) ∧ ∀ i z j u, l[i]? = some z → (L.cs z)[j]? = some u → w.cell? ((a.add (i * L.m)).add j) = some u := by
      intro k
      induction k with
      | zero => exact fun _ => ⟨[], rfl, (fun z hz => by cases hz), (fun i z j u hi _ => by simp at hi)⟩
      | succ k ih =>
        intro hk
        obtain ⟨l, e, hfine, hall⟩ := ih (by omega)
        obtain ⟨cs', hcc, ht'⟩ := hi k (by omega)
        obtain ⟨z0, rfl, hz0⟩ := el _ _ _ ht'
        rw [hc] at hcc
        obtain ⟨-, -, hat⟩ := World.cells?_some hcc
        refine ⟨l ++ [z0], by simp [e], fun z hz => ?_, fun i z j u hi' hj => ?_⟩
        · rcases List.mem_append.1 hz with g | g
          · exact hfine z g
          · have : z = z0 := by simpa using g
            rw [this]; exact hz0
        · by_cases e2 : i = k
          · subst e2
            have : z0 = z := by simpa [e] using hi'
            subst this
            have hjl : j < L.m := by have := (List.getElem?_eq_some_iff.1 hj).1; rw [L.len] at this; exact this
            rw [hat j hjl]; exact hj
          · have hik : i < l.length := by have := (List.getElem?_eq_some_iff.1 hi').1; simp at this; omega
            rw [List.getElem?_append_left hik] at hi'
            exact hall i z j u hi' hj
    obtain ⟨l, e, hfine, hall⟩ := key len (Nat.le_refl _)
    subst e
    refine ⟨l, _, cap, rfl, hl, hm, rfl, Nat.le_trans hl hm, hfine, ?_⟩
    by_cases h0 : l.length = 0
    · exact .inl h0
    · obtain ⟨b, off, spot⟩ := a
      have hg : l[0]? = some (l[0]'(by omega)) := List.getElem?_eq_getElem (by omega)
      have hlz := L.len (l[0]'(by omega))
      have hcz : (L.cs (l[0]'(by omega)))[0]? = some ((L.cs (l[0]'(by omega)))[0]'(by rw [hlz]; exact L.pos)) := List.getElem?_eq_getElem (by rw [hlz]; exact L.pos)
      have hcell0 := hall 0 _ 0 _ hg hcz
      have hspot : spot = none := by simpa [Addr.add] using World.cell?_spot hcell0
      subst hspot
      have hcell : ∀ i z j u, l[i]? = some z → (L.cs z)[j]? = some u → w.cell? ⟨b, off + i * L.m + j, none⟩ = some u := fun i z j u hi' hj => by
        have c := hall i z j u hi' hj
        have e : ((⟨b, off, none⟩ : Addr).add (i * L.m)).add j = ⟨b, off + i * L.m + j, none⟩ := by
          unfold Addr.add
          split <;> split <;> simp_all
        rw [e] at c; exact c
      exact .inr ⟨b, off, rfl, World.block_lt_of_cell? _ _ (hcell 0 _ 0 _ hg hcz), hcell⟩
/-- What the world's shape gives a walk. -/
theorem env_of {W : World} (hS : W.ShapedOpen Tryd.prog) : Env W :=
  ⟨cell_of_shapedOpen_int (zero := #[.int .i64 0]) (t := 3) hS (of_decide_eq_true (by kernel_rfl)) (by kernel_rfl) rfl (by kernel_rfl) (by kernel_rfl) Tryd.underlying3⟩

end Go.Proofs.YtmmjcomoabfmnaaDoor
