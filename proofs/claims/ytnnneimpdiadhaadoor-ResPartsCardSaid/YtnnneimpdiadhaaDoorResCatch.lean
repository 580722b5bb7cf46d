/- The deferred function that recovers what goes out of the work by a panic. -/
import Derived.Test.YtnnneimpdiadhaaDoorResMergeMath
import Derived.Recover
import Derived.Defers
import Derived.Laws.Pointers
namespace Go.Proofs.YtnnneimpdiadhaaDoor.Vec
open Go.RowKit
set_option linter.unusedVariables false

theorem caught_panicking (B : Nat) (q : Nat) (x y : Int) (w : World) (hq : w.cell? ⟨q, 0, none⟩ = some (.int .i64 y)) (hzq : w.frozen? ⟨q, 0, none⟩ = false) (hBq : B ≤ q) :
    CallsD Tryd.prog 42 #[.pointer (some ⟨q, 0, none⟩)] (.panicking [perr x]) w fun e u' w' =>
      e = .returned (.tuple #[]) ∧ u' = .panicking [{ perr x with recovered := true }] ∧ w'.cell? ⟨q, 0, none⟩ = some (.int .i64 x) ∧ Below B w w' := by
  have hta : ∀ W, (Instr.typeAssert (.iface 29 (.int .i64 x)) 20 29 false).run Tryd.prog W = .ok (.int .i64 x) W := fun _ => by kernel_rfl
  refine callsD_of_wpS Tryd.func42 rfl fun c₀ cs hu => ?_
  apply wpS_seq
  apply wpS_region
  simp [wpOpsS, go_sem, recoverD, hu, Tryd.ntmps42, Exit.thenS]
  apply wpS_seq
  apply wpS_region
  simp [wpOpsS, go_sem, recoverD, Exit.thenS]
  refine wpS_cond (t := true) (by simp [Act.eval, Array.replicate]) ?_
  simp only [if_true]
  refine wpS_of_wp ?_
  simp [Array.replicate]
  go_wp2
  simp [bodyPostS, results, Tryd.results42]
  exact ⟨World.cell?_setCell_same' _ _ _ (by rw [hq]; rfl), (Below.refl B w).setCell (p := ⟨q, 0, none⟩) hBq _⟩

theorem caught_idle (q : Addr) (w : World) :
    CallsD Tryd.prog 42 #[.pointer (some q)] .returning w fun e u' w' => e = .returned (.tuple #[]) ∧ u' = .returning ∧ w' = w := by
  refine callsD_of_wpS Tryd.func42 rfl fun c₀ cs hu => ?_
  apply wpS_seq
  apply wpS_region
  simp [wpOpsS, go_sem, recoverD, hu, Tryd.ntmps42, Exit.thenS]
  apply wpS_seq
  apply wpS_region
  simp [wpOpsS, go_sem, recoverD, hu, Exit.thenS]
  refine wpS_cond (t := false) (by simp [Act.eval, Array.replicate]) ?_
  simp only [Bool.false_eq_true, if_false]
  refine wpS_of_wp (wp_skip ?_)
  cases c₀
  simp_all [bodyPostS, results, Tryd.results42]

theorem OwnV.base_le {e : TypeId} {w : World} {B B' : Nat} {v : Value} {l : V} (h : OwnV e w B' v l) (hb : B ≤ B') : OwnV e w B v l := by
  obtain ⟨⟨h0, h1⟩, hf⟩ := h
  refine ⟨⟨h0, h1.imp id ?_⟩, hf⟩
  rintro ⟨g, cap, cur, rfl, hbg, rest⟩
  exact ⟨g, cap, cur, rfl, Nat.le_trans hb hbg, rest⟩
theorem OwnV.setCell_below {e : TypeId} {w : World} {B : Nat} {v : Value} {l : V} (h : OwnV e w B v l) {a : Addr} (ha : a.block < B) (u : Value) : OwnV e (w.setCell a u) B v l :=
  ⟨ownsRow_setCell_below h.1 ha u, h.2⟩

/-- What a call answers that recovers: a vector and an error. -/
def Done (r : Int × V) (w : World) (e : Ending) (w' : World) : Prop :=
  ∃ v, e = .returned (.tuple #[v, .int .i64 r.1]) ∧ OwnV 38 w' w.heap.size v r.2 ∧ Kept w w'

end Go.Proofs.YtnnneimpdiadhaaDoor.Vec
