/- The deferred function that recovers what goes out of the work by a panic. -/
import Derived.Test.YtfdjdaoppppbkaaDoorResMergeMath
import Derived.Recover
import Derived.Defers
import Derived.Laws.Pointers
namespace Go.Proofs.YtfdjdaoppppbkaaDoor
open Go.RowKit
set_option linter.unusedVariables false

/-- Behind it: no vector, the error. -/
def CaughtW (B : Nat) (p q : Addr) (x : Int) (w w' : World) : Prop := w'.cell? p = some (.slice none 0 0) ∧ w'.cell? q = some (.int .i64 x) ∧ Below B w w'

theorem caughtW_mk {B p q : Nat} {x : Int} {vp : Value} {y : Int} {w : World} (hp : w.cell? ⟨p, 0, none⟩ = some vp) (hv : vp.oneCell' = true)
    (hq : w.cell? ⟨q, 0, none⟩ = some (.int .i64 y)) (hpq : p ≠ q) (hBp : B ≤ p) (hBq : B ≤ q) :
    CaughtW B ⟨p, 0, none⟩ ⟨q, 0, none⟩ x w ((w.setCell ⟨p, 0, none⟩ (.slice none 0 0)).setCell ⟨q, 0, none⟩ (.int .i64 x)).drew := by
  refine ⟨?_, ?_, (((Below.refl B w).setCell (p := ⟨p, 0, none⟩) hBp _).setCell (p := ⟨q, 0, none⟩) hBq _).drew⟩
  · show ((w.setCell ⟨p, 0, none⟩ (.slice none 0 0)).setCell ⟨q, 0, none⟩ (.int .i64 x)).cell? ⟨p, 0, none⟩ = _
    rw [World.cell?_setCell_other _ _ _ _ (by intro e; injection e with e; exact hpq e.symm)]
    exact World.cell?_setCell_same' _ _ _ (by rw [hp]; rfl)
  · show ((w.setCell ⟨p, 0, none⟩ (.slice none 0 0)).setCell ⟨q, 0, none⟩ (.int .i64 x)).cell? ⟨q, 0, none⟩ = _
    refine World.cell?_setCell_same' _ _ _ ?_
    rw [World.cell?_setCell_other _ _ _ _ (by intro e; injection e with e; exact hpq e), hq]
    rfl

theorem caught_panicking (B : Nat) (p q : Nat) (x : Int) (vp : Value) (y : Int) (w : World) (hp : w.cell? ⟨p, 0, none⟩ = some vp) (hzp : w.frozen? ⟨p, 0, none⟩ = false) (hv : vp.oneCell' = true)
    (hq : w.cell? ⟨q, 0, none⟩ = some (.int .i64 y)) (hzq : w.frozen? ⟨q, 0, none⟩ = false) (hpq : p ≠ q) (hBp : B ≤ p) (hBq : B ≤ q) :
    CallsD Tryd.prog 42 #[.pointer (some ⟨p, 0, none⟩), .pointer (some ⟨q, 0, none⟩)] (.panicking [perr x]) w fun e u' w' =>
      e = .returned (.tuple #[]) ∧ u' = .panicking [{ perr x with recovered := true }] ∧ CaughtW B ⟨p, 0, none⟩ ⟨q, 0, none⟩ x w w' := by
  have hta : ∀ W, (Instr.typeAssert (.iface 29 (.int .i64 x)) 20 29 false).run Tryd.prog W = .ok (.int .i64 x) W := fun _ => by kernel_rfl
  refine callsD_of_wpS Tryd.func42 rfl fun c₀ cs hu => ?_
  apply wpS_seq
  apply wpS_region
  simp [wpOpsS, go_sem, recoverD, hu, Tryd.ntmps42, Exit.thenS]
  apply wpS_seq
  apply wpS_region
  simp [wpOpsS, go_sem, recoverD, Exit.thenS]
  refine wpS_cond (t := true) (by simp [Act.eval, Array.replicate]) ?_
  simp only [if_true]
  refine wpS_of_wp ?_
  simp [Array.replicate]
  go_region
  simp [bodyPostS, results, Tryd.results42]
  exact caughtW_mk hp hv hq hpq hBp hBq

theorem caught_idle (p q : Addr) (w : World) :
    CallsD Tryd.prog 42 #[.pointer (some p), .pointer (some q)] .returning w fun e u' w' => e = .returned (.tuple #[]) ∧ u' = .returning ∧ w' = w := by
  refine callsD_of_wpS Tryd.func42 rfl fun c₀ cs hu => ?_
  apply wpS_seq
  apply wpS_region
  simp [wpOpsS, go_sem, recoverD, hu, Tryd.ntmps42, Exit.thenS]
  apply wpS_seq
  apply wpS_region
  simp [wpOpsS, go_sem, recoverD, hu, Exit.thenS]
  refine wpS_cond (t := false) (by simp [Act.eval, Array.replicate]) ?_
  simp only [Bool.false_eq_true, if_false]
  refine wpS_of_wp (wp_skip ?_)
  cases c₀
  simp_all [bodyPostS, results, Tryd.results42]

theorem OwnV.base_le {e : TypeId} {w : World} {B B' : Nat} {v : Value} {l : V} (h : OwnV e w B' v l) (hb : B ≤ B') : OwnV e w B v l := by
  obtain ⟨⟨h0, h1⟩, hf⟩ := h
  refine ⟨⟨h0, h1.imp id ?_⟩, hf⟩
  rintro ⟨g, cap, cur, rfl, hbg, rest⟩
  exact ⟨g, cap, cur, rfl, Nat.le_trans hb hbg, rest⟩
theorem OwnV.setCell_below {e : TypeId} {w : World} {B : Nat} {v : Value} {l : V} (h : OwnV e w B v l) {a : Addr} (ha : a.block < B) (u : Value) : OwnV e (w.setCell a u) B v l :=
  ⟨ownsRow_setCell_below h.1 ha u, h.2⟩

theorem kept_two (w : World) (o o' : Obj) : Kept w ((w.alloc o).alloc o') := (kept_alloc w o).trans (kept_alloc _ o')

/-- What a call answers that recovers: a vector and an error. -/
def Done (r : Int × V) (w : World) (e : Ending) (w' : World) : Prop :=
  ∃ v, e = .returned (.tuple #[v, .int .i64 r.1]) ∧ OwnV 38 w' w.heap.size v r.2 ∧ Kept w w'

end Go.Proofs.YtfdjdaoppppbkaaDoor
