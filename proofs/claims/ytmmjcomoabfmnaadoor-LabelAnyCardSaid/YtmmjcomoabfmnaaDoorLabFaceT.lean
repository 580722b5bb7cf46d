/- parseSel: the closure, the recovery, the face. -/
import Derived.Test.YtmmjcomoabfmnaaDoorLabParsedT
import Derived.Recover
import Derived.Defers
import Derived.Laws.Pointers
namespace Go.Proofs.YtmmjcomoabfmnaaDoor
open Go.RowKit
set_option linter.unusedVariables false

theorem caughtT_panicking (B : Nat) (q : Nat) (x y : Int) (w : World) (hq : w.cell? ⟨q, 0, none⟩ = some (.int .i64 y)) (hzq : w.frozen? ⟨q, 0, none⟩ = false) (hBq : B ≤ q) :
    CallsD Tryd.prog 58 #[.pointer (some ⟨q, 0, none⟩)] (.panicking [perr x]) w fun e u' w' =>
      e = .returned (.tuple #[]) ∧ u' = .panicking [{ perr x with recovered := true }] ∧ w'.cell? ⟨q, 0, none⟩ = some (.int .i64 x) ∧ Below B w w' := by
  have hta : ∀ W, (Instr.typeAssert (.iface 35 (.int .i64 x)) 20 35 false).run Tryd.prog W = .ok (.int .i64 x) W := fun _ => by kernel_rfl
  refine callsD_of_wpS Tryd.func58 rfl fun c₀ cs hu => ?_
  apply wpS_seq
  apply wpS_region
  simp [wpOpsS, go_sem, recoverD, hu, Tryd.ntmps58, Exit.thenS]
  apply wpS_seq
  apply wpS_region
  simp [wpOpsS, go_sem, recoverD, Exit.thenS]
  refine wpS_cond (t := true) (by simp [Act.eval, Array.replicate]) ?_
  simp only [if_true]
  refine wpS_of_wp ?_
  simp [Array.replicate]
  go_wp2
  simp [bodyPostS, results, Tryd.results58]
  exact ⟨World.cell?_setCell_same' _ _ _ (by rw [hq]; rfl), (Below.refl B w).setCell (p := ⟨q, 0, none⟩) hBq _⟩

theorem caughtT_idle (q : Addr) (w : World) :
    CallsD Tryd.prog 58 #[.pointer (some q)] .returning w fun e u' w' => e = .returned (.tuple #[]) ∧ u' = .returning ∧ w' = w := by
  refine callsD_of_wpS Tryd.func58 rfl fun c₀ cs hu => ?_
  apply wpS_seq
  apply wpS_region
  simp [wpOpsS, go_sem, recoverD, hu, Tryd.ntmps58, Exit.thenS]
  apply wpS_seq
  apply wpS_region
  simp [wpOpsS, go_sem, recoverD, hu, Exit.thenS]
  refine wpS_cond (t := false) (by simp [Act.eval, Array.replicate]) ?_
  simp only [Bool.false_eq_true, if_false]
  refine wpS_of_wp (wp_skip ?_)
  cases c₀
  simp_all [bodyPostS, results, Tryd.results58]

/-- What a call answers that recovers: a row and an error. -/
def DoneT (r : Int × TL) (w : World) (e : Ending) (w' : World) : Prop :=
  ∃ v, e = .returned (.tuple #[v, .int .i64 r.1]) ∧ Own TermLay 60 w' w.heap.size v r.2 ∧ Kept w w'

set_option maxHeartbeats 800000 in
theorem caughtT_any (C : Addr) (r : Int × TL) (w : World) (hr : r.1 ≠ 0 → r.2 = [])
    (hk : ∀ W, Kept w W → Calls Tryd.prog 45 #[.pointer (some C)] W (RowRes TermLay 60 r W.heap.size W)) :
    Calls Tryd.prog 44 #[.func (.func 45) #[] #[.pointer (some C)]] w (DoneT r w) := by
  have hmf : ∀ (fn : Fn) (first cap : Array Value) (w : World), (Instr.makeFunc fn first cap).run Tryd.prog w = .ok (.func fn first cap) w := fun _ _ _ _ => rfl
  have HK := Lib.hid hk
  have HR := Lib.hid hr
  clear hk hr
  obtain ⟨r1, r2⟩ := r
  go_enter_defers Tryd.func44, Tryd.ntmps44
  go_wp2_with fail
  refine (HK.out _ (kept_alloc _ _)).mono ?_
  rintro e1 w1 ⟨h0, h1, hb⟩
  have k1 := hb.size
  simp only [World.size_alloc] at k1
  have c2 := (hb.cell (p := ⟨w.heap.size, 0, none⟩) (by simp))
  have z2 := (hb.frozen (p := ⟨w.heap.size, 0, none⟩) (by simp))
  have e2' : w1.cell? ⟨w.heap.size, 0, none⟩ = some (.int .i64 0) := by rw [c2]; go_simp
  have y2 : w1.frozen? ⟨w.heap.size, 0, none⟩ = false := by rw [z2]; go_simp
  clear c2 z2
  have KB := Lib.hid (show Below w.heap.size w w1 from (kept_alloc w _).trans hb)
  by_cases hx : r1 = 0
  · subst hx
    obtain ⟨v, rfl, ho⟩ := h0 rfl
    have HO := Lib.hid ho
    obtain ⟨av, cv, rfl, _, _, _⟩ := ho.at_
    have hsz := World.size_alloc w (.cells #[.int .i64 0] 35)
    clear h0 h1 hb ho
    go_wp2_with fail
    refine leaves_cons (f := 58) (args := #[.pointer (some ⟨w.heap.size, 0, none⟩)]) (by simp) (by simp [go_sem]) ?_
    refine (caughtT_idle ⟨w.heap.size, 0, none⟩ _).mono ?_
    rintro e u' w'' ⟨rfl, rfl, rfl⟩
    simp [Leaves, settle, results, Tryd.results44, go_sem, e2']
    exact ⟨_, rfl, (HO.out.setCell_below (a := ⟨w.heap.size, 0, none⟩) (by simp) _).base_le (by simp), (KB.out.setCell (p := ⟨w.heap.size, 0, none⟩) (Nat.le_refl _) _)⟩
  · obtain rfl := h1 hx
    obtain rfl := HR.out hx
    clear h0 h1 hb
    go_wp2_with fail
    refine leaves_cons (f := 58) (args := #[.pointer (some ⟨w.heap.size, 0, none⟩)]) (by simp) (by simp [go_sem]) ?_
    refine (caughtT_panicking w.heap.size w.heap.size r1 0 _ e2' y2 (by omega)).mono ?_
    rintro e u' w'' ⟨rfl, rfl, q2, q3⟩
    simp [Leaves, settle, results, Tryd.results44, go_sem, q2]
    exact ⟨_, rfl, Own.nil _ _ _, KB.out.trans q3⟩

theorem parsedT_all (s : List UInt8) (w : World) (hE : Env w) (hs : s.length ≤ 1000000) :
    Calls Tryd.prog 46 #[.string (bytes s), .func (.func 47) #[] #[], .func (.func 16) #[] #[]] w (RowRes TermLay 60 (parsedT s) w.heap.size w) := by
  by_cases h : s = [45]
  · subst h; exact parsedT_dash w
  · exact parsedT_any s w hE hs h

theorem closureT (C : Addr) (s : List UInt8) (w : World) (h1 : w.cell? C = some (.string (bytes s))) (hE : Env w) (hs : s.length ≤ 1000000) :
    Calls Tryd.prog 45 #[.pointer (some C)] w (RowRes TermLay 60 (parsedT s) w.heap.size w) := by
  have HE := Lib.hid hE
  clear hE
  go_enter Tryd.func45, Tryd.ntmps45
  go_wp2_with fail
  refine (parsedT_all s _ HE.out hs).mono ?_
  rintro e w' ⟨g0, g1, k⟩
  by_cases hx : (parsedT s).1 = 0
  · obtain ⟨v, rfl, ho⟩ := g0 hx
    have HX := Lib.hid hx
    have HO := Lib.hid ho
    have HK := Lib.hid k
    clear g0 g1 hx ho k
    go_wp2
    go_ret
    exact RowRes.good HX.out HO.out HK.out
  · obtain rfl := g1 hx
    have HX := Lib.hid hx
    have HK := Lib.hid k
    clear g0 g1 hx k
    go_wp2
    exact ⟨rfl, RowRes.bad rfl HX.out HK.out⟩

set_option maxHeartbeats 800000 in
theorem parseSel_any (s : List UInt8) (w : World) (hE : Env w) (hs : s.length ≤ 1000000) :
    Calls Tryd.prog 26 #[.string (bytes s)] w (DoneT (parsedT s) w) := by
  have hmf : ∀ (fn : Fn) (first cap : Array Value) (w : World), (Instr.makeFunc fn first cap).run Tryd.prog w = .ok (.func fn first cap) w := fun _ _ _ _ => rfl
  have hC : ∀ W, Kept (w.alloc (.cells #[.string (bytes s)] 9)) W → Calls Tryd.prog 45 #[.pointer (some ⟨w.heap.size, 0, none⟩)] W (RowRes TermLay 60 (parsedT s) W.heap.size W) := by
    intro W k
    have c1 := k.cell (p := ⟨w.heap.size, 0, none⟩) (by simp)
    exact closureT ⟨w.heap.size, 0, none⟩ s W (by rw [c1]; go_simp) (hE.kept ((kept_alloc w _).trans k)) hs
  have HC := Lib.hid hC
  clear hC hE hs
  go_enter Tryd.func26, Tryd.ntmps26
  go_wp2_with fail
  refine (caughtT_any ⟨w.heap.size, 0, none⟩ (parsedT s) _ parsedG_none HC.out).mono ?_
  rintro e w' ⟨v, rfl, ho, k⟩
  have HO := Lib.hid ho
  have HK := Lib.hid k
  clear ho k
  go_wp2
  go_ret2
  exact ⟨v, rfl, HO.out.base_le (by simp), (kept_alloc w _).trans HK.out⟩

end Go.Proofs.YtmmjcomoabfmnaaDoor
