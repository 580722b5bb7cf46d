/- Package res's Parse: the closure, the recovery, the face. -/
import Derived.Test.YtnnneimpdiadhaaDoorResCatch
import Derived.Test.YtnnneimpdiadhaaDoorResParsed
namespace Go.Proofs.YtnnneimpdiadhaaDoor.Vec
open Go.RowKit
set_option linter.unusedVariables false

set_option maxHeartbeats 800000 in
theorem caught_parse (C : Addr) (r : Int × V) (w : World) (hr : r.1 ≠ 0 → r.2 = [])
    (hk : ∀ W, Kept w W → Calls Tryd.prog 36 #[.pointer (some C)] W (VecRes r W.heap.size W)) :
    Calls Tryd.prog 22 #[.func (.func 36) #[] #[.pointer (some C)]] w (Done r w) := by
  have hmf : ∀ (fn : Fn) (first cap : Array Value) (w : World), (Instr.makeFunc fn first cap).run Tryd.prog w = .ok (.func fn first cap) w := fun _ _ _ _ => rfl
  have HK := Lib.hid hk
  have HR := Lib.hid hr
  clear hk hr
  obtain ⟨r1, r2⟩ := r
  go_enter_defers Tryd.func22, Tryd.ntmps22
  go_wp2_with fail
  refine (HK.out _ (kept_alloc _ _)).mono ?_
  rintro e1 w1 ⟨h0, h1, hb⟩
  have k1 := hb.size
  simp only [World.size_alloc] at k1
  have c2 := (hb.cell (p := ⟨w.heap.size, 0, none⟩) (by simp))
  have z2 := (hb.frozen (p := ⟨w.heap.size, 0, none⟩) (by simp))
  have e2' : w1.cell? ⟨w.heap.size, 0, none⟩ = some (.int .i64 0) := by rw [c2]; go_simp
  have y2 : w1.frozen? ⟨w.heap.size, 0, none⟩ = false := by rw [z2]; go_simp
  clear c2 z2
  have KB := Lib.hid (show Below w.heap.size w w1 from (kept_alloc w _).trans hb)
  by_cases hx : r1 = 0
  · subst hx
    obtain ⟨v, rfl, ho⟩ := h0 rfl
    have HO := Lib.hid ho
    obtain ⟨av, cv, rfl, _, _, _⟩ := ho.at_
    have hsz := World.size_alloc w (.cells #[.int .i64 0] 29)
    clear h0 h1 hb ho
    go_wp2_with fail
    refine leaves_cons (f := 42) (args := #[.pointer (some ⟨w.heap.size, 0, none⟩)]) (by simp) (by simp [go_sem]) ?_
    refine (caught_idle ⟨w.heap.size, 0, none⟩ _).mono ?_
    rintro e u' w'' ⟨rfl, rfl, rfl⟩
    simp [Leaves, settle, results, Tryd.results22, go_sem, e2']
    exact ⟨_, rfl, (HO.out.setCell_below (a := ⟨w.heap.size, 0, none⟩) (by simp) _).base_le (by simp), KB.out.setCell (p := ⟨w.heap.size, 0, none⟩) (Nat.le_refl _) _⟩
  · obtain rfl := h1 hx
    obtain rfl := HR.out hx
    clear h0 h1 hb
    go_wp2_with fail
    refine leaves_cons (f := 42) (args := #[.pointer (some ⟨w.heap.size, 0, none⟩)]) (by simp) (by simp [go_sem]) ?_
    refine (caught_panicking w.heap.size w.heap.size r1 0 _ e2' y2 (by omega)).mono ?_
    rintro e u' w'' ⟨rfl, rfl, q2, q3⟩
    simp [Leaves, settle, results, Tryd.results22, go_sem, q2]
    exact ⟨_, rfl, OwnV.nil _ _ _, KB.out.trans q3⟩

theorem parsed_none (s : List UInt8) : (parsedV s).1 ≠ 0 → (parsedV s).2 = [] := by
  unfold parsedV
  split
  · exact fun _ => rfl
  · split
    · exact fun _ => rfl
    · split
      · exact fun _ => rfl
      · exact fun h => absurd rfl h

theorem closure_parse (C : Addr) (s : List UInt8) (w : World) (h1 : w.cell? C = some (.string (bytes s))) (hE : Env w) (hs : s.length ≤ 1000000) :
    Calls Tryd.prog 36 #[.pointer (some C)] w (VecRes (parsedV s) w.heap.size w) := by
  have HE := Lib.hid hE
  clear hE
  go_enter Tryd.func36, Tryd.ntmps36
  go_wp2_with fail
  refine (parsed_any s _ HE.out hs).mono ?_
  rintro e w' ⟨g0, g1, k⟩
  by_cases hx : (parsedV s).1 = 0
  · obtain ⟨v, rfl, ho⟩ := g0 hx
    have HX := Lib.hid hx
    have HO := Lib.hid ho
    have HK := Lib.hid k
    clear g0 g1 hx ho k
    go_wp2
    go_ret
    exact VecRes.good HX.out HO.out HK.out
  · obtain rfl := g1 hx
    have HX := Lib.hid hx
    have HK := Lib.hid k
    clear g0 g1 hx k
    go_wp2
    exact ⟨rfl, VecRes.bad rfl HX.out HK.out⟩

/-- Parse. -/
def parseV (s : List UInt8) : Int × V := if s = [45] then (0, []) else parsedV s

set_option maxHeartbeats 800000 in
theorem parse_any (s : List UInt8) (w : World) (hE : Env w) (hs : s.length ≤ 1000000) :
    Calls Tryd.prog 17 #[.string (bytes s)] w (Done (parseV s) w) := by
  by_cases hd : s = [45]
  · have HV := Lib.hid (show parseV s = (0, []) by unfold parseV; rw [if_pos hd])
    have e : ((bytes s).toList == [45]) = true := by rw [hd, Lib.toList_data]; rfl
    clear hE hs hd
    go_enter Tryd.func17, Tryd.ntmps17
    go_wp2
    go_ret2
    exact ⟨_, by rw [HV.out]; rfl, by rw [HV.out]; exact OwnV.nil _ _ _, kept_alloc _ _⟩
  · have HV := Lib.hid (show parseV s = parsedV s by unfold parseV; rw [if_neg hd])
    have e : ((bytes s).toList == [45]) = false := by
      rw [Lib.toList_data]
      show (s.toArray.toList == [45]) = false
      simpa using hd
    have hmf : ∀ (fn : Fn) (first cap : Array Value) (w : World), (Instr.makeFunc fn first cap).run Tryd.prog w = .ok (.func fn first cap) w := fun _ _ _ _ => rfl
    have hC : ∀ W, Kept (w.alloc (.cells #[.string (bytes s)] 9)) W → Calls Tryd.prog 36 #[.pointer (some ⟨w.heap.size, 0, none⟩)] W (VecRes (parsedV s) W.heap.size W) := by
      intro W k
      have c1 := k.cell (p := ⟨w.heap.size, 0, none⟩) (by simp)
      exact closure_parse ⟨w.heap.size, 0, none⟩ s W (by rw [c1]; go_simp) (hE.kept ((kept_alloc w _).trans k)) hs
    have HC := Lib.hid hC
    clear hC hE hs hd
    go_enter Tryd.func17, Tryd.ntmps17
    go_wp2_with fail
    refine (caught_parse ⟨w.heap.size, 0, none⟩ (parsedV s) _ (parsed_none s) HC.out).mono ?_
    rintro e w' ⟨v, rfl, ho, k⟩
    have HO := Lib.hid ho
    have HK := Lib.hid k
    clear ho k
    go_wp2
    go_ret2
    exact ⟨v, by rw [HV.out]; rfl, by rw [HV.out]; exact HO.out.base_le (by simp), (kept_alloc w _).trans HK.out⟩

end Go.Proofs.YtnnneimpdiadhaaDoor.Vec
