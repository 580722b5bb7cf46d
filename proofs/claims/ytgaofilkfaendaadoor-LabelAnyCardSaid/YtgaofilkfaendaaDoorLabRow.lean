/- What a law of labels is told: its arguments, the library's variables. -/
import Derived.Test.YtgaofilkfaendaaDoorLabReads
import Derived.Test.YtgaofilkfaendaaDoorRows
import Derived.WalkKit
import Derived.ProofKit
import Derived.OpenShut
import Derived.ChangeOld
import Derived.ChangeMaps5
import Derived.Below
import Derived.Deep.Slices
import Derived.Deep.Fields
import Derived.ChangeSame
import Derived.Lib.LaidTab
import Derived.Stop.Joined
import Derived.Shelf.Vars
import Derived.MakeChecks
import Derived.LaidLaws
import Derived.RowKitTokens
namespace Go.Proofs.YtgaofilkfaendaaDoor
open Go.ChangeShapes Go.WideShapes Go.ChangeAt Go.RowKit Go.Deep
set_option linter.unusedVariables false

theorem cellsP : Tryd.prog.cellsOf 63 = 2 := by kernel_rfl
theorem cellsT : Tryd.prog.cellsOf 60 = 3 := by kernel_rfl
theorem cellsS : Tryd.prog.cellsOf 9 = 1 := by kernel_rfl
theorem cellsI : Tryd.prog.cellsOf 3 = 1 := by kernel_rfl

set_option maxRecDepth 100000 in
/-- One pair, read. -/
theorem pair_of_trod {H : Type} {enc : TypeId × Value → H} {w : World} {base fuel : Nat} {sp : Nat → Bool} {held : Bool} {cs : List Value} {x : DataW H × List MemPlace} (h : DataW.trod enc Tryd.prog w base sp held fuel 63 cs = some x) :
    ∃ a : ByteArray × ByteArray, cs = PairLay.cs a ∧ PairLay.fine a := by
  obtain ⟨ys, m, -, -, hlen, hyl, hf⟩ := DataW.trod_struct Tryd.underlying63 h
  rw [cellsP] at hlen
  match cs, hlen with
  | [c0, c1], _ =>
    have h0 : DataW.trod enc Tryd.prog w base sp held m 9 (([c0, c1].drop 0).take (Tryd.prog.cellsOf 9)) = ys[0]? := hf 0 _ rfl
    have h1 : DataW.trod enc Tryd.prog w base sp held m 9 (([c0, c1].drop 1).take (Tryd.prog.cellsOf 9)) = ys[1]? := hf 1 _ rfl
    rw [cellsS] at h0 h1
    obtain ⟨y0, e0⟩ : ∃ y, ys[0]? = some y := ⟨_, List.getElem?_eq_getElem (by rw [hyl]; decide)⟩
    obtain ⟨y1, e1⟩ : ∃ y, ys[1]? = some y := ⟨_, List.getElem?_eq_getElem (by rw [hyl]; decide)⟩
    rw [e0] at h0
    rw [e1] at h1
    obtain ⟨s, q0, -, hs⟩ := DataW.trod_string Tryd.underlying9 h0
    obtain ⟨t, q1, -, ht⟩ := DataW.trod_string Tryd.underlying9 h1
    simp only [List.drop_zero, List.take_succ_cons, List.take_zero, List.cons.injEq, and_true, List.drop_succ_cons] at q0 q1
    subst q0; subst q1
    exact ⟨(s, t), rfl, hs, ht⟩

set_option maxRecDepth 100000 in
/-- One term, read. -/
theorem term_of_trod {H : Type} {enc : TypeId × Value → H} {w : World} {base fuel : Nat} {sp : Nat → Bool} {held : Bool} {cs : List Value} {x : DataW H × List MemPlace} (h : DataW.trod enc Tryd.prog w base sp held fuel 60 cs = some x) :
    ∃ a : Int × ByteArray × ByteArray, cs = TermLay.cs a ∧ TermLay.fine a := by
  obtain ⟨ys, m, -, -, hlen, hyl, hf⟩ := DataW.trod_struct Tryd.underlying60 h
  rw [cellsT] at hlen
  match cs, hlen with
  | [c0, c1, c2], _ =>
    have h0 : DataW.trod enc Tryd.prog w base sp held m 3 (([c0, c1, c2].drop 0).take (Tryd.prog.cellsOf 3)) = ys[0]? := hf 0 _ rfl
    have h1 : DataW.trod enc Tryd.prog w base sp held m 9 (([c0, c1, c2].drop 1).take (Tryd.prog.cellsOf 9)) = ys[1]? := hf 1 _ rfl
    have h2 : DataW.trod enc Tryd.prog w base sp held m 9 (([c0, c1, c2].drop 2).take (Tryd.prog.cellsOf 9)) = ys[2]? := hf 2 _ rfl
    rw [cellsS] at h1 h2
    rw [cellsI] at h0
    obtain ⟨y0, e0⟩ : ∃ y, ys[0]? = some y := ⟨_, List.getElem?_eq_getElem (by rw [hyl]; decide)⟩
    obtain ⟨y1, e1⟩ : ∃ y, ys[1]? = some y := ⟨_, List.getElem?_eq_getElem (by rw [hyl]; decide)⟩
    obtain ⟨y2, e2⟩ : ∃ y, ys[2]? = some y := ⟨_, List.getElem?_eq_getElem (by rw [hyl]; decide)⟩
    rw [e0] at h0
    rw [e1] at h1
    rw [e2] at h2
    obtain ⟨n, q0, -, hn⟩ := DataW.trod_int Tryd.underlying3 h0
    obtain ⟨s, q1, -, hs⟩ := DataW.trod_string Tryd.underlying9 h1
    obtain ⟨t, q2, -, ht⟩ := DataW.trod_string Tryd.underlying9 h2
    simp only [List.drop_zero, List.take_succ_cons, List.take_zero, List.cons.injEq, and_true, List.drop_succ_cons] at q0 q1 q2
    subst q0; subst q1; subst q2
    exact ⟨(n, s, t), rfl, bounds_i64 hn, hs, ht⟩

/-- A row that came in. -/
theorem reads_of_trod {α : Type} (L : Lay α) {t e : TypeId} (ht : Tryd.prog.underlying t = some (.slice e)) (hc : Tryd.prog.cellsOf e = L.m) {H : Type} {enc : TypeId × Value → H} {w : World} {base fuel : Nat} {sp : Nat → Bool} {held : Bool} {v : Value} {x : DataW H × List MemPlace}
    (el : ∀ (m : Nat) (cs : List Value) (x : DataW H × List MemPlace), DataW.trod enc Tryd.prog w base sp held m e cs = some x → ∃ a, cs = L.cs a ∧ L.fine a)
    (h : DataW.trod enc Tryd.prog w base sp held fuel t [v] = some x) : ∃ l, Reads L w v l := by
  rcases open_slice ht h with ⟨hcs, -⟩ | ⟨a, len, cap, m, n, D, Pl, hcs, hb, hl, hm, hmm, hx, hi⟩
  · cases hcs; exact ⟨[], Reads.nil w⟩
  · cases hcs
    have hlm : len ≤ m := by rw [hmm]; split <;> omega
    have key : ∀ k, k ≤ len → ∃ l : List α, l.length = k ∧ (∀ z ∈ l, L.fine z) ∧ ∀ i z j u, l[i]? = some z → (L.cs z)[j]? = some u → w.cell? ((a.add (i * L.m)).add j) = some u := by
      intro k
      induction k with
      | zero => exact fun _ => ⟨[], rfl, (fun z hz => by cases hz), (fun i z j u hi _ => by simp at hi)⟩
      | succ k ih =>
        intro hk
        obtain ⟨l, e, hfine, hall⟩ := ih (by omega)
        obtain ⟨cs', hcc, ht'⟩ := hi k (by omega)
        obtain ⟨z0, rfl, hz0⟩ := el _ _ _ ht'
        rw [hc] at hcc
        obtain ⟨-, -, hat⟩ := World.cells?_some hcc
        refine ⟨l ++ [z0], by simp [e], fun z hz => ?_, fun i z j u hi' hj => ?_⟩
        · rcases List.mem_append.1 hz with g | g
          · exact hfine z g
          · have : z = z0 := by simpa using g
            rw [this]; exact hz0
        · by_cases e2 : i = k
          · subst e2
            have : z0 = z := by simpa [e] using hi'
            subst this
            have hjl : j < L.m := by have := (List.getElem?_eq_some_iff.1 hj).1; rw [L.len] at this; exact this
            rw [hat j hjl]; exact hj
          · have hik : i < l.length := by have := (List.getElem?_eq_some_iff.1 hi').1; simp at this; omega
            rw [List.getElem?_append_left hik] at hi'
            exact hall i z j u hi' hj
    obtain ⟨l, e, hfine, hall⟩ := key len (Nat.le_refl _)
    subst e
    refine ⟨l, _, cap, rfl, hl, hm, rfl, Nat.le_trans hl hm, hfine, ?_⟩
    by_cases h0 : l.length = 0
    · exact .inl h0
    · obtain ⟨b, off, spot⟩ := a
      have hg : l[0]? = some (l[0]'(by omega)) := List.getElem?_eq_getElem (by omega)
      have hlz := L.len (l[0]'(by omega))
      have hcz : (L.cs (l[0]'(by omega)))[0]? = some ((L.cs (l[0]'(by omega)))[0]'(by rw [hlz]; exact L.pos)) := List.getElem?_eq_getElem (by rw [hlz]; exact L.pos)
      have hcell0 := hall 0 _ 0 _ hg hcz
      have hspot : spot = none := by simpa [Addr.add] using World.cell?_spot hcell0
      subst hspot
      have hcell : ∀ i z j u, l[i]? = some z → (L.cs z)[j]? = some u → w.cell? ⟨b, off + i * L.m + j, none⟩ = some u := fun i z j u hi' hj => by
        have c := hall i z j u hi' hj
        have e : ((⟨b, off, none⟩ : Addr).add (i * L.m)).add j = ⟨b, off + i * L.m + j, none⟩ := by
          unfold Addr.add
          split <;> split <;> simp_all
        rw [e] at c; exact c
      exact .inr ⟨b, off, rfl, World.block_lt_of_cell? _ _ (hcell 0 _ 0 _ hg hcz), hcell⟩

theorem set_of_trod {H : Type} {enc : TypeId × Value → H} {w : World} {base fuel : Nat} {sp : Nat → Bool} {held : Bool} {v : Value} {x : DataW H × List MemPlace} (h : DataW.trod enc Tryd.prog w base sp held fuel 23 [v] = some x) : ∃ l, Reads PairLay w v l :=
  reads_of_trod PairLay Tryd.underlying23 cellsP (fun _ _ _ h => pair_of_trod h) h
theorem sel_of_trod {H : Type} {enc : TypeId × Value → H} {w : World} {base fuel : Nat} {sp : Nat → Bool} {held : Bool} {v : Value} {x : DataW H × List MemPlace} (h : DataW.trod enc Tryd.prog w base sp held fuel 25 [v] = some x) : ∃ l, Reads TermLay w v l :=
  reads_of_trod TermLay Tryd.underlying25 cellsT (fun _ _ _ h => term_of_trod h) h

/-- What the world's shape gives a walk. -/
theorem env_of {W : World} (hS : W.ShapedOpen Tryd.prog) : Env W :=
  ⟨cell_of_shapedOpen_int (zero := #[.int .i64 0]) (t := 3) hS (of_decide_eq_true (by kernel_rfl)) (by kernel_rfl) rfl (by kernel_rfl) (by kernel_rfl) Tryd.underlying3⟩

end Go.Proofs.YtgaofilkfaendaaDoor
