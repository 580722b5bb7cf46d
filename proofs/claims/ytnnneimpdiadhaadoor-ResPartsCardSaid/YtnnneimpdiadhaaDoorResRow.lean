/- What a law of vectors is told: its arguments, the library's variables. -/
import Derived.Test.YtnnneimpdiadhaaDoorResPre
import Derived.Test.YtnnneimpdiadhaaDoorRows
import Derived.WalkKit
import Derived.ProofKit
import Derived.OpenShut
import Derived.ChangeOld
import Derived.Below
import Derived.Deep.Slices
import Derived.Deep.Fields
import Derived.ChangeSame
import Derived.Lib.LaidTab
import Derived.Stop.LaidErr
import Derived.Stop.Joined
import Derived.Shelf.Vars
import Derived.MakeChecks
import Derived.LaidLaws
import Derived.RowKitTokens
namespace Go.Proofs.YtnnneimpdiadhaaDoor.Vec
open Go.ChangeShapes Go.WideShapes Go.ChangeAt Go.RowKit Go.Deep
set_option linter.unusedVariables false

theorem cells2 : Tryd.prog.cellsOf 38 = 2 := by kernel_rfl
theorem cellsE : Tryd.prog.cellsOf 130 = 1 := by kernel_rfl
theorem cellsS : Tryd.prog.cellsOf 9 = 1 := by kernel_rfl
theorem cellsI : Tryd.prog.cellsOf 2 = 1 := by kernel_rfl

set_option maxRecDepth 100000 in
/-- One amount, read: a name and a number. -/
theorem amount_of_trod {H : Type} {enc : TypeId × Value → H} {w : World} {base fuel : Nat} {sp : Nat → Bool} {held : Bool} {cs : List Value} {x : DataW H × List MemPlace} (h : DataW.trod enc Tryd.prog w base sp held fuel 38 cs = some x) :
    ∃ (s : ByteArray) (n : Int), cs = [.string s, .int .i64 n] ∧ s.size ≤ maxLen ∧ -9223372036854775808 ≤ n ∧ n ≤ 9223372036854775807 := by
  obtain ⟨ys, m, -, -, hlen, hyl, hf⟩ := DataW.trod_struct Tryd.underlying38 h
  rw [cells2] at hlen
  match cs, hlen with
  | [c0, c1], _ =>
    have h0 : DataW.trod enc Tryd.prog w base sp held m 9 (([c0, c1].drop 0).take (Tryd.prog.cellsOf 9)) = ys[0]? := hf 0 _ rfl
    have h1 : DataW.trod enc Tryd.prog w base sp held m 2 (([c0, c1].drop 1).take (Tryd.prog.cellsOf 2)) = ys[1]? := hf 1 _ rfl
    rw [cellsS] at h0
    rw [cellsI] at h1
    obtain ⟨y0, e0⟩ : ∃ y, ys[0]? = some y := ⟨_, List.getElem?_eq_getElem (by rw [hyl]; decide)⟩
    obtain ⟨y1, e1⟩ : ∃ y, ys[1]? = some y := ⟨_, List.getElem?_eq_getElem (by rw [hyl]; decide)⟩
    rw [e0] at h0
    rw [e1] at h1
    obtain ⟨s, q0, -, hs⟩ := DataW.trod_string Tryd.underlying9 h0
    obtain ⟨n, q1, -, hn⟩ := DataW.trod_int Tryd.underlying2 h1
    simp only [List.drop_zero, List.take_succ_cons, List.take_zero, List.cons.injEq, and_true, List.drop_succ_cons] at q0 q1
    subst q0; subst q1
    have := bounds_i64 hn
    exact ⟨s, n, rfl, hs, this.1, this.2⟩

theorem nm_left {l m : V} {i : Nat} (h : i < l.length) : nm (l ++ m) i = nm l i ∧ qn (l ++ m) i = qn l i := by
  unfold nm qn
  simp [List.getD, List.getElem?_append_left h]
theorem nm_last (l : V) (s : ByteArray) (n : Int) : nm (l ++ [(s, n)]) l.length = s ∧ qn (l ++ [(s, n)]) l.length = n := by
  unfold nm qn
  simp [List.getD]

/-- A vector that came in. -/
theorem reads_of_trod {H : Type} {enc : TypeId × Value → H} {w : World} {base fuel : Nat} {sp : Nat → Bool} {held : Bool} {v : Value} {x : DataW H × List MemPlace} (h : DataW.trod enc Tryd.prog w base sp held fuel 23 [v] = some x) :
    ∃ l, Reads w v l := by
  rcases open_slice Tryd.underlying23 h with ⟨hcs, -⟩ | ⟨a, len, cap, m, n, D, Pl, hcs, hb, hl, hm, hmm, hx, hi⟩
  · cases hcs; exact ⟨[], Reads.nil w⟩
  · cases hcs
    have hlm : len ≤ m := by rw [hmm]; split <;> omega
    have key : ∀ k, k ≤ len → ∃ l : V, l.length = k ∧ ∀ i, i < k → ((nm l i).size ≤ maxLen ∧ -9223372036854775808 ≤ qn l i ∧ qn l i ≤ 9223372036854775807) ∧
        w.cell? ((a.add (i * 2)).add 0) = some (.string (nm l i)) ∧ w.cell? ((a.add (i * 2)).add 1) = some (.int .i64 (qn l i)) := by
      intro k
      induction k with
      | zero => exact fun _ => ⟨[], rfl, fun i hi => absurd hi (by omega)⟩
      | succ k ih =>
        intro hk
        obtain ⟨l, e, hall⟩ := ih (by omega)
        obtain ⟨cs', hc, ht'⟩ := hi k (by omega)
        obtain ⟨s, q, rfl, b1, b2, b3⟩ := amount_of_trod ht'
        rw [cells2] at hc
        obtain ⟨-, -, hat⟩ := World.cells?_some hc
        refine ⟨l ++ [(s, q)], by simp [e], fun i hi => ?_⟩
        by_cases e2 : i = k
        · subst e2
          subst e
          rw [(nm_last l s q).1, (nm_last l s q).2]
          exact ⟨⟨b1, b2, b3⟩, hat 0 (by decide), hat 1 (by decide)⟩
        · rw [(nm_left (by omega)).1, (nm_left (by omega)).2]
          exact hall i (by omega)
    obtain ⟨l, e, hall⟩ := key len (Nat.le_refl _)
    subst e
    refine ⟨l, _, cap, rfl, hl, hm, rfl, Nat.le_trans hl hm, fun i hi => (hall i hi).1, ?_⟩
    by_cases h0 : l.length = 0
    · exact .inl h0
    · obtain ⟨b, off, spot⟩ := a
      have hc := (hall 0 (by omega)).2.1
      have hspot : spot = none := by simpa [Addr.add] using World.cell?_spot hc
      subst hspot
      have hcell : ∀ i, i < l.length → w.cell? ⟨b, off + i * 2, none⟩ = some (.string (nm l i)) ∧ w.cell? ⟨b, off + i * 2 + 1, none⟩ = some (.int .i64 (qn l i)) := fun i hi => by
        have c := (hall i hi).2
        by_cases hi0 : i = 0
        · subst hi0; simpa [Addr.add] using c
        · have h2 : ¬ i * 2 = 0 := by omega
          simpa [Addr.add, h2] using c
      exact .inr ⟨b, off, rfl, World.block_lt_of_cell? _ _ (hcell 0 (by omega)).1, hcell⟩

theorem star : "*" ++ "errors.errorString" = "*errors.errorString" := by decide
theorem rowError (u : TypeId) (h : Tryd.prog.typeName? 3 u = some "*errors.errorString") : u = 128 :=
  typeName_ptr_named (nm := "errors.errorString") (by rw [star]; kernel_rfl) (by kernel_rfl) (by decide) u (by rw [star]; exact h)
theorem pow_data : (Rows.laid_internal_strconv_uint64pow10 : DataW Unit) = Lib.tabData .u64 Lib.pow10Tab := by kernel_rfl
theorem rangeName : Tryd.prog.globalNamed "strconv.ErrRange" = some 7 := by kernel_rfl
/-- What the row's list and the world's shape give a walk. -/
theorem env_of {W : World} (hL : laidMetH Tryd.prog Rows.resFitsRow.laid W) (hS : W.ShapedOpen Tryd.prog) : EnvT W := by
  rw [MakeChecks.laidMetH_plain _ _ _ (by kernel_rfl)] at hL
  have h3 : laidMet Tryd.prog (("internal/strconv.uint64pow10", Rows.laid_internal_strconv_uint64pow10) :: _) W := hL.tail.tail
  rw [pow_data] at h3
  refine ⟨⟨?_, ?_⟩, ?_⟩
  · exact cell_of_shapedOpen_int (zero := #[.int .i64 0]) (t := 3) hS (of_decide_eq_true (by kernel_rfl)) (by kernel_rfl) rfl (by kernel_rfl) (by kernel_rfl) Tryd.underlying3
  · have h5 : laidMet Tryd.prog (("strconv.ErrRange", Rows.laid_strconv_ErrRange) :: _) W := hL.tail.tail.tail.tail
    unfold Rows.laid_strconv_ErrRange at h5
    obtain ⟨a, s, hv, -⟩ := laid_sentinel h5 rangeName (by kernel_rfl) Tryd.underlying56 rowError Tryd.underlying128 Tryd.underlying130 rfl rfl Tryd.underlying9 cellsE cellsS
    exact ⟨_, by simpa using World.var?_cell rangeName hv 0, .inr ⟨_, _, rfl⟩⟩
  · exact Lib.tabIs_of_head tabName (by kernel_rfl) Tryd.underlying103 Tryd.underlying70 (by kernel_rfl) (by kernel_rfl) h3

end Go.Proofs.YtnnneimpdiadhaaDoor.Vec
