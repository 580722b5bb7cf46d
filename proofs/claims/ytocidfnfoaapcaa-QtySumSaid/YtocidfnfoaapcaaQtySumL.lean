/- QtySum: any numbers in all, or why not: package qty answers as the reference does. -/
import Derived.Test.YtocidfnfoaapcaaQtyKnown
import Derived.Test.YtocidfnfoaapcaaQtySumR
import Derived.OpenShut
namespace Go.Proofs.Ytocidfnfoaapcaa
open Go.RowKit
set_option linter.unusedVariables false

theorem row_of (w : World) (a : Option Addr) (len cap : Nat) (zs : List Int)
    (h : (a = none ∧ len = 0 ∧ cap = 0 ∧ zs = []) ∨ ∃ x, a = some x ∧ len ≤ cap ∧ cap ≤ maxLen ∧ zs.length = cap ∧ (∀ i, i < zs.length → w.cell? (x.add i) = some (.int .i64 (zs.getD i 0))) ∧ ∀ n ∈ zs, (Lit.int .i64 n).wf = true) :
    Row w a len (fun i => zs.getD i 0) := by
  rcases h with ⟨rfl, rfl, rfl, rfl⟩ | ⟨x, rfl, hl, hm, hz, hcell, hwz⟩
  · exact ⟨by decide, fun i hi => by omega, .inl rfl⟩
  · refine ⟨Nat.le_trans hl hm, fun i hi => ?_, ?_⟩
    · have hi' : i < zs.length := by omega
      have e : zs.getD i 0 = zs[i] := by simp [List.getD, hi']
      have := bounds_i64 (hwz zs[i] (List.getElem_mem hi'))
      dsimp only
      rw [e]
      exact this
    · by_cases h0 : len = 0
      · exact .inl h0
      · obtain ⟨b, off, spot⟩ := x
        have hc := hcell 0 (by omega)
        have hspot : spot = none := by simpa [Addr.add] using World.cell?_spot hc
        subst hspot
        refine .inr ⟨b, off, rfl, ?_, fun i hi => ?_⟩
        · exact World.block_lt_of_cell? _ _ hc
        · have := hcell i (by omega)
          by_cases hi0 : i = 0
          · subst hi0; simpa [Addr.add] using this
          · simpa [Addr.add, hi0] using this

/-- Both answer alike, whatever the numbers. -/
theorem sum_same (w : World) (a : Option Addr) (len cap : Nat) (f : Nat → Int) (hr : Row w a len f) :
    ∃ v x : Int, 0 ≤ x ∧ x ≤ 17 ∧ Calls Try.prog 20 #[.slice a len cap] w (Ans v x w) ∧ ∀ w', Kept w w' → Calls Try.prog 21 #[.slice a len cap] w' (Ans v x w') := by
  by_cases h : ∃ i, i < len ∧ f i < 0
  · exact ⟨0, 1, by omega, by omega, sum_arg a len cap f w hr h, fun w' k => (rsum_arg a len cap f w' (hr.kept k) h).mono fun _ _ g => g.ans⟩
  · have hn : ∀ i, i < len → 0 ≤ f i := fun i hi => by
      by_cases g : 0 ≤ f i
      · exact g
      · exact absurd ⟨i, hi, by omega⟩ h
    by_cases hs : tot f len ≤ 9223372036854775807
    · exact ⟨tot f len, 0, by omega, by omega, sum_ok a len cap f w hr hn hs, fun w' k => (rsum_ok a len cap f w' (hr.kept k) hn hs).mono fun _ _ g => g.ans⟩
    · exact ⟨0, 5, by omega, by omega, sum_over a len cap f w hr hn (by omega), fun w' k => (rsum_over a len cap f w' (hr.kept k) hn (by omega)).mono fun _ _ g => g.ans⟩

set_option maxHeartbeats 400000 in
theorem qtySum_walk (a : Option Addr) (len cap : Nat) (zs : List Int) (w : World)
    (h : (a = none ∧ len = 0 ∧ cap = 0 ∧ zs = []) ∨ ∃ x, a = some x ∧ len ≤ cap ∧ cap ≤ maxLen ∧ zs.length = cap ∧ (∀ i, i < zs.length → w.cell? (x.add i) = some (.int .i64 (zs.getD i 0))) ∧ ∀ n ∈ zs, (Lit.int .i64 n).wf = true) :
    Calls Try.prog 4 #[.slice a len cap] w fun e w' => e = .returned (.bool true) ∧ Below w.heap.size w w' := by
  have hr := row_of w a len cap zs h
  have hm := hr.1
  unfold maxLen at hm
  have R := Lib.hid hr
  clear h hr
  by_cases hl : 100 < len
  · go_enter Try.func4, Try.ntmps4
    go_wp2_with fail
    refine (known_any _).mono ?_
    rintro e1 y ⟨rfl, hk⟩
    go_wp2_with fail
    go_ret
    exact ⟨rfl, hk⟩
  · go_enter Try.func4, Try.ntmps4
    go_wp2_with fail
    refine (known_any _).mono ?_
    rintro e1 y ⟨rfl, hk⟩
    obtain ⟨v, x, x0, x1, c1, c2⟩ := sum_same y a len cap _ (R.out.kept hk)
    have C1 := Lib.hid c1
    have C2 := Lib.hid c2
    clear c1 c2
    go_wp2_with fail
    refine C1.out.mono ?_
    rintro e1 y1 ⟨rfl, hk1⟩
    go_wp2_with fail
    refine (C2.out _ hk1).mono ?_
    rintro e1 y2 ⟨rfl, hk2⟩
    go_wp2_with fail
    go_ret
    exact ⟨rfl, hk.trans (hk1.trans hk2)⟩

end Go.Proofs.Ytocidfnfoaapcaa
