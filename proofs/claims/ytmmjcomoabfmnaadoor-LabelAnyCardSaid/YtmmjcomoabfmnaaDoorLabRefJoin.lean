/- The reference's joined. -/
import Derived.Test.YtmmjcomoabfmnaaDoorGTold
namespace Go.Proofs.YtmmjcomoabfmnaaDoor
open Go.RowKit
set_option linter.unusedVariables false

set_option maxHeartbeats 1600000 in
theorem refJoined_any (a : Option Addr) (len cap : Nat) (ts : List ByteArray) (w : World) (hr : RowAt StrLay w a len ts) (hf : ∀ x ∈ ts, x.size ≤ 2000001) (hn : len ≤ 1000000) :
    Calls Tryd.prog 37 #[.slice a len cap] w fun e w' => e = .returned (.string (dashed ts)) ∧ w = w' := by
  have hl := hr.1
  by_cases h0 : len = 0
  · subst h0
    have HE := Lib.hid (show dashed ts = ⟨#[45]⟩ from by unfold dashed; exact if_pos (List.eq_nil_of_length_eq_zero hl))
    clear hr hl hf
    go_enter Tryd.func37, Tryd.ntmps37
    go_wp2
    go_ret
    exact ⟨ret_str HE.out.symm, rfl⟩
  · obtain ⟨b, off, rfl⟩ : ∃ b off, a = some ⟨b, off, none⟩ := by
      rcases hr.form with h | h
      · exact absurd h h0
      · exact h
    have h0' : ((len : Int) == 0) = false := by
      have : (len : Int) ≠ 0 := by omega
      simpa using this
    have HE := Lib.hid (show dashed ts = joinB ts from by unfold dashed; exact if_neg (by intro e; rw [e] at hl; simp at hl; omega))
    obtain ⟨x0, hx0, _, _, _, c0⟩ := hr.str (show 0 < len by omega)
    have c0 : w.cell? ⟨b, off, none⟩ = some (.string x0) := c0
    have hp : (0 : Int) < (len : Int) := by omega
    have hp' : 0 < len := by omega
    have HX0 := Lib.hid hx0
    have HR := Lib.hid hr
    have HL := Lib.hid hl
    have HF := Lib.hid hf
    clear hr hl hf h0 hx0
    go_enter Tryd.func37, Tryd.ntmps37
    go_wp2
    go_loop [3, 4] (fun s i => ∃ k : Nat, 1 ≤ k ∧ k ≤ len ∧ i = .int .i64 k ∧ s = .string (joinB (ts.take k))) (fun _ i => len - (intOf i).toNat)
    case atStart => exact ⟨1, Nat.le_refl _, by omega, rfl, by
      have : ts.take 1 = [x0] := by have := take_snoc HX0.out; simpa using this
      rw [this, joinB_one]⟩
    case round =>
      obtain ⟨k, hk1, hk, rfl, rfl⟩ := hrel
      obtain ⟨J, hJ⟩ : ∃ J, joinB (ts.take k) = J := ⟨_, rfl⟩
      have hJs : J.size ≤ 1000000 * 2000002 := by
        rw [← hJ]
        have := joinB_size (ts := ts.take k) (fun x hx => HF.out x (List.mem_of_mem_take hx))
        rw [List.length_take] at this
        have h2 : min k ts.length ≤ 1000000 := by rw [HL.out]; omega
        exact Nat.le_trans this (Nat.mul_le_mul_right _ h2)
      rw [hJ]
      have HJ := Lib.hid hJ
      clear hJ
      by_cases hlt : k < len
      · obtain ⟨x, hx, _, _, _, c1⟩ := HR.out.str hlt
        have hxs : x.size ≤ 2000001 := HF.out x (List.mem_of_getElem? hx)
        have HN := Lib.hid (show joinB (ts.take (k + 1)) = J ++ ⟨#[44]⟩ ++ x by rw [take_snoc hx, joinB_snoc x (by intro e; have := congrArg List.length e; rw [List.length_take, HL.out] at this; simp at this; omega), HJ.out])
        clear hx c0
        go_wp2
        go_round
        case rel => exact ⟨k + 1, by omega, by omega, by go_num, by rw [HN.out]⟩
        case measure => simp [intOf]; omega
      · have HK := Lib.hid (show joinB ts = J by rw [← HJ.out, List.take_of_length_le (by rw [HL.out]; omega)])
        go_wp2
        go_ret
        exact ⟨ret_str (HE.out.trans HK.out).symm, rfl⟩

end Go.Proofs.YtmmjcomoabfmnaaDoor
