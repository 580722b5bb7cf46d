/- Two rows that read alike are the same. -/
import Derived.Test.YtmmjcomoabfmnaaDoorLabReads
namespace Go.Proofs.YtmmjcomoabfmnaaDoor
open Go.RowKit
set_option linter.unusedVariables false

set_option maxHeartbeats 800000 in
theorem same_any (a a9 : Option Addr) (len cap cap9 : Nat) (l : PL) (w : World) (hr : RowAt PairLay w a len l) (hr9 : RowAt PairLay w a9 len l) :
    Calls Tryd.prog 27 #[.slice a len cap, .slice a9 len cap9] w fun e w' => e = .returned (.bool true) ∧ Kept w w' := by
  have hl := hr.1
  have hm := hr.2.1
  unfold maxLen at hm
  by_cases h0 : len = 0
  · subst h0
    clear hr hl hr9
    go_enter Tryd.func27, Tryd.ntmps27
    go_wp2
    refine wp_loop_rounds 1 ?_
    rw [rounds_succ]
    go_wp2
    go_ret
    exact ⟨rfl, Kept.refl _⟩
  · obtain ⟨b, off, rfl⟩ : ∃ b off, a = some ⟨b, off, none⟩ := by
      rcases hr.form with h | h
      · exact absurd h h0
      · exact h
    obtain ⟨b9, off9, rfl⟩ : ∃ b off, a9 = some ⟨b, off, none⟩ := by
      rcases hr9.form with h | h
      · exact absurd h h0
      · exact h
    have HR := Lib.hid hr
    have HR9 := Lib.hid hr9
    clear hr hl hr9 h0
    go_enter Tryd.func27, Tryd.ntmps27
    go_wp2
    go_loopw [5] (fun i wr => ∃ k : Nat, k ≤ len ∧ i = .int .i64 k ∧ Kept w wr) (fun i _ => len - (intOf i).toNat)
    case atStart => exact ⟨0, Nat.zero_le _, rfl, Kept.refl _⟩
    case round =>
      obtain ⟨k, hk, rfl, hK⟩ := hrel
      have HK := Lib.hid hK
      by_cases hlt : k < len
      · obtain ⟨x, y, hx, hd, hb, hz, hz2, c1, c2⟩ := (HR.out.kept hK).pair hlt
        obtain ⟨x9, y9, hx9, _, hb9, _, _, d1, d2⟩ := (HR9.out.kept hK).pair hlt
        obtain ⟨rfl, rfl⟩ : x = x9 ∧ y = y9 := by rw [hx] at hx9; simpa using hx9
        clear hx hd hx9 hK
        go_wp2
        go_quiet (fail)
        go_wp2
        go_roundw
        case rel => exact ⟨k + 1, by omega, by go_num, HK.out.trans (Kept.drewN _ _)⟩
        case measure => simp [intOf]; omega
      · clear hK
        go_wp2
        go_ret
        exact ⟨rfl, HK.out⟩
theorem sameR {v v9 : Value} {l : PL} {w : World} (h : Reads PairLay w v l) (h9 : Reads PairLay w v9 l) : Calls Tryd.prog 27 #[v, v9] w (Say (.bool true) w) := by
  obtain ⟨a, cap, rfl, _, _, hr⟩ := h
  obtain ⟨a9, cap9, rfl, _, _, hr9⟩ := h9
  exact same_any a a9 _ cap cap9 l w hr hr9

set_option maxHeartbeats 800000 in
theorem sameSel_any (a a9 : Option Addr) (len cap cap9 : Nat) (l : TL) (w : World) (hr : RowAt TermLay w a len l) (hr9 : RowAt TermLay w a9 len l) :
    Calls Tryd.prog 28 #[.slice a len cap, .slice a9 len cap9] w fun e w' => e = .returned (.bool true) ∧ Kept w w' := by
  have hl := hr.1
  have hm := hr.2.1
  unfold maxLen at hm
  by_cases h0 : len = 0
  · subst h0
    clear hr hl hr9
    go_enter Tryd.func28, Tryd.ntmps28
    go_wp2
    refine wp_loop_rounds 1 ?_
    rw [rounds_succ]
    go_wp2
    go_ret
    exact ⟨rfl, Kept.refl _⟩
  · obtain ⟨b, off, rfl⟩ : ∃ b off, a = some ⟨b, off, none⟩ := by
      rcases hr.form with h | h
      · exact absurd h h0
      · exact h
    obtain ⟨b9, off9, rfl⟩ : ∃ b off, a9 = some ⟨b, off, none⟩ := by
      rcases hr9.form with h | h
      · exact absurd h h0
      · exact h
    have HR := Lib.hid hr
    have HR9 := Lib.hid hr9
    clear hr hl hr9 h0
    go_enter Tryd.func28, Tryd.ntmps28
    go_wp2
    go_loopw [5] (fun i wr => ∃ k : Nat, k ≤ len ∧ i = .int .i64 k ∧ Kept w wr) (fun i _ => len - (intOf i).toNat)
    case atStart => exact ⟨0, Nat.zero_le _, rfl, Kept.refl _⟩
    case round =>
      obtain ⟨k, hk, rfl, hK⟩ := hrel
      have HK := Lib.hid hK
      by_cases hlt : k < len
      · obtain ⟨o, x, y, hx, hd, hb, ho, hz, hz2, c0, c1, c2⟩ := (HR.out.kept hK).term hlt
        obtain ⟨o9, x9, y9, hx9, _, hb9, _, _, _, d0, d1, d2⟩ := (HR9.out.kept hK).term hlt
        obtain ⟨rfl, rfl, rfl⟩ : o = o9 ∧ x = x9 ∧ y = y9 := by rw [hx] at hx9; simpa using hx9
        clear hx hd hx9 hK
        go_wp2
        go_quiet (fail)
        go_wp2
        go_roundw
        case rel => exact ⟨k + 1, by omega, by go_num, HK.out.trans (Kept.drewN _ _)⟩
        case measure => simp [intOf]; omega
      · clear hK
        go_wp2
        go_ret
        exact ⟨rfl, HK.out⟩
theorem sameSelR {v v9 : Value} {l : TL} {w : World} (h : Reads TermLay w v l) (h9 : Reads TermLay w v9 l) : Calls Tryd.prog 28 #[v, v9] w (Say (.bool true) w) := by
  obtain ⟨a, cap, rfl, _, _, hr⟩ := h
  obtain ⟨a9, cap9, rfl, _, _, hr9⟩ := h9
  exact sameSel_any a a9 _ cap cap9 l w hr hr9

end Go.Proofs.YtmmjcomoabfmnaaDoor
