/- The reference's sums and differences of vectors: plain words, both and whole. -/
import Derived.Test.YtapnffejnhkoaaaGreatRefNamesW
import Derived.Test.YtapnffejnhkoaaaGreatResC
import Derived.Test.YtapnffejnhkoaaaGreatResA
namespace Go.Proofs.YtapnffejnhkoaaaGreat.Vec
open Go.RowKit Go.Proofs.YtapnffejnhkoaaaGreat
set_option linter.unusedVariables false

theorem names_len : ∀ (fuel : Nat) (la lb : V), (namesV fuel la lb).length ≤ fuel
  | 0, _, _ => Nat.le_refl _
  | fuel + 1, la, lb => by
    unfold namesV
    split
    · exact Nat.zero_le _
    · rw [List.length_cons]; exact Nat.succ_le_succ (names_len fuel _ _)
theorem names_mem : ∀ (fuel : Nat) (la lb : V) (n : ByteArray), n ∈ namesV fuel la lb → (∃ y ∈ la, y.1 = n) ∨ (∃ y ∈ lb, y.1 = n)
  | 0, _, _, n, h => by simp [namesV] at h
  | fuel + 1, la, lb, n, h => by
    unfold namesV at h
    split at h
    · simp at h
    · rename_i h0
      rcases List.mem_cons.1 h with rfl | h
      · exact foremost_mem (by omega)
      · rcases names_mem fuel _ _ n h with ⟨y, hy, e⟩ | ⟨y, hy, e⟩
        · exact .inl ⟨y, taken_mem y hy, e⟩
        · exact .inr ⟨y, taken_mem y hy, e⟩
theorem get_pos {l : V} (h : Gd l) {n : ByteArray} (hn : ∃ y ∈ l, y.1 = n) : 0 < getV l n := by
  obtain ⟨y, hy, rfl⟩ := hn
  rw [get_in h hy]
  exact (h.1 y hy).2.1
theorem names_pos {l l' : V} (h : Gd l) (h' : Gd l') {n : ByteArray} (hn : n ∈ namesV (l.length + l'.length) l l') : 0 < getV l n + getV l' n := by
  have a := get_bd n h
  have b := get_bd n h'
  rcases names_mem _ _ _ _ hn with hn | hn
  · have := get_pos h hn; omega
  · have := get_pos h' hn; omega
theorem fold_bad {f : Int → Int → Int × Int} {la lb : V} {n : ByteArray} {t : List ByteArray} {acc : V} {r1 r2 : Int} (h : f (getV la n) (getV lb n) = (r1, r2)) (h2 : r2 ≠ 0) : foldAcc f la lb (n :: t) acc = (r2, []) := by
  rw [foldAcc, h, if_pos h2]
theorem fold_next {f : Int → Int → Int × Int} {la lb : V} {n : ByteArray} {t : List ByteArray} {acc : V} {r1 : Int} (h : f (getV la n) (getV lb n) = (r1, 0)) : foldAcc f la lb (n :: t) acc = foldAcc f la lb t (plusV acc n r1) := by
  rw [foldAcc, h, if_neg (by simp)]
theorem radd_f (x y : Int) (w : World) (h : 0 ≤ x ∧ x ≤ 9223372036854775807) (g : 0 ≤ y ∧ y ≤ 9223372036854775807) :
    Calls Tryz.prog 137 #[.int .i64 x, .int .i64 y] w (Ans (addF x y).1 (addF x y).2 w) := by
  unfold addF
  by_cases h2 : x + y ≤ 9223372036854775807
  · rw [if_pos h2]; exact (radd_ok x y w h.1 g.1 h2).mono fun _ _ => Pure2.ans
  · rw [if_neg h2]; exact (radd_over x y w h.1 g.1 g.2 (by omega)).mono fun _ _ => Pure2.ans
def bothV (l l' : V) : Int := if checkV l ≠ 0 then checkV l else checkV l'
theorem both_zero {l l' : V} (h : bothV l l' = 0) : checkV l = 0 ∧ checkV l' = 0 := by
  unfold bothV at h
  split at h
  · rename_i g; exact absurd h g
  · rename_i g; exact ⟨Decidable.of_not_not g, h⟩
theorem merged_both {f : Int → Int → Int × Int} {l l' : V} (h : bothV l l' ≠ 0) : mergedV f l l' = (bothV l l', []) := by
  unfold mergedV
  unfold bothV at h ⊢
  by_cases g : checkV l ≠ 0
  · simp only [if_pos g]
  · simp only [if_neg g] at h ⊢
    rw [if_pos h]
theorem rboth_any (a a' : Option Addr) (len cap len' cap' : Nat) (l l' : V) (w : World) (hr : VecAt w a len l) (hr' : VecAt w a' len' l') :
    Calls Tryz.prog 135 #[.slice a len cap, .slice a' len' cap'] w fun e w' => e = .returned (.int .i64 (bothV l l')) ∧ Kept w w' := by
  have HA := Lib.hid hr
  have HB := Lib.hid hr'
  obtain ⟨c, hc⟩ : ∃ c, checkV l = c := ⟨_, rfl⟩
  have HC := Lib.hid hc
  clear hr hr'
  by_cases h0 : c = 0
  · subst h0
    have HE := Lib.hid (show bothV l l' = checkV l' by unfold bothV; rw [hc, if_neg (by decide)])
    go_enter Tryz.func135, Tryz.ntmps135
    go_wp2_with fail
    refine (refCheck_any _ _ _ l _ HA.out).mono ?_
    rw [HC.out]
    clear hc
    rintro e1 w1 ⟨rfl, k1⟩
    have K1 := Lib.hid k1
    clear k1
    go_wp2_with fail
    refine (refCheck_any _ _ _ l' _ (HB.out.kept K1.out)).mono ?_
    rintro e2 w2 ⟨rfl, k2⟩
    have K2 := Lib.hid (K1.out.trans k2)
    clear k2
    go_wp2
    go_ret
    exact ⟨ret_i64 HE.out.symm, K2.out⟩
  · have HE := Lib.hid (show bothV l l' = c by unfold bothV; rw [hc, if_pos h0])
    have h1 : (c == 0) = false := by simpa using h0
    clear h0
    go_enter Tryz.func135, Tryz.ntmps135
    go_wp2_with fail
    refine (refCheck_any _ _ _ l _ HA.out).mono ?_
    rw [HC.out]
    clear hc
    rintro e1 w1 ⟨rfl, k1⟩
    have K1 := Lib.hid k1
    clear k1
    go_wp2
    go_ret
    exact ⟨ret_i64 HE.out.symm, K1.out⟩
theorem rwhole_ok (a : Option Addr) (n cap : Nat) (w : World) (h : n ≤ 8) : Calls Tryz.prog 138 #[.slice a n cap] w fun e w' => e = .returned (.tuple #[.slice a n cap, .int .i64 0]) ∧ w = w' := by
  have h1 : (n : Int) ≤ 8 := by omega
  have h2 : decide ((8 : Int) < (n : Int)) = false := decide_eq_false (by omega)
  have h3 : decide (8 < n) = false := decide_eq_false (by omega)
  go_enter Tryz.func138, Tryz.ntmps138
  go_wp2
  go_ret2
  exact ⟨rfl, rfl⟩
theorem rwhole_long (a : Option Addr) (n cap : Nat) (w : World) (h : 8 < n) : Calls Tryz.prog 138 #[.slice a n cap] w fun e w' => e = .returned (.tuple #[.slice none 0 0, .int .i64 4]) ∧ w = w' := by
  have h1 : (8 : Int) < (n : Int) := by omega
  go_enter Tryz.func138, Tryz.ntmps138
  go_wp2
  go_ret2
  exact ⟨rfl, rfl⟩

end Go.Proofs.YtapnffejnhkoaaaGreat.Vec
