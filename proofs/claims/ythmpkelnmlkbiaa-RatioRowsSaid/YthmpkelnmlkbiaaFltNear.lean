/- Rounding to the nearest float, told by what it does to the rungs: it never passes one. -/
import Derived.Test.YthmpkelnmlkbiaaFltOps
namespace Go.Proofs.Ythmpkelnmlkbiaa
open Ieee
set_option linter.unusedVariables false

theorem pow_pos2 (k : Nat) : 0 < 2 ^ k := Nat.two_pow_pos k

/-- What cut gives lies between what is below and what is above. -/
theorem cut_ge (s : Bool) (n drop t : Nat) (hn : n ≠ 0) (h : t * 2 ^ drop ≤ n) : t ≤ Toward.even.cut s n drop := by
  have hl : n < 2 ^ (n.log2 + 1) := Nat.lt_log2_self
  unfold Toward.cut
  simp only [Nat.one_shiftLeft]
  by_cases hd : drop ≤ n.log2 + 2
  · rw [Nat.min_eq_left hd]
    have : t ≤ n / 2 ^ drop := (Nat.le_div_iff_mul_le (pow_pos2 _)).2 h
    omega
  · have h2 : 2 ^ (n.log2 + 1) ≤ 2 ^ drop := Nat.pow_le_pow_right (by omega) (by omega)
    have : t = 0 := by
      rcases Nat.eq_zero_or_pos t with g | g
      · exact g
      · have := Nat.mul_le_mul_right (2 ^ drop) g; omega
    rw [this]; exact Nat.zero_le _

theorem cut_le (s : Bool) (n drop t : Nat) (hn : n ≠ 0) (h : n ≤ t * 2 ^ drop) : Toward.even.cut s n drop ≤ t := by
  have hl : n < 2 ^ (n.log2 + 1) := Nat.lt_log2_self
  unfold Toward.cut
  simp only [Nat.one_shiftLeft]
  by_cases hd : drop ≤ n.log2 + 2
  · rw [Nat.min_eq_left hd]
    have hg := pow_pos2 drop
    have e := Nat.div_add_mod n (2 ^ drop)
    have hm := Nat.mod_lt n hg
    generalize 2 ^ drop = G at *
    generalize hq : n / G = q at *
    generalize hr : n % G = r at *
    by_cases h0 : r = 0
    · have : q ≤ t := by
        have : G * q ≤ G * t := by rw [Nat.mul_comm G t]; omega
        exact Nat.le_of_mul_le_mul_left this hg
      have hb : (decide (G < 2 * r) || (G == 2 * r && q % 2 == 1)) = false := by
        rw [h0]; simp; omega
      rw [hb]; simpa using this
    · have : q < t := by
        have : G * q < G * t := by rw [Nat.mul_comm G t]; omega
        exact Nat.lt_of_mul_lt_mul_left this
      have hb : (decide (G < 2 * r) || (G == 2 * r && q % 2 == 1)).toNat ≤ 1 := Bool.toNat_le _
      omega
  · rw [Nat.min_eq_right (by omega)]
    have h3 : 2 ^ (n.log2 + 2) = 2 * 2 ^ (n.log2 + 1) := by rw [Nat.pow_succ]; omega
    rw [h3]
    generalize 2 ^ (n.log2 + 1) = G at *
    have e1 : n / (2 * G) = 0 := Nat.div_eq_of_lt (by omega)
    have e2 : n % (2 * G) = n := Nat.mod_eq_of_lt (by omega)
    rw [e1, e2]
    have hb : (decide (2 * G < 2 * n) || (2 * G == 2 * n && 0 % 2 == 1)) = false := by simp; omega
    rw [hb]; simp

theorem ex_lt (r : Nat) : mg r < 2 * BIN := by
  unfold mg
  have hB : (0 : Nat) < BIN := by decide
  have := Nat.mod_lt r hB
  split <;> omega

/-- Where a rung so far up stands. -/
theorem val_at (E K : Nat) (h2 : K ≤ 2 * BIN) (h1 : E = 0 ∨ BIN ≤ K) : val (E * BIN + K) = K * 2 ^ E := by
  have hB : (0 : Nat) < BIN := by decide
  rcases Nat.lt_or_eq_of_le h2 with hk | hk
  · rcases Nat.lt_or_ge K BIN with hb | hb
    · have hE : E = 0 := by omega
      subst hE
      simp only [val, mg, ex, Nat.zero_mul, Nat.zero_add, hb, if_true]
    · have e0 : E * BIN + K = (E + 1) * BIN + (K - BIN) := by rw [Nat.add_mul]; omega
      have hn : ¬ (E * BIN + K < BIN) := by omega
      have e1 : (E * BIN + K) / BIN = E + 1 := by
        rw [e0, Nat.mul_comm, Nat.mul_add_div hB, Nat.div_eq_of_lt (by omega)]
      have e2 : (E * BIN + K) % BIN = K - BIN := by
        rw [e0, Nat.mul_comm, Nat.mul_add_mod]; exact Nat.mod_eq_of_lt (by omega)
      simp only [val, mg, ex, hn, if_false, e1, e2]
      rw [show BIN + (K - BIN) = K from by omega, show E + 1 - 1 = E from by omega]
  · have e0 : E * BIN + K = (E + 2) * BIN := by rw [Nat.add_mul]; omega
    have hn : ¬ (E * BIN + K < BIN) := by rw [hk]; omega
    have e1 : (E * BIN + K) / BIN = E + 2 := by rw [e0]; exact Nat.mul_div_cancel _ hB
    have e2 : (E * BIN + K) % BIN = 0 := by rw [e0]; exact Nat.mul_mod_left _ _
    simp only [val, mg, ex, hn, if_false, e1, e2]
    rw [hk, show E + 2 - 1 = E + 1 from by omega, Nat.pow_succ, Nat.add_zero]
    generalize 2 ^ E = G
    rw [Nat.mul_comm 2 BIN, Nat.mul_assoc, Nat.mul_comm 2 G]

/-- The parts of a rounding. -/
theorem near_parts (m : Nat) (p : Int) (hm : m ≠ 0) : ∃ E a d K : Nat, near m p = min (E * BIN + K) INF ∧ p + 1074 = (E : Int) + a - d ∧ K = Toward.even.cut false (m * 2 ^ a) d ∧ K ≤ 2 * BIN ∧ (E = 0 ∨ (BIN ≤ K ∧ BIN * 2 ^ d ≤ m * 2 ^ a)) := by
  have hl : m < 2 ^ (m.log2 + 1) := Nat.lt_log2_self
  have hg : 2 ^ m.log2 ≤ m := Nat.log2_self_le hm
  obtain ⟨last, hlast⟩ : ∃ last, last = max (p + (m.log2 : Int) - 52) (-1074) := ⟨_, rfl⟩
  have hn : near m p = min ((last + 1074).toNat * BIN + Toward.even.cut false (m * 2 ^ (p - last).toNat) (last - p).toNat) INF := by
    have e : double.nearest false m p = double.word false (min ((last + 1074).toNat * BIN + Toward.even.cut false (m * 2 ^ (p - last).toNat) (last - p).toNat) INF) := by
      unfold Format.nearest
      simp only [hm, if_false, d_inf, d_bin, d_least, Nat.shiftLeft_eq, hlast]
      rfl
    unfold near
    rw [e]
    exact (word_nan false (Nat.min_le_right _ _)).2.2.1
  have hma : m * 2 ^ (p - last).toNat ≠ 0 := by
    have := Nat.mul_pos (Nat.pos_of_ne_zero hm) (pow_pos2 (p - last).toNat); omega
  refine ⟨(last + 1074).toNat, (p - last).toNat, (last - p).toNat, _, hn, by omega, rfl, ?_, ?_⟩
  · refine cut_le _ _ _ _ hma ?_
    have h1 : m.log2 + (p - last).toNat ≤ 52 + (last - p).toNat := by omega
    have h2 : m * 2 ^ (p - last).toNat ≤ 2 ^ (m.log2 + 1) * 2 ^ (p - last).toNat := Nat.mul_le_mul_right _ (Nat.le_of_lt hl)
    rw [← Nat.pow_add] at h2
    refine Nat.le_trans h2 ?_
    rw [show 2 * BIN = 2 ^ 53 from rfl, ← Nat.pow_add]
    exact Nat.pow_le_pow_right (by omega) (by omega)
  · by_cases hE : (last + 1074).toNat = 0
    · exact .inl hE
    · have h1 : m.log2 + (p - last).toNat = 52 + (last - p).toNat := by omega
      have h2 : BIN * 2 ^ (last - p).toNat ≤ m * 2 ^ (p - last).toNat := by
        rw [show BIN = 2 ^ 52 from rfl, ← Nat.pow_add, ← h1, Nat.pow_add]
        exact Nat.mul_le_mul_right _ hg
      exact .inr ⟨cut_ge _ _ _ _ hma h2, h2⟩

theorem near_ge {m : Nat} {p : Int} {r u v : Nat} (hm : m ≠ 0) (huv : p + 1074 = (u : Int) - v) (hr : r ≤ INF) (h : val r * 2 ^ v ≤ m * 2 ^ u) : r ≤ near m p := by
  obtain ⟨E, a, d, K, e1, e2, e3, e4, e5⟩ := near_parts m p hm
  rw [e1]
  refine Nat.le_min.2 ⟨?_, hr⟩
  have hv : val (E * BIN + K) = K * 2 ^ E := val_at E K e4 (e5.imp id (·.1))
  have hmm : val r ≤ K * 2 ^ E := by
    by_cases hx : E ≤ ex r
    · have et : val r = mg r * 2 ^ (ex r - E) * 2 ^ E := by rw [Nat.mul_assoc, ← Nat.pow_add, Nat.sub_add_cancel hx]; rfl
      rw [et] at h ⊢
      refine Nat.mul_le_mul_right _ ?_
      rw [e3]
      have hma : m * 2 ^ a ≠ 0 := by have := Nat.mul_pos (Nat.pos_of_ne_zero hm) (pow_pos2 a); omega
      refine cut_ge _ _ _ _ hma ?_
      generalize mg r * 2 ^ (ex r - E) = t at h ⊢
      have h1 := Nat.mul_le_mul_right (2 ^ d) h
      have l1 : t * 2 ^ E * 2 ^ v * 2 ^ d = t * 2 ^ d * 2 ^ (E + v) := by rw [Nat.pow_add]; ac_rfl
      have l2 : m * 2 ^ u * 2 ^ d = m * 2 ^ a * 2 ^ (E + v) := by
        rw [Nat.mul_assoc, ← Nat.pow_add, Nat.mul_assoc, ← Nat.pow_add, show u + d = a + (E + v) from by omega]
      rw [l1, l2] at h1
      exact Nat.le_of_mul_le_mul_right h1 (pow_pos2 _)
    · have hE : BIN ≤ K := by rcases e5 with g | g
                              · omega
                              · exact g.1
      have h1 : val r ≤ 2 * BIN * 2 ^ ex r := Nat.mul_le_mul_right _ (Nat.le_of_lt (ex_lt r))
      have h2 : 2 * BIN * 2 ^ ex r = BIN * 2 ^ (ex r + 1) := by rw [Nat.pow_succ, Nat.mul_comm 2 BIN, Nat.mul_assoc, Nat.mul_comm 2]
      have h3 : BIN * 2 ^ (ex r + 1) ≤ BIN * 2 ^ E := Nat.mul_le_mul_left _ (Nat.pow_le_pow_right (by omega) (by omega))
      have h4 : BIN * 2 ^ E ≤ K * 2 ^ E := Nat.mul_le_mul_right _ hE
      omega
  rw [← hv] at hmm
  rcases Nat.lt_or_ge (E * BIN + K) r with g | g
  · have := val_lt g; omega
  · exact g

theorem near_le {m : Nat} {p : Int} {r u v : Nat} (hm : m ≠ 0) (huv : p + 1074 = (u : Int) - v) (h : m * 2 ^ u ≤ val r * 2 ^ v) : near m p ≤ r := by
  obtain ⟨E, a, d, K, e1, e2, e3, e4, e5⟩ := near_parts m p hm
  rw [e1]
  refine Nat.le_trans (Nat.min_le_left _ _) ?_
  have hv : val (E * BIN + K) = K * 2 ^ E := val_at E K e4 (e5.imp id (·.1))
  have l2 : m * 2 ^ u * 2 ^ d = m * 2 ^ a * 2 ^ (E + v) := by
    rw [Nat.mul_assoc, ← Nat.pow_add, Nat.mul_assoc, ← Nat.pow_add, show u + d = a + (E + v) from by omega]
  have hmm : K * 2 ^ E ≤ val r := by
    by_cases hx : E ≤ ex r
    · have et : val r = mg r * 2 ^ (ex r - E) * 2 ^ E := by rw [Nat.mul_assoc, ← Nat.pow_add, Nat.sub_add_cancel hx]; rfl
      rw [et] at h ⊢
      refine Nat.mul_le_mul_right _ ?_
      rw [e3]
      have hma : m * 2 ^ a ≠ 0 := by have := Nat.mul_pos (Nat.pos_of_ne_zero hm) (pow_pos2 a); omega
      refine cut_le _ _ _ _ hma ?_
      generalize mg r * 2 ^ (ex r - E) = t at h ⊢
      have h1 := Nat.mul_le_mul_right (2 ^ d) h
      have l1 : t * 2 ^ E * 2 ^ v * 2 ^ d = t * 2 ^ d * 2 ^ (E + v) := by rw [Nat.pow_add]; ac_rfl
      rw [l1, l2] at h1
      exact Nat.le_of_mul_le_mul_right h1 (pow_pos2 _)
    · exfalso
      have hE : BIN * 2 ^ d ≤ m * 2 ^ a := by rcases e5 with g | g
                                              · omega
                                              · exact g.2
      have h1 : val r < 2 * BIN * 2 ^ ex r := Nat.mul_lt_mul_of_pos_right (ex_lt r) (pow_pos2 _)
      have h2 : 2 * BIN * 2 ^ ex r = BIN * 2 ^ (ex r + 1) := by rw [Nat.pow_succ, Nat.mul_comm 2 BIN, Nat.mul_assoc, Nat.mul_comm 2]
      have h3 : BIN * 2 ^ (ex r + 1) ≤ BIN * 2 ^ E := Nat.mul_le_mul_left _ (Nat.pow_le_pow_right (by omega) (by omega))
      have h4 : val r < BIN * 2 ^ E := by omega
      have h5 : val r * 2 ^ v * 2 ^ d < BIN * 2 ^ E * 2 ^ v * 2 ^ d := Nat.mul_lt_mul_of_pos_right (Nat.mul_lt_mul_of_pos_right h4 (pow_pos2 _)) (pow_pos2 _)
      have h6 : BIN * 2 ^ E * 2 ^ v * 2 ^ d = BIN * 2 ^ d * 2 ^ (E + v) := by rw [Nat.pow_add]; ac_rfl
      have h7 : BIN * 2 ^ d * 2 ^ (E + v) ≤ m * 2 ^ a * 2 ^ (E + v) := Nat.mul_le_mul_right _ hE
      have h8 := Nat.mul_le_mul_right (2 ^ d) h
      rw [l2] at h8
      omega
  rw [← hv] at hmm
  rcases Nat.lt_or_ge r (E * BIN + K) with g | g
  · have := val_lt g; omega
  · exact g

/-- What has a rung of its own goes there. -/
theorem near_eq {m : Nat} {p : Int} {r u v : Nat} (hm : m ≠ 0) (huv : p + 1074 = (u : Int) - v) (hr : r ≤ INF) (h : m * 2 ^ u = val r * 2 ^ v) : near m p = r :=
  Nat.le_antisymm (near_le hm huv (Nat.le_of_eq h)) (near_ge hm huv hr (Nat.le_of_eq h.symm))
theorem near_zero (p : Int) : near 0 p = 0 := rfl

end Go.Proofs.Ythmpkelnmlkbiaa
