/- RatioMeans: a mean of numbers that are no edges lies between the least and the greatest. -/
import Derived.Test.YthmpkelnmlkbiaaRatioShares
import Derived.Test.YthmpkelnmlkbiaaFltSum
import Derived.Maps.AppendAt
import Derived.OpenShut
namespace Go.Proofs.Ythmpkelnmlkbiaa
open Go.RowKit
set_option linter.unusedVariables false

def IsRow (k : IntKind) (w : World) (a : Option Addr) (len cap : Nat) (zs : List Int) : Prop :=
  (a = none ∧ len = 0 ∧ cap = 0 ∧ zs = []) ∨
  ∃ x, a = some x ∧ len ≤ cap ∧ cap ≤ maxLen ∧ zs.length = cap ∧ (∀ i, i < zs.length → w.cell? (x.add i) = some (.int k (zs.getD i 0))) ∧ ∀ n ∈ zs, (Lit.int k n).wf = true

theorem bounds_i16 {n : Int} (h : (Lit.int .i16 n).wf = true) : -32768 ≤ n ∧ n ≤ 32767 := by
  simp only [Lit.wf, IntKind.min, IntKind.max, decide_eq_true_eq] at h
  simpa [IntKind.signed, IntKind.bits] using h

theorem row16 {w : World} {a : Option Addr} {len cap : Nat} {zs : List Int} (h : IsRow .i16 w a len cap zs) (h0 : 0 < len) :
    ∃ b off, a = some ⟨b, off, none⟩ ∧ b < w.heap.size ∧ len ≤ zs.length ∧ (∀ i, i < len → w.cell? ⟨b, off + i, none⟩ = some (.int .i16 (zs.getD i 0))) ∧ ∀ i, -32768 ≤ zs.getD i 0 ∧ zs.getD i 0 ≤ 32767 := by
  rcases h with ⟨rfl, rfl, rfl, rfl⟩ | ⟨x, rfl, hl, hm, hz, hcell, hwz⟩
  · omega
  · obtain ⟨b, off, spot⟩ := x
    have hc := hcell 0 (by omega)
    have hspot : spot = none := by simpa [Addr.add] using World.cell?_spot hc
    subst hspot
    refine ⟨b, off, rfl, World.block_lt_of_cell? _ _ hc, by omega, fun i hi => ?_, fun i => ?_⟩
    · have := hcell i (by omega)
      by_cases hi0 : i = 0
      · subst hi0; simpa [Addr.add] using this
      · simpa [Addr.add, hi0] using this
    · by_cases hi : i < zs.length
      · have e : zs.getD i 0 = zs[i] := by simp [List.getD, hi]
        rw [e]
        exact bounds_i16 (hwz _ (List.getElem_mem hi))
      · rw [show zs.getD i 0 = 0 from by simp [List.getD, Nat.not_lt.1 hi]]; omega

theorem flt_lt (n : Int) : flt n < TOP := (flt_rung n).2.2.2

/-- A row of the call's own, as a row of floats. -/
theorem frow_of_own {w : World} {base : Nat} {v : Value} {l : List Nat} (h : w.ownsRow base 22 1 v l.length (l.map (Value.float .f64))) (hx : ∀ x ∈ l, x < TOP) :
    ∃ a cap, v = .slice a l.length cap ∧ FRow w a l.length l := by
  by_cases hv : v = .slice none 0 0
  · have h0 : l.length = 0 := by
      rcases h.2 with ⟨_, g⟩ | ⟨g, cap, cur, e, _⟩
      · exact g
      · rw [hv] at e; cases e
    refine ⟨none, 0, by rw [h0]; exact hv, rfl, by rw [h0]; decide, hx, .inl h0⟩
  · obtain ⟨g, cap, rfl, _, hg2, hc1, hc2, _, hH⟩ := Go.Lib.holds_of_ownsRow (enc := Value.float .f64) h hv
    refine ⟨_, cap, rfl, rfl, Nat.le_trans hc1 hc2, hx, .inr ⟨g, 0, rfl, hg2, fun i hi => ?_⟩⟩
    have := (hH i (by simpa using hi)).1
    rw [this, getElem!_pos l.toArray i (by simpa using hi)]
    simp [List.getD, hi]

theorem take_snoc {l : List Int} {k : Nat} (h : k < l.length) : (l.take (k + 1)).map flt = (l.take k).map flt ++ [flt (l.getD k 0)] := by
  rw [List.take_succ_eq_append_getElem h, List.map_append]
  simp [List.getD, h]

theorem key_flt_lt {a b : Int} (ha : a.natAbs < 9007199254740992) (hb : b.natAbs < 9007199254740992) (h : a < b) : key (flt a) < key (flt b) := by
  obtain ⟨ra, na, fa, va⟩ := near_exact ha
  obtain ⟨rb, nb, fb, vb⟩ := near_exact hb
  have ka : key (flt a) = if decide (a < 0) = true then -(ra : Int) - 1 else ra := by
    rw [show flt a = Ieee.double.word (decide (a < 0)) ra from (flt_word a).1.trans (by rw [na])]; exact key_word _ (Nat.le_of_lt fa)
  have kb : key (flt b) = if decide (b < 0) = true then -(rb : Int) - 1 else rb := by
    rw [show flt b = Ieee.double.word (decide (b < 0)) rb from (flt_word b).1.trans (by rw [nb])]; exact key_word _ (Nat.le_of_lt fb)
  rw [ka, kb]
  have lt_of : ∀ {r s : Nat} {x y : Nat}, val r = x * U → val s = y * U → x < y → r < s := fun {r s x y} h1 h2 h3 => by
    refine val_lt_iff.1 ?_
    rw [h1, h2]
    exact Nat.mul_lt_mul_of_pos_right h3 U_pos
  by_cases h1 : a < 0
  · by_cases h2 : b < 0
    · have := lt_of vb va (by omega)
      simp only [h1, h2, decide_true, if_true]; omega
    · simp only [h1, h2, decide_true, decide_false, if_true, Bool.false_eq_true, if_false]; omega
  · have h2 : ¬ b < 0 := by omega
    have := lt_of va vb (by omega)
    simp only [h1, h2, decide_false, Bool.false_eq_true, if_false]; omega

theorem isum_ge {l : List Int} {m : Int} : ∀ k : Nat, (∀ i, i < k → m ≤ l.getD i 0) → m * k ≤ isum l k
  | 0, _ => by simp [isum]
  | k + 1, h => by
    have := isum_ge k (fun i hi => h i (by omega))
    have := h k (by omega)
    simp only [isum]
    have e : m * ((k + 1 : Nat) : Int) = m * k + m := by rw [Int.natCast_add, Int.mul_add]; simp
    omega
theorem isum_le {l : List Int} {m : Int} : ∀ k : Nat, (∀ i, i < k → l.getD i 0 ≤ m) → isum l k ≤ m * k
  | 0, _ => by simp [isum]
  | k + 1, h => by
    have := isum_le k (fun i hi => h i (by omega))
    have := h k (by omega)
    simp only [isum]
    have e : m * ((k + 1 : Nat) : Int) = m * k + m := by rw [Int.natCast_add, Int.mul_add]; simp
    omega

theorem getD_take (zs : List Int) {k i : Nat} (h : i < k) : (zs.take k).getD i 0 = zs.getD i 0 := by
  simp [List.getD, List.getElem?_take, h]

/-- All that the law asks of the mean of so many whole numbers. -/
theorem means_math {zs : List Int} {len : Nat} (hl : len ≤ zs.length) (h1 : 1 ≤ len) (h30 : len ≤ 30) (hb : ∀ i, -32768 ≤ zs.getD i 0 ∧ zs.getD i 0 ≤ 32767) :
    ∃ m, (∀ r, nrm r = meanN ((zs.take len).map flt) → r = m) ∧
      (∀ r, LowOf ((zs.take len).map flt) r → 0 ≤ cp m r) ∧ (∀ r, HighOf ((zs.take len).map flt) r → cp m r ≤ 0) := by
  have hlen : (zs.take len).length = len := by rw [List.length_take]; omega
  have hb' : ∀ i, -32768 ≤ (zs.take len).getD i 0 ∧ (zs.take len).getD i 0 ≤ 32767 := fun i => by
    by_cases h : i < len
    · rw [getD_take zs h]; exact hb i
    · rw [show (zs.take len).getD i 0 = 0 from by simp [List.getD, List.getElem?_take, h]]; omega
  generalize zs.take len = L at hlen hb'
  obtain ⟨S, hS⟩ : ∃ S, isum L len = S := ⟨_, rfl⟩
  have bS := isum_bound hb' len
  rw [hS] at bS
  obtain ⟨R, pR, dR⟩ := mean_rung S len (by omega) (by omega) (by omega)
  have hm : meanN (L.map flt) = some (Ieee.double.word (decide (S < 0)) R) := by
    unfold meanN
    rw [List.length_map, hlen, if_neg (by omega), sum_flt hb' len (by omega), hS]
    exact dR
  have fin := pR.fin
  have kS0 : S = 0 → key (Ieee.double.word (decide (S < 0)) R) = 0 := fun h => by
    have : R = 0 := by
      have := pR.le 0 (by rw [h]; simp)
      omega
    rw [this, h]; decide +kernel
  have kflt0 : key (flt 0) = 0 := by decide +kernel
  have kmono : ∀ a b : Int, a.natAbs < 9007199254740992 → b.natAbs < 9007199254740992 → a ≤ b → key (flt a) ≤ key (flt b) := fun a b ha hb h => by
    rcases Int.lt_or_eq_of_le h with g | g
    · exact Int.le_of_lt (key_flt_lt ha hb g)
    · rw [g]; exact Int.le_refl _
  refine ⟨Ieee.double.word (decide (S < 0)) R, fun r hr => ?_, fun r hr => ?_, fun r hr => ?_⟩
  · rw [hm] at hr; exact (nrm_some.1 hr).2
  · unfold LowOf at hr
    rw [List.length_map, hlen, if_neg (by omega)] at hr
    obtain ⟨⟨j, hj, e⟩, h2⟩ := hr
    rw [getD_flt] at e
    subst e
    have bj := hb' j
    have mn : ∀ i, i < len → L.getD j 0 ≤ L.getD i 0 := fun i hi => by
      have := h2 i hi
      rw [getD_flt] at this
      rcases Int.lt_or_le (L.getD i 0) (L.getD j 0) with g | g
      · have b2 := hb' i
        have := key_flt_lt (by omega) (by omega) g; omega
      · exact g
    have hge := isum_ge len mn
    rw [hS] at hge
    have : key (flt (L.getD j 0)) ≤ key (Ieee.double.word (decide (S < 0)) R) := by
      by_cases h0 : S = 0
      · have : key (flt (L.getD j 0)) ≤ key (flt 0) := by
          refine kmono _ _ (by omega) (by decide) ?_
          rcases Int.lt_or_le 0 (L.getD j 0) with g | g
          · have := Int.mul_pos g (show (0 : Int) < len by omega); omega
          · exact g
        rw [kS0 h0]; omega
      · exact (mean_between pR (by omega) (L.getD j 0) 32767 hge (by
          have := isum_le (l := L) (m := 32767) len (fun i hi => (hb' i).2); rw [hS] at this; exact this) (by omega) (by decide) h0).1
    unfold cp; omega
  · unfold HighOf at hr
    rw [List.length_map, hlen, if_neg (by omega)] at hr
    obtain ⟨⟨j, hj, e⟩, h2⟩ := hr
    rw [getD_flt] at e
    subst e
    have bj := hb' j
    have mx : ∀ i, i < len → L.getD i 0 ≤ L.getD j 0 := fun i hi => by
      have := h2 i hi
      rw [getD_flt] at this
      rcases Int.lt_or_le (L.getD j 0) (L.getD i 0) with g | g
      · have b2 := hb' i
        have := key_flt_lt (by omega) (by omega) g; omega
      · exact g
    have hle := isum_le len mx
    rw [hS] at hle
    have : key (Ieee.double.word (decide (S < 0)) R) ≤ key (flt (L.getD j 0)) := by
      by_cases h0 : S = 0
      · have : key (flt 0) ≤ key (flt (L.getD j 0)) := by
          refine kmono _ _ (by decide) (by omega) ?_
          rcases Int.lt_or_le (L.getD j 0) 0 with g | g
          · have := Int.mul_neg_of_neg_of_pos g (show (0 : Int) < len by omega); omega
          · exact g
        rw [kS0 h0]; omega
      · exact (mean_between pR (by omega) (-32768) (L.getD j 0) (by
          have := isum_ge (l := L) (m := -32768) len (fun i hi => (hb' i).1); rw [hS] at this; exact this) hle (by decide) (by omega) h0).2
    unfold cp; omega

theorem sumN_front (l : List Nat) (e : Nat) : ∀ k, k ≤ l.length → sumN (l ++ [e]) k = sumN l k
  | 0, _ => rfl
  | k + 1, h => by
    rw [sumN, sumN, sumN_front l e k (by omega)]
    congr 1
    simp [List.getD, List.getElem?_append_left (show k < l.length by omega)]

theorem div_any {s y : Nat} (hs : isNaN s = false) (hy : rung y < INF) (hy0 : rung y ≠ 0) : ∃ r, Ieee.double.div s y = some r := by
  have hn0 : mg (rung y) ≠ 0 := by
    unfold mg; split
    · exact hy0
    · have : (0 : Nat) < BIN := by decide
      omega
  have h := (not_nan s).1 hs
  rcases Nat.lt_or_eq_of_le h with g | g
  · obtain ⟨R, _, hd, _⟩ := div_rung g hy hy0
    exact ⟨_, hd⟩
  · unfold Ieee.Format.div
    rw [read_inf g, read_num hy]
    exact ⟨_, rfl⟩

theorem inf_add {S : Int} (hS : S.natAbs < 9007199254740992) {e : Nat} (he : rung e = INF) {y : Nat} (hy : rung y < INF) (hy0 : rung y ≠ 0) (hys : sgn y = false) :
    (Ieee.double.add (flt S) e).bind (fun s => Ieee.double.div s y) = some (Ieee.double.word (sgn e) INF) := by
  obtain ⟨r, _, _, _, er⟩ := flt_read hS
  have h1 : Ieee.double.add (flt S) e = some (Ieee.double.word (sgn e) INF) := by
    unfold Ieee.Format.add
    rw [er, read_inf he]
    show some (Ieee.double.word (sgn e) Ieee.double.infRung) = _
    rw [d_inf]
  rw [h1]
  show Ieee.double.div _ y = _
  obtain ⟨_, _, h3, h4⟩ := word_nan (sgn e) (Nat.le_refl INF)
  unfold Ieee.Format.div
  rw [read_inf h3, h4, read_num hy]
  show some (Ieee.double.word (sgn e ^^ sgn y) Ieee.double.infRung) = _
  rw [d_inf, hys, Bool.xor_false]

theorem cls_rung {e : Nat} : (cls e = 5 → rung e = INF ∧ sgn e = false) ∧ (cls e = 0 → rung e = INF ∧ sgn e = true) ∧ (cls e = 6 ↔ isNaN e = true) := by
  have hs := srung_cases e
  have eI := eINF
  unfold cls
  cases h : isNaN e
  · simp only [Bool.false_eq_true, if_false]
    have hn := (not_nan e).1 h
    refine ⟨fun g => ?_, fun g => ?_, ?_⟩
    · have : srung e = INF := by omega
      rcases hs with ⟨s1, s2⟩ | ⟨s1, s2⟩
      · omega
      · exact ⟨by omega, s1⟩
    · have : srung e = -INF := by omega
      rcases hs with ⟨s1, s2⟩ | ⟨s1, s2⟩
      · exact ⟨by omega, s1⟩
      · omega
    · simp only [iff_false]; omega
  · simp

/-- One more, an edge or not. -/
theorem edge_math {zs : List Int} {len : Nat} (hl : len ≤ zs.length) (h30 : len ≤ 30) (hb : ∀ i, -32768 ≤ zs.getD i 0 ∧ zs.getD i 0 ≤ 32767) (e r : Nat) (hr : nrm r = meanN ((zs.take len).map flt ++ [e])) :
    (cls e = 6 → cls r = 6) ∧ (cls e = 5 → cls r = 5) ∧ (cls e = 0 → cls r = 0) ∧ (cls e ≠ 6 → cls r < 6) := by
  have hlen : (zs.take len).length = len := by rw [List.length_take]; omega
  have hb' : ∀ i, -32768 ≤ (zs.take len).getD i 0 ∧ (zs.take len).getD i 0 ≤ 32767 := fun i => by
    by_cases h : i < len
    · rw [getD_take zs h]; exact hb i
    · rw [show (zs.take len).getD i 0 = 0 from by simp [List.getD, List.getElem?_take, h]]; omega
  generalize zs.take len = L at hlen hb' hr
  have bS := isum_bound hb' len
  have hm : meanN (L.map flt ++ [e]) = (Ieee.double.add (flt (isum L len)) e).bind fun s => Ieee.double.div s (flt ((len + 1 : Nat) : Int)) := by
    unfold meanN
    rw [List.length_append, List.length_map, hlen, if_neg (by simp)]
    simp only [List.length_cons, List.length_nil, Nat.zero_add]
    rw [sumN, sumN_front _ _ len (by rw [List.length_map, hlen]; exact Nat.le_refl _), sum_flt hb' len (by omega)]
    have hg : (L.map flt ++ [e]).getD len 0 = e := by
      have hle : (L.map flt).length = len := by rw [List.length_map, hlen]
      simp [List.getD, List.getElem?_append_right (Nat.le_of_eq hle), hle]
    rw [hg]
    rfl
  rw [hm] at hr
  obtain ⟨y1, y2, y3, y4⟩ := flt_rung ((len + 1 : Nat) : Int)
  have yb := flt_between (m := (((len + 1 : Nat) : Int)).natAbs) (by omega) (by omega)
  have t1 : T63 < INF := by decide
  have t2 : 0 < ONE := by decide
  rw [← y1] at yb
  have hys : sgn (flt ((len + 1 : Nat) : Int)) = false := by rw [y2]; exact decide_eq_false (by omega)
  have hSb : (isum L len).natAbs < 9007199254740992 := by omega
  have hy : rung (flt ((len + 1 : Nat) : Int)) < INF := by show rung (floatOfInt .f64 ((len + 1 : Nat) : Int)) < INF; omega
  have hy0 : rung (flt ((len + 1 : Nat) : Int)) ≠ 0 := by show rung (floatOfInt .f64 ((len + 1 : Nat) : Int)) ≠ 0; omega
  generalize flt ((len + 1 : Nat) : Int) = y at hr hy hy0 hys
  refine ⟨fun h => ?_, fun h => ?_, fun h => ?_, fun h => ?_⟩
  · have hn := cls_rung.2.2.1 h
    obtain ⟨ra, _, _, _, er⟩ := flt_read hSb
    have h1 : Ieee.double.add (flt (isum L len)) e = none := by
      unfold Ieee.Format.add
      rw [er, read_nan ((nan_iff e).1 hn)]
      rfl
    rw [h1] at hr
    exact cls_nan (nrm_none.1 hr)
  · obtain ⟨h1, h2⟩ := cls_rung.1 h
    rw [inf_add hSb h1 hy hy0 hys, h2] at hr
    rw [(nrm_some.1 hr).2, cls_word false (Nat.le_refl _)]
    rfl
  · obtain ⟨h1, h2⟩ := cls_rung.2.1 h
    rw [inf_add hSb h1 hy hy0 hys, h2] at hr
    rw [(nrm_some.1 hr).2, cls_word true (Nat.le_refl _)]
    rfl
  · have hn : isNaN e = false := by
      cases g : isNaN e
      · rfl
      · exact absurd (cls_rung.2.2.2 g) h
    have key : ∃ v, (Ieee.double.add (flt (isum L len)) e).bind (fun s => Ieee.double.div s y) = some v := by
      rcases Nat.lt_or_eq_of_le ((not_nan e).1 hn) with g | g
      · obtain ⟨ra, _, _, _, er⟩ := flt_read hSb
        obtain ⟨s, hs⟩ : ∃ s, Ieee.double.add (flt (isum L len)) e = some s := by
          unfold Ieee.Format.add
          rw [er, read_num g]
          exact ⟨_, rfl⟩
        rw [hs]
        exact div_any (add_real hs).1 hy hy0
      · exact ⟨_, inf_add hSb g hy hy0 hys⟩
    obtain ⟨v, hv⟩ := key
    rw [hv] at hr
    have hr1 := (nrm_some.1 hr).1
    have := cls_bounds r
    have h6 : cls r ≠ 6 := fun k => by rw [cls_rung.2.2.1 k] at hr1; cases hr1
    omega

end Go.Proofs.Ythmpkelnmlkbiaa
