/- The stable sort's plain part: exchanging two neighbouring stretches of a row; merging two sorted ones by it. -/
import Derived.Sort.Lot0
import Derived.Sort.LotA
import Derived.Sort.LotD2
namespace Go.Proofs.Ythmpkelnmlkbiaa
open Go.Sort
set_option linter.unusedVariables false
variable {α : Type} [Inhabited α] {lt : α → α → Bool}

/-- d' is d with the i places from lo on and the j places behind them exchanged, each in its order. -/
structure Rot (lo i j : Nat) (d d' : Array α) : Prop where
  size : d'.size = d.size
  fst : ∀ k, lo ≤ k → k < lo + j → d'[k]! = d[k + i]!
  snd : ∀ k, lo + j ≤ k → k < lo + i + j → d'[k]! = d[k - j]!
  out : ∀ k, k < lo ∨ lo + i + j ≤ k → d'[k]! = d[k]!

/-- d' is d with n places from a on and n places from b on exchanged. -/
structure Exch (a b n : Nat) (d d' : Array α) : Prop where
  size : d'.size = d.size
  fst : ∀ k, a ≤ k → k < a + n → d'[k]! = d[k + (b - a)]!
  snd : ∀ k, b ≤ k → k < b + n → d'[k]! = d[k - (b - a)]!
  out : ∀ k, k < a ∨ (a + n ≤ k ∧ k < b) ∨ b + n ≤ k → d'[k]! = d[k]!

theorem Exch.zero (a b : Nat) (d : Array α) : Exch a b 0 d d := ⟨rfl, fun k _ _ => by omega, fun k _ _ => by omega, fun k _ => rfl⟩

theorem Exch.step {a b n : Nat} {d dk : Array α} (h : Exch a b n d dk) (hab : a + (n + 1) ≤ b) (hb : b + n < d.size) : Exch a b (n + 1) d (swp dk (a + n) (b + n)) := by
  have hs := h.size
  refine ⟨by rw [size_swp]; exact hs, fun k h1 h2 => ?_, fun k h1 h2 => ?_, fun k h1 => ?_⟩
  · by_cases e : k = a + n
    · rw [e, swp_left _ _ _ (by omega) (by omega), h.out (b + n) (by omega)]; congr 1; omega
    · rw [swp_other _ _ _ _ e (by omega)]; exact h.fst k h1 (by omega)
  · by_cases e : k = b + n
    · rw [e, swp_right _ _ _ (by omega), h.out (a + n) (by omega)]; congr 1; omega
    · rw [swp_other _ _ _ _ (by omega) e]; exact h.snd k h1 (by omega)
  · rw [swp_other _ _ _ _ (by omega) (by omega)]; exact h.out k (by omega)

theorem Rot.of_exch {lo i : Nat} {d d' : Array α} (h : Exch lo (lo + i) i d d') : Rot lo i i d d' :=
  ⟨h.size, fun k h1 h2 => by rw [h.fst k h1 h2]; congr 1; omega, fun k h1 h2 => by rw [h.snd k h1 (by omega)]; congr 1; omega, fun k h1 => h.out k (by omega)⟩

theorem Rot.big {lo i j : Nat} {d d1 d' : Array α} (hij : j < i) (h : Exch lo (lo + i) j d d1) (g : Rot (lo + j) (i - j) j d1 d') : Rot lo i j d d' := by
  refine ⟨g.size.trans h.size, fun k h1 h2 => ?_, fun k h1 h2 => ?_, fun k h1 => ?_⟩
  · rw [g.out k (by omega), h.fst k h1 h2]; congr 1; omega
  · by_cases e : k < lo + j + j
    · rw [g.fst k (by omega) e, h.snd _ (by omega) (by omega)]; congr 1; omega
    · rw [g.snd k (by omega) (by omega), h.out _ (by omega)]
  · rw [g.out k (by omega), h.out k (by omega)]

theorem Rot.small {lo i j : Nat} {d d1 d' : Array α} (hij : i < j) (h : Exch lo (lo + j) i d d1) (g : Rot lo i (j - i) d1 d') : Rot lo i j d d' := by
  refine ⟨g.size.trans h.size, fun k h1 h2 => ?_, fun k h1 h2 => ?_, fun k h1 => ?_⟩
  · by_cases e : k < lo + (j - i)
    · rw [g.fst k h1 e, h.out _ (by omega)]
    · rw [g.snd k (by omega) (by omega), h.fst _ (by omega) (by omega)]; congr 1; omega
  · rw [g.out k (by omega), h.snd k (by omega) (by omega)]; congr 1; omega
  · rw [g.out k (by omega), h.out k (by omega)]

theorem Rot.triv {lo i j : Nat} {d : Array α} (h : i = 0 ∨ j = 0) : Rot lo i j d d :=
  ⟨rfl, fun k h1 h2 => by congr 1; omega, fun k h1 h2 => by congr 1; omega, fun _ _ => rfl⟩

theorem Rot.up {a n : Nat} {d dk : Array α} (h : Rot a 1 n d dk) (hs : a + n + 1 < d.size) : Rot a 1 (n + 1) d (swp dk (a + n) (a + n + 1)) := by
  have hz := h.size
  refine ⟨by rw [size_swp]; exact hz, fun k h1 h2 => ?_, fun k h1 h2 => ?_, fun k h1 => ?_⟩
  · by_cases e : k = a + n
    · rw [e, swp_left _ _ _ (by omega) (by omega), h.out _ (by omega)]
    · rw [swp_other _ _ _ _ e (by omega)]; exact h.fst k h1 (by omega)
  · have e : k = a + n + 1 := by omega
    rw [e, swp_right _ _ _ (by omega), h.snd _ (by omega) (by omega)]; congr 1; omega
  · rw [swp_other _ _ _ _ (by omega) (by omega)]; exact h.out k (by omega)

theorem Rot.down {k n : Nat} {d dk : Array α} (h : Rot (k + 1) n 1 d dk) (hs : k + 1 + n < d.size) : Rot k (n + 1) 1 d (swp dk (k + 1) k) := by
  have hz := h.size
  refine ⟨by rw [size_swp]; exact hz, fun x h1 h2 => ?_, fun x h1 h2 => ?_, fun x h1 => ?_⟩
  · have e : x = k := by omega
    rw [e, swp_right _ _ _ (by omega), h.fst _ (by omega) (by omega)]; congr 1; omega
  · by_cases e : x = k + 1
    · rw [e, swp_left _ _ _ (by omega) (by omega), h.out _ (by omega)]; congr 1
    · rw [swp_other _ _ _ _ e (by omega)]; exact h.snd x (by omega) (by omega)
  · rw [swp_other _ _ _ _ (by omega) (by omega)]; exact h.out x (by omega)

theorem swo_asymm {β : Type} {lt : β → β → Bool} (hS : SWO lt) {x y : β} (h : lt x y = true) : lt y x = false := by
  cases g : lt y x
  · rfl
  · have := hS.trans _ _ _ h g; rw [hS.irrefl] at this; cases this

theorem sorted_le (hS : SWO lt) {a b : Nat} {d : Array α} (h : SortedIn lt a b d) {i j : Nat} (h1 : a ≤ i) (h2 : i ≤ j) (h3 : j < b) : lt d[j]! d[i]! = false := by
  rcases Nat.lt_or_eq_of_le h2 with g | g
  · exact h i j h1 g h3
  · rw [g]; exact hS.irrefl _

/-- The one at a led in among those from a + 1 on. -/
theorem ins_left (hS : SWO lt) {a b n : Nat} {d d' : Array α} (hr : Rot a 1 n d d') (hn : a + 1 + n ≤ b) (hs : SortedIn lt (a + 1) b d)
    (h1 : n = 0 ∨ lt d[a + n]! d[a]! = true) (h2 : a + 1 + n = b ∨ lt d[a + 1 + n]! d[a]! = false) : SortedIn lt a b d' := by
  intro x y hx hxy hy
  have lo : ∀ k, a + 1 ≤ k → k ≤ a + n → lt d[a]! d[k]! = false := fun k g1 g2 => by
    rcases h1 with h1 | h1
    · omega
    · exact hS.ntrans _ _ _ (swo_asymm hS h1) (sorted_le hS hs g1 g2 (by omega))
  have hi : ∀ k, a + 1 + n ≤ k → k < b → lt d[k]! d[a]! = false := fun k g1 g2 => by
    rcases h2 with h2 | h2
    · omega
    · exact hS.ntrans _ _ _ (sorted_le hS hs (by omega) g1 g2) h2
  rcases Nat.lt_trichotomy x (a + n) with c | c | c
  · rw [hr.fst x hx c]
    rcases Nat.lt_trichotomy y (a + n) with e | e | e
    · rw [hr.fst y (by omega) e]; exact hs _ _ (by omega) (by omega) (by omega)
    · rw [e, hr.snd (a + n) (by omega) (by omega), show a + n - n = a from by omega]; exact lo _ (by omega) (by omega)
    · rw [hr.out y (by omega)]; exact hs _ _ (by omega) (by omega) hy
  · rw [c, hr.snd (a + n) (by omega) (by omega), show a + n - n = a from by omega, hr.out y (by omega)]
    exact hi y (by omega) hy
  · rw [hr.out x (by omega), hr.out y (by omega)]; exact hs _ _ (by omega) hxy hy

/-- The one at m led in among those ahead of it. -/
theorem ins_right (hS : SWO lt) {a i n : Nat} {d d' : Array α} (hr : Rot i n 1 d d') (ha : a ≤ i) (hs : SortedIn lt a (i + n) d)
    (h1 : i = a ∨ lt d[i + n]! d[i - 1]! = false) (h2 : n = 0 ∨ lt d[i + n]! d[i]! = true) : SortedIn lt a (i + n + 1) d' := by
  intro x y hx hxy hy
  have lo : ∀ k, a ≤ k → k < i → lt d[i + n]! d[k]! = false := fun k g1 g2 => by
    rcases h1 with h1 | h1
    · omega
    · exact hS.ntrans _ _ _ h1 (sorted_le hS hs g1 (by omega) (by omega))
  have hi : ∀ k, i ≤ k → k < i + n → lt d[k]! d[i + n]! = false := fun k g1 g2 => by
    rcases h2 with h2 | h2
    · omega
    · exact hS.ntrans _ _ _ (sorted_le hS hs (by omega) g1 g2) (swo_asymm hS h2)
  have ei : d'[i]! = d[i + n]! := hr.fst i (by omega) (by omega)
  rcases Nat.lt_trichotomy x i with c | c | c
  · rw [hr.out x (by omega)]
    rcases Nat.lt_trichotomy y i with e | e | e
    · rw [hr.out y (by omega)]; exact hs _ _ hx hxy (by omega)
    · rw [e, ei]; exact lo x hx c
    · rw [hr.snd y (by omega) (by omega)]; exact hs _ _ hx (by omega) (by omega)
  · rw [c, ei, hr.snd y (by omega) (by omega)]; exact hi _ (by omega) (by omega)
  · rw [hr.snd x (by omega) (by omega), hr.snd y (by omega) (by omega)]; exact hs _ _ (by omega) (by omega) (by omega)

/-- What the search in the middle has found: how far the one stretch is ahead of the other. -/
structure Found (lt : α → α → Bool) (a m b mid s : Nat) (d : Array α) : Prop where
  am : a < m
  mb : m < b
  mida : a < mid
  midb : mid < b
  sa : a ≤ s
  sm : s ≤ m
  sd : s ≤ mid
  em : m ≤ mid + m - s
  eb : mid + m - s ≤ b
  low : s = a ∨ mid + m - s = b ∨ lt d[mid + m - s]! d[s - 1]! = false
  high : s = m ∨ s = mid ∨ lt d[mid + m - 1 - s]! d[s]! = true

variable {a m b mid s : Nat} {d d1 : Array α}

theorem Found.parts (h : Found lt a m b mid s d) (hr : Rot s (m - s) (mid - s) d d1) (h1 : SortedIn lt a m d) (h2 : SortedIn lt m b d) :
    SortedIn lt a s d1 ∧ SortedIn lt s mid d1 ∧ SortedIn lt mid (mid + m - s) d1 ∧ SortedIn lt (mid + m - s) b d1 := by
  obtain ⟨q1, q2, q3, q4, q5, q6, q7, q8, q9, _, _⟩ := h
  refine ⟨fun x y hx hxy hy => ?_, fun x y hx hxy hy => ?_, fun x y hx hxy hy => ?_, fun x y hx hxy hy => ?_⟩
  · rw [hr.out x (by omega), hr.out y (by omega)]; exact h1 _ _ hx hxy (by omega)
  · rw [hr.fst x hx (by omega), hr.fst y (by omega) (by omega)]; exact h2 _ _ (by omega) (by omega) (by omega)
  · rw [hr.snd x (by omega) (by omega), hr.snd y (by omega) (by omega)]; exact h1 _ _ (by omega) (by omega) (by omega)
  · rw [hr.out x (by omega), hr.out y (by omega)]; exact h2 _ _ (by omega) hxy hy

theorem Found.cross (hS : SWO lt) (h : Found lt a m b mid s d) (hr : Rot s (m - s) (mid - s) d d1) (h1 : SortedIn lt a m d) (h2 : SortedIn lt m b d) :
    ∀ x y, a ≤ x → x < mid → mid ≤ y → y < b → lt d1[y]! d1[x]! = false := by
  obtain ⟨q1, q2, q3, q4, q5, q6, q7, q8, q9, low, high⟩ := h
  intro x y hx hx2 hy hy2
  by_cases cx : x < s
  · rw [hr.out x (by omega)]
    by_cases cy : y < mid + m - s
    · rw [hr.snd y (by omega) (by omega)]; exact h1 _ _ hx (by omega) (by omega)
    · rw [hr.out y (by omega)]
      rcases low with l | l | l
      · omega
      · omega
      · exact hS.ntrans _ _ _ (hS.ntrans _ _ _ (sorted_le hS h2 (by omega) (by omega) hy2) l) (sorted_le hS h1 hx (by omega) (by omega))
  · rw [hr.fst x (by omega) (by omega)]
    by_cases cy : y < mid + m - s
    · rw [hr.snd y (by omega) (by omega)]
      rcases high with l | l | l
      · omega
      · omega
      · exact hS.ntrans _ _ _ (hS.ntrans _ _ _ (sorted_le hS h1 (show a ≤ s by omega) (show s ≤ y - (mid - s) by omega) (by omega)) (swo_asymm hS l)) (sorted_le hS h2 (by omega) (by omega) (by omega))
    · rw [hr.out y (by omega)]; exact h2 _ _ (by omega) (by omega) hy2

/-- Both halves sorted, the one ahead of the other: all is. -/
theorem merge_final {d2 d3 : Array α} (hb : b ≤ d1.size) (hmb : mid ≤ b) (p1 : PermIn a mid d1 d2) (s1 : SortedIn lt a mid d2) (p2 : PermIn mid b d2 d3) (s2 : SortedIn lt mid b d3)
    (cross : ∀ x y, a ≤ x → x < mid → mid ≤ y → y < b → lt d1[y]! d1[x]! = false) : SortedIn lt a b d3 := by
  have c1 : ∀ y, mid ≤ y → y < b → ∀ x, a ≤ x → x < mid → lt d1[y]! d2[x]! = false := fun y g1 g2 =>
    permIn_all d1 d2 a mid (fun v => lt d1[y]! v = false) (by omega) p1 (fun x g3 g4 => cross x y g3 g4 g1 g2)
  have c2 : ∀ x, a ≤ x → x < mid → ∀ y, mid ≤ y → y < b → lt d3[y]! d2[x]! = false := fun x g1 g2 =>
    permIn_all d2 d3 mid b (fun v => lt v d2[x]! = false) (by rw [p1.1]; exact hb) p2 (fun y g3 g4 => by rw [p1.2.1 y (by omega)]; exact c1 y g3 g4 x g1 g2)
  intro x y hx hxy hy
  by_cases cx : x < mid
  · rw [p2.2.1 x (by omega)]
    by_cases cy : y < mid
    · rw [p2.2.1 y (by omega)]; exact s1 x y hx hxy cy
    · exact c2 x hx cx y (by omega) hy
  · exact s2 x y (by omega) hxy hy

end Go.Proofs.Ythmpkelnmlkbiaa
