/- Clusters: what nodes have in use and have left is what they have; a pod moved, dropped: in plain words. -/
import Derived.Test.YtapnffejnhkoaaaGreatStSum
import Derived.Test.YtapnffejnhkoaaaGreatStRefM
namespace Go.Proofs.YtapnffejnhkoaaaGreat
open Go.RowKit
set_option linter.unusedVariables false

structure Sound (s : Clu) : Prop where
  parts : Parts s
  asc : Asc s.pods
  need : ∀ p ∈ s.pods, Fit8 p.need
  cap : ∀ n ∈ s.nodes, Fit8 n.cap
theorem sound_of {s : Clu} {w : World} {v : Value} (h : goodSt s = true) (hr : CluR w v s) : Sound s := by
  have hp := st_parts (good_chk h)
  obtain ⟨v1, v2, v3, rfl, ⟨a, cap, rfl, -, -, h1⟩, ⟨b, cp, rfl, -, -, h2⟩, -⟩ := hr
  refine ⟨hp, good_asc h, fun p hm => fit8_of (hp.need0 hm) ?_, fun n hm => fit8_of (hp.cap0 hm) ?_⟩
  · obtain ⟨k, hk, rfl⟩ := List.mem_iff_getElem.1 hm
    rcases h2.2.2 with h0 | ⟨b, off, -, -, hc⟩
    · omega
    · obtain ⟨v1, v2, v3, v4, -, -, -, -, -, -, -, -, -, -, -, hat⟩ := hc k _ (List.getElem?_eq_getElem hk)
      obtain ⟨a9, c9, -, -, -, g⟩ := hat.need
      exact g.2.2.1
  · obtain ⟨k, hk, rfl⟩ := List.mem_iff_getElem.1 hm
    rcases h1.2.2 with h0 | ⟨b, off, -, -, hc⟩
    · omega
    · obtain ⟨a1, m1, c1, a2, m2, c2, a3, m3, c3, -, -, -, -, -, hat⟩ := hc k _ (List.getElem?_eq_getElem hk)
      obtain ⟨a9, c9, -, -, -, g⟩ := hat.cap
      exact g.2.2.1
theorem used_at {s : Clu} (h : Sound s) {n : Nod} (hn : n ∈ s.nodes) : usedSt s n.name = useV n.name s.pods [] := used_some (h.parts.findN hn)
theorem room_at {s : Clu} (h : Sound s) {n : Nod} (hn : n ∈ s.nodes) : ∃ u f, usedSt s n.name = (0, u) ∧ freeSt s n.name = (0, f) ∧ Vec.mergedV Vec.addF u f = (0, n.cap) ∧ Fit8 u ∧ Fit8 f ∧ Vec.Made (sumP n.name s.pods) u ∧ (∀ m, Vec.getV f m = Vec.getV n.cap m - Vec.getV u m) ∧ ∀ m, Vec.getV u m ≤ Vec.getV n.cap m := by
  obtain ⟨u, hu, hf⟩ := rooms_spec h.parts.rooms n hn
  obtain ⟨hm, hl⟩ := (use_made h.need).1 hu
  have hc := h.cap n hn
  have hle := (Vec.fits_iff hm.1 hc.1).1 hf
  obtain ⟨f, hs, hmf, hlf⟩ := Vec.sub_made hc.1 hm.1 hc.2 hl hle
  have hget : ∀ m, Vec.getV f m = Vec.getV n.cap m - Vec.getV u m := fun m => hmf.2 m
  refine ⟨u, f, (used_at h hn).trans hu, ?_, ?_, ⟨hm.1, hl⟩, ⟨hmf.1, hlf⟩, hm, hget, hle⟩
  · unfold freeSt
    rw [h.parts.findN hn]
    dsimp only
    rw [hu, if_pos rfl]
    exact hs
  · refine Vec.add_made hm.1 hmf.1 hl hlf (fun m => ?_) ⟨hc.1, fun m => ?_⟩ hc.2
    · have := (Vec.get_bd m hc.1).2
      rw [hget]; omega
    · show _ = Vec.getV u m + Vec.getV f m
      rw [hget]; omega
theorem tot_at {s : Clu} (h : Sound s) : ∃ t, totalSt s = (0, t) ∧ Fit8 t ∧ ∀ m, Vec.getV t m = sumN s.nodes m := by
  obtain ⟨c, t, ht⟩ : ∃ c t, totV s.nodes [] = (c, t) := ⟨_, _, rfl⟩
  have h0 := h.parts.tot
  rw [ht] at h0
  dsimp only at h0
  subst h0
  obtain ⟨h1, h2⟩ := (tot_made h.cap).1 ht
  exact ⟨t, ht, ⟨h1.1, h2⟩, h1.2⟩
theorem sumN_snoc (m : ByteArray) : ∀ {l : List Nod} {k : Nat} {n : Nod}, l[k]? = some n → sumN (l.take (k + 1)) m = sumN (l.take k) m + Vec.getV n.cap m
  | y :: t, 0, n, h => by
    obtain rfl : y = n := by simpa using h
    show Vec.getV y.cap m + sumN (t.take 0) m = 0 + _
    rw [List.take_zero]
    show _ + (0 : Int) = _
    omega
  | y :: t, k + 1, n, h => by
    have := sumN_snoc m (l := t) (k := k) (n := n) (by simpa using h)
    show _ + sumN (t.take (k + 1)) m = _ + sumN (t.take k) m + _
    omega
theorem sumN_le (m : ByteArray) : ∀ {l : List Nod} (k : Nat), (∀ n ∈ l, Fit8 n.cap) → 0 ≤ sumN (l.take k) m ∧ sumN (l.take k) m ≤ sumN l m
  | [], k, _ => by rw [List.take_nil]; exact ⟨Int.le_refl _, Int.le_refl _⟩
  | y :: t, 0, h => ⟨Int.le_refl _, sumN_pos h m⟩
  | y :: t, k + 1, h => by
    have := sumN_le m (l := t) k fun n hn => h n (List.mem_cons_of_mem _ hn)
    have h1 := (Vec.get_bd m (h y (List.mem_cons_self ..)).1).1
    show 0 ≤ _ + sumN (t.take k) m ∧ _ + sumN (t.take k) m ≤ _ + sumN t m
    omega
theorem room_less {s : Clu} (h : Sound s) {n : Nod} (hn : n ∈ s.nodes) {p : Pd} (hp : p ∈ s.pods) : ∃ a b, freeSt s n.name = (0, a) ∧ freeSt (dropSt s p.name) n.name = (0, b) ∧ Vec.fitsFrom b a = true := by
  obtain ⟨u, f, h1, h2, -, hu, hf, hm, hget, hle⟩ := room_at h hn
  have hc := h.cap n hn
  have hneed : ∀ q ∈ dropP p.name s.pods, Fit8 q.need := fun q hq => h.need q (drop_mem hq)
  have hsum := sumP_drop (x := n.name) (find_asc h.asc hp)
  obtain ⟨r, hr, hr8, hrle⟩ : ∃ r, Vec.Made (sumP n.name (dropP p.name s.pods)) r ∧ r.length ≤ 8 ∧ ∀ m, Vec.getV r m ≤ Vec.getV u m := by
    cases e : eqS p.node n.name with
    | true =>
      have hone : ∀ m, oneP n.name p m = Vec.getV p.need m := fun m => by unfold oneP; rw [if_pos e]
      have hfit := h.need p hp
      obtain ⟨r, -, h3, h4⟩ := Vec.sub_made hu.1 hfit.1 hu.2 hfit.2 fun m => by
        have h5 := hsum m
        have h6 := sumP_pos hneed (x := n.name) m
        rw [hone] at h5
        rw [hm.2 m]
        omega
      have h7 : ∀ m, Vec.getV r m = sumP n.name (dropP p.name s.pods) m := fun m => by
        have h5 := hsum m
        rw [hone] at h5
        have h8 : Vec.getV r m = Vec.getV u m - Vec.getV p.need m := h3.2 m
        have h9 := hm.2 m
        omega
      exact ⟨r, ⟨h3.1, h7⟩, h4, fun m => by have h8 : Vec.getV r m = Vec.getV u m - Vec.getV p.need m := h3.2 m; have := (Vec.get_bd m hfit.1).1; omega⟩
    | false =>
      have hone : ∀ m, oneP n.name p m = 0 := fun m => by unfold oneP; rw [if_neg (by rw [e]; decide)]
      exact ⟨u, ⟨hu.1, fun m => by rw [hm.2 m]; have := hsum m; rw [hone] at this; omega⟩, hu.2, fun m => Int.le_refl _⟩
  have hd := (use_made hneed).2 ⟨hr, hr8⟩
  obtain ⟨b, hs, hmb, hlb⟩ := Vec.sub_made hc.1 hr.1 hc.2 hr8 fun m => Int.le_trans (hrle m) (hle m)
  refine ⟨f, b, h2, ?_, (Vec.fits_iff hf.1 hmb.1).2 fun m => ?_⟩
  · unfold freeSt
    rw [show (dropSt s p.name).nodes = s.nodes from rfl, h.parts.findN hn]
    dsimp only
    rw [show (dropSt s p.name).pods = dropP p.name s.pods from rfl, hd, if_pos rfl]
    exact hs
  · rw [hget, hmb.2 m]
    have := hrle m
    dsimp only
    omega

end Go.Proofs.YtapnffejnhkoaaaGreat
