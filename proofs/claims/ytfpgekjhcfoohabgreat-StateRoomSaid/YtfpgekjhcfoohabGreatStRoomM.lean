/- Clusters: what nodes have in use and have left is what they have; a pod moved, dropped: in plain words. -/
import Derived.Test.YtfpgekjhcfoohabGreatStSum
import Derived.Test.YtfpgekjhcfoohabGreatStRefM
namespace Go.Proofs.YtfpgekjhcfoohabGreat
open Go.RowKit
set_option linter.unusedVariables false

/-- A sound cluster: its parts, in order, all vectors such that they may be. -/
structure Sound (s : Clu) : Prop where
  parts : Parts s
  asc : Asc s.pods
  need : ∀ p ∈ s.pods, Fit8 p.need
  cap : ∀ n ∈ s.nodes, Fit8 n.cap
theorem sound_of {s : Clu} {w : World} {v : Value} (h : goodSt s = true) (hr : CluR w v s) : Sound s := by
  have hp := st_parts (good_chk h)
  obtain ⟨v1, v2, v3, rfl, ⟨a, cap, rfl, -, -, h1⟩, ⟨b, cp, rfl, -, -, h2⟩, -⟩ := hr
  refine ⟨hp, good_asc h, fun p hm => fit8_of (hp.need0 hm) ?_, fun n hm => fit8_of (hp.cap0 hm) ?_⟩
  · obtain ⟨k, hk, rfl⟩ := List.mem_iff_getElem.1 hm
    rcases h2.2.2 with h0 | ⟨b, off, -, -, hc⟩
    · omega
    · obtain ⟨v1, v2, v3, v4, -, -, -, -, -, -, -, -, -, -, -, hat⟩ := hc k _ (List.getElem?_eq_getElem hk)
      obtain ⟨a9, c9, -, -, -, g⟩ := hat.need
      exact g.2.2.1
  · obtain ⟨k, hk, rfl⟩ := List.mem_iff_getElem.1 hm
    rcases h1.2.2 with h0 | ⟨b, off, -, -, hc⟩
    · omega
    · obtain ⟨a1, m1, c1, a2, m2, c2, a3, m3, c3, -, -, -, -, -, hat⟩ := hc k _ (List.getElem?_eq_getElem hk)
      obtain ⟨a9, c9, -, -, -, g⟩ := hat.cap
      exact g.2.2.1
theorem used_at {s : Clu} (h : Sound s) {n : Nod} (hn : n ∈ s.nodes) : usedSt s n.name = useV n.name s.pods [] := used_some (h.parts.findN hn)
/-- In use, left, and both. -/
theorem room_at {s : Clu} (h : Sound s) {n : Nod} (hn : n ∈ s.nodes) : ∃ u f, usedSt s n.name = (0, u) ∧ freeSt s n.name = (0, f) ∧ Vec.mergedV Vec.addF u f = (0, n.cap) ∧ Fit8 u ∧ Fit8 f ∧ Vec.Made (sumP n.name s.pods) u ∧ (∀ m, Vec.getV f m = Vec.getV n.cap m - Vec.getV u m) ∧ ∀ m, Vec.getV u m ≤ Vec.getV n.cap m := by
  obtain ⟨u, hu, hf⟩ := rooms_spec h.parts.rooms n hn
  obtain ⟨hm, hl⟩ := (use_made h.need).1 hu
  have hc := h.cap n hn
  have hle := (Vec.fits_iff hm.1 hc.1).1 hf
  obtain ⟨f, hs, hmf, hlf⟩ := Vec.sub_made hc.1 hm.1 hc.2 hl hle
  have hget : ∀ m, Vec.getV f m = Vec.getV n.cap m - Vec.getV u m := fun m => hmf.2 m
  refine ⟨u, f, (used_at h hn).trans hu, ?_, ?_, ⟨hm.1, hl⟩, ⟨hmf.1, hlf⟩, hm, hget, hle⟩
  · unfold freeSt
    rw [h.parts.findN hn]
    dsimp only
    rw [hu, if_pos rfl]
    exact hs
  · refine Vec.add_made hm.1 hmf.1 hl hlf (fun m => ?_) ⟨hc.1, fun m => ?_⟩ hc.2
    · have := (Vec.get_bd m hc.1).2
      rw [hget]; omega
    · show _ = Vec.getV u m + Vec.getV f m
      rw [hget]; omega
/-- To where it is: nothing is moved. -/
theorem move_same {l : List Pd} {p : Pd} (h : Asc l) (hp : p ∈ l) : moveP p.name p.node l = l := by
  rw [← rmove_asc h]
  unfold rmoveP
  refine (List.map_congr_left (g := id) fun q hq => ?_).trans (List.map_id _)
  by_cases e : eqS q.name p.name = true
  · have h1 := find_asc h hq
    rw [eqS_iff.1 e, find_asc h hp] at h1
    obtain rfl := Option.some.inj h1
    rw [if_pos e]
    rfl
  · rw [if_neg e]
    rfl
theorem moveSt_same {s : Clu} {p : Pd} (h : Sound s) (hp : p ∈ s.pods) : moveSt s p.name p.node = s := by unfold moveSt; rw [move_same h.asc hp]
theorem sumP_move {x y : ByteArray} : ∀ {l : List Pd} {p : Pd}, findP l y = some p → ∀ n, sumP x (moveP y x l) n + oneP x p n = sumP x l n + Vec.getV p.need n
  | q :: t, p, h, n => by
    by_cases e : eqS q.name y = true
    · have hq : findP (q :: t) y = some q := by unfold findP; exact List.find?_cons_of_pos (p := fun n : Pd => eqS n.name y) e
      rw [hq] at h
      obtain rfl := Option.some.inj h
      have h1 : oneP x { q with node := x } n = Vec.getV q.need n := by unfold oneP; rw [if_pos (eqS_self _)]
      rw [moveP, if_pos e]
      show oneP x { q with node := x } n + sumP x t n + _ = oneP x q n + sumP x t n + _
      rw [h1]
      omega
    · have hq : findP (q :: t) y = findP t y := by unfold findP; exact List.find?_cons_of_neg (p := fun n : Pd => eqS n.name y) e
      rw [hq] at h
      have := sumP_move (x := x) h n
      rw [moveP, if_neg e]
      show oneP x q n + sumP x (moveP y x t) n + _ = oneP x q n + sumP x t n + _
      omega
/-- A pod that is moved takes its need along. -/
theorem room_moved {s : Clu} (h : Sound s) {n : Nod} (hn : n ∈ s.nodes) {p : Pd} (hp : p ∈ s.pods) (hne : eqS p.node n.name = false) {a b c : Vec.V} {f g : Int}
    (ha : usedSt s n.name = (0, a)) (hb : usedSt (moveSt s p.name n.name) n.name = (f, b)) (hc : Vec.mergedV Vec.addF a p.need = (g, c)) : decide (f = 0) = decide (g = 0) ∧ (f = 0 → b = c) := by
  have hfind := find_asc h.asc hp
  have hneed : ∀ q ∈ (moveSt s p.name n.name).pods, Fit8 q.need := fun q hq => by
    rcases move_mem (show q ∈ moveP p.name n.name s.pods from hq) with hq | ⟨r, hr, rfl⟩
    · exact h.need q hq
    · exact h.need r hr
  have hb' : useV n.name (moveP p.name n.name s.pods) [] = (f, b) := (used_some (s := moveSt s p.name n.name) (h.parts.findN hn)).symm.trans hb
  have ha' := (used_at h hn).symm.trans ha
  obtain ⟨hm, hl⟩ := (use_made h.need).1 ha'
  have hfit := h.need p hp
  have hsum : ∀ m, sumP n.name (moveP p.name n.name s.pods) m = Vec.getV a m + Vec.getV p.need m := fun m => by
    have h1 := sumP_move (x := n.name) hfind m
    have h2 : oneP n.name p m = 0 := by unfold oneP; rw [if_neg (by rw [hne]; decide)]
    rw [hm.2 m]
    omega
  have key : f = 0 ↔ g = 0 := by
    constructor
    · intro e
      subst e
      obtain ⟨h1, h2⟩ := (use_made hneed).1 hb'
      have := Vec.add_made hm.1 hfit.1 hl hfit.2 (r := b) (fun m => by
        have h3 := (Vec.get_bd m h1.1).2
        rw [h1.2 m] at h3
        have h4 := hsum m
        have h5 : sumP n.name (moveSt s p.name n.name).pods m = sumP n.name (moveP p.name n.name s.pods) m := rfl
        omega) ((made_congr hsum).1 h1) h2
      rw [this] at hc
      exact (Prod.mk.inj hc).1.symm
    · intro e
      subst e
      obtain ⟨h1, h2, -⟩ := Vec.sum_ok hm.1 hfit.1 hl hfit.2 hc
      have := (use_made hneed).2 ⟨(made_congr hsum).2 h1, h2⟩
      rw [show (moveSt s p.name n.name).pods = moveP p.name n.name s.pods from rfl, hb'] at this
      exact (Prod.mk.inj this).1
  refine ⟨by rw [Bool.eq_iff_iff]; simpa using key, fun e => ?_⟩
  have e2 := key.1 e
  subst e e2
  obtain ⟨h1, h2⟩ := (use_made hneed).1 hb'
  obtain ⟨h3, h4, -⟩ := Vec.sum_ok hm.1 hfit.1 hl hfit.2 hc
  exact Vec.Gd.ext h1.1 h3.1 fun m => by rw [h1.2 m, h3.2 m]; exact hsum m
end Go.Proofs.YtfpgekjhcfoohabGreat
