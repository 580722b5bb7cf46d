/- Clusters: what is needed in all, whichever is first; what a sound cluster's parts are. -/
import Derived.Test.YtapnffejnhkoaaaGreatStD
import Derived.Test.YtapnffejnhkoaaaGreatResC
namespace Go.Proofs.YtapnffejnhkoaaaGreat
open Go.RowKit
set_option linter.unusedVariables false

def Fit8 (l : Vec.V) : Prop := Vec.Gd l ∧ l.length ≤ 8
theorem Fit8.nil : Fit8 [] := ⟨Vec.Gd.nil, by decide⟩
theorem fit8_of {l : Vec.V} (h : Vec.checkV l = 0) (hf : Vec.Fine l) : Fit8 l := ⟨Vec.check_good h hf, Vec.check_len h⟩
theorem made_congr {f g : ByteArray → Int} {r : Vec.V} (h : ∀ n, f n = g n) : Vec.Made f r ↔ Vec.Made g r := by rw [funext h]
theorem add_step {v p : Vec.V} (hv : Fit8 v) (hp : Fit8 p) :
    (∃ q, Vec.mergedV Vec.addF v p = (0, q) ∧ Fit8 q ∧ ∀ n, Vec.getV q n = Vec.getV v n + Vec.getV p n) ∨
    (∃ c, c ≠ 0 ∧ Vec.mergedV Vec.addF v p = (c, []) ∧ ∀ (r : Vec.V) (f : ByteArray → Int), (∀ n, 0 ≤ f n) → Vec.Made (fun n => Vec.getV v n + Vec.getV p n + f n) r → r.length ≤ 8 → False) := by
  rcases Vec.merged_spec Vec.rk_add hv.1 hp.1 hv.2 hp.2 with ⟨⟨n, hn⟩, hb⟩ | ⟨hn, q, hm, ⟨h8, hb⟩ | ⟨h8, hb⟩⟩
  · refine .inr ⟨5, by decide, hb, fun r f hf hr _ => hn ((Vec.addF_code _ _).2 ?_)⟩
    have h1 := (Vec.get_bd n hr.1).2
    have h2 := hf n
    rw [hr.2 n] at h1
    dsimp only at h1
    omega
  · refine .inr ⟨4, by decide, hb, fun r f hf hr h9 => ?_⟩
    have hl : q.length ≤ r.length := Vec.Gd.len hm.1 hr.1 fun n hne e => hne (by
      rw [hm.2 n]
      show (Vec.addF _ _).1 = 0
      rw [Vec.addF_val ((Vec.addF_code _ _).1 (hn n))]
      have h1 := hf n
      have h2 := Vec.get_bd n hv.1
      have h3 := Vec.get_bd n hp.1
      rw [hr.2 n] at e
      dsimp only at e ⊢
      omega)
    omega
  · exact .inl ⟨q, hb, ⟨hm.1, h8⟩, fun n => by rw [hm.2 n]; show (Vec.addF _ _).1 = _; rw [Vec.addF_val ((Vec.addF_code _ _).1 (hn n))]⟩

def oneP (x : ByteArray) (p : Pd) (n : ByteArray) : Int := if eqS p.node x = true then Vec.getV p.need n else 0
def sumP (x : ByteArray) : List Pd → ByteArray → Int
  | [], _ => 0
  | p :: t, n => oneP x p n + sumP x t n
def sumN : List Nod → ByteArray → Int
  | [], _ => 0
  | m :: t, n => Vec.getV m.cap n + sumN t n
theorem oneP_pos {x : ByteArray} {p : Pd} (h : Fit8 p.need) (n : ByteArray) : 0 ≤ oneP x p n := by
  unfold oneP
  split
  · exact (Vec.get_bd n h.1).1
  · exact Int.le_refl _
theorem sumP_pos {x : ByteArray} : ∀ {l : List Pd}, (∀ p ∈ l, Fit8 p.need) → ∀ n, 0 ≤ sumP x l n
  | [], _, n => Int.le_refl _
  | p :: t, h, n => Int.add_nonneg (oneP_pos (h p (List.mem_cons_self ..)) n) (sumP_pos (fun q hq => h q (List.mem_cons_of_mem _ hq)) n)
theorem sumN_pos : ∀ {l : List Nod}, (∀ p ∈ l, Fit8 p.cap) → ∀ n, 0 ≤ sumN l n
  | [], _, n => Int.le_refl _
  | p :: t, h, n => Int.add_nonneg (Vec.get_bd n (h p (List.mem_cons_self ..)).1).1 (sumN_pos (fun q hq => h q (List.mem_cons_of_mem _ hq)) n)
theorem use_spec {x : ByteArray} : ∀ {l : List Pd} {v r : Vec.V}, (∀ p ∈ l, Fit8 p.need) → Fit8 v → (useV x l v = (0, r) ↔ Vec.Made (fun n => Vec.getV v n + sumP x l n) r ∧ r.length ≤ 8)
  | [], v, r, _, hv => by
    constructor
    · intro e
      cases e
      exact ⟨⟨hv.1, fun n => by show _ = _ + (0 : Int); rw [Int.add_zero]⟩, hv.2⟩
    · rintro ⟨hm, _⟩
      have e : v = r := Vec.Gd.ext hv.1 hm.1 fun n => by rw [hm.2 n]; show _ = _ + (0 : Int); rw [Int.add_zero]
      rw [e]; rfl
  | p :: t, v, r, hl, hv => by
    have ht : ∀ q ∈ t, Fit8 q.need := fun q hq => hl q (List.mem_cons_of_mem _ hq)
    have hp := hl p (List.mem_cons_self ..)
    cases e : eqS p.node x with
    | false =>
      rw [useV_skip e, use_spec ht hv]
      refine and_congr (made_congr fun n => ?_) Iff.rfl
      show _ = _ + (oneP x p n + sumP x t n)
      rw [oneP, if_neg (by rw [e]; decide), Int.zero_add]
    | true =>
      have hone : ∀ n, oneP x p n = Vec.getV p.need n := fun n => by rw [oneP, if_pos e]
      rcases add_step hv hp with ⟨q, hq, fq, gq⟩ | ⟨c, hc, hq, no⟩
      · rw [useV_add e hq, use_spec ht fq]
        refine and_congr (made_congr fun n => ?_) Iff.rfl
        show _ = _ + (oneP x p n + sumP x t n)
        rw [hone, gq, Int.add_assoc]
      · rw [useV_bad e hq hc]
        constructor
        · intro h; exact absurd (Prod.mk.inj h).1 hc
        · rintro ⟨hm, h8⟩
          refine (no r (sumP x t) (sumP_pos ht) ((made_congr fun n => ?_).1 hm) h8).elim
          show _ + (oneP x p n + sumP x t n) = _
          rw [hone, Int.add_assoc]
theorem tot_spec : ∀ {l : List Nod} {v r : Vec.V}, (∀ p ∈ l, Fit8 p.cap) → Fit8 v → (totV l v = (0, r) ↔ Vec.Made (fun n => Vec.getV v n + sumN l n) r ∧ r.length ≤ 8)
  | [], v, r, _, hv => by
    constructor
    · intro e
      cases e
      exact ⟨⟨hv.1, fun n => by show _ = _ + (0 : Int); rw [Int.add_zero]⟩, hv.2⟩
    · rintro ⟨hm, _⟩
      have e : v = r := Vec.Gd.ext hv.1 hm.1 fun n => by rw [hm.2 n]; show _ = _ + (0 : Int); rw [Int.add_zero]
      rw [e]; rfl
  | p :: t, v, r, hl, hv => by
    have ht : ∀ q ∈ t, Fit8 q.cap := fun q hq => hl q (List.mem_cons_of_mem _ hq)
    have hp := hl p (List.mem_cons_self ..)
    rcases add_step hv hp with ⟨q, hq, fq, gq⟩ | ⟨c, hc, hq, no⟩
    · rw [totV_add hq, tot_spec ht fq]
      refine and_congr (made_congr fun n => ?_) Iff.rfl
      show _ = _ + (Vec.getV p.cap n + sumN t n)
      rw [gq, Int.add_assoc]
    · rw [totV_bad hq hc]
      constructor
      · intro h; exact absurd (Prod.mk.inj h).1 hc
      · rintro ⟨hm, h8⟩
        refine (no r (sumN t) (sumN_pos ht) ((made_congr fun n => ?_).1 hm) h8).elim
        show _ + (Vec.getV p.cap n + sumN t n) = _
        rw [Int.add_assoc]
theorem use_made {x : ByteArray} {l : List Pd} {r : Vec.V} (hl : ∀ p ∈ l, Fit8 p.need) : useV x l [] = (0, r) ↔ Vec.Made (sumP x l) r ∧ r.length ≤ 8 := by
  rw [use_spec hl Fit8.nil]
  exact and_congr (made_congr fun n => by show (0 : Int) + _ = _; rw [Int.zero_add]) Iff.rfl
theorem tot_made {l : List Nod} {r : Vec.V} (hl : ∀ p ∈ l, Fit8 p.cap) : totV l [] = (0, r) ↔ Vec.Made (sumN l) r ∧ r.length ≤ 8 := by
  rw [tot_spec hl Fit8.nil]
  exact and_congr (made_congr fun n => by show (0 : Int) + _ = _; rw [Int.zero_add]) Iff.rfl
theorem sumP_drop {x y : ByteArray} : ∀ {l : List Pd} {p : Pd}, findP l y = some p → ∀ n, sumP x (dropP y l) n + oneP x p n = sumP x l n
  | q :: t, p, h, n => by
    by_cases e : eqS q.name y = true
    · have hq : findP (q :: t) y = some q := by unfold findP; exact List.find?_cons_of_pos (p := fun n : Pd => eqS n.name y) e
      rw [hq] at h
      obtain rfl := Option.some.inj h
      rw [dropP, if_pos e]
      show _ = oneP x q n + sumP x t n
      omega
    · have hq : findP (q :: t) y = findP t y := by unfold findP; exact List.find?_cons_of_neg (p := fun n : Pd => eqS n.name y) e
      rw [hq] at h
      have := sumP_drop (x := x) h n
      rw [dropP, if_neg e]
      show oneP x q n + sumP x (dropP y t) n + _ = oneP x q n + sumP x t n
      omega
structure Parts (s : Clu) : Prop where
  nodes : chkAllN s.nodes = 0
  pods : chkAllP s.pods = 0
  places : chkPlaces s.nodes s.pods = 0
  rooms : chkRooms s.pods s.nodes = 0
  tot : (totV s.nodes []).1 = 0
theorem st_parts {s : Clu} (h : chkSt s = 0) : Parts s := by
  have h0 : or3 (chkAllN s.nodes) (chkAllP s.pods) (chkAllBd s.buds) = 0 := Decidable.byContradiction fun g => g ((st_or (nl := s.nodes) (pl := s.pods) (bl := s.buds) rfl g).symm.trans h)
  have h1 : chkPlaces s.nodes s.pods = 0 := Decidable.byContradiction fun g => g ((st_places (nl := s.nodes) (pl := s.pods) (bl := s.buds) h0 rfl g).symm.trans h)
  have h2 : chkRooms s.pods s.nodes = 0 := Decidable.byContradiction fun g => g ((st_rooms (nl := s.nodes) (pl := s.pods) (bl := s.buds) h0 h1 rfl g).symm.trans h)
  have h3 : (totV s.nodes []).1 = 0 := (st_total (nl := s.nodes) (pl := s.pods) (bl := s.buds) h0 h1 h2).symm.trans h
  have ho : chkAllN s.nodes = 0 ∧ chkAllP s.pods = 0 := by
    unfold or3 at h0
    split at h0
    · rename_i h1; exact absurd h0 h1
    · rename_i g1
      split at h0
      · rename_i g2; exact absurd h0 g2
      · rename_i g2; exact ⟨Decidable.of_not_not g1, Decidable.of_not_not g2⟩
  exact ⟨ho.1, ho.2, h1, h2, h3⟩
theorem rooms_spec {pods : List Pd} : ∀ {l : List Nod}, chkRooms pods l = 0 → ∀ n ∈ l, ∃ u, useV n.name pods [] = (0, u) ∧ Vec.fitsFrom n.cap u = true
  | m :: t, h, n, hn => by
    obtain ⟨c, u, hu⟩ : ∃ c u, useV m.name pods [] = (c, u) := ⟨_, _, rfl⟩
    by_cases hc : c = 0
    · subst hc
      cases hf : Vec.fitsFrom m.cap u with
      | false => rw [rooms_full hu hf] at h; cases h
      | true =>
        rw [rooms_next hu hf] at h
        rcases List.mem_cons.1 hn with rfl | hn
        · exact ⟨u, hu, hf⟩
        · exact rooms_spec h n hn
    · rw [rooms_bad hu hc] at h; exact absurd h hc
def AscN (l : List Nod) : Prop := l.Pairwise fun x y => ltS x.name y.name = true
theorem ascN_from : ∀ {prev : Option ByteArray} {l : List Nod}, chkFromN prev l = 0 → (∀ q, prev = some q → ∀ x ∈ l, ltS q x.name = true) ∧ AscN l ∧ ∀ n ∈ l, chkNod n = 0
  | _, [], _ => ⟨fun q _ x h => absurd h (by simp), .nil, fun n h => absurd h (by simp)⟩
  | prev, n :: t, h => by
    by_cases z : chkNod n = 0
    · by_cases y : Vec.behindB prev n.name = true
      · rw [chkN_order z y] at h; cases h
      · have y : Vec.behindB prev n.name = false := by simpa using y
        rw [chkN_next z y] at h
        obtain ⟨h2, h3, h4⟩ := ascN_from h
        refine ⟨fun q hq x hx => ?_, List.pairwise_cons.2 ⟨fun x hx => h2 _ rfl x hx, h3⟩, fun m hm => ?_⟩
        · subst hq
          have hlt : ltS q n.name = true := Vec.leS_false y
          rcases List.mem_cons.1 hx with rfl | hx
          · exact hlt
          · exact Vec.lt_trans' hlt (h2 _ rfl x hx)
        · rcases List.mem_cons.1 hm with rfl | hm
          · exact z
          · exact h4 m hm
    · rw [chkN_bad z] at h; exact absurd h z
theorem findN_asc : ∀ {l : List Nod} {p : Nod}, AscN l → p ∈ l → findN l p.name = some p
  | [], _, _, h => by cases h
  | x :: t, p, h, hp => by
    unfold findN
    rcases List.mem_cons.1 hp with hp | hp
    · subst hp
      exact List.find?_cons_of_pos (p := fun n : Nod => eqS n.name p.name) (eqS_self _)
    · have hlt := (List.pairwise_cons.1 h).1 p hp
      exact (List.find?_cons_of_neg (p := fun n : Nod => eqS n.name p.name) (fun e => Vec.lt_ne hlt (eqS_iff.1 e))).trans (findN_asc (List.pairwise_cons.1 h).2 hp)
theorem Parts.findN {s : Clu} (h : Parts s) {n : Nod} (hn : n ∈ s.nodes) : findN s.nodes n.name = some n := by
  have ho := h.nodes
  unfold chkAllN at ho
  split at ho
  · cases ho
  · exact findN_asc (ascN_from ho).2.1 hn
theorem Parts.cap0 {s : Clu} (h : Parts s) {n : Nod} (hn : n ∈ s.nodes) : Vec.checkV n.cap = 0 := by
  have ho := h.nodes
  unfold chkAllN at ho
  split at ho
  · cases ho
  · have hc := (ascN_from ho).2.2 n hn
    unfold chkNod at hc
    split at hc
    · cases hc
    · split at hc
      · rename_i g; exact absurd hc g
      · rename_i g; exact Decidable.of_not_not g
theorem podsChk : ∀ {prev : Option ByteArray} {l : List Pd}, chkFromP prev l = 0 → ∀ n ∈ l, chkPod n = 0
  | prev, m :: t, h, n, hn => by
    by_cases z : chkPod m = 0
    · by_cases y : Vec.behindB prev m.name = true
      · rw [chkP_order z y] at h; cases h
      · have y : Vec.behindB prev m.name = false := by simpa using y
        rw [chkP_next z y] at h
        rcases List.mem_cons.1 hn with rfl | hn
        · exact z
        · exact podsChk h n hn
    · rw [chkP_bad z] at h; exact absurd h z
theorem orL_zero : ∀ {l : List Int}, orL l = 0 → ∀ c ∈ l, c = 0
  | x :: t, h, c, hc => by
    unfold orL at h
    split at h
    · rename_i g; exact absurd h g
    · rename_i g
      rcases List.mem_cons.1 hc with rfl | hc
      · exact Decidable.of_not_not g
      · exact orL_zero h c hc
theorem Parts.need0 {s : Clu} (h : Parts s) {n : Pd} (hn : n ∈ s.pods) : Vec.checkV n.need = 0 := by
  have ho := h.pods
  unfold chkAllP at ho
  split at ho
  · cases ho
  · exact orL_zero (podsChk ho n hn) _ (by simp [chkList])

end Go.Proofs.YtapnffejnhkoaaaGreat
