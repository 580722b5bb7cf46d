/- A pod taken out of a row: plain words; rows of pods as rows of cells. -/
import Derived.Test.YtflllkpnkcmegaaGreatDoorPodOfAllM
import Derived.Test.YtflllkpnkcmegaaGreatDoorBudA
import Derived.Test.YtflllkpnkcmegaaGreatDoorPodChk
import Derived.Test.YtflllkpnkcmegaaGreatDoorPodTold
import Derived.Test.YtflllkpnkcmegaaGreatDoorBase
namespace Go.Proofs.YtflllkpnkcmegaaGreatDoor
open Go.RowKit
set_option linter.unusedVariables false

theorem RowAt.preP {α : Type} {L : Lay α} {w : World} {b off len : Nat} {l : List α} {k : Nat} (h : RowAt L w (some ⟨b, off, none⟩) len l) (hk : k ≤ l.length) : RowAt L w (some ⟨b, off, none⟩) k (l.take k) := by
  have := h.part 0 k (by have := h.1; omega)
  simpa using this
theorem RowAt.postP {α : Type} {L : Lay α} {w : World} {b off len : Nat} {l : List α} {k : Nat} (h : RowAt L w (some ⟨b, off, none⟩) len l) (hk : k ≤ l.length) : RowAt L w (some ⟨b, off + k * L.m, none⟩) (l.length - k) (l.drop k) := by
  have := h.part k (l.length - k) (by have := h.1; omega)
  rw [List.take_of_length_le (by rw [List.length_drop]; omega)] at this
  exact this
theorem pods_px {w : World} {a : Option Addr} {len : Nat} {l : List Pd} (h : PodsAt w a len l) : ∃ lx : List PX, (lx.map fun z => z.1) = l ∧ RowAt PodLay0 w a len lx ∧ ∀ z ∈ lx, At4 w z := by
  obtain ⟨h0, h1, h2⟩ := h
  rcases h2 with h2 | ⟨b, off, rfl, hb, hc⟩
  · have : l = [] := List.eq_nil_of_length_eq_zero (by omega)
    subst this
    subst h2
    exact ⟨[], rfl, RowAt.nil w a, fun z hz => absurd hz (by simp)⟩
  · have step : ∀ m, m ≤ l.length → ∃ lx : List PX, (lx.map fun z => z.1) = l.take m ∧ (∀ i x j u, lx[i]? = some x → (PodLay0.cs x)[j]? = some u → w.cell? ⟨b, off + i * 11 + j, none⟩ = some u) ∧ ∀ z ∈ lx, At4 w z := by
      intro m
      induction m with
      | zero => exact fun _ => ⟨[], rfl, fun i x j u hi => by simp at hi, fun z hz => absurd hz (by simp)⟩
      | succ m ih =>
        intro hm
        obtain ⟨lx, e, hcell, hat⟩ := ih (by omega)
        obtain ⟨n, hn⟩ : ∃ n, l[m]? = some n := ⟨_, List.getElem?_eq_getElem (by omega)⟩
        obtain ⟨v1, v2, v3, v4, p0, p1, p2, p3, p4, p5, p6, p7, p8, p9, p10, hp⟩ := hc m n hn
        obtain ⟨b1, n1, d1, b2, n2, d2, b3, n3, d3, b4, n4, d4, rfl, rfl, rfl, rfl⟩ := hp.spelt
        have hlen : lx.length = m := by
          have := congrArg List.length e
          rw [List.length_map, List.length_take] at this; omega
        refine ⟨lx ++ [(n, (b1, n1, d1), (b2, n2, d2), (b3, n3, d3), (b4, n4, d4))], ?_, ?_, ?_⟩
        · rw [List.map_append, e, take_snoc hn]; rfl
        · intro i x j u hi hj
          by_cases him : i < m
          · rw [List.getElem?_append_left (by omega)] at hi
            exact hcell i x j u hi hj
          · have hi2 := (List.getElem?_eq_some_iff.1 hi).1
            rw [List.length_append, List.length_singleton] at hi2
            obtain rfl : i = m := by omega
            rw [List.getElem?_append_right (by omega), hlen, Nat.sub_self] at hi
            obtain rfl := Option.some.inj hi
            match j, hj with
            | 0, hj => obtain rfl := Option.some.inj hj; exact p0
            | 1, hj => obtain rfl := Option.some.inj hj; exact p1
            | 2, hj => obtain rfl := Option.some.inj hj; exact p2
            | 3, hj => obtain rfl := Option.some.inj hj; exact p3
            | 4, hj => obtain rfl := Option.some.inj hj; exact p4
            | 5, hj => obtain rfl := Option.some.inj hj; exact p5
            | 6, hj => obtain rfl := Option.some.inj hj; exact p6
            | 7, hj => obtain rfl := Option.some.inj hj; exact p7
            | 8, hj => obtain rfl := Option.some.inj hj; exact p8
            | 9, hj => obtain rfl := Option.some.inj hj; exact p9
            | 10, hj => obtain rfl := Option.some.inj hj; exact p10
            | j + 11, hj => simp [PodLay0] at hj
        · intro z hz
          rcases List.mem_append.1 hz with hz | hz
          · exact hat z hz
          · obtain rfl : z = _ := List.mem_singleton.1 hz
            exact PodAt.at4 hp
    obtain ⟨lx, e, hcell, hat⟩ := step l.length (Nat.le_refl _)
    rw [List.take_of_length_le (Nat.le_refl _)] at e
    have hl : lx.length = len := by rw [← h0, ← e, List.length_map]
    exact ⟨lx, e, ⟨hl, h1, fun _ _ => trivial, .inr ⟨b, off, rfl, hb, hcell⟩⟩, hat⟩
/-- What is left when the k-th is taken out. -/
def cutP {α : Type} (l : List α) (k : Nat) : List α := l.take k ++ l.drop (k + 1)
theorem cutP_map {α β : Type} (f : α → β) (l : List α) (k : Nat) : (cutP l k).map f = cutP (l.map f) k := by
  unfold cutP
  rw [List.map_append, List.map_take, List.map_drop]
theorem cutP_mem {α : Type} {l : List α} {k : Nat} {x : α} (h : x ∈ cutP l k) : x ∈ l := by
  unfold cutP at h
  rcases List.mem_append.1 h with h | h
  · exact List.mem_of_mem_take h
  · exact List.mem_of_mem_drop h
theorem cut_split {α : Type} {l : List α} {k : Nat} {p : α} (h : l[k]? = some p) : l = l.take k ++ p :: l.drop (k + 1) := by
  obtain ⟨hk, rfl⟩ := List.getElem?_eq_some_iff.1 h
  rw [← List.drop_eq_getElem_cons hk, List.take_append_drop]
theorem cnt_cut (b : Bd) {l : List Pd} {k : Nat} {p : Pd} (h : l[k]? = some p) : cntB b l = cntB b (cutP l k) + (if covB b p = true then 1 else 0) := by
  have e := cut_split h
  have e2 : cntB b l = cntB b (l.take k ++ p :: l.drop (k + 1)) := by rw [← e]
  unfold cutP
  rw [e2, cntB_append, cntB_append, cntB]
  omega
theorem goes_free {bs : List Bd} {l : List Pd} {k : Nat} {p : Pd} (h : l[k]? = some p) (hf : forB bs l p = none) : brkB bs (cutP l k) = brkB bs l := by
  unfold brkB
  congr 1
  refine List.filter_congr fun b hb => ?_
  have hn := List.find?_eq_none.1 hf b hb
  simp only [Bool.and_eq_true, decide_eq_true_eq, not_and] at hn
  have hc := cnt_cut b h
  by_cases z : covB b p = true
  · have := hn z
    rw [if_pos z] at hc
    rw [decide_eq_decide]
    omega
  · rw [if_neg z] at hc
    rw [hc, Nat.add_zero]
theorem goes_hit {bs : List Bd} {l : List Pd} {k : Nat} {p : Pd} {b : Bd} (h : l[k]? = some p) (hf : forB bs l p = some b) : 0 < (brkB bs (cutP l k)).length := by
  have hm := List.mem_of_find?_eq_some hf
  have hn := List.find?_some hf
  simp only [Bool.and_eq_true, decide_eq_true_eq] at hn
  have hc := cnt_cut b h
  rw [if_pos hn.1] at hc
  unfold brkB
  rw [List.length_map]
  exact List.length_pos_of_mem (List.mem_filter.2 ⟨hm, by rw [decide_eq_true_eq]; omega⟩)
theorem chkP_rows : ∀ {prev : Option ByteArray} {l : List Pd}, chkFromP prev l = 0 → (∀ x ∈ l, chkPod x = 0) ∧ (∀ q, prev = some q → ∀ x ∈ l, ltS q x.name = true) ∧ l.Pairwise fun x y => ltS x.name y.name = true
  | _, [], _ => ⟨fun x h => absurd h (by simp), fun q _ x h => absurd h (by simp), .nil⟩
  | prev, n :: t, h => by
    by_cases z : chkPod n = 0
    · by_cases y : Vec.behindB prev n.name = true
      · rw [chkP_order z y] at h; cases h
      · have y : Vec.behindB prev n.name = false := by simpa using y
        rw [chkP_next z y] at h
        obtain ⟨h1, h2, h3⟩ := chkP_rows h
        refine ⟨fun x hx => ?_, fun q hq x hx => ?_, List.pairwise_cons.2 ⟨fun x hx => h2 _ rfl x hx, h3⟩⟩
        · rcases List.mem_cons.1 hx with rfl | hx
          · exact z
          · exact h1 x hx
        · subst hq
          have hlt : ltS q n.name = true := Vec.leS_false y
          rcases List.mem_cons.1 hx with rfl | hx
          · exact hlt
          · exact Vec.lt_trans' hlt (h2 _ rfl x hx)
    · rw [chkP_bad z] at h; exact absurd h z
theorem chkAllP_rows {l : List Pd} (h : chkAllP l = 0) : (∀ x ∈ l, chkPod x = 0) ∧ l.Pairwise fun x y => ltS x.name y.name = true := by
  unfold chkAllP at h
  split at h
  · cases h
  · exact ⟨(chkP_rows h).1, (chkP_rows h).2.2⟩
theorem find_pw : ∀ {l : List Pd} {p : Pd}, (l.Pairwise fun x y => ltS x.name y.name = true) → p ∈ l → findP l p.name = some p
  | [], _, _, h => by cases h
  | x :: t, p, h, hp => by
    unfold findP
    rcases List.mem_cons.1 hp with hp | hp
    · subst hp
      exact List.find?_cons_of_pos (p := fun n : Pd => eqS n.name p.name) (eqS_self _)
    · have hlt := (List.pairwise_cons.1 h).1 p hp
      exact (List.find?_cons_of_neg (p := fun n : Pd => eqS n.name p.name) (fun e => Vec.lt_ne hlt (eqS_iff.1 e))).trans (find_pw (List.pairwise_cons.1 h).2 hp)
theorem chk_lowP {n : Pd} (h : chkPod n = 0) : LowPd n := by
  have hz := or_zero h
  have c2 := hz _ (show Vec.checkV n.need ∈ chkList n by simp [chkList])
  have c3 := hz _ (show chkS n.labels ∈ chkList n by simp [chkList])
  have c4 := hz _ (show chkL n.sel ∈ chkList n by simp [chkList])
  have c5 := hz _ (show chkO n.tols ∈ chkList n by simp [chkList])
  exact ⟨Nat.le_trans (Vec.check_len c2) (by decide), Nat.le_trans (chkS_len c3) (by decide), Nat.le_trans (chkL_len c4) (by decide), Nat.le_trans (chkO_len c5) (by decide)⟩
theorem alw_none' {bs : List Bd} {l : List Pd} {k : Nat} {p : Pd} (hc : chkAllP l = 0) (h : l[k]? = some p) (hf : forB bs l p = none) : alwB bs l p.name = (ByteArray.empty, true) :=
  alw_free (find_pw (chkAllP_rows hc).2 (List.mem_of_getElem? h)) hf
theorem alw_some' {bs : List Bd} {l : List Pd} {k : Nat} {p : Pd} {b : Bd} (hc : chkAllP l = 0) (h : l[k]? = some p) (hf : forB bs l p = some b) : alwB bs l p.name = (b.name, false) :=
  alw_hit (find_pw (chkAllP_rows hc).2 (List.mem_of_getElem? h)) hf
theorem kindPod : Kind 51 30 11 184 := by
  obtain ⟨i, hi, hz, h1, h2⟩ := info_parts (show (Tryz.prog.info? 30).map (fun i => (i.zero, i.size, i.bytes)) = some (some (.agg #[.string ByteArray.empty, .string ByteArray.empty, .int .i64 0, .slice none 0 0, .slice none 0 0, .slice none 0 0, .slice none 0 0, .string ByteArray.empty, .int .i64 0, .string ByteArray.empty, .bool false]), 11, 184) by kernel_rfl)
  exact ⟨i, _, Tryz.underlying51, hi, hz, h1, h2, rfl, by decide⟩

end Go.Proofs.YtflllkpnkcmegaaGreatDoor
