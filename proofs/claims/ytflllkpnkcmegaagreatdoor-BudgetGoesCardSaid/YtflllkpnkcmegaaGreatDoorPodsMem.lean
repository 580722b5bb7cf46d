/- Rows of pods that came in, and how long their rows may be. -/
import Derived.Test.YtflllkpnkcmegaaGreatDoorPodsRow
import Derived.Test.YtflllkpnkcmegaaGreatDoorMemOf
import Derived.SizedLaws
namespace Go.Proofs.YtflllkpnkcmegaaGreatDoor
open Go.ChangeShapes Go.WideShapes Go.ChangeAt Go.RowKit Go.Deep
set_option linter.unusedVariables false

/-- No slice in it weighs more than the reach. -/
def Wok {H : Type} (t : TypeId) (d : DataW H) : Prop := ∀ n ∈ d.weights Tryz.prog t, n ≤ 140737488351232
theorem all_mem {H : Type} {e : TypeId} : ∀ {l : List (DataW H)} {d : DataW H}, d ∈ l → ∀ n ∈ d.weights Tryz.prog e, n ∈ DataW.weightsAll Tryz.prog e l
  | d' :: r, d, hd, n, hn => by
    simp only [DataW.weightsAll, List.mem_append]
    rcases List.mem_cons.1 hd with rfl | h
    · exact Or.inl hn
    · exact Or.inr (all_mem h n hn)
theorem wok_slice {H : Type} {t e : TypeId} (ht : Tryz.prog.underlying t = some (.slice e)) {elems spare : List (DataW H)} (h : Wok t (.slice elems spare)) : elems.length * Tryz.prog.bytesOf e ≤ 140737488351232 ∧ ∀ d ∈ elems, Wok e d := by
  unfold Wok at h
  simp only [DataW.weights, ht, List.mem_cons, List.mem_append] at h
  exact ⟨Nat.le_trans (Nat.mul_le_mul_right _ (Nat.le_add_right _ _)) (h _ (.inl rfl)), fun d hd n hn => h n (.inr (.inl (all_mem hd n hn)))⟩
theorem wok_agg {H : Type} {t : TypeId} {fs : Array Field} (ht : Tryz.prog.underlying t = some (.struct fs)) {parts : List (DataW H)} (h : Wok t (.agg parts)) {j : Nat} {u : TypeId} {d : DataW H} (hu : (fs.toList.map (·.type))[j]? = some u) (hd : parts[j]? = some d) : Wok u d := by
  unfold Wok at h
  simp only [DataW.weights, ht] at h
  exact fun n hn => h n (DataW.weights_mem_each hu hd n hn)
theorem wok_top {H : Type} {ts : List TypeId} {ds : List (DataW H)} {j : Nat} {t : TypeId} {d : DataW H} (hsz : (DataW.weightsEach Tryz.prog ts ds).all (· ≤ reachBytes) = true) (ht : ts[j]? = some t) (hd : ds[j]? = some d) : Wok t d := fun n hn => by
  have h := of_decide_eq_true (List.all_eq_true.1 hsz n (DataW.weights_mem_each ht hd n hn))
  have hr : reachBytes = 140737488351232 := by decide
  rw [hr] at h
  exact h
theorem wok_len {H : Type} {enc : TypeId × Value → H} {w : World} {base fuel : Nat} {sp : Nat → Bool} {held : Bool} {v : Value} {x : DataW H × List MemPlace} {t e : TypeId} (ht : Tryz.prog.underlying t = some (.slice e)) (h : DataW.trod enc Tryz.prog w base sp held fuel t [v] = some x) (hw : Wok t x.1)
    {a : Option Addr} {k cap : Nat} (hv : v = .slice a k cap) : k * Tryz.prog.bytesOf e ≤ 140737488351232 := by
  subst hv
  rcases open_slice ht h with ⟨hcs, hx⟩ | ⟨a', len, cap', m, n, D, Pl, hcs, -, -, -, -, hx, -⟩
  · have e : k = 0 := (Value.slice.inj (List.cons.inj hcs).1).2.1
    rw [e, Nat.zero_mul]; exact Nat.zero_le _
  · have e : k = len := (Value.slice.inj (List.cons.inj hcs).1).2.1
    rw [hx] at hw
    have := (wok_slice ht hw).1
    rw [List.length_map, List.length_range] at this
    rw [e]; exact this
theorem reads_of_trodQ {α : Type} (L : Lay α) {t e : TypeId} (ht : Tryz.prog.underlying t = some (.slice e)) (hc : Tryz.prog.cellsOf e = L.m) {H : Type} {enc : TypeId × Value → H} {w : World} {base fuel : Nat} {sp : Nat → Bool} {held : Bool} {v : Value} {x : DataW H × List MemPlace}
    (Q : DataW H → Prop) (el : ∀ (m : Nat) (cs : List Value) (x : DataW H × List MemPlace), DataW.trod enc Tryz.prog w base sp held m e cs = some x → Q x.1 → ∃ a, cs = L.cs a ∧ L.fine a) (hq : ∀ elems spare, x.1 = .slice elems spare → ∀ d ∈ elems, Q d)
    (h : DataW.trod enc Tryz.prog w base sp held fuel t [v] = some x) : ∃ l, Reads L w v l := by
  rcases open_slice ht h with ⟨hcs, -⟩ | ⟨a, len, cap, m, n, D, Pl, hcs, hb, hl, hm, hmm, hx, hi⟩
  · cases hcs; exact ⟨[], Reads.nil w⟩
  · cases hcs
    have hlm : len ≤ m := by rw [hmm]; split <;> omega
    have key : ∀ k, k ≤ len → ∃ l : List α, l.length = k ∧ (∀ z ∈ l, L.fine z) ∧ ∀ i z j u, l[i]? = some z → (L.cs z)[j]? = some u → w.cell? ((a.add (i * L.m)).add j) = some u := by
      intro k
      induction k with
      | zero => exact fun _ => ⟨[], rfl, (fun z hz => by cases hz), (fun i z j u hi _ => by simp at hi)⟩
      | succ k ih =>
        intro hk
        obtain ⟨l, e, hfine, hall⟩ := ih (by omega)
        obtain ⟨cs', hcc, ht'⟩ := hi k (by omega)
        obtain ⟨z0, rfl, hz0⟩ := el _ _ _ ht' (hq _ _ (by rw [hx]) _ (List.mem_map.2 ⟨k, List.mem_range.2 (by omega), rfl⟩))
        rw [hc] at hcc
        obtain ⟨-, -, hat⟩ := World.cells?_some hcc
        refine ⟨l ++ [z0], by simp [e], fun z hz => ?_, fun i z j u hi' hj => ?_⟩
        · rcases List.mem_append.1 hz with g | g
          · exact hfine z g
          · have : z = z0 := by simpa using g
            rw [this]; exact hz0
        · by_cases e2 : i = k
          · subst e2
            have : z0 = z := by simpa [e] using hi'
            subst this
            have hjl : j < L.m := by have := (List.getElem?_eq_some_iff.1 hj).1; rw [L.len] at this; exact this
            rw [hat j hjl]; exact hj
          · have hik : i < l.length := by have := (List.getElem?_eq_some_iff.1 hi').1; simp at this; omega
            rw [List.getElem?_append_left hik] at hi'
            exact hall i z j u hi' hj
    obtain ⟨l, e, hfine, hall⟩ := key len (Nat.le_refl _)
    subst e
    refine ⟨l, _, cap, rfl, hl, hm, rfl, Nat.le_trans hl hm, hfine, ?_⟩
    by_cases h0 : l.length = 0
    · exact .inl h0
    · obtain ⟨b, off, spot⟩ := a
      have hg : l[0]? = some (l[0]'(by omega)) := List.getElem?_eq_getElem (by omega)
      have hlz := L.len (l[0]'(by omega))
      have hcz : (L.cs (l[0]'(by omega)))[0]? = some ((L.cs (l[0]'(by omega)))[0]'(by rw [hlz]; exact L.pos)) := List.getElem?_eq_getElem (by rw [hlz]; exact L.pos)
      have hcell0 := hall 0 _ 0 _ hg hcz
      have hspot : spot = none := by simpa [Addr.add] using World.cell?_spot hcell0
      subst hspot
      have hcell : ∀ i z j u, l[i]? = some z → (L.cs z)[j]? = some u → w.cell? ⟨b, off + i * L.m + j, none⟩ = some u := fun i z j u hi' hj => by
        have c := hall i z j u hi' hj
        have e : ((⟨b, off, none⟩ : Addr).add (i * L.m)).add j = ⟨b, off + i * L.m + j, none⟩ := by
          unfold Addr.add
          split <;> split <;> simp_all
        rw [e] at c; exact c
      exact .inr ⟨b, off, rfl, World.block_lt_of_cell? _ _ (hcell 0 _ 0 _ hg hcz), hcell⟩
set_option maxRecDepth 100000 in
set_option maxHeartbeats 1600000 in
theorem pod_of_trodW {H : Type} {enc : TypeId × Value → H} {w : World} {base fuel : Nat} {sp : Nat → Bool} {held : Bool} {cs : List Value} {x : DataW H × List MemPlace} (h : DataW.trod enc Tryz.prog w base sp held fuel 30 cs = some x) :
    ∃ (n : Pd) (v1 v2 v3 v4 : Value), cs = [.string n.name, .string n.owner, .int .i64 n.prio, v1, v2, v3, v4, .string n.key, .int .i64 n.most, .string n.node, .bool n.hold] ∧ PodAt w v1 v2 v3 v4 n ∧ (Wok 30 x.1 → MemPd n) := by
  obtain ⟨ys, m, -, hx, hlen, hyl, hf⟩ := DataW.trod_struct Tryz.underlying30 h
  rw [cellsPd] at hlen
  match cs, hlen with
  | [c0, c1, c2, c3, c4, c5, c6, c7, c8, c9, c10], _ =>
    have h0 : DataW.trod enc Tryz.prog w base sp held m 9 (([c0, c1, c2, c3, c4, c5, c6, c7, c8, c9, c10].drop 0).take (Tryz.prog.cellsOf 9)) = ys[0]? := hf 0 _ rfl
    have h1 : DataW.trod enc Tryz.prog w base sp held m 9 (([c0, c1, c2, c3, c4, c5, c6, c7, c8, c9, c10].drop 1).take (Tryz.prog.cellsOf 9)) = ys[1]? := hf 1 _ rfl
    have h2 : DataW.trod enc Tryz.prog w base sp held m 3 (([c0, c1, c2, c3, c4, c5, c6, c7, c8, c9, c10].drop 2).take (Tryz.prog.cellsOf 3)) = ys[2]? := hf 2 _ rfl
    have h3 : DataW.trod enc Tryz.prog w base sp held m 23 (([c0, c1, c2, c3, c4, c5, c6, c7, c8, c9, c10].drop 3).take (Tryz.prog.cellsOf 23)) = ys[3]? := hf 3 _ rfl
    have h4 : DataW.trod enc Tryz.prog w base sp held m 25 (([c0, c1, c2, c3, c4, c5, c6, c7, c8, c9, c10].drop 4).take (Tryz.prog.cellsOf 25)) = ys[4]? := hf 4 _ rfl
    have h5 : DataW.trod enc Tryz.prog w base sp held m 27 (([c0, c1, c2, c3, c4, c5, c6, c7, c8, c9, c10].drop 5).take (Tryz.prog.cellsOf 27)) = ys[5]? := hf 5 _ rfl
    have h6 : DataW.trod enc Tryz.prog w base sp held m 28 (([c0, c1, c2, c3, c4, c5, c6, c7, c8, c9, c10].drop 6).take (Tryz.prog.cellsOf 28)) = ys[6]? := hf 6 _ rfl
    have h7 : DataW.trod enc Tryz.prog w base sp held m 9 (([c0, c1, c2, c3, c4, c5, c6, c7, c8, c9, c10].drop 7).take (Tryz.prog.cellsOf 9)) = ys[7]? := hf 7 _ rfl
    have h8 : DataW.trod enc Tryz.prog w base sp held m 3 (([c0, c1, c2, c3, c4, c5, c6, c7, c8, c9, c10].drop 8).take (Tryz.prog.cellsOf 3)) = ys[8]? := hf 8 _ rfl
    have h9 : DataW.trod enc Tryz.prog w base sp held m 9 (([c0, c1, c2, c3, c4, c5, c6, c7, c8, c9, c10].drop 9).take (Tryz.prog.cellsOf 9)) = ys[9]? := hf 9 _ rfl
    have h10 : DataW.trod enc Tryz.prog w base sp held m 4 (([c0, c1, c2, c3, c4, c5, c6, c7, c8, c9, c10].drop 10).take (Tryz.prog.cellsOf 4)) = ys[10]? := hf 10 _ rfl
    rw [cellsS] at h0
    rw [cellsS] at h1
    rw [cellsI] at h2
    rw [cellsV] at h3
    rw [cellsL] at h4
    rw [cellsTL] at h5
    rw [cellsO1] at h6
    rw [cellsS] at h7
    rw [cellsI] at h8
    rw [cellsS] at h9
    rw [cellsB] at h10
    obtain ⟨y0, e0⟩ : ∃ y, ys[0]? = some y := ⟨_, List.getElem?_eq_getElem (by rw [hyl]; decide)⟩
    rw [e0] at h0
    obtain ⟨y1, e1⟩ : ∃ y, ys[1]? = some y := ⟨_, List.getElem?_eq_getElem (by rw [hyl]; decide)⟩
    rw [e1] at h1
    obtain ⟨y2, e2⟩ : ∃ y, ys[2]? = some y := ⟨_, List.getElem?_eq_getElem (by rw [hyl]; decide)⟩
    rw [e2] at h2
    obtain ⟨y3, e3⟩ : ∃ y, ys[3]? = some y := ⟨_, List.getElem?_eq_getElem (by rw [hyl]; decide)⟩
    rw [e3] at h3
    obtain ⟨y4, e4⟩ : ∃ y, ys[4]? = some y := ⟨_, List.getElem?_eq_getElem (by rw [hyl]; decide)⟩
    rw [e4] at h4
    obtain ⟨y5, e5⟩ : ∃ y, ys[5]? = some y := ⟨_, List.getElem?_eq_getElem (by rw [hyl]; decide)⟩
    rw [e5] at h5
    obtain ⟨y6, e6⟩ : ∃ y, ys[6]? = some y := ⟨_, List.getElem?_eq_getElem (by rw [hyl]; decide)⟩
    rw [e6] at h6
    obtain ⟨y7, e7⟩ : ∃ y, ys[7]? = some y := ⟨_, List.getElem?_eq_getElem (by rw [hyl]; decide)⟩
    rw [e7] at h7
    obtain ⟨y8, e8⟩ : ∃ y, ys[8]? = some y := ⟨_, List.getElem?_eq_getElem (by rw [hyl]; decide)⟩
    rw [e8] at h8
    obtain ⟨y9, e9⟩ : ∃ y, ys[9]? = some y := ⟨_, List.getElem?_eq_getElem (by rw [hyl]; decide)⟩
    rw [e9] at h9
    obtain ⟨y10, e10⟩ : ∃ y, ys[10]? = some y := ⟨_, List.getElem?_eq_getElem (by rw [hyl]; decide)⟩
    rw [e10] at h10
    simp only [List.drop_zero, List.take_succ_cons, List.take_zero, List.drop_succ_cons] at h0 h1 h2 h3 h4 h5 h6 h7 h8 h9 h10
    obtain ⟨s0, q0, -, z0⟩ := DataW.trod_string Tryz.underlying9 h0
    obtain ⟨s1, q1, -, z1⟩ := DataW.trod_string Tryz.underlying9 h1
    obtain ⟨s2, q2, -, z2⟩ := DataW.trod_int Tryz.underlying3 h2
    obtain ⟨l1, r3⟩ := Vec.reads_of_trod h3
    obtain ⟨l2, r4⟩ := set_of_trod h4
    obtain ⟨l3, r5⟩ := sel_of_trod h5
    obtain ⟨l4, r6⟩ := rowO_of_trod h6
    obtain ⟨s7, q7, -, z7⟩ := DataW.trod_string Tryz.underlying9 h7
    obtain ⟨s8, q8, -, z8⟩ := DataW.trod_int Tryz.underlying3 h8
    obtain ⟨s9, q9, -, z9⟩ := DataW.trod_string Tryz.underlying9 h9
    obtain ⟨s10, q10, -⟩ := DataW.trod_bool Tryz.underlying4 h10
    simp only [List.cons.injEq, and_true] at q0 q1 q2 q7 q8 q9 q10
    subst q0; subst q1; subst q2; subst q7; subst q8; subst q9; subst q10
    refine ⟨⟨s0, s1, s2, l1, l2, l3, l4, s7, s8, s9, s10⟩, _, _, _, _, rfl, ⟨z0, z1, z7, z9, bounds_i64 z2, bounds_i64 z8, r3, r4, r5, r6⟩, fun hw => ?_⟩
    rw [hx] at hw
    have g3 := wok_agg Tryz.underlying30 hw (j := 3) rfl (by rw [List.getElem?_map, e3]; rfl)
    have g4 := wok_agg Tryz.underlying30 hw (j := 4) rfl (by rw [List.getElem?_map, e4]; rfl)
    have g5 := wok_agg Tryz.underlying30 hw (j := 5) rfl (by rw [List.getElem?_map, e5]; rfl)
    have g6 := wok_agg Tryz.underlying30 hw (j := 6) rfl (by rw [List.getElem?_map, e6]; rfl)
    obtain ⟨a3, c3, u3, -⟩ := r3
    obtain ⟨a4, c4, u4, -⟩ := r4
    obtain ⟨a5, c5, u5, -⟩ := r5
    obtain ⟨a6, c6, u6, -⟩ := r6
    have k3 := wok_len Tryz.underlying23 h3 g3 u3
    have k4 := wok_len Tryz.underlying25 h4 g4 u4
    have k5 := wok_len Tryz.underlying27 h5 g5 u5
    have k6 := wok_len Tryz.underlying28 h6 g6 u6
    rw [show Tryz.prog.bytesOf 155 = 24 by kernel_rfl] at k3
    rw [show Tryz.prog.bytesOf 87 = 32 by kernel_rfl] at k4
    rw [show Tryz.prog.bytesOf 89 = 40 by kernel_rfl] at k5
    rw [show Tryz.prog.bytesOf 118 = 40 by kernel_rfl] at k6
    exact ⟨k3, k4, k5, k6⟩
/-- A pod in a row that came in; its rows no longer than memory is. -/
def PodLayM (w : World) : Lay PX := { m := 11, cs := PodLay0.cs, fine := fun z => At4 w z ∧ MemPd z.1, len := fun _ => rfl, one := PodLay0.one, pos := by decide }
theorem podX_of_trodW {H : Type} {enc : TypeId × Value → H} {w : World} {base fuel : Nat} {sp : Nat → Bool} {held : Bool} {cs : List Value} {x : DataW H × List MemPlace} (h : DataW.trod enc Tryz.prog w base sp held fuel 30 cs = some x) (hw : Wok 30 x.1) :
    ∃ a : PX, cs = (PodLayM w).cs a ∧ (PodLayM w).fine a := by
  obtain ⟨n, v1, v2, v3, v4, e, hat, hm⟩ := pod_of_trodW h
  obtain ⟨b1, n1, d1, b2, n2, d2, b3, n3, d3, b4, n4, d4, rfl, rfl, rfl, rfl⟩ := hat.spelt
  exact ⟨(n, (b1, n1, d1), (b2, n2, d2), (b3, n3, d3), (b4, n4, d4)), e, hat, hm hw⟩
theorem pods_of_trodW {H : Type} {enc : TypeId × Value → H} {w : World} {base fuel : Nat} {sp : Nat → Bool} {held : Bool} {v : Value} {x : DataW H × List MemPlace} (h : DataW.trod enc Tryz.prog w base sp held fuel 51 [v] = some x) (hw : Wok 51 x.1) : ∃ l, PodsR w v l ∧ ∀ p ∈ l, MemPd p := by
  obtain ⟨l, a, cap, rfl, h1, h2, h3⟩ := reads_of_trodQ (PodLayM w) Tryz.underlying51 cellsPd (Wok 30) (fun _ _ _ h g => podX_of_trodW h g) (fun elems spare e => by rw [e] at hw; exact (wok_slice Tryz.underlying51 hw).2) h
  obtain ⟨g0, g1, g2, g3⟩ := h3
  refine ⟨l.map (fun z => z.1), ⟨a, cap, by rw [List.length_map], by rw [List.length_map]; exact h1, h2, rfl, by rw [List.length_map]; exact g1, ?_⟩, fun p hp => by obtain ⟨z, hz, rfl⟩ := List.mem_map.1 hp; exact (g2 z hz).2⟩
  rw [List.length_map]
  rcases g3 with g3 | ⟨b, off, rfl, hb, hc⟩
  · exact .inl g3
  · refine .inr ⟨b, off, rfl, hb, fun i n hi => ?_⟩
    rw [List.getElem?_map] at hi
    obtain ⟨z, hz, rfl⟩ := Option.map_eq_some_iff.1 hi
    exact ⟨slV z.2.1, slV z.2.2.1, slV z.2.2.2.1, slV z.2.2.2.2, hc i z 0 _ hz rfl, hc i z 1 _ hz rfl, hc i z 2 _ hz rfl, hc i z 3 _ hz rfl, hc i z 4 _ hz rfl, hc i z 5 _ hz rfl, hc i z 6 _ hz rfl, hc i z 7 _ hz rfl, hc i z 8 _ hz rfl, hc i z 9 _ hz rfl, hc i z 10 _ hz rfl, (g2 z (List.mem_of_getElem? hz)).1⟩


end Go.Proofs.YtflllkpnkcmegaaGreatDoor
