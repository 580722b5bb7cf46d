/- Clusters: Put. -/
import Derived.Test.YtjihpbbeoiddkaaGreatStB
import Derived.Test.YtjihpbbeoiddkaaGreatStIns
import Derived.Deep.RegionHeld3
namespace Go.Proofs.YtjihpbbeoiddkaaGreat
open Go.RowKit
set_option linter.unusedVariables false

theorem drop_len (x : ByteArray) : ∀ l : List Pd, (dropP x l).length ≤ l.length
  | [] => Nat.le_refl _
  | p :: t => by
    rw [dropP]
    split
    · simp
    · have := drop_len x t; simp; omega
/-- A pod put between. -/
theorem insClu_any {S : Nat → Prop} {B i len cap vb vc : Nat} {ap : Option Addr} {w : World} {v1 v3 : Value} {s : Clu} (h : OwnClu S B w v1 (.slice ap len cap) v3 s) (z : PX) (hi : i ≤ len) (hlen : len ≤ 100000) (hB : B ≤ w.heap.size) (hS : ∀ k, S k → k < w.heap.size) (hvs : w.heap[vb]? = some (.cells (PodLay0.cs z).toArray 49)) (hvb : (Value.slice ap len cap).ownBlock ≠ some vb)
    (hz : Off (fun b => S b ∨ (Value.slice ap len cap).ownBlock = some b) w fun u => At4 u z) :
    Calls Tryz.prog 47 #[.slice ap len cap, .int .i64 i, .slice (some ⟨vb, 0, none⟩) 1 vc] w fun e w' => ∃ g c, e = .returned (.slice (some ⟨g, 0, none⟩) (len + 1) c) ∧ OwnClu S B w' v1 (.slice (some ⟨g, 0, none⟩) (len + 1) c) v3 { s with pods := s.pods.take i ++ z.1 :: s.pods.drop i } ∧ GOff (fun b => (Value.slice ap len cap).ownBlock = some b) w w' := by
  obtain ⟨lx, hmap, hown, hd⟩ := h.pods
  obtain ⟨a', c', e', _⟩ := hown.at_
  have hll : lx.length = len := by cases e'; rfl
  have hx : rowCells PodLay0 (lx.take i ++ z :: lx.drop i) = (rowCells PodLay0 lx).take (i * 11) ++ PodLay0.cs z ++ (rowCells PodLay0 lx).drop (i * 11) := by
    rw [show z :: lx.drop i = [z] ++ lx.drop i from rfl, rowCells_append, rowCells_append, rowCells_take, rowCells_drop]
    unfold rowCells
    simp [PodLay0]
  refine (insertP_any _ len i vb vc B (rowCells PodLay0 lx) (PodLay0.cs z) w (by have := hown.1; rw [hll] at this; exact this) hB hi (rowCells_one _ _) rfl (one_pod0 z) hvs hvb hlen).mono ?_
  rintro e w' ⟨g, c, rfl, ho, hg, hn⟩
  have hn' : ∀ k, (Value.slice (some ⟨g, 0, none⟩) (len + 1) c).ownBlock = some k → (Value.slice ap len cap).ownBlock = some k ∨ w.heap.size ≤ k := fun k hk => by
    obtain rfl : g = k := Option.some.inj hk
    exact hn
  have hd' : ∀ y ∈ lx.take i ++ z :: lx.drop i, Off (fun b => S b ∨ (Value.slice ap len cap).ownBlock = some b) w fun u => At4 u y := fun y hy => by
    rcases List.mem_append.1 hy with hy | hy
    · exact hd y (List.mem_of_mem_take hy)
    · rcases List.mem_cons.1 hy with rfl | hy
      · exact hz
      · exact hd y (List.mem_of_mem_drop hy)
  refine ⟨g, c, rfl, h.turn hg hn' hS ⟨lx.take i ++ z :: lx.drop i, by rw [List.map_append, List.map_cons, List.map_take, List.map_drop, hmap], ⟨?_, fun x hx => trivial⟩, OwnClu.els (B := B) hd' hg hn'⟩, hg⟩
  have h2 : (lx.take i ++ z :: lx.drop i).length = len + 1 := by rw [List.length_append, List.length_cons, List.length_take, List.length_drop, hll]; omega
  rw [h2, hx]
  exact ho
set_option maxRecDepth 100000 in
set_option maxHeartbeats 6400000 in
theorem putSt_any (a b d : Option Addr) (len cap m c n e : Nat) (nl : List Nod) (pl : List Pd) (bl : List Bd) (p : Pd) (s1 s2 s3 s4 : Option Addr) (t1 u1 t2 u2 t3 u3 t4 u4 : Nat) (w : World) (hn : NodesAt w a len nl) (hp : PodsAt w b m pl) (hb : BudsAt w d n bl) (h1 : len ≤ cap) (h2 : cap ≤ maxLen) (h3 : m ≤ c) (h4 : c ≤ maxLen) (h5 : n ≤ e) (h6 : e ≤ maxLen) (hl : LowClu ⟨nl, pl, bl⟩) (hP : PodAt w (.slice s1 t1 u1) (.slice s2 t2 u2) (.slice s3 t3 u3) (.slice s4 t4 u4) p) (hLP : LowPd p) :
    Calls Tryz.prog 14 #[.agg #[.slice a len cap, .slice b m c, .slice d n e], PodV p (.slice s1 t1 u1) (.slice s2 t2 u2) (.slice s3 t3 u3) (.slice s4 t4 u4)] w fun e w' => ∃ a1 n1 c1 a2 n2 c2 a3 n3 c3, e = .returned (.agg #[.slice a1 n1 c1, .slice a2 n2 c2, .slice a3 n3 c3]) ∧ OwnClu (fun b => b < w.heap.size) w.heap.size w' (.slice a1 n1 c1) (.slice a2 n2 c2) (.slice a3 n3 c3) (putSt ⟨nl, pl, bl⟩ p) ∧ Kept w w' := by
  obtain ⟨p0, p1, p2, q1, q2, q3, q4, p3, p4, p5, p6⟩ := p
  obtain ⟨Z, hZ⟩ : ∃ Z, ((w.alloc (.cells #[.slice a len cap, .slice b m c, .slice d n e] 26)).alloc (.cells #[.string p0, .string p1, .int .i64 p2, .slice s1 t1 u1, .slice s2 t2 u2, .slice s3 t3 u3, .slice s4 t4 u4, .string p3, .int .i64 p4, .string p5, .bool p6] 49)).alloc (.cells #[.slice none 0 0, .slice none 0 0, .slice none 0 0] 26) = Z := ⟨_, rfl⟩
  have hkz : Kept w Z := by rw [← hZ]; exact (kept_two _ _ _).trans (kept_alloc _ _)
  have hzs : Z.heap.size = w.heap.size + 3 := by rw [← hZ]; simp
  have cc := freshN w (.slice a len cap) [.slice b m c, .slice d n e] 26 Z (by rw [← hZ]; exact kept_two _ _ _)
  have o0 := cc.at_ 0 _ rfl
  have o1 := cc.at_ 1 _ rfl
  have o2 := cc.at_ 2 _ rfl
  have HPB := Lib.hid (show CellsN (w.heap.size + 1) [.string p0, .string p1, .int .i64 p2, .slice s1 t1 u1, .slice s2 t2 u2, .slice s3 t3 u3, .slice s4 t4 u4, .string p3, .int .i64 p4, .string p5, .bool p6] Z by
    have dd := freshN (w.alloc (.cells #[.slice a len cap, .slice b m c, .slice d n e] 26)) (.string p0) [.string p1, .int .i64 p2, .slice s1 t1 u1, .slice s2 t2 u2, .slice s3 t3 u3, .slice s4 t4 u4, .string p3, .int .i64 p4, .string p5, .bool p6] 49 Z (by rw [← hZ]; exact kept_alloc _ _)
    rw [World.size_alloc] at dd
    exact dd)
  have HQ := Lib.hid (show CellsN (w.heap.size + 2) [.slice none 0 0, .slice none 0 0, .slice none 0 0] Z by
    have dd := freshN ((w.alloc (.cells #[.slice a len cap, .slice b m c, .slice d n e] 26)).alloc (.cells #[.string p0, .string p1, .int .i64 p2, .slice s1 t1 u1, .slice s2 t2 u2, .slice s3 t3 u3, .slice s4 t4 u4, .string p3, .int .i64 p4, .string p5, .bool p6] 49)) (.slice none 0 0) [.slice none 0 0, .slice none 0 0] 26 Z (by rw [hZ]; exact Kept.refl _)
    rw [World.size_alloc, World.size_alloc] at dd
    exact dd)
  have y0 := HPB.out.at_ 0 _ rfl
  have HO := Lib.hid (dropSt_any a b d len cap m c n e nl pl bl p0 Z (hn.kept hkz) (hp.kept hkz) (hb.kept hkz) h1 h2 h3 h4 h5 h6 hl)
  have HKZ := Lib.hid hkz
  have HZS := Lib.hid hzs
  have HPN := Lib.hid hl.podsN
  have HPP := Lib.hid (hP.kept hkz)
  have HLP := Lib.hid hLP
  clear hn hp hb h1 h2 h3 h4 h5 h6 hl hkz hzs cc hP hLP
  unfold PodV
  dsimp only
  go_enter Tryz.func14, Tryz.ntmps14
  go_wp2_with fail
  try rw [hZ]
  go_wp2_with fail
  try rw [hZ]
  clear hZ o0 o1 o2 y0
  refine HO.out.mono ?_
  rintro e1 w1 ⟨a1, n1, c1, a2, n2, c2, a3, n3, c3, rfl, ho, k1⟩
  obtain ⟨W1, hW1⟩ : ∃ W, w1.alloc (.cells #[.slice a1 n1 c1, .slice a2 n2 c2, .slice a3 n3 c3] 26) = W := ⟨_, rfl⟩
  have hkw : Kept w1 W1 := by rw [← hW1]; exact kept_alloc _ _
  have HC := Lib.hid (ho.more (q := w1.heap.size) hkw (Nat.le_refl _))
  have HW := Lib.hid (show CellsN w1.heap.size [.slice a1 n1 c1, .slice a2 n2 c2, .slice a3 n3 c3] W1 from freshN w1 (.slice a1 n1 c1) [.slice a2 n2 c2, .slice a3 n3 c3] 26 W1 (by rw [hW1]; exact Kept.refl _))
  have HQ := Lib.hid (HQ.out.kept (k1.trans hkw))
  have HPB := Lib.hid (HPB.out.kept (k1.trans hkw))
  have HPP := Lib.hid (HPP.out.kept (k1.trans hkw))
  have K := Lib.hid (k1.trans hkw)
  have HS1 := Lib.hid (show Z.heap.size ≤ w1.heap.size ∧ w1.heap.size < W1.heap.size from ⟨k1.size, by rw [← hW1, World.size_alloc]; exact Nat.lt_succ_self _⟩)
  clear ho k1 hkw
  obtain ⟨v1, v2, v3, hu, hat⟩ := HC.out.toR
  cases hu
  obtain ⟨ap, cp, ep, l1, l2, hpat⟩ := hat.pods
  cases ep
  have HPA := Lib.hid hpat
  clear hat l1 l2
  have HDL := Lib.hid (show (dropSt ⟨nl, pl, bl⟩ p0).pods.length ≤ 100000 from Nat.le_trans (drop_len p0 pl) HPN.out)
  obtain ⟨l9, hl9⟩ : ∃ l, (dropSt ⟨nl, pl, bl⟩ p0).pods = l := ⟨_, rfl⟩
  obtain ⟨len9, hlen9⟩ : ∃ q, l9.length = q := ⟨_, rfl⟩
  have HE9 := Lib.hid (show l9 = dropP p0 pl by rw [← hl9]; rfl)
  have HL9 := Lib.hid hlen9
  skip
  rw [hl9] at HPA HDL HW HC ⊢
  rw [hlen9] at HPA HDL HW HC ⊢
  try rw [hl9] at hW1
  try rw [hlen9] at hW1
  have HCN := Lib.hid (show (dropSt ⟨nl, pl, bl⟩ p0) = ⟨nl, l9, bl⟩ by rw [HE9.out]; rfl)
  rw [HCN.out] at HC
  clear hl9 hlen9 hpat
  go_wp2_with fail
  try rw [hW1]
  try clear hW1
  have HS := Lib.hid (show ∀ W, CellsN (w.heap.size + 1) [.string p0, .string p1, .int .i64 p2, .slice s1 t1 u1, .slice s2 t2 u2, .slice s3 t3 u3, .slice s4 t4 u4, .string p3, .int .i64 p4, .string p5, .bool p6] W → W.cell? ⟨w.heap.size + 1, 0, none⟩ = some (.string p0) ∧ W.cell? ⟨w.heap.size + 1, 1, none⟩ = some (.string p1) ∧ W.cell? ⟨w.heap.size + 1, 2, none⟩ = some (.int .i64 p2) ∧ W.cell? ⟨w.heap.size + 1, 3, none⟩ = some (.slice s1 t1 u1) ∧ W.cell? ⟨w.heap.size + 1, 4, none⟩ = some (.slice s2 t2 u2) ∧ W.cell? ⟨w.heap.size + 1, 5, none⟩ = some (.slice s3 t3 u3) ∧ W.cell? ⟨w.heap.size + 1, 6, none⟩ = some (.slice s4 t4 u4) ∧ W.cell? ⟨w.heap.size + 1, 7, none⟩ = some (.string p3) ∧ W.cell? ⟨w.heap.size + 1, 8, none⟩ = some (.int .i64 p4) ∧ W.cell? ⟨w.heap.size + 1, 9, none⟩ = some (.string p5) ∧ W.cell? ⟨w.heap.size + 1, 10, none⟩ = some (.bool p6) from fun W h => ⟨h.at_ 0 _ rfl, h.at_ 1 _ rfl, h.at_ 2 _ rfl, h.at_ 3 _ rfl, h.at_ 4 _ rfl, h.at_ 5 _ rfl, h.at_ 6 _ rfl, h.at_ 7 _ rfl, h.at_ 8 _ rfl, h.at_ 9 _ rfl, h.at_ 10 _ rfl⟩)
  have HP2 := Lib.hid (fun W (k : Kept W1 W) => HPB.out.kept k)
  skip
  refine wp_region_held_drew (S := fun W => W.cell? ⟨w.heap.size + 1, 0, none⟩ = some (.string p0) ∧ W.cell? ⟨w.heap.size + 1, 1, none⟩ = some (.string p1) ∧ W.cell? ⟨w.heap.size + 1, 2, none⟩ = some (.int .i64 p2) ∧ W.cell? ⟨w.heap.size + 1, 3, none⟩ = some (.slice s1 t1 u1) ∧ W.cell? ⟨w.heap.size + 1, 4, none⟩ = some (.slice s2 t2 u2) ∧ W.cell? ⟨w.heap.size + 1, 5, none⟩ = some (.slice s3 t3 u3) ∧ W.cell? ⟨w.heap.size + 1, 6, none⟩ = some (.slice s4 t4 u4) ∧ W.cell? ⟨w.heap.size + 1, 7, none⟩ = some (.string p3) ∧ W.cell? ⟨w.heap.size + 1, 8, none⟩ = some (.int .i64 p4) ∧ W.cell? ⟨w.heap.size + 1, 9, none⟩ = some (.string p5) ∧ W.cell? ⟨w.heap.size + 1, 10, none⟩ = some (.bool p6)) (by kernel_rfl) (HS.out _ (HP2.out _ (Kept.drew _))) (fun hHeld => ?_)
  refine wpAnyH_take (i := 0) (v := ?_) (by rw [List.getElem?_toArray]; exact rfl) (by kernel_rfl) (by kernel_rfl) (by kernel_rfl) (by exact fun _ _ _ h => h) (Or.inl ⟨by rfl, (by intro W hSw; obtain ⟨o0, o1, o2, o3, o4, o5, o6, o7, o8, o9, o10⟩ := hSw; go_simp <;> with_reducible rfl)⟩) (by assumption) ?_
  try simp only [Act.put, List.setIfInBounds_toArray, List.set_cons_zero, List.set_cons_succ]
  refine wpAnyH_take (i := 2) (v := ?_) (by rw [List.getElem?_toArray]; exact rfl) (by kernel_rfl) (by kernel_rfl) (by kernel_rfl) (by exact fun _ _ _ h => h) (Or.inl ⟨by rfl, (by intro W hSw; obtain ⟨o0, o1, o2, o3, o4, o5, o6, o7, o8, o9, o10⟩ := hSw; go_simp <;> with_reducible rfl)⟩) (by assumption) ?_
  try simp only [Act.put, List.setIfInBounds_toArray, List.set_cons_zero, List.set_cons_succ]
  refine wpAnyH_take (i := 4) (v := ?_) (by rw [List.getElem?_toArray]; exact rfl) (by kernel_rfl) (by kernel_rfl) (by kernel_rfl) (by exact fun _ _ _ h => h) (Or.inl ⟨by rfl, (by intro W hSw; obtain ⟨o0, o1, o2, o3, o4, o5, o6, o7, o8, o9, o10⟩ := hSw; go_simp <;> with_reducible rfl)⟩) (by assumption) ?_
  try simp only [Act.put, List.setIfInBounds_toArray, List.set_cons_zero, List.set_cons_succ]
  refine wpAnyH_take (i := 5) (v := ?_) (by rw [List.getElem?_toArray]; exact rfl) (by kernel_rfl) (by kernel_rfl) (by kernel_rfl) (by exact fun _ _ _ h => h) (Or.inl ⟨by rfl, (by intro W hSw; obtain ⟨o0, o1, o2, o3, o4, o5, o6, o7, o8, o9, o10⟩ := hSw; go_simp <;> with_reducible rfl)⟩) (by assumption) ?_
  try simp only [Act.put, List.setIfInBounds_toArray, List.set_cons_zero, List.set_cons_succ]
  refine wpAnyH_take (i := 7) (v := ?_) (by rw [List.getElem?_toArray]; exact rfl) (by kernel_rfl) (by kernel_rfl) (by kernel_rfl) (by exact fun _ _ _ h => h) (Or.inl ⟨by rfl, (by intro W hSw; obtain ⟨o0, o1, o2, o3, o4, o5, o6, o7, o8, o9, o10⟩ := hSw; go_simp <;> with_reducible rfl)⟩) (by assumption) ?_
  try simp only [Act.put, List.setIfInBounds_toArray, List.set_cons_zero, List.set_cons_succ]
  refine wpAnyH_ready (rs := [1, 3]) (by kernel_rfl) (by simp) (AllReadyH.cons (by rw [List.getElem?_toArray]; exact rfl) (fun K9 hK9 => ?_) (AllReadyH.cons (by rw [List.getElem?_toArray]; exact rfl) (fun K9 hK9 => ?_) AllReadyH.nil))
  · skip
    have yq : W1.drew.cell? ⟨w1.heap.size, 1, none⟩ = some (.slice a2 len9 c2) := (HW.out.kept (Kept.drew W1)).at_ 1 _ rfl
    go_simp
    refine hK9.out _ _ (HS.out _ (HP2.out _ (Kept.drew W1))) (fun hHeld8 => ?_)
    clear hK9 K9 yq
    try simp only [Act.put, List.setIfInBounds_toArray, List.set_cons_zero, List.set_cons_succ]
    have yq : W1.drew.cell? ⟨w1.heap.size, 1, none⟩ = some (.slice a2 len9 c2) := HW.out.at_ 1 _ rfl
    refine wpAnyH_ready (rs := [3]) (by kernel_rfl) (by simp) (AllReadyH.cons (by rw [List.getElem?_toArray]; exact rfl) (fun K9 hK9 => ?_) AllReadyH.nil)
    go_simp
    refine hK9.out _ _ (HS.out _ (HP2.out _ (Kept.drew _))) (fun hHeld9 => ?_)
    clear hK9 K9 yq
    try simp only [Act.put, List.setIfInBounds_toArray, List.set_cons_zero, List.set_cons_succ]
    refine wpAnyH_ready (rs := [6]) (by kernel_rfl) (by simp) (AllReadyH.cons (by rw [List.getElem?_toArray]; exact rfl) (fun K9 hK9 => ?_) AllReadyH.nil)
    go_simp
    refine (placeOf_any a2 len9 c2 l9 p0 _ (HPA.out.kept (Kept.drew _))).mono ?_
    rintro e2 w2 ⟨rfl, kk⟩
    have J1 := Lib.hid ((Kept.drew W1).trans kk)
    clear kk
    refine hK9.out _ _ (HS.out _ (HP2.out _ J1.out)) (fun hHeld21 => ?_)
    clear hK9 K9
    try simp only [Act.put, List.setIfInBounds_toArray, List.set_cons_zero, List.set_cons_succ]
    refine wpAnyH_ready (rs := [8]) (by kernel_rfl) (by simp) (AllReadyH.cons (by rw [List.getElem?_toArray]; exact rfl) (fun K9 hK9 => ?_) AllReadyH.nil)
    go_simp
    have HOW := ownedPod_any ⟨p0, p1, p2, q1, q2, q3, q4, p3, p4, p5, p6⟩ (.slice s1 t1 u1) (.slice s2 t2 u2) (.slice s3 t3 u3) (.slice s4 t4 u4) w2 (HPP.out.kept J1.out) HLP.out
    unfold PodV at HOW
    dsimp only at HOW
    refine HOW.mono ?_
    clear HOW
    rintro e3 w3 ⟨v, rfl, hv, kk⟩
    have J2 := Lib.hid (J1.out.trans kk)
    obtain ⟨x1, y1, z1, x2, y2, z2, x3, y3, z3, x4, y4, z4, hv9, sp, g1, g2, g3, g4⟩ := hv
    have hv9 : v = .agg #[.string p0, .string p1, .int .i64 p2, .slice x1 y1 z1, .slice x2 y2 z2, .slice x3 y3 z3, .slice x4 y4 z4, .string p3, .int .i64 p4, .string p5, .bool p6] := hv9
    subst hv9
    have HG := Lib.hid (show Z.heap.size ≤ w1.heap.size ∧ w1.heap.size < w2.heap.size from ⟨HS1.out.1, Nat.lt_of_lt_of_le HS1.out.2 J1.out.size⟩)
    have HOF := Lib.hid (show Off (fun b => (b < Z.heap.size ∨ b = w1.heap.size) ∨ (Value.slice a2 len9 c2).ownBlock = some b) w3 fun u => At4 u (⟨p0, p1, p2, q1, q2, q3, q4, p3, p4, p5, p6⟩, (x1, y1, z1), (x2, y2, z2), (x3, y3, z3), (x4, y4, z4)) from PodAt.off (B := w2.heap.size) sp g1 g2 g3 g4 (fun b hb h => by
      have h1 := HG.out
      rcases h with (h | h) | h
      · omega
      · omega
      · have := ((HC.out.kept J1.out).lt b h).2; omega))
    clear kk sp g1 g2 g3 g4
    refine hK9.out _ _ (HS.out _ (HP2.out _ J2.out)) (fun hHeld21 => ?_)
    clear hK9 K9
    try simp only [Act.put, List.setIfInBounds_toArray, List.set_cons_zero, List.set_cons_succ]
    refine wpAnyH_ready (rs := [9]) (by kernel_rfl) (by simp) (AllReadyH.cons (by rw [List.getElem?_toArray]; exact rfl) (fun K9 hK9 => ?_) AllReadyH.nil)
    go_simp
    have J3 := Lib.hid (J2.out.trans (kept_alloc w3 (.cells #[.string p0, .string p1, .int .i64 p2, .slice x1 y1 z1, .slice x2 y2 z2, .slice x3 y3 z3, .slice x4 y4 z4, .string p3, .int .i64 p4, .string p5, .bool p6] 49)))
    have HV := Lib.hid (show (w3.alloc (.cells #[.string p0, .string p1, .int .i64 p2, .slice x1 y1 z1, .slice x2 y2 z2, .slice x3 y3 z3, .slice x4 y4 z4, .string p3, .int .i64 p4, .string p5, .bool p6] 49)).heap[w3.heap.size]? = some (.cells #[.string p0, .string p1, .int .i64 p2, .slice x1 y1 z1, .slice x2 y2 z2, .slice x3 y3 z3, .slice x4 y4 z4, .string p3, .int .i64 p4, .string p5, .bool p6] 49) from World.alloc_heap_new w3 _)
    have HOF := Lib.hid (HOF.out.step (GOff.of (kept_alloc w3 (.cells #[.string p0, .string p1, .int .i64 p2, .slice x1 y1 z1, .slice x2 y2 z2, .slice x3 y3 z3, .slice x4 y4 z4, .string p3, .int .i64 p4, .string p5, .bool p6] 49))))
    refine hK9.out _ _ (HS.out _ (HP2.out _ J3.out)) (fun hHeld7 => ?_)
    clear hK9 K9
    try simp only [Act.put, List.setIfInBounds_toArray, List.set_cons_zero, List.set_cons_succ]
    obtain ⟨w4, hw4⟩ : ∃ W, w3.alloc (.cells #[.string p0, .string p1, .int .i64 p2, .slice x1 y1 z1, .slice x2 y2 z2, .slice x3 y3 z3, .slice x4 y4 z4, .string p3, .int .i64 p4, .string p5, .bool p6] 49) = W := ⟨_, rfl⟩
    rw [hw4] at J3 HV HOF ⊢
    clear hw4
    refine wpAnyH_ready (rs := [10]) (by kernel_rfl) (by simp) (AllReadyH.cons (by rw [List.getElem?_toArray]; exact rfl) (fun K9 hK9 => ?_) AllReadyH.nil)
    go_simp
    refine (insClu_any (HC.out.kept J3.out) (⟨p0, p1, p2, q1, q2, q3, q4, p3, p4, p5, p6⟩, (x1, y1, z1), (x2, y2, z2), (x3, y3, z3), (x4, y4, z4)) (i := placeN p0 l9) (by have := place_le p0 l9; rw [HL9.out] at this; exact this) HDL.out (by have := J3.out.size; have := HS1.out; omega) (fun b hb => by have := J3.out.size; have := HS1.out; rcases hb with hb | hb <;> omega) HV.out (fun e => by have h1 := ((HC.out.kept J2.out).lt _ e).2; omega) HOF.out).mono ?_
    rintro e5 w5 ⟨g, c9, rfl, hc5, hg5⟩
    have HC5 := Lib.hid hc5
    have HWX := Lib.hid (((HW.out.kept J3.out)).block (hg5.block _ (by have := J3.out.size; have := HS1.out; omega) (fun e => HC.out.sep _ e (.inr rfl))))
    have HQX := Lib.hid ((HQ.out.kept J3.out).block (hg5.block _ (by have := J3.out.size; have := HS1.out; have := HZS.out; omega) (fun e => HC.out.sep _ e (.inl (by have := HZS.out; omega)))))
    have HPX := Lib.hid ((HP2.out _ J3.out).block (hg5.block _ (by have := J3.out.size; have := HS1.out; have := HZS.out; omega) (fun e => HC.out.sep _ e (.inl (by have := HZS.out; omega)))))
    have K5 := Lib.hid (show Kept w w5 from Below.trans (HKZ.out.trans (K.out.trans J3.out)) (hg5.at_below (B := w.heap.size) (fun q e => by have := (HC.out.lt q e).1; have := HZS.out; omega) (HKZ.out.trans (K.out.trans J3.out)).size))
    clear hc5 hg5
    refine hK9.out _ _ (HS.out _ HPX.out) (fun hHeld21 => ?_)
    clear hK9 K9
    try simp only [Act.put, List.setIfInBounds_toArray, List.set_cons_zero, List.set_cons_succ]
    refine wpAnyH_take (i := 11) (v := ?_) (by rw [List.getElem?_toArray]; exact rfl) (by kernel_rfl) (by kernel_rfl) (by kernel_rfl) (by exact fun _ _ _ h => h) (Or.inl ⟨by rfl, (by intro W hSw; obtain ⟨o0, o1, o2, o3, o4, o5, o6, o7, o8, o9, o10⟩ := hSw; go_simp <;> with_reducible rfl)⟩) (by assumption) ?_
    try simp only [Act.put, List.setIfInBounds_toArray, List.set_cons_zero, List.set_cons_succ]
    have q1 := HWX.out.at_ 1 _ rfl
    have f1 := HWX.out.free 1
    refine wpAnyH_ready (rs := [12]) (by kernel_rfl) (by simp) (AllReadyH.cons (by rw [List.getElem?_toArray]; exact rfl) (fun K9 hK9 => ?_) AllReadyH.nil)
    go_simp
    have HPY := Lib.hid (HPX.out.other (p := w1.heap.size) (j := 1) (u := .slice (some ⟨g, 0, none⟩) (len9 + 1) c9) (by have := HS1.out; have := HZS.out; omega))
    have HQY := Lib.hid (HQX.out.other (p := w1.heap.size) (j := 1) (u := .slice (some ⟨g, 0, none⟩) (len9 + 1) c9) (by have := HS1.out; have := HZS.out; omega))
    have HWY := Lib.hid (show CellsN w1.heap.size [.slice a1 n1 c1, .slice (some ⟨g, 0, none⟩) (len9 + 1) c9, .slice a3 n3 c3] (w5.setCell ⟨w1.heap.size, 1, none⟩ (.slice (some ⟨g, 0, none⟩) (len9 + 1) c9)) from HWX.out.set (j := 1) (by simp))
    have HC6 := Lib.hid (HC5.out.step (GOff.cell (S := fun b => b < Z.heap.size ∨ b = w1.heap.size) w1.heap.size 1 (.slice (some ⟨g, 0, none⟩) (len9 + 1) c9) (.inr rfl)))
    have K6 := Lib.hid (show Kept w (w5.setCell ⟨w1.heap.size, 1, none⟩ (.slice (some ⟨g, 0, none⟩) (len9 + 1) c9)) from K5.out.setCell (p := ⟨w1.heap.size, 1, none⟩) (by have := HS1.out; have := HZS.out; show w.heap.size ≤ w1.heap.size; omega) _)
    refine hK9.out _ _ (HS.out _ HPY.out) (fun hHeld6 => ?_)
    clear hK9 K9 q1 f1
    try simp only [Act.put, List.setIfInBounds_toArray, List.set_cons_zero, List.set_cons_succ]
    refine wpAnyH_done (by kernel_rfl) ?_ _
    have y0 := HWY.out.at_ 0 _ rfl
    have y1 := HWY.out.at_ 1 _ rfl
    have y2 := HWY.out.at_ 2 _ rfl
    have z0 := HQY.out.at_ 0 _ rfl
    have z1 := HQY.out.at_ 1 _ rfl
    have z2 := HQY.out.at_ 2 _ rfl
    have f0 := HQY.out.free 0
    have f1 := HQY.out.free 1
    have f2 := HQY.out.free 2
    have PP := Lib.hid (putN (vs := [.slice a1 n1 c1, .slice (some ⟨g, 0, none⟩) (len9 + 1) c9, .slice a3 n3 c3]) HQY.out rfl)
    go_wp2
    obtain ⟨WE, hWE⟩ : ∃ W, (w5.setCell ⟨w1.heap.size, 1, none⟩ (.slice (some ⟨g, 0, none⟩) (len9 + 1) c9)).setCells (w.heap.size + 2) 0 [.slice a1 n1 c1, .slice (some ⟨g, 0, none⟩) (len9 + 1) c9, .slice a3 n3 c3] = W := ⟨_, rfl⟩
    have hWE2 : ((((w5.setCell ⟨w1.heap.size, 1, none⟩ (.slice (some ⟨g, 0, none⟩) (len9 + 1) c9)).setCell ⟨(w.heap.size + 2), 0, none⟩ (.slice a1 n1 c1)).setCell ⟨(w.heap.size + 2), 1, none⟩ (.slice (some ⟨g, 0, none⟩) (len9 + 1) c9)).setCell ⟨(w.heap.size + 2), 2, none⟩ (.slice a3 n3 c3)) = WE := hWE
    rw [hWE] at PP
    try rw [hWE2]
    have GE := Lib.hid (show GOff (fun b => b < Z.heap.size ∨ b = w1.heap.size) (w5.setCell ⟨w1.heap.size, 1, none⟩ (.slice (some ⟨g, 0, none⟩) (len9 + 1) c9)) WE by rw [← hWE]; exact GOff.cells (S := fun b => b < Z.heap.size ∨ b = w1.heap.size) _ (.inl (by have := HZS.out; omega)) _ _ _)
    clear hWE hWE2
    obtain ⟨PCC, hsz, hbl, hkp⟩ := PP.out
    refine bodyPost_ret (by simp [results, Tryz.results14, go_sem, PCC.at_ 0 _ rfl, PCC.at_ 1 _ rfl, PCC.at_ 2 _ rfl]; try rfl) rfl ?_
    have HFIN := (HC6.out.step GE.out).less (B' := w.heap.size) (S' := fun b => b < w.heap.size) HKZ.out.size (fun b hb => .inl (Nat.lt_of_lt_of_le hb HKZ.out.size))
    rw [show l9.take (placeN p0 l9) ++ ⟨p0, p1, p2, q1, q2, q3, q4, p3, p4, p5, p6⟩ :: l9.drop (placeN p0 l9) = insP ⟨p0, p1, p2, q1, q2, q3, q4, p3, p4, p5, p6⟩ (dropP p0 pl) by rw [← HE9.out]; exact place_ins (p := ⟨p0, p1, p2, q1, q2, q3, q4, p3, p4, p5, p6⟩) (l := l9)] at HFIN
    exact ⟨_, _, _, _, _, _, _, _, _, rfl, HFIN, hkp _ _ (by omega) K6.out⟩
  · skip
    have yq : W1.drew.cell? ⟨w1.heap.size, 1, none⟩ = some (.slice a2 len9 c2) := HW.out.at_ 1 _ rfl
    go_simp
    refine hK9.out _ _ (HS.out _ (HP2.out _ (Kept.drew _))) (fun hHeld9 => ?_)
    clear hK9 K9 yq
    try simp only [Act.put, List.setIfInBounds_toArray, List.set_cons_zero, List.set_cons_succ]
    refine wpAnyH_ready (rs := [1, 6]) (by kernel_rfl) (by simp) (AllReadyH.cons (by rw [List.getElem?_toArray]; exact rfl) (fun K9 hK9 => ?_) (AllReadyH.cons (by rw [List.getElem?_toArray]; exact rfl) (fun K9 hK9 => ?_) AllReadyH.nil))
    · skip
      have yq : W1.drew.cell? ⟨w1.heap.size, 1, none⟩ = some (.slice a2 len9 c2) := (HW.out.kept (Kept.drew W1)).at_ 1 _ rfl
      go_simp
      refine hK9.out _ _ (HS.out _ (HP2.out _ (Kept.drew W1))) (fun hHeld8 => ?_)
      clear hK9 K9 yq
      try simp only [Act.put, List.setIfInBounds_toArray, List.set_cons_zero, List.set_cons_succ]
      refine wpAnyH_ready (rs := [6]) (by kernel_rfl) (by simp) (AllReadyH.cons (by rw [List.getElem?_toArray]; exact rfl) (fun K9 hK9 => ?_) AllReadyH.nil)
      go_simp
      refine (placeOf_any a2 len9 c2 l9 p0 _ (HPA.out.kept (Kept.drew _))).mono ?_
      rintro e2 w2 ⟨rfl, kk⟩
      have J1 := Lib.hid ((Kept.drew W1).trans kk)
      clear kk
      refine hK9.out _ _ (HS.out _ (HP2.out _ J1.out)) (fun hHeld21 => ?_)
      clear hK9 K9
      try simp only [Act.put, List.setIfInBounds_toArray, List.set_cons_zero, List.set_cons_succ]
      refine wpAnyH_ready (rs := [8]) (by kernel_rfl) (by simp) (AllReadyH.cons (by rw [List.getElem?_toArray]; exact rfl) (fun K9 hK9 => ?_) AllReadyH.nil)
      go_simp
      have HOW := ownedPod_any ⟨p0, p1, p2, q1, q2, q3, q4, p3, p4, p5, p6⟩ (.slice s1 t1 u1) (.slice s2 t2 u2) (.slice s3 t3 u3) (.slice s4 t4 u4) w2 (HPP.out.kept J1.out) HLP.out
      unfold PodV at HOW
      dsimp only at HOW
      refine HOW.mono ?_
      clear HOW
      rintro e3 w3 ⟨v, rfl, hv, kk⟩
      have J2 := Lib.hid (J1.out.trans kk)
      obtain ⟨x1, y1, z1, x2, y2, z2, x3, y3, z3, x4, y4, z4, hv9, sp, g1, g2, g3, g4⟩ := hv
      have hv9 : v = .agg #[.string p0, .string p1, .int .i64 p2, .slice x1 y1 z1, .slice x2 y2 z2, .slice x3 y3 z3, .slice x4 y4 z4, .string p3, .int .i64 p4, .string p5, .bool p6] := hv9
      subst hv9
      have HG := Lib.hid (show Z.heap.size ≤ w1.heap.size ∧ w1.heap.size < w2.heap.size from ⟨HS1.out.1, Nat.lt_of_lt_of_le HS1.out.2 J1.out.size⟩)
      have HOF := Lib.hid (show Off (fun b => (b < Z.heap.size ∨ b = w1.heap.size) ∨ (Value.slice a2 len9 c2).ownBlock = some b) w3 fun u => At4 u (⟨p0, p1, p2, q1, q2, q3, q4, p3, p4, p5, p6⟩, (x1, y1, z1), (x2, y2, z2), (x3, y3, z3), (x4, y4, z4)) from PodAt.off (B := w2.heap.size) sp g1 g2 g3 g4 (fun b hb h => by
        have h1 := HG.out
        rcases h with (h | h) | h
        · omega
        · omega
        · have := ((HC.out.kept J1.out).lt b h).2; omega))
      clear kk sp g1 g2 g3 g4
      refine hK9.out _ _ (HS.out _ (HP2.out _ J2.out)) (fun hHeld21 => ?_)
      clear hK9 K9
      try simp only [Act.put, List.setIfInBounds_toArray, List.set_cons_zero, List.set_cons_succ]
      refine wpAnyH_ready (rs := [9]) (by kernel_rfl) (by simp) (AllReadyH.cons (by rw [List.getElem?_toArray]; exact rfl) (fun K9 hK9 => ?_) AllReadyH.nil)
      go_simp
      have J3 := Lib.hid (J2.out.trans (kept_alloc w3 (.cells #[.string p0, .string p1, .int .i64 p2, .slice x1 y1 z1, .slice x2 y2 z2, .slice x3 y3 z3, .slice x4 y4 z4, .string p3, .int .i64 p4, .string p5, .bool p6] 49)))
      have HV := Lib.hid (show (w3.alloc (.cells #[.string p0, .string p1, .int .i64 p2, .slice x1 y1 z1, .slice x2 y2 z2, .slice x3 y3 z3, .slice x4 y4 z4, .string p3, .int .i64 p4, .string p5, .bool p6] 49)).heap[w3.heap.size]? = some (.cells #[.string p0, .string p1, .int .i64 p2, .slice x1 y1 z1, .slice x2 y2 z2, .slice x3 y3 z3, .slice x4 y4 z4, .string p3, .int .i64 p4, .string p5, .bool p6] 49) from World.alloc_heap_new w3 _)
      have HOF := Lib.hid (HOF.out.step (GOff.of (kept_alloc w3 (.cells #[.string p0, .string p1, .int .i64 p2, .slice x1 y1 z1, .slice x2 y2 z2, .slice x3 y3 z3, .slice x4 y4 z4, .string p3, .int .i64 p4, .string p5, .bool p6] 49))))
      refine hK9.out _ _ (HS.out _ (HP2.out _ J3.out)) (fun hHeld7 => ?_)
      clear hK9 K9
      try simp only [Act.put, List.setIfInBounds_toArray, List.set_cons_zero, List.set_cons_succ]
      obtain ⟨w4, hw4⟩ : ∃ W, w3.alloc (.cells #[.string p0, .string p1, .int .i64 p2, .slice x1 y1 z1, .slice x2 y2 z2, .slice x3 y3 z3, .slice x4 y4 z4, .string p3, .int .i64 p4, .string p5, .bool p6] 49) = W := ⟨_, rfl⟩
      rw [hw4] at J3 HV HOF ⊢
      clear hw4
      refine wpAnyH_ready (rs := [10]) (by kernel_rfl) (by simp) (AllReadyH.cons (by rw [List.getElem?_toArray]; exact rfl) (fun K9 hK9 => ?_) AllReadyH.nil)
      go_simp
      refine (insClu_any (HC.out.kept J3.out) (⟨p0, p1, p2, q1, q2, q3, q4, p3, p4, p5, p6⟩, (x1, y1, z1), (x2, y2, z2), (x3, y3, z3), (x4, y4, z4)) (i := placeN p0 l9) (by have := place_le p0 l9; rw [HL9.out] at this; exact this) HDL.out (by have := J3.out.size; have := HS1.out; omega) (fun b hb => by have := J3.out.size; have := HS1.out; rcases hb with hb | hb <;> omega) HV.out (fun e => by have h1 := ((HC.out.kept J2.out).lt _ e).2; omega) HOF.out).mono ?_
      rintro e5 w5 ⟨g, c9, rfl, hc5, hg5⟩
      have HC5 := Lib.hid hc5
      have HWX := Lib.hid (((HW.out.kept J3.out)).block (hg5.block _ (by have := J3.out.size; have := HS1.out; omega) (fun e => HC.out.sep _ e (.inr rfl))))
      have HQX := Lib.hid ((HQ.out.kept J3.out).block (hg5.block _ (by have := J3.out.size; have := HS1.out; have := HZS.out; omega) (fun e => HC.out.sep _ e (.inl (by have := HZS.out; omega)))))
      have HPX := Lib.hid ((HP2.out _ J3.out).block (hg5.block _ (by have := J3.out.size; have := HS1.out; have := HZS.out; omega) (fun e => HC.out.sep _ e (.inl (by have := HZS.out; omega)))))
      have K5 := Lib.hid (show Kept w w5 from Below.trans (HKZ.out.trans (K.out.trans J3.out)) (hg5.at_below (B := w.heap.size) (fun q e => by have := (HC.out.lt q e).1; have := HZS.out; omega) (HKZ.out.trans (K.out.trans J3.out)).size))
      clear hc5 hg5
      refine hK9.out _ _ (HS.out _ HPX.out) (fun hHeld21 => ?_)
      clear hK9 K9
      try simp only [Act.put, List.setIfInBounds_toArray, List.set_cons_zero, List.set_cons_succ]
      refine wpAnyH_take (i := 11) (v := ?_) (by rw [List.getElem?_toArray]; exact rfl) (by kernel_rfl) (by kernel_rfl) (by kernel_rfl) (by exact fun _ _ _ h => h) (Or.inl ⟨by rfl, (by intro W hSw; obtain ⟨o0, o1, o2, o3, o4, o5, o6, o7, o8, o9, o10⟩ := hSw; go_simp <;> with_reducible rfl)⟩) (by assumption) ?_
      try simp only [Act.put, List.setIfInBounds_toArray, List.set_cons_zero, List.set_cons_succ]
      have q1 := HWX.out.at_ 1 _ rfl
      have f1 := HWX.out.free 1
      refine wpAnyH_ready (rs := [12]) (by kernel_rfl) (by simp) (AllReadyH.cons (by rw [List.getElem?_toArray]; exact rfl) (fun K9 hK9 => ?_) AllReadyH.nil)
      go_simp
      have HPY := Lib.hid (HPX.out.other (p := w1.heap.size) (j := 1) (u := .slice (some ⟨g, 0, none⟩) (len9 + 1) c9) (by have := HS1.out; have := HZS.out; omega))
      have HQY := Lib.hid (HQX.out.other (p := w1.heap.size) (j := 1) (u := .slice (some ⟨g, 0, none⟩) (len9 + 1) c9) (by have := HS1.out; have := HZS.out; omega))
      have HWY := Lib.hid (show CellsN w1.heap.size [.slice a1 n1 c1, .slice (some ⟨g, 0, none⟩) (len9 + 1) c9, .slice a3 n3 c3] (w5.setCell ⟨w1.heap.size, 1, none⟩ (.slice (some ⟨g, 0, none⟩) (len9 + 1) c9)) from HWX.out.set (j := 1) (by simp))
      have HC6 := Lib.hid (HC5.out.step (GOff.cell (S := fun b => b < Z.heap.size ∨ b = w1.heap.size) w1.heap.size 1 (.slice (some ⟨g, 0, none⟩) (len9 + 1) c9) (.inr rfl)))
      have K6 := Lib.hid (show Kept w (w5.setCell ⟨w1.heap.size, 1, none⟩ (.slice (some ⟨g, 0, none⟩) (len9 + 1) c9)) from K5.out.setCell (p := ⟨w1.heap.size, 1, none⟩) (by have := HS1.out; have := HZS.out; show w.heap.size ≤ w1.heap.size; omega) _)
      refine hK9.out _ _ (HS.out _ HPY.out) (fun hHeld6 => ?_)
      clear hK9 K9 q1 f1
      try simp only [Act.put, List.setIfInBounds_toArray, List.set_cons_zero, List.set_cons_succ]
      refine wpAnyH_done (by kernel_rfl) ?_ _
      have y0 := HWY.out.at_ 0 _ rfl
      have y1 := HWY.out.at_ 1 _ rfl
      have y2 := HWY.out.at_ 2 _ rfl
      have z0 := HQY.out.at_ 0 _ rfl
      have z1 := HQY.out.at_ 1 _ rfl
      have z2 := HQY.out.at_ 2 _ rfl
      have f0 := HQY.out.free 0
      have f1 := HQY.out.free 1
      have f2 := HQY.out.free 2
      have PP := Lib.hid (putN (vs := [.slice a1 n1 c1, .slice (some ⟨g, 0, none⟩) (len9 + 1) c9, .slice a3 n3 c3]) HQY.out rfl)
      go_wp2
      obtain ⟨WE, hWE⟩ : ∃ W, (w5.setCell ⟨w1.heap.size, 1, none⟩ (.slice (some ⟨g, 0, none⟩) (len9 + 1) c9)).setCells (w.heap.size + 2) 0 [.slice a1 n1 c1, .slice (some ⟨g, 0, none⟩) (len9 + 1) c9, .slice a3 n3 c3] = W := ⟨_, rfl⟩
      have hWE2 : ((((w5.setCell ⟨w1.heap.size, 1, none⟩ (.slice (some ⟨g, 0, none⟩) (len9 + 1) c9)).setCell ⟨(w.heap.size + 2), 0, none⟩ (.slice a1 n1 c1)).setCell ⟨(w.heap.size + 2), 1, none⟩ (.slice (some ⟨g, 0, none⟩) (len9 + 1) c9)).setCell ⟨(w.heap.size + 2), 2, none⟩ (.slice a3 n3 c3)) = WE := hWE
      rw [hWE] at PP
      try rw [hWE2]
      have GE := Lib.hid (show GOff (fun b => b < Z.heap.size ∨ b = w1.heap.size) (w5.setCell ⟨w1.heap.size, 1, none⟩ (.slice (some ⟨g, 0, none⟩) (len9 + 1) c9)) WE by rw [← hWE]; exact GOff.cells (S := fun b => b < Z.heap.size ∨ b = w1.heap.size) _ (.inl (by have := HZS.out; omega)) _ _ _)
      clear hWE hWE2
      obtain ⟨PCC, hsz, hbl, hkp⟩ := PP.out
      refine bodyPost_ret (by simp [results, Tryz.results14, go_sem, PCC.at_ 0 _ rfl, PCC.at_ 1 _ rfl, PCC.at_ 2 _ rfl]; try rfl) rfl ?_
      have HFIN := (HC6.out.step GE.out).less (B' := w.heap.size) (S' := fun b => b < w.heap.size) HKZ.out.size (fun b hb => .inl (Nat.lt_of_lt_of_le hb HKZ.out.size))
      rw [show l9.take (placeN p0 l9) ++ ⟨p0, p1, p2, q1, q2, q3, q4, p3, p4, p5, p6⟩ :: l9.drop (placeN p0 l9) = insP ⟨p0, p1, p2, q1, q2, q3, q4, p3, p4, p5, p6⟩ (dropP p0 pl) by rw [← HE9.out]; exact place_ins (p := ⟨p0, p1, p2, q1, q2, q3, q4, p3, p4, p5, p6⟩) (l := l9)] at HFIN
      exact ⟨_, _, _, _, _, _, _, _, _, rfl, HFIN, hkp _ _ (by omega) K6.out⟩
    · skip
      go_simp
      refine (placeOf_any a2 len9 c2 l9 p0 _ (HPA.out.kept (Kept.drew _))).mono ?_
      rintro e2 w2 ⟨rfl, kk⟩
      have J1 := Lib.hid ((Kept.drew W1).trans kk)
      clear kk
      refine hK9.out _ _ (HS.out _ (HP2.out _ J1.out)) (fun hHeld21 => ?_)
      clear hK9 K9
      try simp only [Act.put, List.setIfInBounds_toArray, List.set_cons_zero, List.set_cons_succ]
      refine wpAnyH_ready (rs := [1, 8]) (by kernel_rfl) (by simp) (AllReadyH.cons (by rw [List.getElem?_toArray]; exact rfl) (fun K9 hK9 => ?_) (AllReadyH.cons (by rw [List.getElem?_toArray]; exact rfl) (fun K9 hK9 => ?_) AllReadyH.nil))
      · skip
        have yq : w2.cell? ⟨w1.heap.size, 1, none⟩ = some (.slice a2 len9 c2) := (HW.out.kept J1.out).at_ 1 _ rfl
        go_simp
        refine hK9.out _ _ (HS.out _ (HP2.out _ J1.out)) (fun hHeld8 => ?_)
        clear hK9 K9 yq
        try simp only [Act.put, List.setIfInBounds_toArray, List.set_cons_zero, List.set_cons_succ]
        refine wpAnyH_ready (rs := [8]) (by kernel_rfl) (by simp) (AllReadyH.cons (by rw [List.getElem?_toArray]; exact rfl) (fun K9 hK9 => ?_) AllReadyH.nil)
        go_simp
        have HOW := ownedPod_any ⟨p0, p1, p2, q1, q2, q3, q4, p3, p4, p5, p6⟩ (.slice s1 t1 u1) (.slice s2 t2 u2) (.slice s3 t3 u3) (.slice s4 t4 u4) w2 (HPP.out.kept J1.out) HLP.out
        unfold PodV at HOW
        dsimp only at HOW
        refine HOW.mono ?_
        clear HOW
        rintro e3 w3 ⟨v, rfl, hv, kk⟩
        have J2 := Lib.hid (J1.out.trans kk)
        obtain ⟨x1, y1, z1, x2, y2, z2, x3, y3, z3, x4, y4, z4, hv9, sp, g1, g2, g3, g4⟩ := hv
        have hv9 : v = .agg #[.string p0, .string p1, .int .i64 p2, .slice x1 y1 z1, .slice x2 y2 z2, .slice x3 y3 z3, .slice x4 y4 z4, .string p3, .int .i64 p4, .string p5, .bool p6] := hv9
        subst hv9
        have HG := Lib.hid (show Z.heap.size ≤ w1.heap.size ∧ w1.heap.size < w2.heap.size from ⟨HS1.out.1, Nat.lt_of_lt_of_le HS1.out.2 J1.out.size⟩)
        have HOF := Lib.hid (show Off (fun b => (b < Z.heap.size ∨ b = w1.heap.size) ∨ (Value.slice a2 len9 c2).ownBlock = some b) w3 fun u => At4 u (⟨p0, p1, p2, q1, q2, q3, q4, p3, p4, p5, p6⟩, (x1, y1, z1), (x2, y2, z2), (x3, y3, z3), (x4, y4, z4)) from PodAt.off (B := w2.heap.size) sp g1 g2 g3 g4 (fun b hb h => by
          have h1 := HG.out
          rcases h with (h | h) | h
          · omega
          · omega
          · have := ((HC.out.kept J1.out).lt b h).2; omega))
        clear kk sp g1 g2 g3 g4
        refine hK9.out _ _ (HS.out _ (HP2.out _ J2.out)) (fun hHeld21 => ?_)
        clear hK9 K9
        try simp only [Act.put, List.setIfInBounds_toArray, List.set_cons_zero, List.set_cons_succ]
        refine wpAnyH_ready (rs := [9]) (by kernel_rfl) (by simp) (AllReadyH.cons (by rw [List.getElem?_toArray]; exact rfl) (fun K9 hK9 => ?_) AllReadyH.nil)
        go_simp
        have J3 := Lib.hid (J2.out.trans (kept_alloc w3 (.cells #[.string p0, .string p1, .int .i64 p2, .slice x1 y1 z1, .slice x2 y2 z2, .slice x3 y3 z3, .slice x4 y4 z4, .string p3, .int .i64 p4, .string p5, .bool p6] 49)))
        have HV := Lib.hid (show (w3.alloc (.cells #[.string p0, .string p1, .int .i64 p2, .slice x1 y1 z1, .slice x2 y2 z2, .slice x3 y3 z3, .slice x4 y4 z4, .string p3, .int .i64 p4, .string p5, .bool p6] 49)).heap[w3.heap.size]? = some (.cells #[.string p0, .string p1, .int .i64 p2, .slice x1 y1 z1, .slice x2 y2 z2, .slice x3 y3 z3, .slice x4 y4 z4, .string p3, .int .i64 p4, .string p5, .bool p6] 49) from World.alloc_heap_new w3 _)
        have HOF := Lib.hid (HOF.out.step (GOff.of (kept_alloc w3 (.cells #[.string p0, .string p1, .int .i64 p2, .slice x1 y1 z1, .slice x2 y2 z2, .slice x3 y3 z3, .slice x4 y4 z4, .string p3, .int .i64 p4, .string p5, .bool p6] 49))))
        refine hK9.out _ _ (HS.out _ (HP2.out _ J3.out)) (fun hHeld7 => ?_)
        clear hK9 K9
        try simp only [Act.put, List.setIfInBounds_toArray, List.set_cons_zero, List.set_cons_succ]
        obtain ⟨w4, hw4⟩ : ∃ W, w3.alloc (.cells #[.string p0, .string p1, .int .i64 p2, .slice x1 y1 z1, .slice x2 y2 z2, .slice x3 y3 z3, .slice x4 y4 z4, .string p3, .int .i64 p4, .string p5, .bool p6] 49) = W := ⟨_, rfl⟩
        rw [hw4] at J3 HV HOF ⊢
        clear hw4
        refine wpAnyH_ready (rs := [10]) (by kernel_rfl) (by simp) (AllReadyH.cons (by rw [List.getElem?_toArray]; exact rfl) (fun K9 hK9 => ?_) AllReadyH.nil)
        go_simp
        refine (insClu_any (HC.out.kept J3.out) (⟨p0, p1, p2, q1, q2, q3, q4, p3, p4, p5, p6⟩, (x1, y1, z1), (x2, y2, z2), (x3, y3, z3), (x4, y4, z4)) (i := placeN p0 l9) (by have := place_le p0 l9; rw [HL9.out] at this; exact this) HDL.out (by have := J3.out.size; have := HS1.out; omega) (fun b hb => by have := J3.out.size; have := HS1.out; rcases hb with hb | hb <;> omega) HV.out (fun e => by have h1 := ((HC.out.kept J2.out).lt _ e).2; omega) HOF.out).mono ?_
        rintro e5 w5 ⟨g, c9, rfl, hc5, hg5⟩
        have HC5 := Lib.hid hc5
        have HWX := Lib.hid (((HW.out.kept J3.out)).block (hg5.block _ (by have := J3.out.size; have := HS1.out; omega) (fun e => HC.out.sep _ e (.inr rfl))))
        have HQX := Lib.hid ((HQ.out.kept J3.out).block (hg5.block _ (by have := J3.out.size; have := HS1.out; have := HZS.out; omega) (fun e => HC.out.sep _ e (.inl (by have := HZS.out; omega)))))
        have HPX := Lib.hid ((HP2.out _ J3.out).block (hg5.block _ (by have := J3.out.size; have := HS1.out; have := HZS.out; omega) (fun e => HC.out.sep _ e (.inl (by have := HZS.out; omega)))))
        have K5 := Lib.hid (show Kept w w5 from Below.trans (HKZ.out.trans (K.out.trans J3.out)) (hg5.at_below (B := w.heap.size) (fun q e => by have := (HC.out.lt q e).1; have := HZS.out; omega) (HKZ.out.trans (K.out.trans J3.out)).size))
        clear hc5 hg5
        refine hK9.out _ _ (HS.out _ HPX.out) (fun hHeld21 => ?_)
        clear hK9 K9
        try simp only [Act.put, List.setIfInBounds_toArray, List.set_cons_zero, List.set_cons_succ]
        refine wpAnyH_take (i := 11) (v := ?_) (by rw [List.getElem?_toArray]; exact rfl) (by kernel_rfl) (by kernel_rfl) (by kernel_rfl) (by exact fun _ _ _ h => h) (Or.inl ⟨by rfl, (by intro W hSw; obtain ⟨o0, o1, o2, o3, o4, o5, o6, o7, o8, o9, o10⟩ := hSw; go_simp <;> with_reducible rfl)⟩) (by assumption) ?_
        try simp only [Act.put, List.setIfInBounds_toArray, List.set_cons_zero, List.set_cons_succ]
        have q1 := HWX.out.at_ 1 _ rfl
        have f1 := HWX.out.free 1
        refine wpAnyH_ready (rs := [12]) (by kernel_rfl) (by simp) (AllReadyH.cons (by rw [List.getElem?_toArray]; exact rfl) (fun K9 hK9 => ?_) AllReadyH.nil)
        go_simp
        have HPY := Lib.hid (HPX.out.other (p := w1.heap.size) (j := 1) (u := .slice (some ⟨g, 0, none⟩) (len9 + 1) c9) (by have := HS1.out; have := HZS.out; omega))
        have HQY := Lib.hid (HQX.out.other (p := w1.heap.size) (j := 1) (u := .slice (some ⟨g, 0, none⟩) (len9 + 1) c9) (by have := HS1.out; have := HZS.out; omega))
        have HWY := Lib.hid (show CellsN w1.heap.size [.slice a1 n1 c1, .slice (some ⟨g, 0, none⟩) (len9 + 1) c9, .slice a3 n3 c3] (w5.setCell ⟨w1.heap.size, 1, none⟩ (.slice (some ⟨g, 0, none⟩) (len9 + 1) c9)) from HWX.out.set (j := 1) (by simp))
        have HC6 := Lib.hid (HC5.out.step (GOff.cell (S := fun b => b < Z.heap.size ∨ b = w1.heap.size) w1.heap.size 1 (.slice (some ⟨g, 0, none⟩) (len9 + 1) c9) (.inr rfl)))
        have K6 := Lib.hid (show Kept w (w5.setCell ⟨w1.heap.size, 1, none⟩ (.slice (some ⟨g, 0, none⟩) (len9 + 1) c9)) from K5.out.setCell (p := ⟨w1.heap.size, 1, none⟩) (by have := HS1.out; have := HZS.out; show w.heap.size ≤ w1.heap.size; omega) _)
        refine hK9.out _ _ (HS.out _ HPY.out) (fun hHeld6 => ?_)
        clear hK9 K9 q1 f1
        try simp only [Act.put, List.setIfInBounds_toArray, List.set_cons_zero, List.set_cons_succ]
        refine wpAnyH_done (by kernel_rfl) ?_ _
        have y0 := HWY.out.at_ 0 _ rfl
        have y1 := HWY.out.at_ 1 _ rfl
        have y2 := HWY.out.at_ 2 _ rfl
        have z0 := HQY.out.at_ 0 _ rfl
        have z1 := HQY.out.at_ 1 _ rfl
        have z2 := HQY.out.at_ 2 _ rfl
        have f0 := HQY.out.free 0
        have f1 := HQY.out.free 1
        have f2 := HQY.out.free 2
        have PP := Lib.hid (putN (vs := [.slice a1 n1 c1, .slice (some ⟨g, 0, none⟩) (len9 + 1) c9, .slice a3 n3 c3]) HQY.out rfl)
        go_wp2
        obtain ⟨WE, hWE⟩ : ∃ W, (w5.setCell ⟨w1.heap.size, 1, none⟩ (.slice (some ⟨g, 0, none⟩) (len9 + 1) c9)).setCells (w.heap.size + 2) 0 [.slice a1 n1 c1, .slice (some ⟨g, 0, none⟩) (len9 + 1) c9, .slice a3 n3 c3] = W := ⟨_, rfl⟩
        have hWE2 : ((((w5.setCell ⟨w1.heap.size, 1, none⟩ (.slice (some ⟨g, 0, none⟩) (len9 + 1) c9)).setCell ⟨(w.heap.size + 2), 0, none⟩ (.slice a1 n1 c1)).setCell ⟨(w.heap.size + 2), 1, none⟩ (.slice (some ⟨g, 0, none⟩) (len9 + 1) c9)).setCell ⟨(w.heap.size + 2), 2, none⟩ (.slice a3 n3 c3)) = WE := hWE
        rw [hWE] at PP
        try rw [hWE2]
        have GE := Lib.hid (show GOff (fun b => b < Z.heap.size ∨ b = w1.heap.size) (w5.setCell ⟨w1.heap.size, 1, none⟩ (.slice (some ⟨g, 0, none⟩) (len9 + 1) c9)) WE by rw [← hWE]; exact GOff.cells (S := fun b => b < Z.heap.size ∨ b = w1.heap.size) _ (.inl (by have := HZS.out; omega)) _ _ _)
        clear hWE hWE2
        obtain ⟨PCC, hsz, hbl, hkp⟩ := PP.out
        refine bodyPost_ret (by simp [results, Tryz.results14, go_sem, PCC.at_ 0 _ rfl, PCC.at_ 1 _ rfl, PCC.at_ 2 _ rfl]; try rfl) rfl ?_
        have HFIN := (HC6.out.step GE.out).less (B' := w.heap.size) (S' := fun b => b < w.heap.size) HKZ.out.size (fun b hb => .inl (Nat.lt_of_lt_of_le hb HKZ.out.size))
        rw [show l9.take (placeN p0 l9) ++ ⟨p0, p1, p2, q1, q2, q3, q4, p3, p4, p5, p6⟩ :: l9.drop (placeN p0 l9) = insP ⟨p0, p1, p2, q1, q2, q3, q4, p3, p4, p5, p6⟩ (dropP p0 pl) by rw [← HE9.out]; exact place_ins (p := ⟨p0, p1, p2, q1, q2, q3, q4, p3, p4, p5, p6⟩) (l := l9)] at HFIN
        exact ⟨_, _, _, _, _, _, _, _, _, rfl, HFIN, hkp _ _ (by omega) K6.out⟩
      · skip
        go_simp
        have HOW := ownedPod_any ⟨p0, p1, p2, q1, q2, q3, q4, p3, p4, p5, p6⟩ (.slice s1 t1 u1) (.slice s2 t2 u2) (.slice s3 t3 u3) (.slice s4 t4 u4) w2 (HPP.out.kept J1.out) HLP.out
        unfold PodV at HOW
        dsimp only at HOW
        refine HOW.mono ?_
        clear HOW
        rintro e3 w3 ⟨v, rfl, hv, kk⟩
        have J2 := Lib.hid (J1.out.trans kk)
        obtain ⟨x1, y1, z1, x2, y2, z2, x3, y3, z3, x4, y4, z4, hv9, sp, g1, g2, g3, g4⟩ := hv
        have hv9 : v = .agg #[.string p0, .string p1, .int .i64 p2, .slice x1 y1 z1, .slice x2 y2 z2, .slice x3 y3 z3, .slice x4 y4 z4, .string p3, .int .i64 p4, .string p5, .bool p6] := hv9
        subst hv9
        have HG := Lib.hid (show Z.heap.size ≤ w1.heap.size ∧ w1.heap.size < w2.heap.size from ⟨HS1.out.1, Nat.lt_of_lt_of_le HS1.out.2 J1.out.size⟩)
        have HOF := Lib.hid (show Off (fun b => (b < Z.heap.size ∨ b = w1.heap.size) ∨ (Value.slice a2 len9 c2).ownBlock = some b) w3 fun u => At4 u (⟨p0, p1, p2, q1, q2, q3, q4, p3, p4, p5, p6⟩, (x1, y1, z1), (x2, y2, z2), (x3, y3, z3), (x4, y4, z4)) from PodAt.off (B := w2.heap.size) sp g1 g2 g3 g4 (fun b hb h => by
          have h1 := HG.out
          rcases h with (h | h) | h
          · omega
          · omega
          · have := ((HC.out.kept J1.out).lt b h).2; omega))
        clear kk sp g1 g2 g3 g4
        refine hK9.out _ _ (HS.out _ (HP2.out _ J2.out)) (fun hHeld21 => ?_)
        clear hK9 K9
        try simp only [Act.put, List.setIfInBounds_toArray, List.set_cons_zero, List.set_cons_succ]
        refine wpAnyH_ready (rs := [1, 9]) (by kernel_rfl) (by simp) (AllReadyH.cons (by rw [List.getElem?_toArray]; exact rfl) (fun K9 hK9 => ?_) (AllReadyH.cons (by rw [List.getElem?_toArray]; exact rfl) (fun K9 hK9 => ?_) AllReadyH.nil))
        · skip
          have yq : w3.cell? ⟨w1.heap.size, 1, none⟩ = some (.slice a2 len9 c2) := (HW.out.kept J2.out).at_ 1 _ rfl
          go_simp
          refine hK9.out _ _ (HS.out _ (HP2.out _ J2.out)) (fun hHeld8 => ?_)
          clear hK9 K9 yq
          try simp only [Act.put, List.setIfInBounds_toArray, List.set_cons_zero, List.set_cons_succ]
          refine wpAnyH_ready (rs := [9]) (by kernel_rfl) (by simp) (AllReadyH.cons (by rw [List.getElem?_toArray]; exact rfl) (fun K9 hK9 => ?_) AllReadyH.nil)
          go_simp
          have J3 := Lib.hid (J2.out.trans (kept_alloc w3 (.cells #[.string p0, .string p1, .int .i64 p2, .slice x1 y1 z1, .slice x2 y2 z2, .slice x3 y3 z3, .slice x4 y4 z4, .string p3, .int .i64 p4, .string p5, .bool p6] 49)))
          have HV := Lib.hid (show (w3.alloc (.cells #[.string p0, .string p1, .int .i64 p2, .slice x1 y1 z1, .slice x2 y2 z2, .slice x3 y3 z3, .slice x4 y4 z4, .string p3, .int .i64 p4, .string p5, .bool p6] 49)).heap[w3.heap.size]? = some (.cells #[.string p0, .string p1, .int .i64 p2, .slice x1 y1 z1, .slice x2 y2 z2, .slice x3 y3 z3, .slice x4 y4 z4, .string p3, .int .i64 p4, .string p5, .bool p6] 49) from World.alloc_heap_new w3 _)
          have HOF := Lib.hid (HOF.out.step (GOff.of (kept_alloc w3 (.cells #[.string p0, .string p1, .int .i64 p2, .slice x1 y1 z1, .slice x2 y2 z2, .slice x3 y3 z3, .slice x4 y4 z4, .string p3, .int .i64 p4, .string p5, .bool p6] 49))))
          refine hK9.out _ _ (HS.out _ (HP2.out _ J3.out)) (fun hHeld7 => ?_)
          clear hK9 K9
          try simp only [Act.put, List.setIfInBounds_toArray, List.set_cons_zero, List.set_cons_succ]
          obtain ⟨w4, hw4⟩ : ∃ W, w3.alloc (.cells #[.string p0, .string p1, .int .i64 p2, .slice x1 y1 z1, .slice x2 y2 z2, .slice x3 y3 z3, .slice x4 y4 z4, .string p3, .int .i64 p4, .string p5, .bool p6] 49) = W := ⟨_, rfl⟩
          rw [hw4] at J3 HV HOF ⊢
          clear hw4
          refine wpAnyH_ready (rs := [10]) (by kernel_rfl) (by simp) (AllReadyH.cons (by rw [List.getElem?_toArray]; exact rfl) (fun K9 hK9 => ?_) AllReadyH.nil)
          go_simp
          refine (insClu_any (HC.out.kept J3.out) (⟨p0, p1, p2, q1, q2, q3, q4, p3, p4, p5, p6⟩, (x1, y1, z1), (x2, y2, z2), (x3, y3, z3), (x4, y4, z4)) (i := placeN p0 l9) (by have := place_le p0 l9; rw [HL9.out] at this; exact this) HDL.out (by have := J3.out.size; have := HS1.out; omega) (fun b hb => by have := J3.out.size; have := HS1.out; rcases hb with hb | hb <;> omega) HV.out (fun e => by have h1 := ((HC.out.kept J2.out).lt _ e).2; omega) HOF.out).mono ?_
          rintro e5 w5 ⟨g, c9, rfl, hc5, hg5⟩
          have HC5 := Lib.hid hc5
          have HWX := Lib.hid (((HW.out.kept J3.out)).block (hg5.block _ (by have := J3.out.size; have := HS1.out; omega) (fun e => HC.out.sep _ e (.inr rfl))))
          have HQX := Lib.hid ((HQ.out.kept J3.out).block (hg5.block _ (by have := J3.out.size; have := HS1.out; have := HZS.out; omega) (fun e => HC.out.sep _ e (.inl (by have := HZS.out; omega)))))
          have HPX := Lib.hid ((HP2.out _ J3.out).block (hg5.block _ (by have := J3.out.size; have := HS1.out; have := HZS.out; omega) (fun e => HC.out.sep _ e (.inl (by have := HZS.out; omega)))))
          have K5 := Lib.hid (show Kept w w5 from Below.trans (HKZ.out.trans (K.out.trans J3.out)) (hg5.at_below (B := w.heap.size) (fun q e => by have := (HC.out.lt q e).1; have := HZS.out; omega) (HKZ.out.trans (K.out.trans J3.out)).size))
          clear hc5 hg5
          refine hK9.out _ _ (HS.out _ HPX.out) (fun hHeld21 => ?_)
          clear hK9 K9
          try simp only [Act.put, List.setIfInBounds_toArray, List.set_cons_zero, List.set_cons_succ]
          refine wpAnyH_take (i := 11) (v := ?_) (by rw [List.getElem?_toArray]; exact rfl) (by kernel_rfl) (by kernel_rfl) (by kernel_rfl) (by exact fun _ _ _ h => h) (Or.inl ⟨by rfl, (by intro W hSw; obtain ⟨o0, o1, o2, o3, o4, o5, o6, o7, o8, o9, o10⟩ := hSw; go_simp <;> with_reducible rfl)⟩) (by assumption) ?_
          try simp only [Act.put, List.setIfInBounds_toArray, List.set_cons_zero, List.set_cons_succ]
          have q1 := HWX.out.at_ 1 _ rfl
          have f1 := HWX.out.free 1
          refine wpAnyH_ready (rs := [12]) (by kernel_rfl) (by simp) (AllReadyH.cons (by rw [List.getElem?_toArray]; exact rfl) (fun K9 hK9 => ?_) AllReadyH.nil)
          go_simp
          have HPY := Lib.hid (HPX.out.other (p := w1.heap.size) (j := 1) (u := .slice (some ⟨g, 0, none⟩) (len9 + 1) c9) (by have := HS1.out; have := HZS.out; omega))
          have HQY := Lib.hid (HQX.out.other (p := w1.heap.size) (j := 1) (u := .slice (some ⟨g, 0, none⟩) (len9 + 1) c9) (by have := HS1.out; have := HZS.out; omega))
          have HWY := Lib.hid (show CellsN w1.heap.size [.slice a1 n1 c1, .slice (some ⟨g, 0, none⟩) (len9 + 1) c9, .slice a3 n3 c3] (w5.setCell ⟨w1.heap.size, 1, none⟩ (.slice (some ⟨g, 0, none⟩) (len9 + 1) c9)) from HWX.out.set (j := 1) (by simp))
          have HC6 := Lib.hid (HC5.out.step (GOff.cell (S := fun b => b < Z.heap.size ∨ b = w1.heap.size) w1.heap.size 1 (.slice (some ⟨g, 0, none⟩) (len9 + 1) c9) (.inr rfl)))
          have K6 := Lib.hid (show Kept w (w5.setCell ⟨w1.heap.size, 1, none⟩ (.slice (some ⟨g, 0, none⟩) (len9 + 1) c9)) from K5.out.setCell (p := ⟨w1.heap.size, 1, none⟩) (by have := HS1.out; have := HZS.out; show w.heap.size ≤ w1.heap.size; omega) _)
          refine hK9.out _ _ (HS.out _ HPY.out) (fun hHeld6 => ?_)
          clear hK9 K9 q1 f1
          try simp only [Act.put, List.setIfInBounds_toArray, List.set_cons_zero, List.set_cons_succ]
          refine wpAnyH_done (by kernel_rfl) ?_ _
          have y0 := HWY.out.at_ 0 _ rfl
          have y1 := HWY.out.at_ 1 _ rfl
          have y2 := HWY.out.at_ 2 _ rfl
          have z0 := HQY.out.at_ 0 _ rfl
          have z1 := HQY.out.at_ 1 _ rfl
          have z2 := HQY.out.at_ 2 _ rfl
          have f0 := HQY.out.free 0
          have f1 := HQY.out.free 1
          have f2 := HQY.out.free 2
          have PP := Lib.hid (putN (vs := [.slice a1 n1 c1, .slice (some ⟨g, 0, none⟩) (len9 + 1) c9, .slice a3 n3 c3]) HQY.out rfl)
          go_wp2
          obtain ⟨WE, hWE⟩ : ∃ W, (w5.setCell ⟨w1.heap.size, 1, none⟩ (.slice (some ⟨g, 0, none⟩) (len9 + 1) c9)).setCells (w.heap.size + 2) 0 [.slice a1 n1 c1, .slice (some ⟨g, 0, none⟩) (len9 + 1) c9, .slice a3 n3 c3] = W := ⟨_, rfl⟩
          have hWE2 : ((((w5.setCell ⟨w1.heap.size, 1, none⟩ (.slice (some ⟨g, 0, none⟩) (len9 + 1) c9)).setCell ⟨(w.heap.size + 2), 0, none⟩ (.slice a1 n1 c1)).setCell ⟨(w.heap.size + 2), 1, none⟩ (.slice (some ⟨g, 0, none⟩) (len9 + 1) c9)).setCell ⟨(w.heap.size + 2), 2, none⟩ (.slice a3 n3 c3)) = WE := hWE
          rw [hWE] at PP
          try rw [hWE2]
          have GE := Lib.hid (show GOff (fun b => b < Z.heap.size ∨ b = w1.heap.size) (w5.setCell ⟨w1.heap.size, 1, none⟩ (.slice (some ⟨g, 0, none⟩) (len9 + 1) c9)) WE by rw [← hWE]; exact GOff.cells (S := fun b => b < Z.heap.size ∨ b = w1.heap.size) _ (.inl (by have := HZS.out; omega)) _ _ _)
          clear hWE hWE2
          obtain ⟨PCC, hsz, hbl, hkp⟩ := PP.out
          refine bodyPost_ret (by simp [results, Tryz.results14, go_sem, PCC.at_ 0 _ rfl, PCC.at_ 1 _ rfl, PCC.at_ 2 _ rfl]; try rfl) rfl ?_
          have HFIN := (HC6.out.step GE.out).less (B' := w.heap.size) (S' := fun b => b < w.heap.size) HKZ.out.size (fun b hb => .inl (Nat.lt_of_lt_of_le hb HKZ.out.size))
          rw [show l9.take (placeN p0 l9) ++ ⟨p0, p1, p2, q1, q2, q3, q4, p3, p4, p5, p6⟩ :: l9.drop (placeN p0 l9) = insP ⟨p0, p1, p2, q1, q2, q3, q4, p3, p4, p5, p6⟩ (dropP p0 pl) by rw [← HE9.out]; exact place_ins (p := ⟨p0, p1, p2, q1, q2, q3, q4, p3, p4, p5, p6⟩) (l := l9)] at HFIN
          exact ⟨_, _, _, _, _, _, _, _, _, rfl, HFIN, hkp _ _ (by omega) K6.out⟩
        · skip
          go_simp
          have J3 := Lib.hid (J2.out.trans (kept_alloc w3 (.cells #[.string p0, .string p1, .int .i64 p2, .slice x1 y1 z1, .slice x2 y2 z2, .slice x3 y3 z3, .slice x4 y4 z4, .string p3, .int .i64 p4, .string p5, .bool p6] 49)))
          have HV := Lib.hid (show (w3.alloc (.cells #[.string p0, .string p1, .int .i64 p2, .slice x1 y1 z1, .slice x2 y2 z2, .slice x3 y3 z3, .slice x4 y4 z4, .string p3, .int .i64 p4, .string p5, .bool p6] 49)).heap[w3.heap.size]? = some (.cells #[.string p0, .string p1, .int .i64 p2, .slice x1 y1 z1, .slice x2 y2 z2, .slice x3 y3 z3, .slice x4 y4 z4, .string p3, .int .i64 p4, .string p5, .bool p6] 49) from World.alloc_heap_new w3 _)
          have HOF := Lib.hid (HOF.out.step (GOff.of (kept_alloc w3 (.cells #[.string p0, .string p1, .int .i64 p2, .slice x1 y1 z1, .slice x2 y2 z2, .slice x3 y3 z3, .slice x4 y4 z4, .string p3, .int .i64 p4, .string p5, .bool p6] 49))))
          refine hK9.out _ _ (HS.out _ (HP2.out _ J3.out)) (fun hHeld7 => ?_)
          clear hK9 K9
          try simp only [Act.put, List.setIfInBounds_toArray, List.set_cons_zero, List.set_cons_succ]
          obtain ⟨w4, hw4⟩ : ∃ W, w3.alloc (.cells #[.string p0, .string p1, .int .i64 p2, .slice x1 y1 z1, .slice x2 y2 z2, .slice x3 y3 z3, .slice x4 y4 z4, .string p3, .int .i64 p4, .string p5, .bool p6] 49) = W := ⟨_, rfl⟩
          rw [hw4] at J3 HV HOF ⊢
          clear hw4
          refine wpAnyH_ready (rs := [1]) (by kernel_rfl) (by simp) (AllReadyH.cons (by rw [List.getElem?_toArray]; exact rfl) (fun K9 hK9 => ?_) AllReadyH.nil)
          have yq : w4.cell? ⟨w1.heap.size, 1, none⟩ = some (.slice a2 len9 c2) := (HW.out.kept J3.out).at_ 1 _ rfl
          go_simp
          refine hK9.out _ _ (HS.out _ (HP2.out _ J3.out)) (fun hHeld8 => ?_)
          clear hK9 K9 yq
          try simp only [Act.put, List.setIfInBounds_toArray, List.set_cons_zero, List.set_cons_succ]
          refine wpAnyH_ready (rs := [10]) (by kernel_rfl) (by simp) (AllReadyH.cons (by rw [List.getElem?_toArray]; exact rfl) (fun K9 hK9 => ?_) AllReadyH.nil)
          go_simp
          refine (insClu_any (HC.out.kept J3.out) (⟨p0, p1, p2, q1, q2, q3, q4, p3, p4, p5, p6⟩, (x1, y1, z1), (x2, y2, z2), (x3, y3, z3), (x4, y4, z4)) (i := placeN p0 l9) (by have := place_le p0 l9; rw [HL9.out] at this; exact this) HDL.out (by have := J3.out.size; have := HS1.out; omega) (fun b hb => by have := J3.out.size; have := HS1.out; rcases hb with hb | hb <;> omega) HV.out (fun e => by have h1 := ((HC.out.kept J2.out).lt _ e).2; omega) HOF.out).mono ?_
          rintro e5 w5 ⟨g, c9, rfl, hc5, hg5⟩
          have HC5 := Lib.hid hc5
          have HWX := Lib.hid (((HW.out.kept J3.out)).block (hg5.block _ (by have := J3.out.size; have := HS1.out; omega) (fun e => HC.out.sep _ e (.inr rfl))))
          have HQX := Lib.hid ((HQ.out.kept J3.out).block (hg5.block _ (by have := J3.out.size; have := HS1.out; have := HZS.out; omega) (fun e => HC.out.sep _ e (.inl (by have := HZS.out; omega)))))
          have HPX := Lib.hid ((HP2.out _ J3.out).block (hg5.block _ (by have := J3.out.size; have := HS1.out; have := HZS.out; omega) (fun e => HC.out.sep _ e (.inl (by have := HZS.out; omega)))))
          have K5 := Lib.hid (show Kept w w5 from Below.trans (HKZ.out.trans (K.out.trans J3.out)) (hg5.at_below (B := w.heap.size) (fun q e => by have := (HC.out.lt q e).1; have := HZS.out; omega) (HKZ.out.trans (K.out.trans J3.out)).size))
          clear hc5 hg5
          refine hK9.out _ _ (HS.out _ HPX.out) (fun hHeld21 => ?_)
          clear hK9 K9
          try simp only [Act.put, List.setIfInBounds_toArray, List.set_cons_zero, List.set_cons_succ]
          refine wpAnyH_take (i := 11) (v := ?_) (by rw [List.getElem?_toArray]; exact rfl) (by kernel_rfl) (by kernel_rfl) (by kernel_rfl) (by exact fun _ _ _ h => h) (Or.inl ⟨by rfl, (by intro W hSw; obtain ⟨o0, o1, o2, o3, o4, o5, o6, o7, o8, o9, o10⟩ := hSw; go_simp <;> with_reducible rfl)⟩) (by assumption) ?_
          try simp only [Act.put, List.setIfInBounds_toArray, List.set_cons_zero, List.set_cons_succ]
          have q1 := HWX.out.at_ 1 _ rfl
          have f1 := HWX.out.free 1
          refine wpAnyH_ready (rs := [12]) (by kernel_rfl) (by simp) (AllReadyH.cons (by rw [List.getElem?_toArray]; exact rfl) (fun K9 hK9 => ?_) AllReadyH.nil)
          go_simp
          have HPY := Lib.hid (HPX.out.other (p := w1.heap.size) (j := 1) (u := .slice (some ⟨g, 0, none⟩) (len9 + 1) c9) (by have := HS1.out; have := HZS.out; omega))
          have HQY := Lib.hid (HQX.out.other (p := w1.heap.size) (j := 1) (u := .slice (some ⟨g, 0, none⟩) (len9 + 1) c9) (by have := HS1.out; have := HZS.out; omega))
          have HWY := Lib.hid (show CellsN w1.heap.size [.slice a1 n1 c1, .slice (some ⟨g, 0, none⟩) (len9 + 1) c9, .slice a3 n3 c3] (w5.setCell ⟨w1.heap.size, 1, none⟩ (.slice (some ⟨g, 0, none⟩) (len9 + 1) c9)) from HWX.out.set (j := 1) (by simp))
          have HC6 := Lib.hid (HC5.out.step (GOff.cell (S := fun b => b < Z.heap.size ∨ b = w1.heap.size) w1.heap.size 1 (.slice (some ⟨g, 0, none⟩) (len9 + 1) c9) (.inr rfl)))
          have K6 := Lib.hid (show Kept w (w5.setCell ⟨w1.heap.size, 1, none⟩ (.slice (some ⟨g, 0, none⟩) (len9 + 1) c9)) from K5.out.setCell (p := ⟨w1.heap.size, 1, none⟩) (by have := HS1.out; have := HZS.out; show w.heap.size ≤ w1.heap.size; omega) _)
          refine hK9.out _ _ (HS.out _ HPY.out) (fun hHeld6 => ?_)
          clear hK9 K9 q1 f1
          try simp only [Act.put, List.setIfInBounds_toArray, List.set_cons_zero, List.set_cons_succ]
          refine wpAnyH_done (by kernel_rfl) ?_ _
          have y0 := HWY.out.at_ 0 _ rfl
          have y1 := HWY.out.at_ 1 _ rfl
          have y2 := HWY.out.at_ 2 _ rfl
          have z0 := HQY.out.at_ 0 _ rfl
          have z1 := HQY.out.at_ 1 _ rfl
          have z2 := HQY.out.at_ 2 _ rfl
          have f0 := HQY.out.free 0
          have f1 := HQY.out.free 1
          have f2 := HQY.out.free 2
          have PP := Lib.hid (putN (vs := [.slice a1 n1 c1, .slice (some ⟨g, 0, none⟩) (len9 + 1) c9, .slice a3 n3 c3]) HQY.out rfl)
          go_wp2
          obtain ⟨WE, hWE⟩ : ∃ W, (w5.setCell ⟨w1.heap.size, 1, none⟩ (.slice (some ⟨g, 0, none⟩) (len9 + 1) c9)).setCells (w.heap.size + 2) 0 [.slice a1 n1 c1, .slice (some ⟨g, 0, none⟩) (len9 + 1) c9, .slice a3 n3 c3] = W := ⟨_, rfl⟩
          have hWE2 : ((((w5.setCell ⟨w1.heap.size, 1, none⟩ (.slice (some ⟨g, 0, none⟩) (len9 + 1) c9)).setCell ⟨(w.heap.size + 2), 0, none⟩ (.slice a1 n1 c1)).setCell ⟨(w.heap.size + 2), 1, none⟩ (.slice (some ⟨g, 0, none⟩) (len9 + 1) c9)).setCell ⟨(w.heap.size + 2), 2, none⟩ (.slice a3 n3 c3)) = WE := hWE
          rw [hWE] at PP
          try rw [hWE2]
          have GE := Lib.hid (show GOff (fun b => b < Z.heap.size ∨ b = w1.heap.size) (w5.setCell ⟨w1.heap.size, 1, none⟩ (.slice (some ⟨g, 0, none⟩) (len9 + 1) c9)) WE by rw [← hWE]; exact GOff.cells (S := fun b => b < Z.heap.size ∨ b = w1.heap.size) _ (.inl (by have := HZS.out; omega)) _ _ _)
          clear hWE hWE2
          obtain ⟨PCC, hsz, hbl, hkp⟩ := PP.out
          refine bodyPost_ret (by simp [results, Tryz.results14, go_sem, PCC.at_ 0 _ rfl, PCC.at_ 1 _ rfl, PCC.at_ 2 _ rfl]; try rfl) rfl ?_
          have HFIN := (HC6.out.step GE.out).less (B' := w.heap.size) (S' := fun b => b < w.heap.size) HKZ.out.size (fun b hb => .inl (Nat.lt_of_lt_of_le hb HKZ.out.size))
          rw [show l9.take (placeN p0 l9) ++ ⟨p0, p1, p2, q1, q2, q3, q4, p3, p4, p5, p6⟩ :: l9.drop (placeN p0 l9) = insP ⟨p0, p1, p2, q1, q2, q3, q4, p3, p4, p5, p6⟩ (dropP p0 pl) by rw [← HE9.out]; exact place_ins (p := ⟨p0, p1, p2, q1, q2, q3, q4, p3, p4, p5, p6⟩) (l := l9)] at HFIN
          exact ⟨_, _, _, _, _, _, _, _, _, rfl, HFIN, hkp _ _ (by omega) K6.out⟩

end Go.Proofs.YtjihpbbeoiddkaaGreat
