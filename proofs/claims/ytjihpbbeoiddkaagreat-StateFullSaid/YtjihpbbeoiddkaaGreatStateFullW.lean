/- A node has room for just as many pods as it has: the law, walked. -/
import Derived.Test.YtjihpbbeoiddkaaGreatStKnown
import Derived.Test.YtjihpbbeoiddkaaGreatStFullM
import Derived.Deep.AppendLies
import Derived.Deep.CutRange
import Derived.Deep.RegionHeld3
namespace Go.Proofs.YtjihpbbeoiddkaaGreat
open Go.RowKit
set_option linter.unusedVariables false

theorem infoNF : (Tryz.prog.info? 43).map (fun i => (i.zero, i.size, i.bytes)) = some (some (.agg #[.string ByteArray.empty, .slice none 0 0, .slice none 0 0, .slice none 0 0, .bool false]), 5, 96) := by kernel_rfl
/-- Two bytes as a text. -/
theorem convF (W : World) (c d : Nat) : Sem.run Tryz.prog (convert 51 9 (.slice (some ⟨W.heap.size, 0, none⟩) 2 2)) (W.alloc (.cells #[.int .u8 c, .int .u8 d] 5)) = .ok (.string (bytes [UInt8.ofNat c, UInt8.ofNat d])) (W.alloc (.cells #[.int .u8 c, .int .u8 d] 5)) := by
  have h := run_convert_bytes_arg (P := Tryz.prog) (W.alloc (.cells #[.int .u8 c, .int .u8 d] 5)) 51 5 Tryz.underlying51 Tryz.underlying5 W.heap.size 0 2 2 [(c : Int), (d : Int)] rfl (fun i hi => by
    have hh := W.alloc_heap_new (.cells #[.int .u8 c, .int .u8 d] 5)
    match i, hi with
    | 0, _ => rw [Lib.cell_of_heap hh]; rfl
    | 1, _ => rw [Lib.cell_of_heap hh]; rfl) 9 Tryz.underlying9
  rw [h]
  rfl
/-- What holds ahead of each round. -/
def FInv (c k q j : Nat) (w wr : World) : Prop := ∃ v1 v2 v3, CellsN q [v1, v2, v3] wr ∧ CluR wr (.agg #[v1, v2, v3]) ⟨[nodK bA c], podsF k j, []⟩ ∧ Kept w wr
def NX1 (c : Nat) (b : Option Addr) (n d : Nat) : NX := (nodK bA c, (b, n, d), (none, 0, 0), (none, 0, 0))
theorem full_first {c k q g cap : Nat} {W W2 : World} {b : Option Addr} {m d : Nat} (ha : NodAt W (.slice b m d) (.slice none 0 0) (.slice none 0 0) (nodK bA c)) (hb : Behind (q + 1) b) (hg : W.grownBy W2 none)
    (ho : W2.ownsRow (q + 1) 43 5 (.slice (some ⟨g, 0, none⟩) 1 cap) 1 (NodLay0.cs (NX1 c b m d))) : (Off (fun x => x = q) W2 fun u => CluR u (.agg #[.slice (some ⟨g, 0, none⟩) 1 cap, .slice none 0 0, .slice none 0 0]) ⟨[nodK bA c], podsF k 0, []⟩) ∧ Kept W W2 := by
  have hk : Kept W W2 := GOff.below (Kept.refl W) (GOff.grown (S := fun _ => False) hg (fun k h => by cases h)) (fun i h => h.elim)
  have hown : Own NodLay0 43 W2 (q + 1) (.slice (some ⟨g, 0, none⟩) 1 cap) [NX1 c b m d] := ⟨by
    have e : rowCells NodLay0 [NX1 c b m d] = NodLay0.cs (NX1 c b m d) := by unfold rowCells; simp
    rw [e]; exact ho, fun x hx => trivial⟩
  have ha2 : Off (fun x => x = q) W2 fun u => NodAt u (.slice b m d) (.slice none 0 0) (.slice none 0 0) (nodK bA c) := (ha.kept hk).off hb (Behind.none _) (Behind.none _) (fun k h e => by omega)
  refine ⟨fun u gg => ⟨_, _, _, rfl, ?_, ?_, ?_⟩, hk⟩
  · exact nodes_own (hown.goff gg fun k hk e => by have := (own_lt hown k hk).1; omega) fun z hz => by
      obtain rfl := List.mem_singleton.1 hz
      exact ha2 u gg
  · exact pods_own (Own.nil 49 u 0) fun z hz => by cases hz
  · exact buds_own (Own.nil 89 u 0) fun z hz => by cases hz
set_option maxRecDepth 100000 in
set_option maxHeartbeats 1600000 in
theorem lawN_far (x : ByteArray) (c : Int) (hc : -9223372036854775808 ≤ c ∧ c ≤ 9223372036854775807) (hx : x.size ≤ maxLen) (w : World) :
    Calls Tryz.prog 12 #[.string x, .int .i64 c] w fun e w' => ∃ b1 n1 d1, e = .returned (.agg #[.string x, .slice b1 n1 d1, .slice none 0 0, .slice none 0 0, .bool false]) ∧ Behind w.heap.size b1 ∧ NodAt w' (.slice b1 n1 d1) (.slice none 0 0) (.slice none 0 0) (nodK x c) ∧ Kept w w' := by
  have cc := freshN w (.string ⟨#[]⟩) [.slice none 0 0, .slice none 0 0, .slice none 0 0, .bool false] 43 _ (Kept.refl _)
  obtain ⟨W0, hW0⟩ : ∃ W, w.alloc (.cells #[.string ⟨#[]⟩, .slice none 0 0, .slice none 0 0, .slice none 0 0, .bool false] 43) = W := ⟨_, rfl⟩
  have hs : W0.heap.size = w.heap.size + 1 := by rw [← hW0]; simp
  rw [hW0] at cc
  obtain ⟨W1, hW1⟩ : ∃ W, W0.alloc (.cells #[.string ⟨#[99, 112, 117]⟩, .int .i64 c] 103) = W := ⟨_, rfl⟩
  have HR := Lib.hid (one_amount W0 c hc W1 (by rw [hW1]; exact Kept.refl _))
  rw [hs] at HR
  have c1 := cc.kept (W' := W1) (by rw [← hW1]; exact kept_alloc _ _)
  have KW := Lib.hid (show Kept w W1 by rw [← hW1, ← hW0]; exact kept_two _ _ _)
  have y0 := c1.at_ 0 _ rfl
  have y1 := c1.at_ 1 _ rfl
  have y2 := c1.at_ 2 _ rfl
  have y3 := c1.at_ 3 _ rfl
  have y4 := c1.at_ 4 _ rfl
  have f0 := c1.free 0
  have f1 := c1.free 1
  have f2 := c1.free 2
  have f3 := c1.free 3
  have f4 := c1.free 4
  have P := Lib.hid (putN (vs := [.string x, .slice (some ⟨w.heap.size + 1, 0, none⟩) 1 1, .slice none 0 0, .slice none 0 0, .bool false]) c1 rfl)
  clear c1 cc
  go_enter Tryz.func12, Tryz.ntmps12
  go_wp2
  try rw [hW0]
  try rw [hW1]
  obtain ⟨WE, hWE⟩ : ∃ W, W1.setCells w.heap.size 0 [.string x, .slice (some ⟨w.heap.size + 1, 0, none⟩) 1 1, .slice none 0 0, .slice none 0 0, .bool false] = W := ⟨_, rfl⟩
  have hWE2 : (((((W1.setCell ⟨w.heap.size, 0, none⟩ (.string x)).setCell ⟨w.heap.size, 1, none⟩ (.slice (some ⟨w.heap.size + 1, 0, none⟩) 1 1)).setCell ⟨w.heap.size, 2, none⟩ (.slice none 0 0)).setCell ⟨w.heap.size, 3, none⟩ (.slice none 0 0)).setCell ⟨w.heap.size, 4, none⟩ (.bool false)) = WE := hWE
  rw [hWE] at P
  try rw [hWE2]
  clear hWE hWE2
  obtain ⟨PC, hsz, hbl, hkp⟩ := P.out
  refine bodyPost_ret (by simp [results, Tryz.results12, go_sem, PC.at_ 0 _ rfl, PC.at_ 1 _ rfl, PC.at_ 2 _ rfl, PC.at_ 3 _ rfl, PC.at_ 4 _ rfl]; try rfl) rfl ?_
  exact ⟨_, _, _, rfl, (fun b off sp e => by cases e; exact Nat.le_succ _), ⟨hx, (HR.out.far hsz (fun b o s e => hbl b (by cases e; omega))), Reads.nil _, Reads.nil _⟩, hkp _ _ (Nat.le_refl _) KW.out⟩
set_option maxRecDepth 100000 in
set_option maxHeartbeats 12800000 in
theorem full_walk (a e : Int) (w : World) (ha : 0 ≤ a ∧ a < 256) (he : 0 ≤ e ∧ e < 256) : Calls Tryz.prog 4 #[.int .u8 a, .int .u8 e] w (Say (.bool true) w) := by
  obtain ⟨q1, hq1⟩ : ∃ q : Nat, a % 60 = (q : Int) := ⟨(a % 60).toNat, by omega⟩
  have hq1b : q1 < 60 := by omega
  obtain ⟨q2, hq2⟩ : ∃ q : Nat, e % 9 = (q : Int) := ⟨(e % 9).toNat, by omega⟩
  have hq2b : q2 < 9 := by omega
  obtain ⟨c, hc⟩ : ∃ c : Nat, 1 + (q1 : Int) = (c : Int) := ⟨1 + q1, by omega⟩
  obtain ⟨k, hk⟩ : ∃ k : Nat, 1 + (q2 : Int) = (k : Int) := ⟨1 + q2, by omega⟩
  have hc1 : 1 ≤ c ∧ c ≤ 60 := by omega
  have hk1 : 1 ≤ k ∧ k ≤ 9 := by omega
  obtain ⟨i0, hi, hz0, hz1, hz2'⟩ := info_parts infoNF
  go_enter Tryz.func4, Tryz.ntmps4
  go_wp2_with fail
  refine (knownSt_any w).mono ?_
  rintro e1 w1 ⟨rfl, kk⟩
  have K := Lib.hid kk
  have KB := Lib.hid kk
  clear kk
  obtain ⟨w2, hw2⟩ : ∃ W, w1.alloc (.cells #[.slice none 0 0, .slice none 0 0, .slice none 0 0] 26) = W := ⟨_, rfl⟩
  have HQ := Lib.hid (show CellsN w1.heap.size [.slice none 0 0, .slice none 0 0, .slice none 0 0] w2 from freshN w1 (.slice none 0 0) [.slice none 0 0, .slice none 0 0] 26 w2 (by rw [hw2]; exact Kept.refl _))
  have K := Lib.hid (K.out.trans (show Kept w1 w2 by rw [← hw2]; exact kept_alloc _ _))
  obtain ⟨q, hq⟩ : ∃ q, w1.heap.size = q := ⟨_, rfl⟩
  have HQB := Lib.hid (show w.heap.size ≤ q by rw [← hq]; exact KB.out.size)
  have HW2 := Lib.hid hw2
  clear hw2
  go_upto_region 6 with fail
  try rw [HW2.out]
  try rw [hq]
  rw [hq] at HQ
  clear HW2 hq
  try rw [hq1]
  try rw [hq2]
  clear hq1 hq2
  go_cut [7] from 24 to 31 (fun s7 wx => s7 = .pointer (some ⟨q, 0, none⟩) ∧ FInv c k q 0 w wx)
  case first =>
    refine wp_region_held_drew (S := fun W => True) (by kernel_rfl) (trivial) (fun hHeld => ?_)
    refine wpAnyH_take (i := 0) (v := ?_) (by rw [List.getElem?_toArray]; exact rfl) (by kernel_rfl) (by kernel_rfl) (by kernel_rfl) (by exact fun _ _ _ h => h) (Or.inl ⟨by rfl, (by intro W hSw; obtain o0 := hSw; go_simp <;> with_reducible rfl)⟩) (by assumption) ?_
    try simp only [Act.put, List.setIfInBounds_toArray, List.set_cons_zero, List.set_cons_succ]
    refine wpAnyH_take (i := 2) (v := ?_) (by rw [List.getElem?_toArray]; exact rfl) (by kernel_rfl) (by kernel_rfl) (by kernel_rfl) (by exact fun _ _ _ h => h) (Or.inl ⟨by rfl, (by intro W hSw; obtain o0 := hSw; go_simp <;> with_reducible rfl)⟩) (by assumption) ?_
    try simp only [Act.put, List.setIfInBounds_toArray, List.set_cons_zero, List.set_cons_succ]
    have J := Lib.hid (Kept.drew w2)
    refine wpAnyH_ready (rs := [1, 3]) (by kernel_rfl) (by simp) (AllReadyH.cons (by rw [List.getElem?_toArray]; exact rfl) (fun K9 hK9 => ?_) (AllReadyH.cons (by rw [List.getElem?_toArray]; exact rfl) (fun K9 hK9 => ?_) AllReadyH.nil))
    · skip
      have y0 : w2.drew.cell? ⟨q, 0, none⟩ = some (.slice none 0 0) := (HQ.out.kept J.out).at_ 0 _ rfl
      go_simp
      refine hK9.out _ _ trivial (fun hHeldL => ?_)
      clear hK9 K9 y0
      try simp only [Act.put, List.setIfInBounds_toArray, List.set_cons_zero, List.set_cons_succ]
      refine wpAnyH_ready (rs := [3]) (by kernel_rfl) (by simp) (AllReadyH.cons (by rw [List.getElem?_toArray]; exact rfl) (fun K9 hK9 => ?_) AllReadyH.nil)
      go_simp
      refine (lawN_far bA c (by omega) (by decide : (1 : Nat) ≤ maxLen) _).mono ?_
      rintro e3 w3 ⟨b1, n1, d1, rfl, hbh, hz, kk⟩
      have HBH := Lib.hid (hbh.less (B' := q + 1) HQ.out.lt)
      clear hbh
      have J := Lib.hid (J.out.trans kk)
      have HZ := Lib.hid hz
      clear kk hz
      refine hK9.out _ _ trivial (fun hHeldN => ?_)
      clear hK9 K9
      try simp only [Act.put, List.setIfInBounds_toArray, List.set_cons_zero, List.set_cons_succ]
      refine wpAnyH_ready (rs := [4]) (by kernel_rfl) (by simp) (AllReadyH.cons (by rw [List.getElem?_toArray]; exact rfl) (fun K9 hK9 => ?_) AllReadyH.nil)
      go_simp
      refine hK9.out _ _ trivial (fun hHeldB => ?_)
      clear hK9 K9
      try simp only [Act.put, List.setIfInBounds_toArray, List.set_cons_zero, List.set_cons_succ]
      obtain ⟨w4, hw4⟩ : ∃ W, w3.alloc (.cells #[.string bA, .slice b1 n1 d1, .slice none 0 0, .slice none 0 0, .bool false] 43) = W := ⟨_, rfl⟩
      have hk4 : Kept w3 w4 := by rw [← hw4]; exact kept_alloc _ _
      have HC4 := Lib.hid (show w4.heap[w3.heap.size]? = some (.cells #[.string bA, .slice b1 n1 d1, .slice none 0 0, .slice none 0 0, .bool false] 43) by rw [← hw4]; exact World.alloc_heap_new w3 _)
      have J := Lib.hid (J.out.trans hk4)
      have HZ := Lib.hid (HZ.out.kept hk4)
      try rw [hw4]
      clear hw4 hk4
      refine wpAnyH_ready (rs := [5]) (by kernel_rfl) (by simp) (AllReadyH.cons (by rw [List.getElem?_toArray]; exact rfl) (fun K9 hK9 => ?_) AllReadyH.nil)
      refine step_append_lies _ (by rfl) _ _ _ (by rfl) (q + 1) 43 i0 _ 5 96 Tryz.underlying22 hi hz0 hz1 hz2' rfl (by decide) (.slice none 0 0) 0 [] (by rfl) (World.ownsRow_nil _ _ _ 5) ⟨w3.heap.size, 0, none⟩ 1 1 [.string bA, .slice b1 n1 d1, .slice none 0 0, .slice none 0 0, .bool false] (by rfl) (by rfl) (World.news_of_block (cs := #[.string bA, .slice b1 n1 d1, .slice none 0 0, .slice none 0 0, .bool false]) (t := 43) (fr := (0, 0)) HC4.out) (one_node0 (NX1 c b1 n1 d1)) (by decide) (by decide) (by decide) (Nat.le_trans HQ.out.lt J.out.size) _ rfl ?_
      intro g cap w5 hown hgrow hat hlt
      have HF := Lib.hid (full_first (k := k) HZ.out HBH.out hgrow hown)
      have HQ5 := Lib.hid (HQ.out.kept (J.out.trans HF.out.2))
      have J := Lib.hid (J.out.trans HF.out.2)
      have HLT := Lib.hid HQ.out.lt
      refine hK9.out _ _ trivial (fun hHeldA => ?_)
      clear hK9 K9 hown hgrow hat hlt
      try simp only [Act.put, List.setIfInBounds_toArray, List.set_cons_zero, List.set_cons_succ]
      refine wpAnyH_take (i := 6) (v := ?_) (by rw [List.getElem?_toArray]; exact rfl) (by kernel_rfl) (by kernel_rfl) (by kernel_rfl) (by exact fun _ _ _ h => h) (Or.inl ⟨by rfl, (by intro W hSw; obtain o0 := hSw; go_simp <;> with_reducible rfl)⟩) (by assumption) ?_
      try simp only [Act.put, List.setIfInBounds_toArray, List.set_cons_zero, List.set_cons_succ]
      have z0 := HQ5.out.at_ 0 _ rfl
      have f0 := HQ5.out.free 0
      refine wpAnyH_ready (rs := [7]) (by kernel_rfl) (by simp) (AllReadyH.cons (by rw [List.getElem?_toArray]; exact rfl) (fun K9 hK9 => ?_) AllReadyH.nil)
      go_simp
      have HE := Lib.hid (show FInv c k q 0 w (w5.setCell ⟨q, 0, none⟩ (.slice (some ⟨g, 0, none⟩) 1 cap)) from by
        refine ⟨_, _, _, HQ5.out.set (j := 0) (by simp), ?_, ?_⟩
        · exact (HF.out.1.step (GOff.cell (S := fun b => b = q) q 0 _ rfl)).here
        · exact kept_cell (K.out.trans J.out) HQB.out _)
      refine hK9.out _ _ trivial (fun hHeldS => ?_)
      clear hK9 K9 z0 f0
      try simp only [Act.put, List.setIfInBounds_toArray, List.set_cons_zero, List.set_cons_succ]
      refine wpAnyH_done (by kernel_rfl) ?_ _
      go_wp2
      go_meet
      case rel => exact ⟨rfl, HE.out⟩
    · go_simp
      refine (lawN_far bA c (by omega) (by decide : (1 : Nat) ≤ maxLen) _).mono ?_
      rintro e3 w3 ⟨b1, n1, d1, rfl, hbh, hz, kk⟩
      have HBH := Lib.hid (hbh.less (B' := q + 1) HQ.out.lt)
      clear hbh
      have J := Lib.hid (J.out.trans kk)
      have HZ := Lib.hid hz
      clear kk hz
      refine hK9.out _ _ trivial (fun hHeldN => ?_)
      clear hK9 K9
      try simp only [Act.put, List.setIfInBounds_toArray, List.set_cons_zero, List.set_cons_succ]
      refine wpAnyH_ready (rs := [1, 4]) (by kernel_rfl) (by simp) (AllReadyH.cons (by rw [List.getElem?_toArray]; exact rfl) (fun K9 hK9 => ?_) (AllReadyH.cons (by rw [List.getElem?_toArray]; exact rfl) (fun K9 hK9 => ?_) AllReadyH.nil))
      · skip
        have y0 : w3.cell? ⟨q, 0, none⟩ = some (.slice none 0 0) := (HQ.out.kept J.out).at_ 0 _ rfl
        go_simp
        refine hK9.out _ _ trivial (fun hHeldL => ?_)
        clear hK9 K9 y0
        try simp only [Act.put, List.setIfInBounds_toArray, List.set_cons_zero, List.set_cons_succ]
        refine wpAnyH_ready (rs := [4]) (by kernel_rfl) (by simp) (AllReadyH.cons (by rw [List.getElem?_toArray]; exact rfl) (fun K9 hK9 => ?_) AllReadyH.nil)
        go_simp
        refine hK9.out _ _ trivial (fun hHeldB => ?_)
        clear hK9 K9
        try simp only [Act.put, List.setIfInBounds_toArray, List.set_cons_zero, List.set_cons_succ]
        obtain ⟨w4, hw4⟩ : ∃ W, w3.alloc (.cells #[.string bA, .slice b1 n1 d1, .slice none 0 0, .slice none 0 0, .bool false] 43) = W := ⟨_, rfl⟩
        have hk4 : Kept w3 w4 := by rw [← hw4]; exact kept_alloc _ _
        have HC4 := Lib.hid (show w4.heap[w3.heap.size]? = some (.cells #[.string bA, .slice b1 n1 d1, .slice none 0 0, .slice none 0 0, .bool false] 43) by rw [← hw4]; exact World.alloc_heap_new w3 _)
        have J := Lib.hid (J.out.trans hk4)
        have HZ := Lib.hid (HZ.out.kept hk4)
        try rw [hw4]
        clear hw4 hk4
        refine wpAnyH_ready (rs := [5]) (by kernel_rfl) (by simp) (AllReadyH.cons (by rw [List.getElem?_toArray]; exact rfl) (fun K9 hK9 => ?_) AllReadyH.nil)
        refine step_append_lies _ (by rfl) _ _ _ (by rfl) (q + 1) 43 i0 _ 5 96 Tryz.underlying22 hi hz0 hz1 hz2' rfl (by decide) (.slice none 0 0) 0 [] (by rfl) (World.ownsRow_nil _ _ _ 5) ⟨w3.heap.size, 0, none⟩ 1 1 [.string bA, .slice b1 n1 d1, .slice none 0 0, .slice none 0 0, .bool false] (by rfl) (by rfl) (World.news_of_block (cs := #[.string bA, .slice b1 n1 d1, .slice none 0 0, .slice none 0 0, .bool false]) (t := 43) (fr := (0, 0)) HC4.out) (one_node0 (NX1 c b1 n1 d1)) (by decide) (by decide) (by decide) (Nat.le_trans HQ.out.lt J.out.size) _ rfl ?_
        intro g cap w5 hown hgrow hat hlt
        have HF := Lib.hid (full_first (k := k) HZ.out HBH.out hgrow hown)
        have HQ5 := Lib.hid (HQ.out.kept (J.out.trans HF.out.2))
        have J := Lib.hid (J.out.trans HF.out.2)
        have HLT := Lib.hid HQ.out.lt
        refine hK9.out _ _ trivial (fun hHeldA => ?_)
        clear hK9 K9 hown hgrow hat hlt
        try simp only [Act.put, List.setIfInBounds_toArray, List.set_cons_zero, List.set_cons_succ]
        refine wpAnyH_take (i := 6) (v := ?_) (by rw [List.getElem?_toArray]; exact rfl) (by kernel_rfl) (by kernel_rfl) (by kernel_rfl) (by exact fun _ _ _ h => h) (Or.inl ⟨by rfl, (by intro W hSw; obtain o0 := hSw; go_simp <;> with_reducible rfl)⟩) (by assumption) ?_
        try simp only [Act.put, List.setIfInBounds_toArray, List.set_cons_zero, List.set_cons_succ]
        have z0 := HQ5.out.at_ 0 _ rfl
        have f0 := HQ5.out.free 0
        refine wpAnyH_ready (rs := [7]) (by kernel_rfl) (by simp) (AllReadyH.cons (by rw [List.getElem?_toArray]; exact rfl) (fun K9 hK9 => ?_) AllReadyH.nil)
        go_simp
        have HE := Lib.hid (show FInv c k q 0 w (w5.setCell ⟨q, 0, none⟩ (.slice (some ⟨g, 0, none⟩) 1 cap)) from by
          refine ⟨_, _, _, HQ5.out.set (j := 0) (by simp), ?_, ?_⟩
          · exact (HF.out.1.step (GOff.cell (S := fun b => b = q) q 0 _ rfl)).here
          · exact kept_cell (K.out.trans J.out) HQB.out _)
        refine hK9.out _ _ trivial (fun hHeldS => ?_)
        clear hK9 K9 z0 f0
        try simp only [Act.put, List.setIfInBounds_toArray, List.set_cons_zero, List.set_cons_succ]
        refine wpAnyH_done (by kernel_rfl) ?_ _
        go_wp2
        go_meet
        case rel => exact ⟨rfl, HE.out⟩
      · go_simp
        refine hK9.out _ _ trivial (fun hHeldB => ?_)
        clear hK9 K9
        try simp only [Act.put, List.setIfInBounds_toArray, List.set_cons_zero, List.set_cons_succ]
        obtain ⟨w4, hw4⟩ : ∃ W, w3.alloc (.cells #[.string bA, .slice b1 n1 d1, .slice none 0 0, .slice none 0 0, .bool false] 43) = W := ⟨_, rfl⟩
        have hk4 : Kept w3 w4 := by rw [← hw4]; exact kept_alloc _ _
        have HC4 := Lib.hid (show w4.heap[w3.heap.size]? = some (.cells #[.string bA, .slice b1 n1 d1, .slice none 0 0, .slice none 0 0, .bool false] 43) by rw [← hw4]; exact World.alloc_heap_new w3 _)
        have J := Lib.hid (J.out.trans hk4)
        have HZ := Lib.hid (HZ.out.kept hk4)
        try rw [hw4]
        clear hw4 hk4
        refine wpAnyH_ready (rs := [1]) (by kernel_rfl) (by simp) (AllReadyH.cons (by rw [List.getElem?_toArray]; exact rfl) (fun K9 hK9 => ?_) AllReadyH.nil)
        have y0 : w4.cell? ⟨q, 0, none⟩ = some (.slice none 0 0) := (HQ.out.kept J.out).at_ 0 _ rfl
        go_simp
        refine hK9.out _ _ trivial (fun hHeldL => ?_)
        clear hK9 K9 y0
        try simp only [Act.put, List.setIfInBounds_toArray, List.set_cons_zero, List.set_cons_succ]
        refine wpAnyH_ready (rs := [5]) (by kernel_rfl) (by simp) (AllReadyH.cons (by rw [List.getElem?_toArray]; exact rfl) (fun K9 hK9 => ?_) AllReadyH.nil)
        refine step_append_lies _ (by rfl) _ _ _ (by rfl) (q + 1) 43 i0 _ 5 96 Tryz.underlying22 hi hz0 hz1 hz2' rfl (by decide) (.slice none 0 0) 0 [] (by rfl) (World.ownsRow_nil _ _ _ 5) ⟨w3.heap.size, 0, none⟩ 1 1 [.string bA, .slice b1 n1 d1, .slice none 0 0, .slice none 0 0, .bool false] (by rfl) (by rfl) (World.news_of_block (cs := #[.string bA, .slice b1 n1 d1, .slice none 0 0, .slice none 0 0, .bool false]) (t := 43) (fr := (0, 0)) HC4.out) (one_node0 (NX1 c b1 n1 d1)) (by decide) (by decide) (by decide) (Nat.le_trans HQ.out.lt J.out.size) _ rfl ?_
        intro g cap w5 hown hgrow hat hlt
        have HF := Lib.hid (full_first (k := k) HZ.out HBH.out hgrow hown)
        have HQ5 := Lib.hid (HQ.out.kept (J.out.trans HF.out.2))
        have J := Lib.hid (J.out.trans HF.out.2)
        have HLT := Lib.hid HQ.out.lt
        refine hK9.out _ _ trivial (fun hHeldA => ?_)
        clear hK9 K9 hown hgrow hat hlt
        try simp only [Act.put, List.setIfInBounds_toArray, List.set_cons_zero, List.set_cons_succ]
        refine wpAnyH_take (i := 6) (v := ?_) (by rw [List.getElem?_toArray]; exact rfl) (by kernel_rfl) (by kernel_rfl) (by kernel_rfl) (by exact fun _ _ _ h => h) (Or.inl ⟨by rfl, (by intro W hSw; obtain o0 := hSw; go_simp <;> with_reducible rfl)⟩) (by assumption) ?_
        try simp only [Act.put, List.setIfInBounds_toArray, List.set_cons_zero, List.set_cons_succ]
        have z0 := HQ5.out.at_ 0 _ rfl
        have f0 := HQ5.out.free 0
        refine wpAnyH_ready (rs := [7]) (by kernel_rfl) (by simp) (AllReadyH.cons (by rw [List.getElem?_toArray]; exact rfl) (fun K9 hK9 => ?_) AllReadyH.nil)
        go_simp
        have HE := Lib.hid (show FInv c k q 0 w (w5.setCell ⟨q, 0, none⟩ (.slice (some ⟨g, 0, none⟩) 1 cap)) from by
          refine ⟨_, _, _, HQ5.out.set (j := 0) (by simp), ?_, ?_⟩
          · exact (HF.out.1.step (GOff.cell (S := fun b => b = q) q 0 _ rfl)).here
          · exact kept_cell (K.out.trans J.out) HQB.out _)
        refine hK9.out _ _ trivial (fun hHeldS => ?_)
        clear hK9 K9 z0 f0
        try simp only [Act.put, List.setIfInBounds_toArray, List.set_cons_zero, List.set_cons_succ]
        refine wpAnyH_done (by kernel_rfl) ?_ _
        go_wp2
        go_meet
        case rel => exact ⟨rfl, HE.out⟩
  case rest =>
    obtain ⟨rfl, hf0⟩ := hcut
    have HF0 := Lib.hid hf0
    clear hf0 HQ K
    go_wp2_with fail
    go_loopw [8, 9] (fun nv iv wr => ∃ j : Nat, j * k ≤ c ∧ nv = .int .i64 j ∧ iv = .int .i64 j ∧ FInv c k q j w wr) (fun _ iv _ => 70 - (intOf iv).toNat)
    case atStart => exact ⟨0, by omega, rfl, rfl, HF0.out⟩
    case round =>
      obtain ⟨j, hjk, rfl, rfl, v1, v2, v3, hq, hr, hkw⟩ := hrel
      have hj : j ≤ 60 := by have := Nat.le_mul_of_pos_right j (show 0 < k by omega); omega
      have HKW := Lib.hid hkw
      have HJK := Lib.hid hjk
      obtain ⟨x1, x2, x3, hu, hat⟩ := hr
      cases hu
      obtain ⟨a1, c1, rfl, l1, m1, hn⟩ : ∃ a c1, v1 = .slice a 1 c1 ∧ 1 ≤ c1 ∧ c1 ≤ maxLen ∧ NodesAt wr a 1 [nodK bA c] := hat.nodes
      obtain ⟨a2, c2, rfl, l2, m2, hp⟩ : ∃ a c2, v2 = .slice a j c2 ∧ j ≤ c2 ∧ c2 ≤ maxLen ∧ PodsAt wr a j (podsF k j) := by have := hat.pods; unfold PodsR at this; simp only [podsF_len] at this; exact this
      obtain ⟨a3, c3, rfl, l3, m3, hb⟩ : ∃ a c3, v3 = .slice a 0 c3 ∧ 0 ≤ c3 ∧ c3 ≤ maxLen ∧ BudsAt wr a 0 [] := hat.buds
      have HQ := Lib.hid hq
      have HN := Lib.hid hn
      have HP := Lib.hid hp
      have HB := Lib.hid hb
      have HLL := Lib.hid (And.intro l1 (And.intro m1 (And.intro l2 (And.intro m2 (And.intro l3 m3)))))
      clear hat hq hn hp hb l1 m1 l2 m2 l3 m3 hkw hjk
      obtain ⟨u, hu⟩ : ∃ u : Nat, 97 + (j : Int) / 26 = (u : Int) := ⟨97 + j / 26, by omega⟩
      obtain ⟨d, hd⟩ : ∃ d : Nat, 97 + (j : Int) % 26 = (d : Int) := ⟨97 + j % 26, by omega⟩
      have hlt : (j : Int) < 70 := by omega
      have cv := convF wr u d
      have u1 : (u : Int) % 256 = (u : Int) := by omega
      have d1 : (d : Int) % 256 = (d : Int) := by omega
      have hcs : (bytes [UInt8.ofNat u, UInt8.ofNat d]).size = 2 := bytes_size _
      have HA := Lib.hid (show (({ data := #[112] } : ByteArray) ++ bytes [UInt8.ofNat u, UInt8.ofNat d]) = nmF j by
        rw [show u = 97 + j / 26 by omega, show d = 97 + j % 26 by omega]
        apply Go.WideShapes.bytes_inj
        simp [bytes, ByteArray.data_append, nmF])
      go_wp2_with fail
      rw [HA.out]
      refine (lawP_any (nmF j) k bA (by omega) (nmF_size j) (by decide : (1 : Nat) ≤ maxLen) _).mono ?_
      rintro e2 w2x ⟨b9, n9, d9, rfl, hz, kk⟩
      have J := Lib.hid ((kept_alloc wr (.cells #[.int .u8 u, .int .u8 d] 5)).trans kk)
      clear cv hu hd u1 d1 hcs kk HA
      obtain ⟨w3, hw3⟩ : ∃ W, w2x.alloc (.cells #[.string (nmF j), .string ⟨#[]⟩, .int .i64 0, .slice b9 n9 d9, .slice none 0 0, .slice none 0 0, .slice none 0 0, .string ⟨#[]⟩, .int .i64 0, .string bA, .bool false] 49) = W := ⟨_, rfl⟩
      have hk3 : Kept w2x w3 := by rw [← hw3]; exact kept_alloc _ _
      have HPC := Lib.hid (show CellsN w2x.heap.size [.string (nmF j), .string ⟨#[]⟩, .int .i64 0, .slice b9 n9 d9, .slice none 0 0, .slice none 0 0, .slice none 0 0, .string ⟨#[]⟩, .int .i64 0, .string bA, .bool false] w3 from freshN w2x (.string (nmF j)) [.string ⟨#[]⟩, .int .i64 0, .slice b9 n9 d9, .slice none 0 0, .slice none 0 0, .slice none 0 0, .string ⟨#[]⟩, .int .i64 0, .string bA, .bool false] 49 w3 (by rw [hw3]; exact Kept.refl _))
      have HZ := Lib.hid (hz.kept hk3)
      have J := Lib.hid (J.out.trans hk3)
      clear hz hk3
      obtain ⟨p9, hp9⟩ : ∃ g, w2x.heap.size = g := ⟨_, rfl⟩
      rw [hp9] at HPC
      have HW3 := Lib.hid hw3
      clear hw3
      go_upto_region 12 with fail
      try rw [HW3.out]
      try rw [hp9]
      clear HW3 hp9
      have HQ := Lib.hid (HQ.out.kept J.out)
      have HQLT := Lib.hid HQ.out.lt
      have y0 := HQ.out.at_ 0 _ rfl
      have y1 := HQ.out.at_ 1 _ rfl
      have y2 := HQ.out.at_ 2 _ rfl
      have z0 := HPC.out.at_ 0 _ rfl
      have z1 := HPC.out.at_ 1 _ rfl
      have z2 := HPC.out.at_ 2 _ rfl
      have z3 := HPC.out.at_ 3 _ rfl
      have z4 := HPC.out.at_ 4 _ rfl
      have z5 := HPC.out.at_ 5 _ rfl
      have z6 := HPC.out.at_ 6 _ rfl
      have z7 := HPC.out.at_ 7 _ rfl
      have z8 := HPC.out.at_ 8 _ rfl
      have z9 := HPC.out.at_ 9 _ rfl
      have z10 := HPC.out.at_ 10 _ rfl
      go_wp2_with fail
      clear y0 y1 y2 z0 z1 z2 z3 z4 z5 z6 z7 z8 z9 z10
      obtain ⟨l1, m1, l2, m2, l3, m3⟩ := HLL.out
      have HPU := putSt_any a1 a2 a3 1 c1 j c2 0 c3 [nodK bA c] (podsF k j) [] (podK (nmF j) k bA) b9 none none none n9 d9 0 0 0 0 0 0 w3 (HN.out.kept J.out) (HP.out.kept J.out) (HB.out.kept J.out) l1 m1 l2 m2 l3 m3 (lowF c k (by omega)) HZ.out (lowF_pod _ _ _)
      rw [put_full (by omega)] at HPU
      refine HPU.mono ?_
      clear HPU l1 m1 l2 m2 l3 m3
      rintro e3 w4 ⟨x1, p1, o1, x2, p2, o2, x3, p3, o3, rfl, ho, kk⟩
      obtain ⟨w5, hw5⟩ : ∃ W, w4.alloc (.cells #[.slice x1 p1 o1, .slice x2 p2 o2, .slice x3 p3 o3] 26) = W := ⟨_, rfl⟩
      have hk5 : Kept w4 w5 := by rw [← hw5]; exact kept_alloc _ _
      have HT := Lib.hid (show CellsN w4.heap.size [.slice x1 p1 o1, .slice x2 p2 o2, .slice x3 p3 o3] w5 from freshN w4 (.slice x1 p1 o1) [.slice x2 p2 o2, .slice x3 p3 o3] 26 w5 (by rw [hw5]; exact Kept.refl _))
      have HO := Lib.hid (ho.kept hk5)
      have HQ := Lib.hid (HQ.out.kept (kk.trans hk5))
      have J := Lib.hid (J.out.trans (kk.trans hk5))
      obtain ⟨t9, ht9⟩ : ∃ g, w4.heap.size = g := ⟨_, rfl⟩
      rw [ht9] at HT
      have HW5 := Lib.hid hw5
      clear hw5 hk5 ho kk
      go_upto_region 13 with fail
      try rw [HW5.out]
      try rw [ht9]
      clear HW5 ht9
      have y0 := HT.out.at_ 0 _ rfl
      have y1 := HT.out.at_ 1 _ rfl
      have y2 := HT.out.at_ 2 _ rfl
      go_wp2_with fail
      clear y0 y1 y2
      obtain ⟨m, hM⟩ : ∃ m : Nat, (j + 1) * k = m := ⟨_, rfl⟩
      have hm : ((j : Int) + 1) * (k : Int) = (m : Int) := by rw [← hM]; push_cast; rfl
      have HM := Lib.hid hM.symm
      clear hM
      have hmb : m ≤ 1000 := by have := Nat.mul_le_mul (show j + 1 ≤ 61 by omega) hk1.2; have := HM.out; omega
      have HCH := Lib.hid (chk_full (c := (c : Int)) (k := (k : Int)) (j := j) (by omega) (by omega) (by omega) (by omega) (by rw [show (((j + 1 : Nat) : Int) * (k : Int)) = (m : Int) by rw [← hm]; push_cast; rfl]; omega))
      rw [show (((j + 1 : Nat) : Int) * (k : Int)) = (m : Int) by rw [← hm]; push_cast; rfl] at HCH
      by_cases hmc : m ≤ c
      · have hmc2 : ¬ (c : Int) < (m : Int) := by omega
        have HC0 := Lib.hid (HCH.out.trans (if_pos (by omega)))
        refine (checkStR HO.out.toR (lowF_node c) HC0.out).mono ?_
        rintro e4 w6 ⟨rfl, kk⟩
        have HO := Lib.hid (HO.out.kept kk)
        have HT := Lib.hid (HT.out.kept kk)
        have HQ := Lib.hid (HQ.out.kept kk)
        have J := Lib.hid (J.out.trans kk)
        clear kk HCH HC0
        have y0 := HT.out.at_ 0 _ rfl
        have y1 := HT.out.at_ 1 _ rfl
        have y2 := HT.out.at_ 2 _ rfl
        have z0 := HQ.out.at_ 0 _ rfl
        have z1 := HQ.out.at_ 1 _ rfl
        have z2 := HQ.out.at_ 2 _ rfl
        have f0 := HQ.out.free 0
        have f1 := HQ.out.free 1
        have f2 := HQ.out.free 2
        have PP := Lib.hid (putN (vs := [.slice x1 p1 o1, .slice x2 p2 o2, .slice x3 p3 o3]) HQ.out rfl)
        go_wp2
        obtain ⟨WE, hWE⟩ : ∃ W, w6.setCells q 0 [.slice x1 p1 o1, .slice x2 p2 o2, .slice x3 p3 o3] = W := ⟨_, rfl⟩
        have hWE2 : (((w6.setCell ⟨q, 0, none⟩ (.slice x1 p1 o1)).setCell ⟨q, 1, none⟩ (.slice x2 p2 o2)).setCell ⟨q, 2, none⟩ (.slice x3 p3 o3)) = WE := hWE
        rw [hWE] at PP
        try rw [hWE2]
        have HFI := Lib.hid (show FInv c k q (j + 1) w WE from ⟨_, _, _, PP.out.cells, (HO.out.step (show GOff (fun b => b < w3.heap.size) w6 WE by rw [← hWE]; exact GOff.cells (S := fun b => b < w3.heap.size) q HQLT.out _ _ _)).toR, by rw [← hWE]; exact setCells_below q _ _ _ _ _ HQB.out (HKW.out.trans J.out)⟩)
        clear hWE hWE2
        go_roundw
        case rel => exact ⟨j + 1, by rw [← HM.out]; exact hmc, by go_num, by go_num, HFI.out⟩
        case measure => simp [intOf]; omega
      · have hmc2 : (c : Int) < (m : Int) := by omega
        have HC0 := Lib.hid (HCH.out.trans (if_neg (by omega)))
        refine (checkStR HO.out.toR (lowF_node c) HC0.out).mono ?_
        rintro e4 w6 ⟨rfl, kk⟩
        have J := Lib.hid (J.out.trans kk)
        clear kk HCH HC0
        go_wp2
        go_ret
        exact ⟨rfl, HKW.out.trans J.out⟩

theorem StateFull_walk (n m : Int) (w : World) (hn : (Lit.int .u8 n).wf = true) (hm : (Lit.int .u8 m).wf = true) : Calls Tryz.prog 4 #[.int .u8 n, .int .u8 m] w fun e w' => e = .returned (.bool true) ∧ Kept w w' := by
  have a := bounds_u8 hn
  have b := bounds_u8 hm
  exact full_walk n m w ⟨a.1, by omega⟩ ⟨b.1, by omega⟩


end Go.Proofs.YtjihpbbeoiddkaaGreat
