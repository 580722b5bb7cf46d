/- The law's two nodes and two pods: what is told of them: the walk. -/
import Derived.Test.YtjihpbbeoiddkaaGreatStKnown0
import Derived.Deep.CutRange
import Derived.Deep.RegionHeld3
namespace Go.Proofs.YtjihpbbeoiddkaaGreat
open Go.RowKit
set_option linter.unusedVariables false

abbrev kNL : List Nod := [nodK ⟨#[97]⟩ 10, nodK ⟨#[98]⟩ 5]
abbrev kPL : List Pd := [podK ⟨#[120]⟩ 3 ⟨#[97]⟩, podK ⟨#[121]⟩ 4 ⟨#[97]⟩]
def kS : Clu := ⟨kNL, kPL, []⟩
def kM : Clu := moveSt kS ⟨#[121]⟩ ⟨#[98]⟩
def kF : Clu := putSt kS (podK ⟨#[122]⟩ 4 ⟨#[97]⟩)
def kD : Clu := dropSt kS ⟨#[120]⟩
theorem k_used : usedL kNL kPL ⟨#[97]⟩ = (0, [(⟨#[99, 112, 117]⟩, 7)]) := by kernel_rfl
theorem k_free : freeL kNL kPL ⟨#[97]⟩ = (0, [(⟨#[99, 112, 117]⟩, 3)]) := by kernel_rfl
theorem k_tot : totV kNL [] = (0, [(⟨#[99, 112, 117]⟩, 15)]) := by kernel_rfl
theorem k_none : usedL kNL kPL ⟨#[99]⟩ = (3, []) := by kernel_rfl
theorem k_chk : chkSt kS = 0 := by kernel_rfl
theorem k_full : chkSt kF = 7 := by kernel_rfl
theorem k_len : kF.pods.length = 3 := by kernel_rfl
theorem k_on : onP ⟨#[97]⟩ kM.pods = [podK ⟨#[120]⟩ 3 ⟨#[97]⟩] := by kernel_rfl
theorem k_drop : kD.pods.length = 1 := by kernel_rfl
theorem k_not : sameSt kS kM = false := by kernel_rfl
theorem k_lowN : ∀ n ∈ kNL, LowNod n := by
  intro n hn
  rcases List.mem_cons.1 hn with rfl | hn
  · exact ⟨(by decide : (1 : Nat) ≤ 1000000), (by decide : (0 : Nat) ≤ 1000000), (by decide : (0 : Nat) ≤ 1000000)⟩
  · obtain rfl := List.mem_singleton.1 hn
    exact ⟨(by decide : (1 : Nat) ≤ 1000000), (by decide : (0 : Nat) ≤ 1000000), (by decide : (0 : Nat) ≤ 1000000)⟩
theorem k_lowK (x : ByteArray) (c : Int) (y : ByteArray) : LowPd (podK x c y) := ⟨(by decide : (1 : Nat) ≤ 1000000), (by decide : (0 : Nat) ≤ 1000000), (by decide : (0 : Nat) ≤ 1000000), (by decide : (0 : Nat) ≤ 1000000)⟩
theorem k_lowP : ∀ n ∈ kPL, LowPd n := by
  intro n hn
  rcases List.mem_cons.1 hn with rfl | hn
  · exact k_lowK _ _ _
  · obtain rfl := List.mem_singleton.1 hn
    exact k_lowK _ _ _
theorem k_low : LowClu ⟨kNL, kPL, []⟩ := ⟨k_lowN, k_lowP, (fun n h => by cases h), (by decide : (2 : Nat) ≤ 100000), (by decide : (2 : Nat) ≤ 100000), (by decide : (0 : Nat) ≤ 100000)⟩
theorem k_lowM : ∀ n ∈ kM.pods, LowPd n := by
  rw [show kM.pods = [podK ⟨#[120]⟩ 3 ⟨#[97]⟩, podK ⟨#[121]⟩ 4 ⟨#[98]⟩] from by kernel_rfl]
  intro n hn
  rcases List.mem_cons.1 hn with rfl | hn
  · exact k_lowK _ _ _
  · obtain rfl := List.mem_singleton.1 hn
    exact k_lowK _ _ _
set_option maxRecDepth 100000 in
set_option maxHeartbeats 12800000 in
theorem knownSt_any (w : World) : Calls Tryz.prog 7 #[] w (Say (.bool true) w) := by
  go_enter Tryz.func7, Tryz.ntmps7
  go_wp2_with fail
  refine (lawN_any ⟨#[97]⟩ 10 (by decide : (-9223372036854775808 : Int) ≤ 10 ∧ (10 : Int) ≤ 9223372036854775807) (by decide : (1 : Nat) ≤ maxLen) _).mono ?_
  rintro e w1 ⟨b1, n1, d1, rfl, ha1, k⟩
  have K := Lib.hid k
  have HA1 := Lib.hid ha1
  clear k ha1
  go_wp2_with fail
  refine (lawN_any ⟨#[98]⟩ 5 (by decide : (-9223372036854775808 : Int) ≤ 5 ∧ (5 : Int) ≤ 9223372036854775807) (by decide : (1 : Nat) ≤ maxLen) _).mono ?_
  rintro e w2 ⟨b2, n2, d2, rfl, ha2, k⟩
  have K := Lib.hid (K.out.trans k)
  have HA1 := Lib.hid (HA1.out.kept k)
  have HA2 := Lib.hid ha2
  clear k ha2
  go_wp2_with fail
  obtain ⟨g1, hg1⟩ : ∃ g, w2.heap.size = g := ⟨_, rfl⟩
  obtain ⟨w3, hw3⟩ : ∃ W, w2.alloc (.cells #[.string ⟨#[97]⟩, .slice b1 n1 d1, .slice none 0 0, .slice none 0 0, .bool false, .string ⟨#[98]⟩, .slice b2 n2 d2, .slice none 0 0, .slice none 0 0, .bool false] 43) = W := ⟨_, rfl⟩
  have hk3 : Kept w2 w3 := by rw [← hw3]; exact kept_alloc _ _
  have HRN := Lib.hid (show NodesAt w3 (some ⟨g1, 0, none⟩) 2 kNL from by
    have c := freshN w2 (.string ⟨#[97]⟩) [.slice b1 n1 d1, .slice none 0 0, .slice none 0 0, .bool false, .string ⟨#[98]⟩, .slice b2 n2 d2, .slice none 0 0, .slice none 0 0, .bool false] 43 w3 (by rw [hw3]; exact Kept.refl _)
    rw [hg1] at c
    exact nodes_row (lx := [(nodK ⟨#[97]⟩ 10, (b1, n1, d1), (none, 0, 0), (none, 0, 0)), (nodK ⟨#[98]⟩ 5, (b2, n2, d2), (none, 0, 0), (none, 0, 0))]) (row_fresh rfl c (fun _ _ => trivial) (by decide : (2 : Nat) ≤ maxLen)) (fun z hz => by
      rcases List.mem_cons.1 hz with rfl | hz
      · exact HA1.out.kept hk3
      · obtain rfl := List.mem_singleton.1 hz
        exact HA2.out.kept hk3))
  have K := Lib.hid (K.out.trans hk3)
  clear HA1 HA2 hk3
  try rw [hw3]
  clear hw3
  try rw [hg1]
  clear hg1
  refine (lawP_any ⟨#[120]⟩ 3 ⟨#[97]⟩ (by decide : (-9223372036854775808 : Int) ≤ 3 ∧ (3 : Int) ≤ 9223372036854775807) (by decide : (1 : Nat) ≤ maxLen) (by decide : (1 : Nat) ≤ maxLen) _).mono ?_
  rintro e w4 ⟨b3, n3, d3, rfl, ha1, k⟩
  have K := Lib.hid (K.out.trans k)
  have HRN := Lib.hid (HRN.out.kept k)
  have HA1 := Lib.hid ha1
  clear k ha1
  go_wp2_with fail
  refine (lawP_any ⟨#[121]⟩ 4 ⟨#[97]⟩ (by decide : (-9223372036854775808 : Int) ≤ 4 ∧ (4 : Int) ≤ 9223372036854775807) (by decide : (1 : Nat) ≤ maxLen) (by decide : (1 : Nat) ≤ maxLen) _).mono ?_
  rintro e w5 ⟨b4, n4, d4, rfl, ha2, k⟩
  have K := Lib.hid (K.out.trans k)
  have HRN := Lib.hid (HRN.out.kept k)
  have HA1 := Lib.hid (HA1.out.kept k)
  have HA2 := Lib.hid ha2
  clear k ha2
  obtain ⟨w5b, hw5b⟩ : ∃ W, w5.alloc (.cells #[.string ⟨#[120]⟩, .string ⟨#[]⟩, .int .i64 0, .slice b3 n3 d3, .slice none 0 0, .slice none 0 0, .slice none 0 0, .string ⟨#[]⟩, .int .i64 0, .string ⟨#[97]⟩, .bool false, .string ⟨#[121]⟩, .string ⟨#[]⟩, .int .i64 0, .slice b4 n4 d4, .slice none 0 0, .slice none 0 0, .slice none 0 0, .string ⟨#[]⟩, .int .i64 0, .string ⟨#[97]⟩, .bool false] 49) = W := ⟨_, rfl⟩
  have hs5 : w5b.heap.size = w5.heap.size + 1 := by rw [← hw5b]; simp
  obtain ⟨w6, hw6⟩ : ∃ W, w5b.alloc (.cells #[.slice (some ⟨g1, 0, none⟩) 2 2, .slice (some ⟨w5.heap.size, 0, none⟩) 2 2, .slice none 0 0] 26) = W := ⟨_, rfl⟩
  have hk6 : Kept w5 w6 := by rw [← hw6, ← hw5b]; exact kept_two _ _ _
  have HRP := Lib.hid (show PodsAt w6 (some ⟨w5.heap.size, 0, none⟩) 2 kPL from by
    have c := freshN w5 (.string ⟨#[120]⟩) [.string ⟨#[]⟩, .int .i64 0, .slice b3 n3 d3, .slice none 0 0, .slice none 0 0, .slice none 0 0, .string ⟨#[]⟩, .int .i64 0, .string ⟨#[97]⟩, .bool false, .string ⟨#[121]⟩, .string ⟨#[]⟩, .int .i64 0, .slice b4 n4 d4, .slice none 0 0, .slice none 0 0, .slice none 0 0, .string ⟨#[]⟩, .int .i64 0, .string ⟨#[97]⟩, .bool false] 49 w6 (by rw [← hw6, ← hw5b]; exact kept_alloc _ _)
    exact pods_row (lx := [(podK ⟨#[120]⟩ 3 ⟨#[97]⟩, (b3, n3, d3), (none, 0, 0), (none, 0, 0), (none, 0, 0)), (podK ⟨#[121]⟩ 4 ⟨#[97]⟩, (b4, n4, d4), (none, 0, 0), (none, 0, 0), (none, 0, 0))]) (row_fresh rfl c (fun _ _ => trivial) (by decide : (2 : Nat) ≤ maxLen)) (fun z hz => by
      rcases List.mem_cons.1 hz with rfl | hz
      · exact HA1.out.kept hk6
      · obtain rfl := List.mem_singleton.1 hz
        exact HA2.out.kept hk6))
  have HQ := Lib.hid (show CellsN (w5.heap.size + 1) [.slice (some ⟨g1, 0, none⟩) 2 2, .slice (some ⟨w5.heap.size, 0, none⟩) 2 2, .slice none 0 0] w6 by
    have c := freshN w5b (.slice (some ⟨g1, 0, none⟩) 2 2) [.slice (some ⟨w5.heap.size, 0, none⟩) 2 2, .slice none 0 0] 26 w6 (by rw [hw6]; exact Kept.refl _)
    rw [hs5] at c
    exact c)
  have K := Lib.hid (K.out.trans hk6)
  have HRN := Lib.hid (HRN.out.kept hk6)
  clear HA1 HA2 hk6
  have y0 := HQ.out.at_ 0 _ rfl
  have y1 := HQ.out.at_ 1 _ rfl
  have y2 := HQ.out.at_ 2 _ rfl
  have HW5 := Lib.hid hw5b
  have HW6 := Lib.hid hw6
  clear hw6 hw5b hs5
  go_wp2_with fail
  rw [HW5.out, HW6.out]
  clear HW5 HW6
  obtain ⟨g2, hg2⟩ : ∃ g, w5.heap.size = g := ⟨_, rfl⟩
  rw [hg2] at HRP HQ y0 y1 y2
  try rw [hg2]
  clear hg2
  have HR := usedF_any (some ⟨g1, 0, none⟩) (some ⟨g2, 0, none⟩) none 2 2 2 2 0 0 kNL kPL ⟨#[97]⟩ _ HRN.out HRP.out k_lowN
  rw [k_used] at HR
  refine HR.mono ?_
  clear HR
  rintro e w7 ⟨vu, rfl, ho, k⟩
  have K := Lib.hid (K.out.trans k)
  have HRN := Lib.hid (HRN.out.kept k)
  have HRP := Lib.hid (HRP.out.kept k)
  have HQ := Lib.hid (HQ.out.kept k)
  have Rvu := Lib.hid ho.reads
  clear k ho
  clear y0 y1 y2
  have y0 := HQ.out.at_ 0 _ rfl
  have y1 := HQ.out.at_ 1 _ rfl
  have y2 := HQ.out.at_ 2 _ rfl
  skip
  go_wp2_with fail
  have HR := freeF_any (some ⟨g1, 0, none⟩) (some ⟨g2, 0, none⟩) none 2 2 2 2 0 0 kNL kPL ⟨#[97]⟩ _ HRN.out HRP.out k_lowN
  rw [k_free] at HR
  refine HR.mono ?_
  clear HR
  rintro e w8 ⟨vf, rfl, ho, k⟩
  have K := Lib.hid (K.out.trans k)
  have HRN := Lib.hid (HRN.out.kept k)
  have HRP := Lib.hid (HRP.out.kept k)
  have HQ := Lib.hid (HQ.out.kept k)
  have Rvu := Lib.hid (Rvu.out.kept k)
  have Rvf := Lib.hid ho.reads
  clear k ho
  clear y0 y1 y2
  have y0 := HQ.out.at_ 0 _ rfl
  have y1 := HQ.out.at_ 1 _ rfl
  have y2 := HQ.out.at_ 2 _ rfl
  go_wp2_with fail
  have HR := totalF_any (some ⟨g1, 0, none⟩) (some ⟨g2, 0, none⟩) none 2 2 2 2 0 0 kNL kPL _ HRN.out
  rw [k_tot] at HR
  refine HR.mono ?_
  clear HR
  rintro e w9 ⟨vt, rfl, ho, k⟩
  have K := Lib.hid (K.out.trans k)
  have HRN := Lib.hid (HRN.out.kept k)
  have HRP := Lib.hid (HRP.out.kept k)
  have HQ := Lib.hid (HQ.out.kept k)
  have Rvu := Lib.hid (Rvu.out.kept k)
  have Rvf := Lib.hid (Rvf.out.kept k)
  have Rvt := Lib.hid ho.reads
  clear k ho
  clear y0 y1 y2
  have y0 := HQ.out.at_ 0 _ rfl
  have y1 := HQ.out.at_ 1 _ rfl
  have y2 := HQ.out.at_ 2 _ rfl
  go_wp2_with fail
  have HR := usedF_any (some ⟨g1, 0, none⟩) (some ⟨g2, 0, none⟩) none 2 2 2 2 0 0 kNL kPL ⟨#[99]⟩ _ HRN.out HRP.out k_lowN
  rw [k_none] at HR
  refine HR.mono ?_
  clear HR
  rintro e w10 ⟨vn, rfl, ho, k⟩
  have K := Lib.hid (K.out.trans k)
  have HRN := Lib.hid (HRN.out.kept k)
  have HRP := Lib.hid (HRP.out.kept k)
  have HQ := Lib.hid (HQ.out.kept k)
  have Rvu := Lib.hid (Rvu.out.kept k)
  have Rvf := Lib.hid (Rvf.out.kept k)
  have Rvt := Lib.hid (Rvt.out.kept k)
  clear k ho
  clear y0 y1 y2
  have y0 := HQ.out.at_ 0 _ rfl
  have y1 := HQ.out.at_ 1 _ rfl
  have y2 := HQ.out.at_ 2 _ rfl
  go_wp2_with fail
  refine (moveSt_any (some ⟨g1, 0, none⟩) (some ⟨g2, 0, none⟩) none 2 2 2 2 0 0 kNL kPL [] ⟨#[121]⟩ ⟨#[98]⟩ _ (by decide : (1 : Nat) ≤ maxLen) HRN.out HRP.out (buds_none _) (by decide) (by decide) (by decide) (by decide) (by decide) (by decide) k_low).mono ?_
  rintro e w11 ⟨a1, m1, c1, a2, m2, c2, a3, m3, c3, rfl, ho, k⟩
  have K := Lib.hid (K.out.trans k)
  have HRN := Lib.hid (HRN.out.kept k)
  have HRP := Lib.hid (HRP.out.kept k)
  have HQ := Lib.hid (HQ.out.kept k)
  have Rvu := Lib.hid (Rvu.out.kept k)
  have Rvf := Lib.hid (Rvf.out.kept k)
  have Rvt := Lib.hid (Rvt.out.kept k)
  have RM := Lib.hid (show CluR w11 (.agg #[.slice a1 m1 c1, .slice a2 m2 c2, .slice a3 m3 c3]) kM from ho.toR)
  clear k ho
  clear y0 y1 y2
  have y0 := HQ.out.at_ 0 _ rfl
  have y1 := HQ.out.at_ 1 _ rfl
  have y2 := HQ.out.at_ 2 _ rfl
  obtain ⟨wm, hwm⟩ : ∃ W, w11.alloc (.cells #[.slice a1 m1 c1, .slice a2 m2 c2, .slice a3 m3 c3] 26) = W := ⟨_, rfl⟩
  have hkm : Kept w11 wm := by rw [← hwm]; exact kept_alloc _ _
  have HQM := Lib.hid (show CellsN w11.heap.size [.slice a1 m1 c1, .slice a2 m2 c2, .slice a3 m3 c3] wm from freshN w11 (.slice a1 m1 c1) [.slice a2 m2 c2, .slice a3 m3 c3] 26 wm (by rw [hwm]; exact Kept.refl _))
  have K := Lib.hid (K.out.trans hkm)
  have HRN := Lib.hid (HRN.out.kept hkm)
  have HRP := Lib.hid (HRP.out.kept hkm)
  have HQ := Lib.hid (HQ.out.kept hkm)
  have Rvu := Lib.hid (Rvu.out.kept hkm)
  have Rvf := Lib.hid (Rvf.out.kept hkm)
  have Rvt := Lib.hid (Rvt.out.kept hkm)
  have RM := Lib.hid (RM.out.kept hkm)
  clear hkm
  clear y0 y1 y2
  have y0 := HQ.out.at_ 0 _ rfl
  have y1 := HQ.out.at_ 1 _ rfl
  have y2 := HQ.out.at_ 2 _ rfl
  go_upto_region 7 with fail
  try rw [hwm]
  clear hwm
  obtain ⟨gm, hgm⟩ : ∃ g, w11.heap.size = g := ⟨_, rfl⟩
  rw [hgm] at HQM
  try rw [hgm]
  clear hgm
  go_cut [11] from 43 to 46 (fun s11 wx => ∃ q, s11 = .pointer (some ⟨q, 0, none⟩) ∧ Hid (∃ x1 p1 q1 x2 p2 q2 x3 p3 q3, CellsN q [.slice x1 p1 q1, .slice x2 p2 q2, .slice x3 p3 q3] wx ∧ CluR wx (.agg #[.slice x1 p1 q1, .slice x2 p2 q2, .slice x3 p3 q3]) kF ∧ Kept wm wx))
  case first =>
    have HS := Lib.hid (show ∀ W, Kept wm W → W.cell? ⟨g2 + 1, 0, none⟩ = some (.slice (some ⟨g1, 0, none⟩) 2 2) ∧ W.cell? ⟨g2 + 1, 1, none⟩ = some (.slice (some ⟨g2, 0, none⟩) 2 2) ∧ W.cell? ⟨g2 + 1, 2, none⟩ = some (.slice none 0 0) from fun W k => by
      have h := HQ.out.kept k
      exact ⟨h.at_ 0 _ rfl, h.at_ 1 _ rfl, h.at_ 2 _ rfl⟩)
    clear y0 y1 y2
    refine wp_region_held_drew (S := fun W => W.cell? ⟨g2 + 1, 0, none⟩ = some (.slice (some ⟨g1, 0, none⟩) 2 2) ∧ W.cell? ⟨g2 + 1, 1, none⟩ = some (.slice (some ⟨g2, 0, none⟩) 2 2) ∧ W.cell? ⟨g2 + 1, 2, none⟩ = some (.slice none 0 0)) (by kernel_rfl) (HS.out _ (Kept.drew _)) (fun hHeld => ?_)
    refine wpAnyH_take (i := 0) (v := ?_) (by rw [List.getElem?_toArray]; exact rfl) (by kernel_rfl) (by kernel_rfl) (by kernel_rfl) (by exact fun _ _ _ h => h) (Or.inl ⟨by rfl, (by intro W hSw; obtain ⟨o0, o1, o2⟩ := hSw; go_simp <;> with_reducible rfl)⟩) (by assumption) ?_
    try simp only [Act.put, List.setIfInBounds_toArray, List.set_cons_zero, List.set_cons_succ]
    have J0 := Lib.hid (Kept.drew wm)
    refine wpAnyH_ready (rs := [1, 3]) (by kernel_rfl) (by simp) (AllReadyH.cons (by rw [List.getElem?_toArray]; exact rfl) (fun K9 hK9 => ?_) (AllReadyH.cons (by rw [List.getElem?_toArray]; exact rfl) (fun K9 hK9 => ?_) AllReadyH.nil))
    · go_simp
      refine (lawP_any ⟨#[122]⟩ 4 ⟨#[97]⟩ (by decide : (-9223372036854775808 : Int) ≤ 4 ∧ (4 : Int) ≤ 9223372036854775807) (by decide : (1 : Nat) ≤ maxLen) (by decide : (1 : Nat) ≤ maxLen) _).mono ?_
      rintro e x1w ⟨b9, n9, d9, rfl, hz, k⟩
      have J0 := Lib.hid (J0.out.trans k)
      have HZ := Lib.hid hz
      clear k hz
      refine hK9.out _ _ (HS.out _ J0.out) (fun hHeld31 => ?_)
      clear hK9 K9
      try simp only [Act.put, List.setIfInBounds_toArray, List.set_cons_zero, List.set_cons_succ]
      refine wpAnyH_ready (rs := [2, 3]) (by kernel_rfl) (by simp) (AllReadyH.cons (by rw [List.getElem?_toArray]; exact rfl) (fun K9 hK9 => ?_) (AllReadyH.cons (by rw [List.getElem?_toArray]; exact rfl) (fun K9 hK9 => ?_) AllReadyH.nil))
      · go_simp
        have HPU := putSt_any (some ⟨g1, 0, none⟩) (some ⟨g2, 0, none⟩) none 2 2 2 2 0 0 kNL kPL [] (podK ⟨#[122]⟩ 4 ⟨#[97]⟩) b9 none none none n9 d9 0 0 0 0 0 0 x1w (HRN.out.kept J0.out) (HRP.out.kept J0.out) (buds_none _) (by decide) (by decide) (by decide) (by decide) (by decide) (by decide) k_low HZ.out (k_lowK _ _ _)
        refine HPU.mono ?_
        clear HPU
        rintro e x2w ⟨x1, p1, q1, x2, p2, q2, x3, p3, q3, rfl, ho, k⟩
        have J0 := Lib.hid (J0.out.trans k)
        have OWF := Lib.hid ho
        clear k ho HZ
        refine hK9.out _ _ (HS.out _ J0.out) (fun hHeld31 => ?_)
        clear hK9 K9
        try simp only [Act.put, List.setIfInBounds_toArray, List.set_cons_zero, List.set_cons_succ]
        refine wpAnyH_ready (rs := [3]) (by kernel_rfl) (by simp) (AllReadyH.cons (by rw [List.getElem?_toArray]; exact rfl) (fun K9 hK9 => ?_) AllReadyH.nil)
        go_simp
        have HKA := Lib.hid (kept_alloc x2w (.cells #[.slice none 0 0, .slice none 0 0, .slice none 0 0] 26))
        have HQA := Lib.hid (freshN x2w (.slice none 0 0) [.slice none 0 0, .slice none 0 0] 26 _ (Kept.refl _))
        have HQB := Lib.hid (show wm.heap.size ≤ x2w.heap.size from J0.out.size)
        have J0 := Lib.hid (J0.out.trans HKA.out)
        have OWF := Lib.hid ((OWF.out.more (q := x2w.heap.size) HKA.out (Nat.le_refl _)).less (Nat.le_refl _) (S' := fun b => b = x2w.heap.size) fun b e => .inr e)
        refine hK9.out _ _ (HS.out _ J0.out) (fun hHeldA => ?_)
        clear hK9 K9
        try simp only [Act.put, List.setIfInBounds_toArray, List.set_cons_zero, List.set_cons_succ]
        obtain ⟨wa, hwa⟩ : ∃ W, x2w.alloc (.cells #[.slice none 0 0, .slice none 0 0, .slice none 0 0] 26) = W := ⟨_, rfl⟩
        rw [hwa] at J0 HQA OWF ⊢
        obtain ⟨qa, hqa⟩ : ∃ q, x2w.heap.size = q := ⟨_, rfl⟩
        rw [hqa] at HQB
        rw [hqa] at HQA OWF ⊢
        clear hwa hqa
        have z0 := HQA.out.at_ 0 _ rfl
        have z1 := HQA.out.at_ 1 _ rfl
        have z2 := HQA.out.at_ 2 _ rfl
        have f0 := HQA.out.free 0
        have f1 := HQA.out.free 1
        have f2 := HQA.out.free 2
        have PP := Lib.hid (putN (vs := [.slice x1 p1 q1, .slice x2 p2 q2, .slice x3 p3 q3]) HQA.out rfl)
        refine wpAnyH_ready (rs := [4]) (by kernel_rfl) (by simp) (AllReadyH.cons (by rw [List.getElem?_toArray]; exact rfl) (fun K9 hK9 => ?_) AllReadyH.nil)
        go_simp
        obtain ⟨WE, hWE⟩ : ∃ W, wa.setCells qa 0 [.slice x1 p1 q1, .slice x2 p2 q2, .slice x3 p3 q3] = W := ⟨_, rfl⟩
        have hWE2 : (((wa.setCell ⟨qa, 0, none⟩ (.slice x1 p1 q1)).setCell ⟨qa, 1, none⟩ (.slice x2 p2 q2)).setCell ⟨qa, 2, none⟩ (.slice x3 p3 q3)) = WE := hWE
        rw [hWE] at PP
        try rw [hWE2]
        have RE := Lib.hid (show CluR WE (.agg #[.slice x1 p1 q1, .slice x2 p2 q2, .slice x3 p3 q3]) kF from (OWF.out.step (show GOff (fun b => b = qa) wa WE by rw [← hWE]; exact GOff.cells (S := fun b => b = qa) qa rfl _ _ _)).toR)
        have JE := Lib.hid (show Kept wm WE by rw [← hWE]; exact setCells_below qa _ _ _ _ _ HQB.out J0.out)
        clear hWE hWE2 z0 f0 z1 f1 z2 f2
        refine hK9.out _ _ (HS.out _ JE.out) (fun hHeldS => ?_)
        clear hK9 K9
        try simp only [Act.put, List.setIfInBounds_toArray, List.set_cons_zero, List.set_cons_succ]
        refine wpAnyH_done (by kernel_rfl) ?_ _
        go_wp2
        go_meet
        case rel => exact ⟨qa, rfl, x1, p1, q1, x2, p2, q2, x3, p3, q3, PP.out.cells, RE.out, JE.out⟩
      · go_simp
        have HZ := Lib.hid (HZ.out.kept (kept_alloc x1w (.cells #[.slice none 0 0, .slice none 0 0, .slice none 0 0] 26)))
        have HKA := Lib.hid (kept_alloc x1w (.cells #[.slice none 0 0, .slice none 0 0, .slice none 0 0] 26))
        have HQA := Lib.hid (freshN x1w (.slice none 0 0) [.slice none 0 0, .slice none 0 0] 26 _ (Kept.refl _))
        have HQB := Lib.hid (show wm.heap.size ≤ x1w.heap.size from J0.out.size)
        have J0 := Lib.hid (J0.out.trans HKA.out)
        refine hK9.out _ _ (HS.out _ J0.out) (fun hHeldA => ?_)
        clear hK9 K9
        try simp only [Act.put, List.setIfInBounds_toArray, List.set_cons_zero, List.set_cons_succ]
        obtain ⟨wa, hwa⟩ : ∃ W, x1w.alloc (.cells #[.slice none 0 0, .slice none 0 0, .slice none 0 0] 26) = W := ⟨_, rfl⟩
        rw [hwa] at J0 HQA ⊢
        obtain ⟨qa, hqa⟩ : ∃ q, x1w.heap.size = q := ⟨_, rfl⟩
        rw [hqa] at HQB
        rw [hqa] at HQA ⊢
        rw [hwa] at HZ
        clear hwa hqa
        refine wpAnyH_ready (rs := [2]) (by kernel_rfl) (by simp) (AllReadyH.cons (by rw [List.getElem?_toArray]; exact rfl) (fun K9 hK9 => ?_) AllReadyH.nil)
        go_simp
        have HLT := HQA.out.lt
        have HPU := putSt_any (some ⟨g1, 0, none⟩) (some ⟨g2, 0, none⟩) none 2 2 2 2 0 0 kNL kPL [] (podK ⟨#[122]⟩ 4 ⟨#[97]⟩) b9 none none none n9 d9 0 0 0 0 0 0 wa (HRN.out.kept J0.out) (HRP.out.kept J0.out) (buds_none _) (by decide) (by decide) (by decide) (by decide) (by decide) (by decide) k_low HZ.out (k_lowK _ _ _)
        refine HPU.mono ?_
        clear HPU
        rintro e x2w ⟨x1, p1, q1, x2, p2, q2, x3, p3, q3, rfl, ho, k⟩
        have J0 := Lib.hid (J0.out.trans k)
        have OWF := Lib.hid (ho.less (Nat.le_refl _) (S' := fun b => b = qa) fun b e => by subst e; exact HLT)
        have HQA := Lib.hid (HQA.out.kept k)
        clear HLT
        clear k ho HZ
        refine hK9.out _ _ (HS.out _ J0.out) (fun hHeld31 => ?_)
        clear hK9 K9
        try simp only [Act.put, List.setIfInBounds_toArray, List.set_cons_zero, List.set_cons_succ]
        have z0 := HQA.out.at_ 0 _ rfl
        have z1 := HQA.out.at_ 1 _ rfl
        have z2 := HQA.out.at_ 2 _ rfl
        have f0 := HQA.out.free 0
        have f1 := HQA.out.free 1
        have f2 := HQA.out.free 2
        have PP := Lib.hid (putN (vs := [.slice x1 p1 q1, .slice x2 p2 q2, .slice x3 p3 q3]) HQA.out rfl)
        refine wpAnyH_ready (rs := [4]) (by kernel_rfl) (by simp) (AllReadyH.cons (by rw [List.getElem?_toArray]; exact rfl) (fun K9 hK9 => ?_) AllReadyH.nil)
        go_simp
        obtain ⟨WE, hWE⟩ : ∃ W, x2w.setCells qa 0 [.slice x1 p1 q1, .slice x2 p2 q2, .slice x3 p3 q3] = W := ⟨_, rfl⟩
        have hWE2 : (((x2w.setCell ⟨qa, 0, none⟩ (.slice x1 p1 q1)).setCell ⟨qa, 1, none⟩ (.slice x2 p2 q2)).setCell ⟨qa, 2, none⟩ (.slice x3 p3 q3)) = WE := hWE
        rw [hWE] at PP
        try rw [hWE2]
        have RE := Lib.hid (show CluR WE (.agg #[.slice x1 p1 q1, .slice x2 p2 q2, .slice x3 p3 q3]) kF from (OWF.out.step (show GOff (fun b => b = qa) x2w WE by rw [← hWE]; exact GOff.cells (S := fun b => b = qa) qa rfl _ _ _)).toR)
        have JE := Lib.hid (show Kept wm WE by rw [← hWE]; exact setCells_below qa _ _ _ _ _ HQB.out J0.out)
        clear hWE hWE2 z0 f0 z1 f1 z2 f2
        refine hK9.out _ _ (HS.out _ JE.out) (fun hHeldS => ?_)
        clear hK9 K9
        try simp only [Act.put, List.setIfInBounds_toArray, List.set_cons_zero, List.set_cons_succ]
        refine wpAnyH_done (by kernel_rfl) ?_ _
        go_wp2
        go_meet
        case rel => exact ⟨qa, rfl, x1, p1, q1, x2, p2, q2, x3, p3, q3, PP.out.cells, RE.out, JE.out⟩
    · go_simp
      have HQA := Lib.hid (freshN wm (.slice none 0 0) [.slice none 0 0, .slice none 0 0] 26 _ (Kept.drew (wm.alloc (.cells #[.slice none 0 0, .slice none 0 0, .slice none 0 0] 26))))
      have J0 := Lib.hid ((kept_alloc wm (.cells #[.slice none 0 0, .slice none 0 0, .slice none 0 0] 26)).trans (Kept.drew _))
      refine hK9.out _ _ (HS.out _ J0.out) (fun hHeldA => ?_)
      clear hK9 K9
      try simp only [Act.put, List.setIfInBounds_toArray, List.set_cons_zero, List.set_cons_succ]
      obtain ⟨wa, hwa⟩ : ∃ W, (wm.alloc (.cells #[.slice none 0 0, .slice none 0 0, .slice none 0 0] 26)).drew = W := ⟨_, rfl⟩
      rw [hwa] at J0 HQA ⊢
      obtain ⟨qa, hqa⟩ : ∃ q, wm.heap.size = q := ⟨_, rfl⟩
      have HQB := Lib.hid (Nat.le_of_eq hqa)
      rw [hqa] at HQA ⊢
      clear hwa hqa
      refine wpAnyH_ready (rs := [1]) (by kernel_rfl) (by simp) (AllReadyH.cons (by rw [List.getElem?_toArray]; exact rfl) (fun K9 hK9 => ?_) AllReadyH.nil)
      go_simp
      refine (lawP_any ⟨#[122]⟩ 4 ⟨#[97]⟩ (by decide : (-9223372036854775808 : Int) ≤ 4 ∧ (4 : Int) ≤ 9223372036854775807) (by decide : (1 : Nat) ≤ maxLen) (by decide : (1 : Nat) ≤ maxLen) _).mono ?_
      rintro e x1w ⟨b9, n9, d9, rfl, hz, k⟩
      have J0 := Lib.hid (J0.out.trans k)
      have HZ := Lib.hid hz
      have HQA := Lib.hid (HQA.out.kept k)
      clear k hz
      refine hK9.out _ _ (HS.out _ J0.out) (fun hHeld31 => ?_)
      clear hK9 K9
      try simp only [Act.put, List.setIfInBounds_toArray, List.set_cons_zero, List.set_cons_succ]
      refine wpAnyH_ready (rs := [2]) (by kernel_rfl) (by simp) (AllReadyH.cons (by rw [List.getElem?_toArray]; exact rfl) (fun K9 hK9 => ?_) AllReadyH.nil)
      go_simp
      have HLT := HQA.out.lt
      have HPU := putSt_any (some ⟨g1, 0, none⟩) (some ⟨g2, 0, none⟩) none 2 2 2 2 0 0 kNL kPL [] (podK ⟨#[122]⟩ 4 ⟨#[97]⟩) b9 none none none n9 d9 0 0 0 0 0 0 x1w (HRN.out.kept J0.out) (HRP.out.kept J0.out) (buds_none _) (by decide) (by decide) (by decide) (by decide) (by decide) (by decide) k_low HZ.out (k_lowK _ _ _)
      refine HPU.mono ?_
      clear HPU
      rintro e x2w ⟨x1, p1, q1, x2, p2, q2, x3, p3, q3, rfl, ho, k⟩
      have J0 := Lib.hid (J0.out.trans k)
      have OWF := Lib.hid (ho.less (Nat.le_refl _) (S' := fun b => b = qa) fun b e => by subst e; exact HLT)
      have HQA := Lib.hid (HQA.out.kept k)
      clear HLT
      clear k ho HZ
      refine hK9.out _ _ (HS.out _ J0.out) (fun hHeld31 => ?_)
      clear hK9 K9
      try simp only [Act.put, List.setIfInBounds_toArray, List.set_cons_zero, List.set_cons_succ]
      have z0 := HQA.out.at_ 0 _ rfl
      have z1 := HQA.out.at_ 1 _ rfl
      have z2 := HQA.out.at_ 2 _ rfl
      have f0 := HQA.out.free 0
      have f1 := HQA.out.free 1
      have f2 := HQA.out.free 2
      have PP := Lib.hid (putN (vs := [.slice x1 p1 q1, .slice x2 p2 q2, .slice x3 p3 q3]) HQA.out rfl)
      refine wpAnyH_ready (rs := [4]) (by kernel_rfl) (by simp) (AllReadyH.cons (by rw [List.getElem?_toArray]; exact rfl) (fun K9 hK9 => ?_) AllReadyH.nil)
      go_simp
      obtain ⟨WE, hWE⟩ : ∃ W, x2w.setCells qa 0 [.slice x1 p1 q1, .slice x2 p2 q2, .slice x3 p3 q3] = W := ⟨_, rfl⟩
      have hWE2 : (((x2w.setCell ⟨qa, 0, none⟩ (.slice x1 p1 q1)).setCell ⟨qa, 1, none⟩ (.slice x2 p2 q2)).setCell ⟨qa, 2, none⟩ (.slice x3 p3 q3)) = WE := hWE
      rw [hWE] at PP
      try rw [hWE2]
      have RE := Lib.hid (show CluR WE (.agg #[.slice x1 p1 q1, .slice x2 p2 q2, .slice x3 p3 q3]) kF from (OWF.out.step (show GOff (fun b => b = qa) x2w WE by rw [← hWE]; exact GOff.cells (S := fun b => b = qa) qa rfl _ _ _)).toR)
      have JE := Lib.hid (show Kept wm WE by rw [← hWE]; exact setCells_below qa _ _ _ _ _ HQB.out J0.out)
      clear hWE hWE2 z0 f0 z1 f1 z2 f2
      refine hK9.out _ _ (HS.out _ JE.out) (fun hHeldS => ?_)
      clear hK9 K9
      try simp only [Act.put, List.setIfInBounds_toArray, List.set_cons_zero, List.set_cons_succ]
      refine wpAnyH_done (by kernel_rfl) ?_ _
      go_wp2
      go_meet
      case rel => exact ⟨qa, rfl, x1, p1, q1, x2, p2, q2, x3, p3, q3, PP.out.cells, RE.out, JE.out⟩
  case rest =>
    obtain ⟨gf, rfl, hc⟩ := hcut
    obtain ⟨x1, p1, q1, x2, p2, q2, x3, p3, q3, hqf, hrf, hkc⟩ := hc.out
    clear hc
    have K := Lib.hid (K.out.trans hkc)
    have HRN := Lib.hid (HRN.out.kept hkc)
    have HRP := Lib.hid (HRP.out.kept hkc)
    have HQ := Lib.hid (HQ.out.kept hkc)
    have Rvu := Lib.hid (Rvu.out.kept hkc)
    have Rvf := Lib.hid (Rvf.out.kept hkc)
    have Rvt := Lib.hid (Rvt.out.kept hkc)
    have HQM := Lib.hid (HQM.out.kept hkc)
    have RM := Lib.hid (RM.out.kept hkc)
    have HQF := Lib.hid hqf
    have RF := Lib.hid hrf
    clear hqf hrf hkc
    obtain ⟨v1, v2, v3, hu, hat⟩ := RM.out
    cases hu
    obtain ⟨am, cm, em, l1, l2, hpm⟩ := hat.pods
    injection em with e1 e2 e3
    subst e1 e2 e3
    have HPM := Lib.hid hpm
    clear hat l1 l2 hpm
    obtain ⟨v1, v2, v3, hu, hat⟩ := RF.out
    cases hu
    obtain ⟨af, cf, ef, -⟩ := hat.pods
    injection ef with e1 e2 e3
    rw [k_len] at e2
    subst e2
    clear hat e1 e3
    have ym0 := HQM.out.at_ 0 _ rfl
    have ym1 := HQM.out.at_ 1 _ rfl
    have ym2 := HQM.out.at_ 2 _ rfl
    go_wp2_with fail
    refine (onSt_any _ _ _ _ _ _ _ _ _ kM.pods ⟨#[97]⟩ _ HPM.out k_lowM (by rw [show kM.pods.length = 2 from by kernel_rfl]; decide)).mono ?_
    rintro e w20 ⟨vo, rfl, hpo, k⟩
    rw [k_on] at hpo
    obtain ⟨ao, co, rfl, l1, l2, hpo⟩ := hpo
    have K := Lib.hid (K.out.trans k)
    have HRN := Lib.hid (HRN.out.kept k)
    have HRP := Lib.hid (HRP.out.kept k)
    have HQ := Lib.hid (HQ.out.kept k)
    have Rvu := Lib.hid (Rvu.out.kept k)
    have Rvf := Lib.hid (Rvf.out.kept k)
    have Rvt := Lib.hid (Rvt.out.kept k)
    have HQM := Lib.hid (HQM.out.kept k)
    have RM := Lib.hid (RM.out.kept k)
    have HQF := Lib.hid (HQF.out.kept k)
    have RF := Lib.hid (RF.out.kept k)
    have HPO := Lib.hid hpo
    clear k hpo HPM ym0 ym1 ym2
    try clear y0 y1 y2
    have y0 := HQ.out.at_ 0 _ rfl
    have y1 := HQ.out.at_ 1 _ rfl
    have y2 := HQ.out.at_ 2 _ rfl
    go_wp2_with fail
    refine (dropSt_any (some ⟨g1, 0, none⟩) (some ⟨g2, 0, none⟩) none 2 2 2 2 0 0 kNL kPL [] ⟨#[120]⟩ _ HRN.out HRP.out (buds_none _) (by decide) (by decide) (by decide) (by decide) (by decide) (by decide) k_low).mono ?_
    rintro e w21 ⟨d1, h1, t1, d2, h2, t2, d3, h3, t3, rfl, ho, k⟩
    have K := Lib.hid (K.out.trans k)
    have HRN := Lib.hid (HRN.out.kept k)
    have HRP := Lib.hid (HRP.out.kept k)
    have HQ := Lib.hid (HQ.out.kept k)
    have Rvu := Lib.hid (Rvu.out.kept k)
    have Rvf := Lib.hid (Rvf.out.kept k)
    have Rvt := Lib.hid (Rvt.out.kept k)
    have HQM := Lib.hid (HQM.out.kept k)
    have RM := Lib.hid (RM.out.kept k)
    have HQF := Lib.hid (HQF.out.kept k)
    have RF := Lib.hid (RF.out.kept k)
    have HPO := Lib.hid (HPO.out.kept k)
    have RD := Lib.hid (show CluR w21 (.agg #[.slice d1 h1 t1, .slice d2 h2 t2, .slice d3 h3 t3]) kD from ho.toR)
    obtain ⟨v1, v2, v3, hu, hat⟩ := RD.out
    cases hu
    obtain ⟨af, cf, ef, -⟩ := hat.pods
    injection ef with e1 e2 e3
    rw [k_drop] at e2
    subst e2
    clear hat e1 e3 k ho
    obtain ⟨w22, hw22⟩ : ∃ W, w21.alloc (.cells #[.slice d1 h1 t1, .slice d2 1 t2, .slice d3 h3 t3] 26) = W := ⟨_, rfl⟩
    have hk22 : Kept w21 w22 := by rw [← hw22]; exact kept_alloc _ _
    have HQD := Lib.hid (show CellsN w21.heap.size [.slice d1 h1 t1, .slice d2 1 t2, .slice d3 h3 t3] w22 from freshN w21 (.slice d1 h1 t1) [.slice d2 1 t2, .slice d3 h3 t3] 26 w22 (by rw [hw22]; exact Kept.refl _))
    have K := Lib.hid (K.out.trans hk22)
    have HRN := Lib.hid (HRN.out.kept hk22)
    have HRP := Lib.hid (HRP.out.kept hk22)
    have HQ := Lib.hid (HQ.out.kept hk22)
    have Rvu := Lib.hid (Rvu.out.kept hk22)
    have Rvf := Lib.hid (Rvf.out.kept hk22)
    have Rvt := Lib.hid (Rvt.out.kept hk22)
    have HQM := Lib.hid (HQM.out.kept hk22)
    have RM := Lib.hid (RM.out.kept hk22)
    have HQF := Lib.hid (HQF.out.kept hk22)
    have RF := Lib.hid (RF.out.kept hk22)
    have HPO := Lib.hid (HPO.out.kept hk22)
    clear hk22 RD
    obtain ⟨bo, oo, rfl⟩ := HPO.out.form.resolve_left (by decide)
    clear y0 y1 y2
    have y0 := HQ.out.at_ 0 _ rfl
    have y1 := HQ.out.at_ 1 _ rfl
    have y2 := HQ.out.at_ 2 _ rfl
    have ym0 := HQM.out.at_ 0 _ rfl
    have ym1 := HQM.out.at_ 1 _ rfl
    have ym2 := HQM.out.at_ 2 _ rfl
    have yf0 := HQF.out.at_ 0 _ rfl
    have yf1 := HQF.out.at_ 1 _ rfl
    have yf2 := HQF.out.at_ 2 _ rfl
    have yd0 := HQD.out.at_ 0 _ rfl
    have yd1 := HQD.out.at_ 1 _ rfl
    have yd2 := HQD.out.at_ 2 _ rfl
    obtain ⟨no, ra1, rm1, rc1, ra2, rm2, rc2, ra3, rm3, rc3, ra4, rm4, rc4, hno, -, -, yo, -⟩ := HPO.out.at_ (k := 0) (by decide)
    obtain rfl : podK ⟨#[120]⟩ 3 ⟨#[97]⟩ = no := Option.some.inj hno
    obtain ⟨no, ra1, rm1, rc1, ra2, rm2, rc2, ra3, rm3, rc3, ra4, rm4, rc4, hno2, -, -, -, -, -, -, -, -, -, -, -, ys, -⟩ := HRP.out.at_ (k := 1) (by decide)
    obtain rfl : podK ⟨#[121]⟩ 4 ⟨#[97]⟩ = no := Option.some.inj hno2
    rw [Nat.zero_mul, Nat.add_zero] at yo
    rw [Nat.zero_add] at ys
    dsimp only [podK] at yo ys
    clear hno hno2
    go_wp2_with fail
    try rw [hw22]
    try (go_wp2_with fail)
    try rw [hw22]
    clear hw22
    refine (Vec.getR Rvu.out (n := ⟨#[99, 112, 117]⟩) (c := 7) (by kernel_rfl)).mono ?_
    rintro e w23 ⟨rfl, k⟩
    have K := Lib.hid (K.out.trans k)
    have HRN := Lib.hid (HRN.out.kept k)
    have HRP := Lib.hid (HRP.out.kept k)
    have HQ := Lib.hid (HQ.out.kept k)
    have Rvu := Lib.hid (Rvu.out.kept k)
    have Rvf := Lib.hid (Rvf.out.kept k)
    have Rvt := Lib.hid (Rvt.out.kept k)
    have HQM := Lib.hid (HQM.out.kept k)
    have RM := Lib.hid (RM.out.kept k)
    have HQF := Lib.hid (HQF.out.kept k)
    have RF := Lib.hid (RF.out.kept k)
    have HPO := Lib.hid (HPO.out.kept k)
    have HQD := Lib.hid (HQD.out.kept k)
    clear k
    clear y0 y1 y2 ym0 ym1 ym2 yf0 yf1 yf2 yd0 yd1 yd2 yo ys
    have y0 := HQ.out.at_ 0 _ rfl
    have y1 := HQ.out.at_ 1 _ rfl
    have y2 := HQ.out.at_ 2 _ rfl
    have ym0 := HQM.out.at_ 0 _ rfl
    have ym1 := HQM.out.at_ 1 _ rfl
    have ym2 := HQM.out.at_ 2 _ rfl
    have yf0 := HQF.out.at_ 0 _ rfl
    have yf1 := HQF.out.at_ 1 _ rfl
    have yf2 := HQF.out.at_ 2 _ rfl
    have yd0 := HQD.out.at_ 0 _ rfl
    have yd1 := HQD.out.at_ 1 _ rfl
    have yd2 := HQD.out.at_ 2 _ rfl
    obtain ⟨no, ra1, rm1, rc1, ra2, rm2, rc2, ra3, rm3, rc3, ra4, rm4, rc4, hno, -, -, yo, -⟩ := HPO.out.at_ (k := 0) (by decide)
    obtain rfl : podK ⟨#[120]⟩ 3 ⟨#[97]⟩ = no := Option.some.inj hno
    obtain ⟨no, ra1, rm1, rc1, ra2, rm2, rc2, ra3, rm3, rc3, ra4, rm4, rc4, hno2, -, -, -, -, -, -, -, -, -, -, -, ys, -⟩ := HRP.out.at_ (k := 1) (by decide)
    obtain rfl : podK ⟨#[121]⟩ 4 ⟨#[97]⟩ = no := Option.some.inj hno2
    rw [Nat.zero_mul, Nat.add_zero] at yo
    rw [Nat.zero_add] at ys
    dsimp only [podK] at yo ys
    clear hno hno2
    go_wp2_with fail
    refine (Vec.getR Rvf.out (n := ⟨#[99, 112, 117]⟩) (c := 3) (by kernel_rfl)).mono ?_
    rintro e w24 ⟨rfl, k⟩
    have K := Lib.hid (K.out.trans k)
    have HRN := Lib.hid (HRN.out.kept k)
    have HRP := Lib.hid (HRP.out.kept k)
    have HQ := Lib.hid (HQ.out.kept k)
    have Rvu := Lib.hid (Rvu.out.kept k)
    have Rvf := Lib.hid (Rvf.out.kept k)
    have Rvt := Lib.hid (Rvt.out.kept k)
    have HQM := Lib.hid (HQM.out.kept k)
    have RM := Lib.hid (RM.out.kept k)
    have HQF := Lib.hid (HQF.out.kept k)
    have RF := Lib.hid (RF.out.kept k)
    have HPO := Lib.hid (HPO.out.kept k)
    have HQD := Lib.hid (HQD.out.kept k)
    clear k
    clear y0 y1 y2 ym0 ym1 ym2 yf0 yf1 yf2 yd0 yd1 yd2 yo ys
    have y0 := HQ.out.at_ 0 _ rfl
    have y1 := HQ.out.at_ 1 _ rfl
    have y2 := HQ.out.at_ 2 _ rfl
    have ym0 := HQM.out.at_ 0 _ rfl
    have ym1 := HQM.out.at_ 1 _ rfl
    have ym2 := HQM.out.at_ 2 _ rfl
    have yf0 := HQF.out.at_ 0 _ rfl
    have yf1 := HQF.out.at_ 1 _ rfl
    have yf2 := HQF.out.at_ 2 _ rfl
    have yd0 := HQD.out.at_ 0 _ rfl
    have yd1 := HQD.out.at_ 1 _ rfl
    have yd2 := HQD.out.at_ 2 _ rfl
    obtain ⟨no, ra1, rm1, rc1, ra2, rm2, rc2, ra3, rm3, rc3, ra4, rm4, rc4, hno, -, -, yo, -⟩ := HPO.out.at_ (k := 0) (by decide)
    obtain rfl : podK ⟨#[120]⟩ 3 ⟨#[97]⟩ = no := Option.some.inj hno
    obtain ⟨no, ra1, rm1, rc1, ra2, rm2, rc2, ra3, rm3, rc3, ra4, rm4, rc4, hno2, -, -, -, -, -, -, -, -, -, -, -, ys, -⟩ := HRP.out.at_ (k := 1) (by decide)
    obtain rfl : podK ⟨#[121]⟩ 4 ⟨#[97]⟩ = no := Option.some.inj hno2
    rw [Nat.zero_mul, Nat.add_zero] at yo
    rw [Nat.zero_add] at ys
    dsimp only [podK] at yo ys
    clear hno hno2
    go_wp2_with fail
    refine (Vec.getR Rvt.out (n := ⟨#[99, 112, 117]⟩) (c := 15) (by kernel_rfl)).mono ?_
    rintro e w25 ⟨rfl, k⟩
    have K := Lib.hid (K.out.trans k)
    have HRN := Lib.hid (HRN.out.kept k)
    have HRP := Lib.hid (HRP.out.kept k)
    have HQ := Lib.hid (HQ.out.kept k)
    have Rvu := Lib.hid (Rvu.out.kept k)
    have Rvf := Lib.hid (Rvf.out.kept k)
    have Rvt := Lib.hid (Rvt.out.kept k)
    have HQM := Lib.hid (HQM.out.kept k)
    have RM := Lib.hid (RM.out.kept k)
    have HQF := Lib.hid (HQF.out.kept k)
    have RF := Lib.hid (RF.out.kept k)
    have HPO := Lib.hid (HPO.out.kept k)
    have HQD := Lib.hid (HQD.out.kept k)
    clear k
    clear y0 y1 y2 ym0 ym1 ym2 yf0 yf1 yf2 yd0 yd1 yd2 yo ys
    have y0 := HQ.out.at_ 0 _ rfl
    have y1 := HQ.out.at_ 1 _ rfl
    have y2 := HQ.out.at_ 2 _ rfl
    have ym0 := HQM.out.at_ 0 _ rfl
    have ym1 := HQM.out.at_ 1 _ rfl
    have ym2 := HQM.out.at_ 2 _ rfl
    have yf0 := HQF.out.at_ 0 _ rfl
    have yf1 := HQF.out.at_ 1 _ rfl
    have yf2 := HQF.out.at_ 2 _ rfl
    have yd0 := HQD.out.at_ 0 _ rfl
    have yd1 := HQD.out.at_ 1 _ rfl
    have yd2 := HQD.out.at_ 2 _ rfl
    obtain ⟨no, ra1, rm1, rc1, ra2, rm2, rc2, ra3, rm3, rc3, ra4, rm4, rc4, hno, -, -, yo, -⟩ := HPO.out.at_ (k := 0) (by decide)
    obtain rfl : podK ⟨#[120]⟩ 3 ⟨#[97]⟩ = no := Option.some.inj hno
    obtain ⟨no, ra1, rm1, rc1, ra2, rm2, rc2, ra3, rm3, rc3, ra4, rm4, rc4, hno2, -, -, -, -, -, -, -, -, -, -, -, ys, -⟩ := HRP.out.at_ (k := 1) (by decide)
    obtain rfl : podK ⟨#[121]⟩ 4 ⟨#[97]⟩ = no := Option.some.inj hno2
    rw [Nat.zero_mul, Nat.add_zero] at yo
    rw [Nat.zero_add] at ys
    dsimp only [podK] at yo ys
    clear hno hno2
    go_wp2_with fail
    refine (checkStR (show CluR _ (.agg #[.slice (some ⟨g1, 0, none⟩) 2 2, .slice (some ⟨g2, 0, none⟩) 2 2, .slice none 0 0]) kS from ⟨_, _, _, rfl, ⟨⟨_, _, rfl, by decide, by decide, HRN.out⟩, ⟨_, _, rfl, by decide, by decide, HRP.out⟩, ⟨_, _, rfl, by decide, by decide, buds_none _⟩⟩⟩) k_lowN k_chk).mono ?_
    rintro e w26 ⟨rfl, k⟩
    have K := Lib.hid (K.out.trans k)
    have HRN := Lib.hid (HRN.out.kept k)
    have HRP := Lib.hid (HRP.out.kept k)
    have HQ := Lib.hid (HQ.out.kept k)
    have Rvu := Lib.hid (Rvu.out.kept k)
    have Rvf := Lib.hid (Rvf.out.kept k)
    have Rvt := Lib.hid (Rvt.out.kept k)
    have HQM := Lib.hid (HQM.out.kept k)
    have RM := Lib.hid (RM.out.kept k)
    have HQF := Lib.hid (HQF.out.kept k)
    have RF := Lib.hid (RF.out.kept k)
    have HPO := Lib.hid (HPO.out.kept k)
    have HQD := Lib.hid (HQD.out.kept k)
    clear k
    clear y0 y1 y2 ym0 ym1 ym2 yf0 yf1 yf2 yd0 yd1 yd2 yo ys
    have y0 := HQ.out.at_ 0 _ rfl
    have y1 := HQ.out.at_ 1 _ rfl
    have y2 := HQ.out.at_ 2 _ rfl
    have ym0 := HQM.out.at_ 0 _ rfl
    have ym1 := HQM.out.at_ 1 _ rfl
    have ym2 := HQM.out.at_ 2 _ rfl
    have yf0 := HQF.out.at_ 0 _ rfl
    have yf1 := HQF.out.at_ 1 _ rfl
    have yf2 := HQF.out.at_ 2 _ rfl
    have yd0 := HQD.out.at_ 0 _ rfl
    have yd1 := HQD.out.at_ 1 _ rfl
    have yd2 := HQD.out.at_ 2 _ rfl
    obtain ⟨no, ra1, rm1, rc1, ra2, rm2, rc2, ra3, rm3, rc3, ra4, rm4, rc4, hno, -, -, yo, -⟩ := HPO.out.at_ (k := 0) (by decide)
    obtain rfl : podK ⟨#[120]⟩ 3 ⟨#[97]⟩ = no := Option.some.inj hno
    obtain ⟨no, ra1, rm1, rc1, ra2, rm2, rc2, ra3, rm3, rc3, ra4, rm4, rc4, hno2, -, -, -, -, -, -, -, -, -, -, -, ys, -⟩ := HRP.out.at_ (k := 1) (by decide)
    obtain rfl : podK ⟨#[121]⟩ 4 ⟨#[97]⟩ = no := Option.some.inj hno2
    rw [Nat.zero_mul, Nat.add_zero] at yo
    rw [Nat.zero_add] at ys
    dsimp only [podK] at yo ys
    clear hno hno2
    go_wp2_with fail
    refine (checkStR RF.out k_lowN k_full).mono ?_
    rintro e w27 ⟨rfl, k⟩
    have K := Lib.hid (K.out.trans k)
    have HRN := Lib.hid (HRN.out.kept k)
    have HRP := Lib.hid (HRP.out.kept k)
    have HQ := Lib.hid (HQ.out.kept k)
    have Rvu := Lib.hid (Rvu.out.kept k)
    have Rvf := Lib.hid (Rvf.out.kept k)
    have Rvt := Lib.hid (Rvt.out.kept k)
    have HQM := Lib.hid (HQM.out.kept k)
    have RM := Lib.hid (RM.out.kept k)
    have HQF := Lib.hid (HQF.out.kept k)
    have RF := Lib.hid (RF.out.kept k)
    have HPO := Lib.hid (HPO.out.kept k)
    have HQD := Lib.hid (HQD.out.kept k)
    clear k
    clear y0 y1 y2 ym0 ym1 ym2 yf0 yf1 yf2 yd0 yd1 yd2 yo ys
    have y0 := HQ.out.at_ 0 _ rfl
    have y1 := HQ.out.at_ 1 _ rfl
    have y2 := HQ.out.at_ 2 _ rfl
    have ym0 := HQM.out.at_ 0 _ rfl
    have ym1 := HQM.out.at_ 1 _ rfl
    have ym2 := HQM.out.at_ 2 _ rfl
    have yf0 := HQF.out.at_ 0 _ rfl
    have yf1 := HQF.out.at_ 1 _ rfl
    have yf2 := HQF.out.at_ 2 _ rfl
    have yd0 := HQD.out.at_ 0 _ rfl
    have yd1 := HQD.out.at_ 1 _ rfl
    have yd2 := HQD.out.at_ 2 _ rfl
    obtain ⟨no, ra1, rm1, rc1, ra2, rm2, rc2, ra3, rm3, rc3, ra4, rm4, rc4, hno, -, -, yo, -⟩ := HPO.out.at_ (k := 0) (by decide)
    obtain rfl : podK ⟨#[120]⟩ 3 ⟨#[97]⟩ = no := Option.some.inj hno
    obtain ⟨no, ra1, rm1, rc1, ra2, rm2, rc2, ra3, rm3, rc3, ra4, rm4, rc4, hno2, -, -, -, -, -, -, -, -, -, -, -, ys, -⟩ := HRP.out.at_ (k := 1) (by decide)
    obtain rfl : podK ⟨#[121]⟩ 4 ⟨#[97]⟩ = no := Option.some.inj hno2
    rw [Nat.zero_mul, Nat.add_zero] at yo
    rw [Nat.zero_add] at ys
    dsimp only [podK] at yo ys
    clear hno hno2
    go_wp2_with fail
    refine (sameStR (show CluR _ (.agg #[.slice (some ⟨g1, 0, none⟩) 2 2, .slice (some ⟨g2, 0, none⟩) 2 2, .slice none 0 0]) kS from ⟨_, _, _, rfl, ⟨⟨_, _, rfl, by decide, by decide, HRN.out⟩, ⟨_, _, rfl, by decide, by decide, HRP.out⟩, ⟨_, _, rfl, by decide, by decide, buds_none _⟩⟩⟩) (show CluR _ (.agg #[.slice (some ⟨g1, 0, none⟩) 2 2, .slice (some ⟨g2, 0, none⟩) 2 2, .slice none 0 0]) kS from ⟨_, _, _, rfl, ⟨⟨_, _, rfl, by decide, by decide, HRN.out⟩, ⟨_, _, rfl, by decide, by decide, HRP.out⟩, ⟨_, _, rfl, by decide, by decide, buds_none _⟩⟩⟩) (sameSt_self kS)).mono ?_
    rintro e w28 ⟨rfl, k⟩
    have K := Lib.hid (K.out.trans k)
    have HRN := Lib.hid (HRN.out.kept k)
    have HRP := Lib.hid (HRP.out.kept k)
    have HQ := Lib.hid (HQ.out.kept k)
    have Rvu := Lib.hid (Rvu.out.kept k)
    have Rvf := Lib.hid (Rvf.out.kept k)
    have Rvt := Lib.hid (Rvt.out.kept k)
    have HQM := Lib.hid (HQM.out.kept k)
    have RM := Lib.hid (RM.out.kept k)
    have HQF := Lib.hid (HQF.out.kept k)
    have RF := Lib.hid (RF.out.kept k)
    have HPO := Lib.hid (HPO.out.kept k)
    have HQD := Lib.hid (HQD.out.kept k)
    clear k
    clear y0 y1 y2 ym0 ym1 ym2 yf0 yf1 yf2 yd0 yd1 yd2 yo ys
    have y0 := HQ.out.at_ 0 _ rfl
    have y1 := HQ.out.at_ 1 _ rfl
    have y2 := HQ.out.at_ 2 _ rfl
    have ym0 := HQM.out.at_ 0 _ rfl
    have ym1 := HQM.out.at_ 1 _ rfl
    have ym2 := HQM.out.at_ 2 _ rfl
    have yf0 := HQF.out.at_ 0 _ rfl
    have yf1 := HQF.out.at_ 1 _ rfl
    have yf2 := HQF.out.at_ 2 _ rfl
    have yd0 := HQD.out.at_ 0 _ rfl
    have yd1 := HQD.out.at_ 1 _ rfl
    have yd2 := HQD.out.at_ 2 _ rfl
    obtain ⟨no, ra1, rm1, rc1, ra2, rm2, rc2, ra3, rm3, rc3, ra4, rm4, rc4, hno, -, -, yo, -⟩ := HPO.out.at_ (k := 0) (by decide)
    obtain rfl : podK ⟨#[120]⟩ 3 ⟨#[97]⟩ = no := Option.some.inj hno
    obtain ⟨no, ra1, rm1, rc1, ra2, rm2, rc2, ra3, rm3, rc3, ra4, rm4, rc4, hno2, -, -, -, -, -, -, -, -, -, -, -, ys, -⟩ := HRP.out.at_ (k := 1) (by decide)
    obtain rfl : podK ⟨#[121]⟩ 4 ⟨#[97]⟩ = no := Option.some.inj hno2
    rw [Nat.zero_mul, Nat.add_zero] at yo
    rw [Nat.zero_add] at ys
    dsimp only [podK] at yo ys
    clear hno hno2
    go_wp2_with fail
    refine (sameStR (show CluR _ (.agg #[.slice (some ⟨g1, 0, none⟩) 2 2, .slice (some ⟨g2, 0, none⟩) 2 2, .slice none 0 0]) kS from ⟨_, _, _, rfl, ⟨⟨_, _, rfl, by decide, by decide, HRN.out⟩, ⟨_, _, rfl, by decide, by decide, HRP.out⟩, ⟨_, _, rfl, by decide, by decide, buds_none _⟩⟩⟩) RM.out k_not).mono ?_
    rintro e w29 ⟨rfl, k⟩
    have K := Lib.hid (K.out.trans k)
    clear k
    go_wp2
    go_ret
    exact ⟨rfl, K.out⟩

end Go.Proofs.YtjihpbbeoiddkaaGreat
