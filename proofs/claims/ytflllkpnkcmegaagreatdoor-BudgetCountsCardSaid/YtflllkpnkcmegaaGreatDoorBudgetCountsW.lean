/- BudgetCounts: the walk. -/
import Derived.Test.YtflllkpnkcmegaaGreatDoorBudCntBase
import Derived.OpenShut
namespace Go.Proofs.YtflllkpnkcmegaaGreatDoor.Bc
open Go.RowKit
set_option linter.unusedVariables false

set_option maxRecDepth 100000 in
set_option maxHeartbeats 16000000 in
theorem counts_any (n fl aw : Int) (w : World) (hE : EnvP w) (hn : 0 ≤ n ∧ n < 256) (hf : 0 ≤ fl ∧ fl < 256) (ha : 0 ≤ aw ∧ aw < 256) :
    Calls Tryz.prog 9 #[.int .u8 n, .int .u8 fl, .int .u8 aw] w fun e w' => e = .returned (.bool true) ∧ Kept w w' := by
  obtain ⟨k, hk⟩ : ∃ k : Nat, n % 20 = (k : Int) := ⟨(n % 20).toNat, by omega⟩
  obtain ⟨f, hff⟩ : ∃ f : Nat, fl % 24 = (f : Int) := ⟨(fl % 24).toNat, by omega⟩
  obtain ⟨d, hd⟩ : ∃ d : Nat, aw % 5 = (d : Int) := ⟨(aw % 5).toNat, by omega⟩
  have hk20 : k < 20 := by omega
  have hf24 : f < 24 := by omega
  have hd5 : d < 5 := by omega
  have ek : k % 256 = k := by omega
  obtain ⟨i0, hi, hz0, hz1, hz2'⟩ := info_parts (show (Tryz.prog.info? 30).map (fun i => (i.zero, i.size, i.bytes)) = some (some (.agg #[.string ByteArray.empty, .string ByteArray.empty, .int .i64 0, .slice none 0 0, .slice none 0 0, .slice none 0 0, .slice none 0 0, .string ByteArray.empty, .int .i64 0, .string ByteArray.empty, .bool false]), 11, 184) by kernel_rfl)
  have HE := Lib.hid hE
  clear hE
  go_enter Tryz.func9, Tryz.ntmps9
  go_wp2_with fail
  refine (Bk.known_any _ HE.out).mono ?_
  rintro e w1 ⟨rfl, kk⟩
  have K := Lib.hid kk
  clear kk
  go_wp2
  obtain ⟨B, hB⟩ : ∃ B, w1.heap.size = B := ⟨_, rfl⟩
  go_loopw [9, 10] (fun v i wr => ∃ j : Nat, j ≤ k ∧ i = .int .i64 j ∧ ∃ l : List CX, l.map (fun x => x.1) = List.range j ∧ OnAs d l ∧ Own CntLay 30 wr B v l ∧ CntVec wr v l ∧ Below B w1 wr) (fun _ i _ => k - (intOf i).toNat)
  case atStart => exact ⟨0, Nat.zero_le _, rfl, [], rfl, (fun q x h => by simp at h), Own.nil _ _ _, (fun x h => by cases h), Below.refl _ _⟩
  case round =>
    obtain ⟨j, hj, rfl, l, hl, hon, ho, hv, hb⟩ := hrel
    have HL := Lib.hid hl
    have HON := Lib.hid hon
    have HO := Lib.hid ho
    have HV := Lib.hid hv
    have HB := Lib.hid hb
    have HLEN := Lib.hid (show l.length = j by have := congrArg List.length hl; rw [List.length_map, List.length_range] at this; exact this)
    have HOWN := Lib.hid (show wr.ownsRow B 30 11 u9 j (rowCells CntLay l) by have := HO.out.1; rw [HLEN.out] at this; exact this)
    have hbase : B ≤ wr.heap.size := by rw [← hB]; exact hb.size
    clear hl hon ho hv hb
    by_cases hlt : j < k
    · obtain ⟨c, hc⟩ : ∃ c : Nat, 97 + (j : Int) = (c : Int) := ⟨97 + j, by omega⟩
      have hlt' : (j : Int) < (k : Int) := by omega
      have cv := Vec.conv_one wr (c : Int)
      have c1 : (c : Int) % 256 = (c : Int) := by omega
      have hcs : (bytes [Vec.dig (c : Int)]).size = 1 := bytes_size _
      go_upto_region 10 with fail
      have HA := Lib.hid (show (({ data := #[112] } : ByteArray) ++ bytes [Vec.dig (c : Int)]) = bytes (nmC j) by
        obtain rfl : c = 97 + j := by omega
        rw [show Vec.dig ((97 + j : Nat) : Int) = UInt8.ofNat (97 + j) from rfl]
        apply Go.WideShapes.bytes_inj
        simp [bytes, ByteArray.data_append, nmC])
      obtain ⟨W1, hW1⟩ : ∃ W, ((wr.alloc (.cells #[.int .u8 (c : Int)] 5)).alloc (.cells #[.string ⟨#[97, 112, 112]⟩, .string ⟨#[119, 101, 98]⟩] 87)).alloc (.cells #[.string (({ data := #[112] } : ByteArray) ++ bytes [Vec.dig (c : Int)]), .string ⟨#[]⟩, .int .i64 0, .slice none 0 0, .slice (some ⟨wr.heap.size + 1, 0, none⟩) 1 1, .slice none 0 0, .slice none 0 0, .string ⟨#[]⟩, .int .i64 0, .string ⟨#[110]⟩, .bool false] 30) = W := ⟨_, rfl⟩
      have k1 : Kept wr W1 := by rw [← hW1]; exact Nk.kept_three _ _ _ _
      have PC := freshN ((wr.alloc (.cells #[.int .u8 (c : Int)] 5)).alloc (.cells #[.string ⟨#[97, 112, 112]⟩, .string ⟨#[119, 101, 98]⟩] 87)) (.string (({ data := #[112] } : ByteArray) ++ bytes [Vec.dig (c : Int)])) [.string ⟨#[]⟩, .int .i64 0, .slice none 0 0, .slice (some ⟨wr.heap.size + 1, 0, none⟩) 1 1, .slice none 0 0, .slice none 0 0, .string ⟨#[]⟩, .int .i64 0, .string ⟨#[110]⟩, .bool false] 30 W1 (by rw [hW1]; exact Kept.refl _)
      have LB0 : W1.cell? ⟨wr.heap.size + 1, 0, none⟩ = some (.string ⟨#[97, 112, 112]⟩) := by rw [← hW1]; exact Nk.second_cells wr _ _ _ _ 0 _ rfl
      have LB1 : W1.cell? ⟨wr.heap.size + 1, 1, none⟩ = some (.string ⟨#[119, 101, 98]⟩) := by rw [← hW1]; exact Nk.second_cells wr _ _ _ _ 1 _ rfl
      have hs1 : W1.heap.size = wr.heap.size + 1 + 1 + 1 := by rw [← hW1]; simp
      try rw [hW1]
      rw [World.size_alloc, World.size_alloc, HA.out] at PC
      clear hW1
      obtain ⟨p, hp⟩ : ∃ p, wr.heap.size + 1 + 1 = p := ⟨_, rfl⟩
      rw [hp] at PC hs1
      try rw [hp]
      obtain ⟨b, hb9⟩ : ∃ b, wr.heap.size + 1 = b := ⟨_, rfl⟩
      rw [hb9] at PC LB0 LB1 hp
      try rw [hb9]
      have PC := Lib.hid PC
      have HLB := Lib.hid (And.intro LB0 LB1)
      have K1 := Lib.hid k1
      have hb1 : wr.heap.size ≤ b := by omega
      have hp1 : wr.heap.size ≤ p := by omega
      have hbp : b ≠ p := by omega
      have hbs : b < W1.heap.size := by omega
      clear hb9 hp k1 LB0 LB1 cv
      by_cases z : j < d
      · have z1 : (j : Int) < (d : Int) := by omega
        have y9 := PC.out.at_ 9 _ rfl
        have x9 := PC.out.free 9
        go_upto_region 12 with fail
        clear y9 x9
        have PC := Lib.hid (show CellsN p [.string (bytes (nmC j)), .string ⟨#[]⟩, .int .i64 0, .slice none 0 0, .slice (some ⟨b, 0, none⟩) 1 1, .slice none 0 0, .slice none 0 0, .string ⟨#[]⟩, .int .i64 0, .string ⟨#[]⟩, .bool false] (W1.setCell ⟨p, 9, none⟩ (.string ⟨#[]⟩)) from PC.out.set (j := 9) (by simp))
        have K2 := Lib.hid (show Kept wr (W1.setCell ⟨p, 9, none⟩ (.string ⟨#[]⟩)) from kept_cell K1.out (a := ⟨p, 9, none⟩) hp1 _)
        have HLB := Lib.hid (show (W1.setCell ⟨p, 9, none⟩ (.string ⟨#[]⟩)).cell? ⟨b, 0, none⟩ = some (.string ⟨#[97, 112, 112]⟩) ∧ (W1.setCell ⟨p, 9, none⟩ (.string ⟨#[]⟩)).cell? ⟨b, 1, none⟩ = some (.string ⟨#[119, 101, 98]⟩) from ⟨(World.cell?_setCell_other _ _ _ _ (by simp)).trans HLB.out.1, (World.cell?_setCell_other _ _ _ _ (by simp)).trans HLB.out.2⟩)
        have hs9 : (W1.setCell ⟨p, 9, none⟩ (.string ⟨#[]⟩)).heap.size = W1.heap.size := by simp [World.setCell]
        obtain ⟨W2, hW2⟩ : ∃ W, W1.setCell ⟨p, 9, none⟩ (.string ⟨#[]⟩) = W := ⟨_, rfl⟩
        rw [hW2] at PC K2 HLB hs9
        try rw [hW2]
        have hb2 : b < W2.heap.size := by omega
        clear hW2 hs9
        have y0 := PC.out.at_ 0 _ rfl
        have y1 := PC.out.at_ 1 _ rfl
        have y2 := PC.out.at_ 2 _ rfl
        have y3 := PC.out.at_ 3 _ rfl
        have y4 := PC.out.at_ 4 _ rfl
        have y5 := PC.out.at_ 5 _ rfl
        have y6 := PC.out.at_ 6 _ rfl
        have y7 := PC.out.at_ 7 _ rfl
        have y8 := PC.out.at_ 8 _ rfl
        have y9 := PC.out.at_ 9 _ rfl
        have y10 := PC.out.at_ 10 _ rfl
        have HOW2 := Lib.hid (show W2.ownsRow B 30 11 u9 j (rowCells CntLay l) by have := (HO.out.kept K2.out).1; rw [HLEN.out] at this; exact this)
        have hs2 : wr.heap.size ≤ W2.heap.size := Below.size K2.out
        go_wp2_with (at_builtin; go_loud (refine wpList_append_lies _ rfl _ _ _ rfl B 30 i0 _ 11 184 Tryz.underlying51 hi hz0 hz1 hz2' rfl (by decide) u9 j (rowCells CntLay l) rfl (HOW2.out.alloc _) ⟨W2.heap.size, 0, none⟩ 1 1 _ rfl rfl (World.news_of_block (cs := #[.string (bytes (nmC j)), .string ⟨#[]⟩, .int .i64 0, .slice none 0 0, .slice (some ⟨b, 0, none⟩) 1 1, .slice none 0 0, .slice none 0 0, .string ⟨#[]⟩, .int .i64 0, .string ⟨#[]⟩, .bool false]) (t := 30) (fr := (0, 0)) (heap_alloc_new W2 _)) (one_cnt _ _ _) (by decide) (by unfold maxLen; omega) (by omega) (by simp; omega) (W2.heap.size + 1) (by simp) ?_); intro gg cap1 w2 hown1 hgrow hat hlt1)
        have hx1 : w2.ownsRow B 30 11 (.slice (some ⟨gg, 0, none⟩) (j + 1) cap1) (j + 1) (rowCells CntLay l ++ CntLay.cs (j, b, false)) := hown1
        have HCV := Lib.hid (cnt_grow (n := j + 1) (cap := cap1) j false HV.out HOWN.out K2.out hb1 hb2 HLB.out.1 HLB.out.2 hgrow hat)
        have HBW := Lib.hid ((HB.out.trans ((Below.mono K2.out hbase).trans (Below.mono (kept_alloc W2 _) (by omega)))).grown hgrow (by simp; omega) (fun z hz => (HOWN.out.lt z hz).1))
        clear y0 y1 y2 y3 y4 y5 y6 y7 y8 y9 y10
        go_wp2
        go_roundw
        case rel => exact ⟨j + 1, by omega, by go_num, l ++ [(j, b, false)], by rw [List.map_append, HL.out, List.range_succ]; rfl, (by have := on_next (b := b) HON.out HLEN.out; rw [show (!decide (j < d)) = false by simp; omega] at this; exact this), Own.snoc hx1 (by rw [HLEN.out]) HO.out.2 trivial, HCV.out, HBW.out⟩
        case measure => simp [intOf]; omega
      · have z1 : (d : Int) ≤ (j : Int) := by omega
        go_upto_region 12 with fail
        obtain ⟨W2, hW2⟩ : ∃ W, W1 = W := ⟨_, rfl⟩
        rw [hW2] at PC K1 HLB hs1 hbs
        try rw [hW2]
        have K2 := K1
        have hb2 : b < W2.heap.size := by omega
        clear hW2 K1 hs1 hbs
        have y0 := PC.out.at_ 0 _ rfl
        have y1 := PC.out.at_ 1 _ rfl
        have y2 := PC.out.at_ 2 _ rfl
        have y3 := PC.out.at_ 3 _ rfl
        have y4 := PC.out.at_ 4 _ rfl
        have y5 := PC.out.at_ 5 _ rfl
        have y6 := PC.out.at_ 6 _ rfl
        have y7 := PC.out.at_ 7 _ rfl
        have y8 := PC.out.at_ 8 _ rfl
        have y9 := PC.out.at_ 9 _ rfl
        have y10 := PC.out.at_ 10 _ rfl
        have HOW2 := Lib.hid (show W2.ownsRow B 30 11 u9 j (rowCells CntLay l) by have := (HO.out.kept K2.out).1; rw [HLEN.out] at this; exact this)
        have hs2 : wr.heap.size ≤ W2.heap.size := Below.size K2.out
        go_wp2_with (at_builtin; go_loud (refine wpList_append_lies _ rfl _ _ _ rfl B 30 i0 _ 11 184 Tryz.underlying51 hi hz0 hz1 hz2' rfl (by decide) u9 j (rowCells CntLay l) rfl (HOW2.out.alloc _) ⟨W2.heap.size, 0, none⟩ 1 1 _ rfl rfl (World.news_of_block (cs := #[.string (bytes (nmC j)), .string ⟨#[]⟩, .int .i64 0, .slice none 0 0, .slice (some ⟨b, 0, none⟩) 1 1, .slice none 0 0, .slice none 0 0, .string ⟨#[]⟩, .int .i64 0, .string ⟨#[110]⟩, .bool false]) (t := 30) (fr := (0, 0)) (heap_alloc_new W2 _)) (one_cnt _ _ _) (by decide) (by unfold maxLen; omega) (by omega) (by simp; omega) (W2.heap.size + 1) (by simp) ?_); intro gg cap1 w2 hown1 hgrow hat hlt1)
        have hx1 : w2.ownsRow B 30 11 (.slice (some ⟨gg, 0, none⟩) (j + 1) cap1) (j + 1) (rowCells CntLay l ++ CntLay.cs (j, b, true)) := hown1
        have HCV := Lib.hid (cnt_grow (n := j + 1) (cap := cap1) j true HV.out HOWN.out K2.out hb1 hb2 HLB.out.1 HLB.out.2 hgrow hat)
        have HBW := Lib.hid ((HB.out.trans ((Below.mono K2.out hbase).trans (Below.mono (kept_alloc W2 _) (by omega)))).grown hgrow (by simp; omega) (fun z hz => (HOWN.out.lt z hz).1))
        clear y0 y1 y2 y3 y4 y5 y6 y7 y8 y9 y10
        go_wp2
        go_roundw
        case rel => exact ⟨j + 1, by omega, by go_num, l ++ [(j, b, true)], by rw [List.map_append, HL.out, List.range_succ]; rfl, (by have := on_next (b := b) HON.out HLEN.out; rw [show (!decide (j < d)) = true by simp; omega] at this; exact this), Own.snoc hx1 (by rw [HLEN.out]) HO.out.2 trivial, HCV.out, HBW.out⟩
        case measure => simp [intOf]; omega
    · obtain rfl : j = k := by omega
      obtain ⟨on, hon⟩ : ∃ on : Nat, (j : Int) - min (j : Int) (d : Int) = (on : Int) := ⟨j - min j d, by omega⟩
      have HON2 := Lib.hid (show on = j - min j d by omega)
      have HONC := Lib.hid (show onC l = on by have := on_start d l 0 (fun q x hq => by rw [Nat.zero_add]; exact HON.out q x hq); rw [HLEN.out, Nat.zero_add] at this; have := HON2.out; omega)
      go_upto_region 14 with fail
      obtain ⟨W0, hW0⟩ : ∃ W, (wr.alloc (.cells #[.int .i64 1, .string ⟨#[97, 112, 112]⟩, .string ⟨#[119, 101, 98]⟩] 89)).alloc (.cells #[.string ⟨#[98]⟩, .slice (some ⟨wr.heap.size, 0, none⟩) 1 1, .int .i64 (f : Int)] 70) = W := ⟨_, rfl⟩
      have k0 : Kept wr W0 := by rw [← hW0]; exact kept_two _ _ _
      have CA := freshN wr (.int .i64 1) [.string ⟨#[97, 112, 112]⟩, .string ⟨#[119, 101, 98]⟩] 89 W0 (by rw [← hW0]; exact kept_alloc _ _)
      have CB := freshN (wr.alloc (.cells #[.int .i64 1, .string ⟨#[97, 112, 112]⟩, .string ⟨#[119, 101, 98]⟩] 89)) (.string ⟨#[98]⟩) [.slice (some ⟨wr.heap.size, 0, none⟩) 1 1, .int .i64 (f : Int)] 70 W0 (by rw [hW0]; exact Kept.refl _)
      rw [World.size_alloc] at CB
      try rw [hW0]
      clear hW0
      obtain ⟨s, hs⟩ : ∃ s, wr.heap.size = s := ⟨_, rfl⟩
      obtain ⟨t, ht⟩ : ∃ t, s + 1 = t := ⟨_, rfl⟩
      rw [hs] at CA CB
      rw [ht] at CB
      try rw [hs]
      try rw [ht]
      have HENV := Lib.hid (show BEnv W0 s t (f : Int) from ⟨CA.at_ 0 _ rfl, CA.at_ 1 _ rfl, CA.at_ 2 _ rfl, CB.at_ 0 _ rfl, CB.at_ 1 _ rfl, CB.at_ 2 _ rfl⟩)
      have K0 := Lib.hid k0
      have HS := Lib.hid hs
      have hst : wr.heap.size ≤ s := by omega
      have hst2 : wr.heap.size ≤ t := by omega
      clear k0 hs ht CA CB
      obtain ⟨bb, hbb⟩ : ∃ b : Bool, decide ((on : Int) < (f : Int)) = b := ⟨_, rfl⟩
      have hbb2 : decide (on < f) = bb := by rw [← hbb]; simp
      obtain ⟨m, hm⟩ : ∃ m : Nat, (if (on : Int) < (f : Int) then [(⟨#[98]⟩ : ByteArray)] else []).length = m := ⟨_, rfl⟩
      have hm1 : ((m : Int) == 1) = bb := by
        rw [← hm, ← hbb]
        by_cases z : (on : Int) < (f : Int)
        · rw [if_pos z, decide_eq_true z]; rfl
        · rw [if_neg z, decide_eq_false z]; rfl
      have hbx : (bb != bb) = false := by simp
      have e1 : ((on : Int) != (on : Int)) = false := by simp
      have HM := Lib.hid hm
      clear hm
      rcases HOWN.out.2 with ⟨rfl, h0⟩ | ⟨g, cap, cur, rfl, hbg, hheap, -⟩
      · skip
        have hl0 : l = [] := List.eq_nil_of_length_eq_zero (by rw [HLEN.out]; exact h0)
        subst hl0
        have HJ := Lib.hid h0
        clear h0
        have HP := Lib.hid (show ∀ W, Kept W0 W → PodsAt W none 0 (([] : List CX).map fun x => pdC x.1 x.2.2) from fun W _ => ⟨rfl, by decide, .inl rfl⟩)
        have y0 := HENV.out.d0
        have y1 := HENV.out.d1
        have y2 := HENV.out.d2
        go_wp2_with fail
        refine (Bk.count_k (⟨_, rfl, HENV.out.bud hf24⟩ : BudR _ (.agg #[.string ⟨#[98]⟩, .slice (some ⟨s, 0, none⟩) 1 1, .int .i64 (f : Int)]) (kf f)) (HP.out _ (Kept.refl _)) ((cnt_c f _).trans HONC.out)).mono ?_
        rintro e w2 ⟨rfl, kk⟩
        have KA := Lib.hid kk
        clear kk y0 y1 y2
        go_wp2_with fail
        refine (brk_l (HENV.out.kept KA.out |>.buds hf24) (HP.out _ KA.out) (by decide) (by rw [brk_c, HONC.out]) HM.out).mono ?_
        rintro e w3 ⟨ab, cb, rfl, kk⟩
        have KA := Lib.hid (KA.out.trans kk)
        clear kk
        have hjz : (j : Int) = 0 := by have := HJ.out; omega
        clear hon
        go_wp2
        refine wp_loop_rounds 1 ?_
        rw [rounds_succ]
        have hmx : max (0 : Int) ((on : Int) - (f : Int)) = 0 := by have := HON2.out; have := HJ.out; omega
        have hee2 : ((on : Int) == (on : Int)) = true := by simp
        have y0 := (HENV.out.kept KA.out).d0
        have y1 := (HENV.out.kept KA.out).d1
        have y2 := (HENV.out.kept KA.out).d2
        go_wp2_with fail
        refine (Bk.count_k (⟨_, rfl, (HENV.out.kept KA.out).bud hf24⟩ : BudR _ (.agg #[.string ⟨#[98]⟩, .slice (some ⟨s, 0, none⟩) 1 1, .int .i64 (f : Int)]) (kf f)) (HP.out _ KA.out) ((cnt_c f ([] : List CX)).trans HONC.out)).mono ?_
        rintro e w4 ⟨rfl, kk⟩
        have KF := Lib.hid (show Kept w w4 from Kept.trans K.out (by rw [← hB] at HB; exact Kept.trans HB.out (Kept.trans K0.out (KA.out.trans kk))))
        clear kk y0 y1 y2
        go_wp2
        go_ret
        exact ⟨rfl, KF.out⟩
      · skip
        obtain ⟨a', cap', e', hc1, hc2, h3⟩ := HO.out.at_
        rw [HLEN.out] at e' h3 hc1
        injection e' with e1' e2' e3'
        subst e1'
        subst e3'
        have hgl : g < wr.heap.size := (Array.getElem?_eq_some_iff.1 hheap).1
        have HF := Lib.hid (show ∀ z, wr.frozen? ⟨g, z, none⟩ = false from fun z => by unfold World.frozen?; rw [hheap]; simp)
        have HRW := Lib.hid h3
        have hsg : s ≠ g := by omega
        have htg : t ≠ g := by omega
        clear h3 hheap
        have HP := Lib.hid (show ∀ W, Kept W0 W → PodsAt W (some ⟨g, 0, none⟩) j (l.map fun x => pdC x.1 x.2.2) from fun W kk => pods_cnt (HRW.out.kept (K0.out.trans kk)) (fun x hx => by
          obtain ⟨a0, a1, a2, -⟩ := HV.out x hx
          exact ⟨cell_later (K0.out.trans kk) a0, cell_later (K0.out.trans kk) a1, Nat.lt_of_lt_of_le a2 (K0.out.trans kk).size⟩))
        have y0 := HENV.out.d0
        have y1 := HENV.out.d1
        have y2 := HENV.out.d2
        go_wp2_with fail
        refine (Bk.count_k (⟨_, rfl, HENV.out.bud hf24⟩ : BudR _ (.agg #[.string ⟨#[98]⟩, .slice (some ⟨s, 0, none⟩) 1 1, .int .i64 (f : Int)]) (kf f)) (HP.out _ (Kept.refl _)) ((cnt_c f _).trans HONC.out)).mono ?_
        rintro e w2 ⟨rfl, kk⟩
        have KA := Lib.hid kk
        clear kk y0 y1 y2
        go_wp2_with fail
        refine (brk_l (HENV.out.kept KA.out |>.buds hf24) (HP.out _ KA.out) (by decide) (by rw [brk_c, HONC.out]) HM.out).mono ?_
        rintro e w3 ⟨ab, cb, rfl, kk⟩
        have KA := Lib.hid (KA.out.trans kk)
        clear kk
        have KB := Lib.hid (K0.out.trans KA.out)
        have HINV := Lib.hid (show CInv d j f on g s t cap B w1 ((j : Int) - 1) 0 l w3 from ⟨HON2.out, HL.out, by omega, by omega, fun q x _ hq => HON.out q x hq, HONC.out, by rw [show ((j : Int) - 1 + 1).toNat = j by omega]; have := HON2.out; omega, HRW.out.kept KB.out, fun x hx => by
          obtain ⟨a0, a1, a2, a3⟩ := HV.out x hx
          exact ⟨cell_later KB.out a0, cell_later KB.out a1, Nat.lt_of_lt_of_le a2 KB.out.size, a3⟩, HENV.out.kept KA.out, fun o => (KB.out.frozen (p := ⟨g, o, none⟩) hgl).trans (HF.out o), Nat.lt_of_lt_of_le hgl KB.out.size, HB.out.trans (Below.mono KB.out hbase)⟩)
        go_wp2
        go_loopw [14, 15] (fun gn i wr => ∃ (z : Int) (gN : Nat) (xs : List CX), i = .int .i64 z ∧ gn = .int .i64 gN ∧ CInv d j f on g s t cap B w1 z gN xs wr) (fun _ i _ => (intOf i + 1).toNat)
        case atStart => exact ⟨_, 0, l, rfl, rfl, HINV.out⟩
        case round =>
          obtain ⟨z, gN, xs, rfl, rfl, H⟩ := hrel
          have HI := Lib.hid H
          have hBw : B ≤ wr.heap.size := Nat.le_trans hbg (Nat.le_of_lt H.glt)
          have hlo := H.lo
          have hhi := H.hi
          have hg20 : gN ≤ 20 := by have := H.sum; have := H.onk; omega
          by_cases hz : 0 ≤ z
          · obtain ⟨i, rfl⟩ : ∃ i : Nat, z = (i : Int) := ⟨z.toNat, by omega⟩
            obtain ⟨x, hx⟩ : ∃ x, xs[i]? = some x := ⟨_, List.getElem?_eq_getElem (by have := H.row.1; omega)⟩
            obtain ⟨p0, p9⟩ := cnt_at H.row hx
            have HX := Lib.hid hx
            obtain ⟨x1, xb, xo⟩ := x
            dsimp only at p0 p9
            clear H hx
            cases xo with
            | false =>
              replace p9 : wr.cell? ⟨g, i * 11 + 9, none⟩ = some (.string ⟨#[]⟩) := p9
              have hem : ((⟨#[]⟩ : ByteArray).toList == ([] : List UInt8)) = true := by rw [Lib.toList_data]; rfl
              go_wp2
              go_roundw
              case rel => exact ⟨(i : Int) - 1, gN, xs, rfl, rfl, HI.out.pass HX.out (.inl rfl)⟩
              case measure => simp [intOf]; try omega
            | true =>
              replace p9 : wr.cell? ⟨g, i * 11 + 9, none⟩ = some (.string ⟨#[110]⟩) := p9
              have hne : ((⟨#[110]⟩ : ByteArray).toList == ([] : List UInt8)) = false := by rw [Lib.toList_data]; rfl
              obtain ⟨y, hy⟩ := alw_c (f := (f : Int)) HI.out.nums (by omega) HX.out rfl
              obtain ⟨bz, hbz⟩ : ∃ b : Bool, decide ((f : Int) < (onC xs : Int)) = b := ⟨_, rfl⟩
              rw [hbz] at hy
              have HAL := Lib.hid (Bk.alw_k (cap := 1) (cap9 := cap) (HI.out.env.buds hf24) (pods_cnt HI.out.row (fun x hx => ⟨(HI.out.vec x hx).1, (HI.out.vec x hx).2.1, (HI.out.vec x hx).2.2.1⟩)) (low_c xs) hy)
              dsimp only at HAL
              have HBZ := Lib.hid hbz
              clear hy hbz
              go_wp2_with fail
              refine HAL.out.mono ?_
              rintro e w4 ⟨rfl, kk⟩
              have HI2 := Lib.hid (HI.out.kept kk hBw)
              have p92 := cell_later kk p9
              have x9 : w4.frozen? ⟨g, i * 11 + 9, none⟩ = false := HI2.out.free _
              clear kk p0 p9 HAL
              cases bz with
              | true =>
                go_wp2
                go_roundw
                case rel => exact ⟨(i : Int) - 1, gN + 1, xs.set i (x1, xb, false), rfl, by go_num, HI2.out.go HX.out rfl (of_decide_eq_true HBZ.out) hsg htg hbg⟩
                case measure => simp [intOf]; try omega
              | false =>
                go_wp2
                go_roundw
                case rel => exact ⟨(i : Int) - 1, gN, xs, rfl, rfl, HI2.out.pass HX.out (.inr (of_decide_eq_false HBZ.out))⟩
                case measure => simp [intOf]; try omega
          · obtain rfl : z = -1 := by omega
            have hgn : gN = on - f := by have := H.gone; rw [show ((-1 : Int) + 1).toNat = 0 from rfl] at this; omega
            have hsum := H.sum
            obtain ⟨oc, hoc⟩ : ∃ o, onC xs = o := ⟨_, rfl⟩
            rw [hoc] at hsum
            have HOC := Lib.hid hoc
            have hmx : max (0 : Int) ((on : Int) - (f : Int)) = (gN : Int) := by omega
            have hsb : (on : Int) - (gN : Int) = (oc : Int) := by omega
            have hee : ((gN : Int) == (gN : Int)) = true := by simp
            have hee2 : ((oc : Int) == (oc : Int)) = true := by simp
            have HP2 := Lib.hid (pods_cnt H.row (fun x hx => ⟨(H.vec x hx).1, (H.vec x hx).2.1, (H.vec x hx).2.2.1⟩))
            clear H hoc hgn hsum
            have y0 := HI.out.env.d0
            have y1 := HI.out.env.d1
            have y2 := HI.out.env.d2
            go_wp2_with fail
            refine (Bk.count_k (⟨_, rfl, HI.out.env.bud hf24⟩ : BudR _ (.agg #[.string ⟨#[98]⟩, .slice (some ⟨s, 0, none⟩) 1 1, .int .i64 (f : Int)]) (kf f)) HP2.out ((cnt_c f xs).trans HOC.out)).mono ?_
            rintro e w4 ⟨rfl, kk⟩
            have KF := Lib.hid (show Kept w w4 from Kept.trans K.out (Kept.trans (by have := HI.out.below; rw [← hB] at this; exact this) kk))
            clear kk y0 y1 y2
            go_wp2
            go_ret
            exact ⟨rfl, KF.out⟩
end Go.Proofs.YtflllkpnkcmegaaGreatDoor.Bc
namespace Go.Proofs.YtflllkpnkcmegaaGreatDoor
theorem BudgetCounts_walk (n fl aw : Int) (w : World) (hE : EnvP w) (hn : (Lit.int .u8 n).wf = true) (hf : (Lit.int .u8 fl).wf = true) (ha : (Lit.int .u8 aw).wf = true) :
    Calls Tryz.prog 9 #[.int .u8 n, .int .u8 fl, .int .u8 aw] w fun e w' => e = .returned (.bool true) ∧ Kept w w' := by
  have a := bounds_u8 hn
  have b := bounds_u8 hf
  have c := bounds_u8 ha
  exact Bc.counts_any n fl aw w hE ⟨a.1, by omega⟩ ⟨b.1, by omega⟩ ⟨c.1, by omega⟩
end Go.Proofs.YtflllkpnkcmegaaGreatDoor
