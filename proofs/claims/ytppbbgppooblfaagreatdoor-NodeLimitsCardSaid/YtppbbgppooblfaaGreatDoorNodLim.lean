/- As many nodes as may be, in order, and one more; two exchanged: the law, walked. -/
import Derived.Test.YtppbbgppooblfaaGreatDoorLimSw
import Derived.Test.YtppbbgppooblfaaGreatDoorNodC
import Derived.BigRegion
namespace Go.Proofs.YtppbbgppooblfaaGreatDoor.Nk
open Go.RowKit
set_option linter.unusedVariables false

set_option maxRecDepth 100000 in
set_option maxHeartbeats 16000000 in
theorem limits_any (n m : Int) (w : World) (hE : Vec.EnvT w) (hn : 0 ≤ n ∧ n < 256) (hm : 0 ≤ m ∧ m < 256) :
    Calls Tryz.prog 8 #[.int .u8 n, .int .u8 m] w fun e w' => e = .returned (.bool true) ∧ Kept w w' := by
  obtain ⟨q, hq⟩ : ∃ q : Nat, n % 8 = (q : Int) := ⟨(n % 8).toNat, by omega⟩
  have hq8 : q < 8 := by omega
  obtain ⟨k, hk⟩ : ∃ k : Nat, 28 + (q : Int) = (k : Int) := ⟨28 + q, by omega⟩
  have hk1 : 28 ≤ k := by omega
  have hk2 : k < 36 := by omega
  obtain ⟨i0, hi, hz0, hz1, hz2'⟩ := info_parts infoN
  have HE := Lib.hid hE
  clear hE
  go_enter Tryz.func8, Tryz.ntmps8
  go_wp2_with fail
  refine (known_any _ HE.out).mono ?_
  rintro e w1 ⟨rfl, kk⟩
  have K := Lib.hid kk
  clear kk
  go_wp2
  obtain ⟨B, hB⟩ : ∃ B, w1.heap.size = B := ⟨_, rfl⟩
  go_loopw [6, 7] (fun v i wr => ∃ j : Nat, j ≤ k ∧ i = .int .i64 j ∧ ∃ l : List (Nat × Nat), l.map Prod.fst = List.range j ∧ Own LimLay 53 wr B v l ∧ LimVec wr v l ∧ Below B w1 wr) (fun _ i _ => k - (intOf i).toNat)
  case atStart => exact ⟨0, Nat.zero_le _, rfl, [], rfl, Own.nil _ _ _, (fun x h => by cases h), Below.refl _ _⟩
  case round =>
    obtain ⟨j, hj, rfl, l, hl, ho, hv, hb⟩ := hrel
    have HL := Lib.hid hl
    have HO := Lib.hid ho
    have HV := Lib.hid hv
    have HB := Lib.hid hb
    have HLEN := Lib.hid (show l.length = j by have := congrArg List.length hl; rw [List.length_map, List.length_range] at this; exact this)
    have HOWN := Lib.hid (show wr.ownsRow B 53 5 u6 j (rowCells LimLay l) by have := HO.out.1; rw [HLEN.out] at this; exact this)
    have hbase : B ≤ wr.heap.size := by rw [← hB]; exact hb.size
    clear hl ho hv hb
    by_cases hlt : j < k
    · obtain ⟨c, hc⟩ : ∃ c : Nat, 97 + (j : Int) / 26 = (c : Int) := ⟨97 + j / 26, by omega⟩
      obtain ⟨d, hd⟩ : ∃ d : Nat, 97 + (j : Int) % 26 = (d : Int) := ⟨97 + j % 26, by omega⟩
      have hlt' : (j : Int) < (k : Int) := by omega
      have cv := conv_two wr c d (by omega) (by omega)
      have HA := Lib.hid (show (⟨#[110]⟩ : ByteArray) ++ bytes [UInt8.ofNat c, UInt8.ofNat d] = bytes (nmL j) by
        rw [show c = 97 + j / 26 by omega, show d = 97 + j % 26 by omega]
        apply Go.WideShapes.bytes_inj
        simp [bytes, ByteArray.data_append, nmL])
      have hcs : (bytes [UInt8.ofNat c, UInt8.ofNat d]).size = 2 := bytes_size _
      have c1 : (c : Int) % 256 = (c : Int) := by omega
      have d1 : (d : Int) % 256 = (d : Int) := by omega
      go_wp2_with (at_builtin; go_loud (refine wpList_append_lies _ rfl _ _ _ rfl B 53 i0 _ 5 96 Tryz.underlying70 hi hz0 hz1 hz2' rfl (by decide) u6 j (rowCells LimLay l) rfl (((HOWN.out.alloc _).alloc _).alloc _) ⟨wr.heap.size + 1 + 1, 0, none⟩ 1 1 _ rfl rfl (World.news_of_block (cs := #[.string ({ data := #[110] } ++ bytes [UInt8.ofNat c, UInt8.ofNat d]), .slice (some ⟨wr.heap.size + 1, 0, none⟩) 1 1, .slice none 0 0, .slice none 0 0, .bool false]) (t := 53) (fr := (0, 0)) (third_new wr _ _ _)) (one_lim _ _) (by decide) (by unfold maxLen; omega) (by omega) (by simp; omega) (wr.heap.size + 3) (by simp) ?_); intro gg cap1 w2 hown1 hgrow hat hlt1)
      have hx1 : w2.ownsRow B 53 5 (.slice (some ⟨gg, 0, none⟩) (j + 1) cap1) (j + 1) (rowCells LimLay l ++ LimLay.cs (j, wr.heap.size + 1)) := by
        have := hown1
        rw [HA.out] at this
        exact this
      have HLV := Lib.hid (lim_grow (n := j + 1) (cap := cap1) j HV.out (HOWN.out) hgrow hat)
      have HBW := Lib.hid (HB.out.trans ((Below.mono (kept_three wr _ _ _) hbase).grown hgrow (by simp; omega) (fun z hz => (HOWN.out.lt z hz).1)))
      go_wp2
      go_roundw
      case rel => exact ⟨j + 1, by omega, by go_num, l ++ [(j, wr.heap.size + 1)], by rw [List.map_append, HL.out, List.range_succ]; rfl, Own.snoc hx1 (by rw [HLEN.out]) HO.out.2 trivial, HLV.out, HBW.out⟩
      case measure => simp [intOf]; omega
    · obtain rfl : j = k := by omega
      rcases HOWN.out.2 with ⟨_, h0⟩ | ⟨g, cap, cur, rfl, hbg, hheap, -⟩
      · omega
      obtain ⟨a', cap', e', -, -, h3⟩ := HO.out.at_
      rw [HLEN.out] at e' h3
      injection e' with e1 e2 e3
      subst e1
      have HN := Lib.hid (nodes_lim h3 (fun x hx => ⟨(HV.out x hx).1, (HV.out x hx).2.1, (HV.out x hx).2.2.1⟩))
      have HRW := Lib.hid h3
      have HM := Lib.hid (show (l.map fun x => ndL x.1) = (List.range j).map ndL by rw [← HL.out, List.map_map]; rfl)
      have HF := Lib.hid (show ∀ z, wr.frozen? ⟨g, z, none⟩ = false from fun z => by unfold World.frozen?; rw [hheap]; simp)
      have HG := Lib.hid (show g < wr.heap.size from (Array.getElem?_eq_some_iff.1 hheap).1)
      clear h3 hheap
      by_cases h32 : 32 < j
      · have HC := Lib.hid (show chkAllN (l.map fun x => ndL x.1) = 4 by rw [HM.out, all_up (by omega), if_pos h32])
        have h32' : (32 : Int) < (j : Int) := by omega
        go_wp2_with fail
        refine (checkAll_any _ _ _ _ _ HN.out).mono ?_
        rintro e w2 ⟨rfl, k2⟩
        rw [HC.out]
        have KB := Lib.hid k2
        obtain ⟨i, hi9⟩ : ∃ i : Nat, m % ((j : Int) - 1) = (i : Int) := ⟨(m % ((j : Int) - 1)).toNat, by have := Int.emod_nonneg m (b := (j : Int) - 1) (by omega); omega⟩
        have hij : i + 1 < j := by have := Int.emod_lt_of_pos m (b := (j : Int) - 1) (by omega); omega
        obtain ⟨i2, hi2⟩ : ∃ z : Nat, (i : Int) + 1 = (z : Int) := ⟨i + 1, by omega⟩
        have hii : i2 = i + 1 := by omega
        have hr2 := HRW.out.kept k2
        obtain ⟨x, hx, ax⟩ := lim_at hr2 (show i < j by omega)
        obtain ⟨y, hy, ay⟩ := lim_at hr2 (show i2 < j by omega)
        have hf2 : ∀ z, w2.frozen? ⟨g, z, none⟩ = false := fun z => (k2.frozen (p := ⟨g, z, none⟩) HG.out).trans (HF.out z)
        have ST := Lib.hid (store5 (y := y) ax)
        have AY := Lib.hid (ST.out.far5 (q := i2 * 5) ay (by omega))
        have ST2 := Lib.hid (store5 (y := x) AY.out)
        have hlij : (i : Int) < (j : Int) := by omega
        have hlij2 : (i2 : Int) < (j : Int) := by omega
        have hxm : x ∈ l := List.mem_of_getElem? hx
        have hym : y ∈ l := List.mem_of_getElem? hy
        have hyn : l[i + 1]? = some y := by rw [← hii]; exact hy
        have hv2 : LimVec w2 (.slice (some ⟨g, 0, none⟩) j cap) l := fun z hz => by
          obtain ⟨a0, a1, a2, a3⟩ := HV.out z hz
          exact ⟨cell_later k2 a0, cell_later k2 a1, Nat.lt_of_lt_of_le a2 k2.size, a3⟩
        have st2 : Sto5 (sto5 w2 g (i * 5) y) (sto5 (sto5 w2 g (i * 5) y) g (i2 * 5) x) g ((i + 1) * 5) x := by rw [← hii]; exact ST2.out
        have HNS := Lib.hid (nodes_lim (sw_row (x := x) (y := y) hr2 (by omega) hij ST.out st2) (sw_vec (i := i) hv2 hxm hym ST.out ST2.out))
        clear st2
        have HCS := Lib.hid (show chkAllN (((l.set i y).set (i + 1) x).map fun z => ndL z.1) = 4 by rw [sw_map HL.out hx hyn hij, all_sw (by omega) (by omega), if_pos h32])
        have HBW := Lib.hid (show Below B w1 (sto5 (sto5 w2 g (i * 5) y) g (i2 * 5) x) from ST2.out.below B w1 hbg (ST.out.below B w1 hbg (HB.out.trans (Below.mono k2 hbase))))
        clear k2 hr2 hv2 hxm hym hx hy hyn
        have AX := Lib.hid ax
        have AYY := Lib.hid ay
        have HF2 := Lib.hid hf2
        clear ax ay hf2
        go_wp2
        rw [hi9]
        obtain ⟨p0, p1, p2, p3, p4⟩ := AX.out
        obtain ⟨q0, q1, q2, q3, q4⟩ := AYY.out
        obtain ⟨r0, r1, r2, r3, r4⟩ := AY.out
        have hf2 := HF2.out
        have hfs := ST.out.frozen
        have g0 := hf2 (i * 5)
        have g1 := hf2 (i * 5 + 1)
        have g2 := hf2 (i * 5 + 2)
        have g3 := hf2 (i * 5 + 3)
        have g4 := hf2 (i * 5 + 4)
        have s0 := (hfs (i2 * 5)).trans (hf2 (i2 * 5))
        have s1 := (hfs (i2 * 5 + 1)).trans (hf2 (i2 * 5 + 1))
        have s2 := (hfs (i2 * 5 + 2)).trans (hf2 (i2 * 5 + 2))
        have s3 := (hfs (i2 * 5 + 3)).trans (hf2 (i2 * 5 + 3))
        have s4 := (hfs (i2 * 5 + 4)).trans (hf2 (i2 * 5 + 4))
        unfold sto5 at r0 r1 r2 r3 r4 s0 s1 s2 s3 s4
        clear hf2 hfs
        have HII := Lib.hid hii
        have bi : (i : Int) < 40 := by omega
        have bi2 : (i2 : Int) < 40 := by omega
        clear hii AX AYY HF2
        go_big_region
        have HDR := Lib.hid (HBW.out.trans (Below.mono (Kept.drew _) (by have := HBW.out.size; omega)))
        have HNE := Lib.hid (HNS.out.kept (Kept.drew _))
        clear HNS HBW ST ST2 AY p0 p1 p2 p3 p4 q0 q1 q2 q3 q4 r0 r1 r2 r3 r4 s0 s1 s2 s3 s4 g0 g1 g2 g3 g4
        obtain ⟨WE, hWE⟩ : ∃ W, (sto5 (sto5 w2 g (i * 5) y) g (i2 * 5) x).drew = W := ⟨_, rfl⟩
        rw [hWE] at HDR HNE
        unfold sto5 at hWE
        rw [hWE]
        clear hWE
        go_wp2_with fail
        refine (checkAll_any _ _ _ _ _ HNE.out).mono ?_
        rintro e w3 ⟨rfl, k3⟩
        rw [HCS.out]
        go_wp2
        go_ret
        exact ⟨rfl, K.out.trans (by unfold Kept; rw [hB]; exact HDR.out.trans (Below.mono k3 (by have := HDR.out.size; omega)))⟩
      · have HC := Lib.hid (show chkAllN (l.map fun x => ndL x.1) = 0 by rw [HM.out, all_up (by omega), if_neg h32])
        have h32' : (j : Int) ≤ 32 := by omega
        go_wp2_with fail
        refine (checkAll_any _ _ _ _ _ HN.out).mono ?_
        rintro e w2 ⟨rfl, k2⟩
        rw [HC.out]
        have KB := Lib.hid k2
        obtain ⟨i, hi9⟩ : ∃ i : Nat, m % ((j : Int) - 1) = (i : Int) := ⟨(m % ((j : Int) - 1)).toNat, by have := Int.emod_nonneg m (b := (j : Int) - 1) (by omega); omega⟩
        have hij : i + 1 < j := by have := Int.emod_lt_of_pos m (b := (j : Int) - 1) (by omega); omega
        obtain ⟨i2, hi2⟩ : ∃ z : Nat, (i : Int) + 1 = (z : Int) := ⟨i + 1, by omega⟩
        have hii : i2 = i + 1 := by omega
        have hr2 := HRW.out.kept k2
        obtain ⟨x, hx, ax⟩ := lim_at hr2 (show i < j by omega)
        obtain ⟨y, hy, ay⟩ := lim_at hr2 (show i2 < j by omega)
        have hf2 : ∀ z, w2.frozen? ⟨g, z, none⟩ = false := fun z => (k2.frozen (p := ⟨g, z, none⟩) HG.out).trans (HF.out z)
        have ST := Lib.hid (store5 (y := y) ax)
        have AY := Lib.hid (ST.out.far5 (q := i2 * 5) ay (by omega))
        have ST2 := Lib.hid (store5 (y := x) AY.out)
        have hlij : (i : Int) < (j : Int) := by omega
        have hlij2 : (i2 : Int) < (j : Int) := by omega
        have hxm : x ∈ l := List.mem_of_getElem? hx
        have hym : y ∈ l := List.mem_of_getElem? hy
        have hyn : l[i + 1]? = some y := by rw [← hii]; exact hy
        have hv2 : LimVec w2 (.slice (some ⟨g, 0, none⟩) j cap) l := fun z hz => by
          obtain ⟨a0, a1, a2, a3⟩ := HV.out z hz
          exact ⟨cell_later k2 a0, cell_later k2 a1, Nat.lt_of_lt_of_le a2 k2.size, a3⟩
        have st2 : Sto5 (sto5 w2 g (i * 5) y) (sto5 (sto5 w2 g (i * 5) y) g (i2 * 5) x) g ((i + 1) * 5) x := by rw [← hii]; exact ST2.out
        have HNS := Lib.hid (nodes_lim (sw_row (x := x) (y := y) hr2 (by omega) hij ST.out st2) (sw_vec (i := i) hv2 hxm hym ST.out ST2.out))
        clear st2
        have HCS := Lib.hid (show chkAllN (((l.set i y).set (i + 1) x).map fun z => ndL z.1) = 13 by rw [sw_map HL.out hx hyn hij, all_sw (by omega) (by omega), if_neg h32])
        have HBW := Lib.hid (show Below B w1 (sto5 (sto5 w2 g (i * 5) y) g (i2 * 5) x) from ST2.out.below B w1 hbg (ST.out.below B w1 hbg (HB.out.trans (Below.mono k2 hbase))))
        clear k2 hr2 hv2 hxm hym hx hy hyn
        have AX := Lib.hid ax
        have AYY := Lib.hid ay
        have HF2 := Lib.hid hf2
        clear ax ay hf2
        go_wp2
        rw [hi9]
        obtain ⟨p0, p1, p2, p3, p4⟩ := AX.out
        obtain ⟨q0, q1, q2, q3, q4⟩ := AYY.out
        obtain ⟨r0, r1, r2, r3, r4⟩ := AY.out
        have hf2 := HF2.out
        have hfs := ST.out.frozen
        have g0 := hf2 (i * 5)
        have g1 := hf2 (i * 5 + 1)
        have g2 := hf2 (i * 5 + 2)
        have g3 := hf2 (i * 5 + 3)
        have g4 := hf2 (i * 5 + 4)
        have s0 := (hfs (i2 * 5)).trans (hf2 (i2 * 5))
        have s1 := (hfs (i2 * 5 + 1)).trans (hf2 (i2 * 5 + 1))
        have s2 := (hfs (i2 * 5 + 2)).trans (hf2 (i2 * 5 + 2))
        have s3 := (hfs (i2 * 5 + 3)).trans (hf2 (i2 * 5 + 3))
        have s4 := (hfs (i2 * 5 + 4)).trans (hf2 (i2 * 5 + 4))
        unfold sto5 at r0 r1 r2 r3 r4 s0 s1 s2 s3 s4
        clear hf2 hfs
        have HII := Lib.hid hii
        have bi : (i : Int) < 40 := by omega
        have bi2 : (i2 : Int) < 40 := by omega
        clear hii AX AYY HF2
        go_big_region
        have HDR := Lib.hid (HBW.out.trans (Below.mono (Kept.drew _) (by have := HBW.out.size; omega)))
        have HNE := Lib.hid (HNS.out.kept (Kept.drew _))
        clear HNS HBW ST ST2 AY p0 p1 p2 p3 p4 q0 q1 q2 q3 q4 r0 r1 r2 r3 r4 s0 s1 s2 s3 s4 g0 g1 g2 g3 g4
        obtain ⟨WE, hWE⟩ : ∃ W, (sto5 (sto5 w2 g (i * 5) y) g (i2 * 5) x).drew = W := ⟨_, rfl⟩
        rw [hWE] at HDR HNE
        unfold sto5 at hWE
        rw [hWE]
        clear hWE
        go_wp2_with fail
        refine (checkAll_any _ _ _ _ _ HNE.out).mono ?_
        rintro e w3 ⟨rfl, k3⟩
        rw [HCS.out]
        go_wp2
        go_ret
        exact ⟨rfl, K.out.trans (by unfold Kept; rw [hB]; exact HDR.out.trans (Below.mono k3 (by have := HDR.out.size; omega)))⟩

end Go.Proofs.YtppbbgppooblfaaGreatDoor.Nk
