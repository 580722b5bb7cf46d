/- All that there is is what each node has; with a pod less no node has less left: the law, walked. -/
import Derived.Test.YtapnffejnhkoaaaGreatStRoomM
import Derived.Test.YtapnffejnhkoaaaGreatStFaceR
import Derived.Test.YtapnffejnhkoaaaGreatStD
import Derived.Test.YtapnffejnhkoaaaGreatStC
import Derived.Test.YtapnffejnhkoaaaGreatStE
import Derived.Test.YtapnffejnhkoaaaGreatResA
import Derived.Test.YtapnffejnhkoaaaGreatResC
import Derived.Deep.RegionHeld3
namespace Go.Proofs.YtapnffejnhkoaaaGreat
open Go.RowKit
set_option linter.unusedVariables false

theorem rem_nat {n : Int} {m : Nat} (h : 0 ≤ n ∧ n ≤ 255) (hm : 0 < m) : ∃ k : Nat, k < m ∧ n.tmod (m : Int) = (k : Int) := by
  obtain ⟨j, rfl⟩ := Int.eq_ofNat_of_zero_le h.1
  exact ⟨j % m, Nat.mod_lt _ hm, rfl⟩
theorem nodes_ofR {a : Option Addr} {n c : Nat} {l : List Nod} {w : World} (h : NodesR w (.slice a n c) l) : NodesAt w a n l := by
  obtain ⟨a', cap', e, _, _, h⟩ := h
  cases e
  exact h
theorem CluR.nodesAt {w : World} {v2 v3 : Value} {b : Option Addr} {m cp : Nat} {s : Clu} (h : CluR w (CluV (.slice b m cp) v2 v3) s) : NodesAt w b m s.nodes := by
  obtain ⟨_, _, _, e, g0⟩ := h
  cases e
  exact nodes_ofR g0.nodes
theorem CluR.podsAt' {w : World} {v1 v3 : Value} {b : Option Addr} {m cp : Nat} {s : Clu} (h : CluR w (CluV v1 (.slice b m cp) v3) s) : PodsAt w b m s.pods := by
  obtain ⟨_, _, _, e, g0⟩ := h
  cases e
  exact pods_ofR g0.pods
theorem samVR {v v' : Value} {l l' : Vec.V} {c : Bool} {w : World} (h : Vec.Reads w v l) (h' : Vec.Reads w v' l') (e : Vec.sameFrom l l' = c) : Calls Tryz.prog 87 #[v, v'] w (Say (.bool c) w) := by
  subst e
  obtain ⟨a, cap, rfl, h1, h2, h3⟩ := h
  obtain ⟨a', cap', rfl, h1', h2', h3'⟩ := h'
  exact Vec.same_any a a' _ cap _ cap' l l' w h3 h3'
theorem getVR {v : Value} {l : Vec.V} {n : ByteArray} {w : World} (h : Vec.Reads w v l) : Calls Tryz.prog 9 #[v, .string n] w (Say (.int .i64 (Vec.getV l n)) w) := by
  obtain ⟨a, cap, rfl, h1, h2, h3⟩ := h
  exact Vec.get_any a _ cap l n w h3
theorem rgetVR {v : Value} {l : Vec.V} {n : ByteArray} {w : World} (h : Vec.Reads w v l) : Calls Tryz.prog 7 #[v, .string n] w (Say (.int .i64 (Vec.getV l n)) w) := by
  obtain ⟨a, cap, rfl, h1, h2, h3⟩ := h
  exact Vec.rget_any a _ cap l n w h3
theorem fitVR {v v' : Value} {l l' : Vec.V} {c : Bool} {w : World} (h : Vec.Reads w v l) (h' : Vec.Reads w v' l') (e : Vec.fitsFrom l' l = c) : Calls Tryz.prog 12 #[v, v'] w (Say (.bool c) w) := by
  subst e
  obtain ⟨a, cap, rfl, h1, h2, h3⟩ := h
  obtain ⟨a', cap', rfl, h1', h2', h3'⟩ := h'
  exact Vec.fits_any a a' _ cap _ cap' l l' w h3 h3'
theorem infoSt : (Tryz.prog.info? 9).map (fun i => (i.zero, i.size, i.bytes)) = some (some (.string ByteArray.empty), 1, 16) := by kernel_rfl
theorem bneq_own (c : Int) : (c != c) = false := by simp
set_option maxRecDepth 100000 in
set_option maxHeartbeats 25600000 in
theorem StateTotals_walk (v : Value) (s : Clu) (n1 : Int) (w : World) (h : CluR w v s) (h1 : (Lit.int .u8 n1).wf = true) : Calls Tryz.prog 3 #[v, .int .u8 n1] w fun e w' => e = .returned (.bool true) ∧ Kept w w' := by
  have hs0 := h
  obtain ⟨_, _, _, rfl, ⟨sa1, sc1, rfl, -, -, -⟩, ⟨sa2, sc2, rfl, -, -, -⟩, ⟨sa3, sc3, rfl, -, -, -⟩⟩ := hs0
  obtain ⟨sl1, hsl1⟩ : ∃ q, (s).nodes.length = q := ⟨_, rfl⟩
  rw [hsl1] at h
  try rw [hsl1]
  obtain ⟨sl2, hsl2⟩ : ∃ q, (s).pods.length = q := ⟨_, rfl⟩
  rw [hsl2] at h
  try rw [hsl2]
  obtain ⟨sl3, hsl3⟩ : ∃ q, (s).buds.length = q := ⟨_, rfl⟩
  rw [hsl3] at h
  try rw [hsl3]
  have HL1 := Lib.hid hsl1
  have HL2 := Lib.hid hsl2
  clear hsl1 hsl2 hsl3
  have HN1 := Lib.hid (bounds_u8 h1)
  clear h1
  obtain ⟨i0, hi, hz0, hz1, hz2'⟩ := info_parts infoSt
  obtain ⟨Z, hZ⟩ : ∃ Z, w.alloc (.cells #[.slice sa1 sl1 sc1, .slice sa2 sl2 sc2, .slice sa3 sl3 sc3] 26) = Z := ⟨_, rfl⟩
  have hkz : Kept w Z := by rw [← hZ]; exact kept_alloc _ _
  have HQS := Lib.hid (show CellsN w.heap.size [.slice sa1 sl1 sc1, .slice sa2 sl2 sc2, .slice sa3 sl3 sc3] Z from freshN w (.slice sa1 sl1 sc1) [.slice sa2 sl2 sc2, .slice sa3 sl3 sc3] 26 Z (by rw [hZ]; exact Kept.refl _))
  have HS := Lib.hid (h.kept hkz)
  have HKZ := Lib.hid hkz
  clear h hkz
  try unfold CluV at HS
  have K := Lib.hid (Kept.refl Z)
  go_enter Tryz.func3, Tryz.ntmps3
  go_wp2_with fail
  try rw [hZ]
  clear hZ
  refine (knownSt_any Z).mono ?_
  rintro e w1 ⟨rfl, kk⟩
  have HQS := Lib.hid (HQS.out.kept kk)
  have HS := Lib.hid (HS.out.kept kk)
  have K := Lib.hid (K.out.trans kk)
  clear kk
  obtain ⟨e1, he1⟩ : ∃ e, goodSt s = e := ⟨_, rfl⟩
  have HE1 := Lib.hid he1
  have sq0 := HQS.out.at_ 0 _ rfl
  have sq1 := HQS.out.at_ 1 _ rfl
  have sq2 := HQS.out.at_ 2 _ rfl
  go_wp2_with fail
  refine (goodStR HS.out he1).mono ?_
  rintro e w2 ⟨rfl, kk⟩
  have HQS := Lib.hid (HQS.out.kept kk)
  have HS := Lib.hid (HS.out.kept kk)
  have K := Lib.hid (K.out.trans kk)
  clear kk he1
  clear sq0 sq1 sq2
  have sq0 := HQS.out.at_ 0 _ rfl
  have sq1 := HQS.out.at_ 1 _ rfl
  have sq2 := HQS.out.at_ 2 _ rfl
  cases e1 with
  | false =>
    go_wp2
    go_ret
    exact ⟨rfl, HKZ.out.trans K.out⟩
  | true =>
    have HL := Lib.hid (few_lowS (good_few HE1.out)).1
    have HSN := Lib.hid (sound_of HE1.out HS.out)
    have HNA := Lib.hid HS.out.nodesAt
    have HPA := Lib.hid HS.out.podsAt'
    have HB34 := Lib.hid (few_lowS (good_few HE1.out)).2
    have hsl1b : sl1 ≤ 34 := by have h1 := HB34.out.1; have h2 := HL1.out; omega
    have hsl2b : sl2 ≤ 130 := by have h1 := HB34.out.2.1; have h2 := HL2.out; omega
    obtain ⟨tv, htot, hfit, hsum⟩ := tot_at HSN.out
    have HTOT := Lib.hid htot
    have HFIT := Lib.hid hfit
    have HSUM := Lib.hid hsum
    clear htot hfit hsum
    go_wp2_with fail
    refine (totalR HS.out).mono ?_
    rw [HTOT.out]
    rintro e w3 ⟨y3, rfl, hy, kk⟩
    have HQS := Lib.hid (HQS.out.kept kk)
    have HS := Lib.hid (HS.out.kept kk)
    have HNA := Lib.hid (HNA.out.kept kk)
    have HPA := Lib.hid (HPA.out.kept kk)
    have K := Lib.hid (K.out.trans kk)
    have HTV := Lib.hid (show Vec.Reads w3 y3 tv from hy)
    clear hy kk
    clear sq0 sq1 sq2
    have sq0 := HQS.out.at_ 0 _ rfl
    have sq1 := HQS.out.at_ 1 _ rfl
    have sq2 := HQS.out.at_ 2 _ rfl
    go_wp2
    go_loopw [7, 8] (fun v i wr => ∃ k : Nat, k ≤ sl1 ∧ i = .int .i64 k ∧ ∃ ly : List ByteArray, ly.length ≤ 8 * k ∧ Own StrLay 9 wr w3.heap.size v ly ∧ Kept w3 wr) (fun _ i _ => sl1 - (intOf i).toNat)
    case atStart => exact ⟨0, Nat.zero_le _, rfl, [], Nat.zero_le _, Own.nil _ _ _, Kept.refl _⟩
    case round =>
      clear sq0 sq1 sq2
      obtain ⟨k, hk, rfl, ly, hll, ho, hK⟩ := hrel
      obtain ⟨wq1, rfl⟩ : ∃ W, W = wr := ⟨_, rfl⟩
      have HLL := Lib.hid hll
      have HO := Lib.hid ho
      have HKR := Lib.hid hK
      have sq0 := (HQS.out.kept hK).at_ 0 _ rfl
      have sq1 := (HQS.out.kept hK).at_ 1 _ rfl
      have sq2 := (HQS.out.kept hK).at_ 2 _ rfl
      clear hK ho hll
      by_cases hlt : k < sl1
      · have hkk : (k : Int) < (sl1 : Int) := by omega
        have hk0 : ¬ (k : Int) < 0 := by omega
        obtain ⟨b8, off, rfl⟩ := HNA.out.form.resolve_left (by omega)
        obtain ⟨n9, x1, y1, z1, x2, y2, z2, x3, y3, z3, hn, hd, hb, p0, p1, p2, p3, p4, hat⟩ := HNA.out.at_ hlt
        have hcl := (HSN.out.cap n9 (List.mem_of_getElem? hn)).2
        obtain ⟨_, _, e9, -, -, hva⟩ := hat.cap
        cases e9
        have HVA := Lib.hid hva
        obtain ⟨nc, hnc⟩ : ∃ q, n9.cap.length = q := ⟨_, rfl⟩
        rw [hnc] at HVA hcl p1
        have HP1 := Lib.hid p1
        have pw1 := cell_later HKR.out HP1.out
        clear hva hat hn hd hb p0 p1 p2 p3 p4 hnc
        go_wp2
        go_loopw [7, 9] (fun v j wx => ∃ q : Nat, q ≤ nc ∧ j = .int .i64 q ∧ ∃ lz : List ByteArray, lz.length ≤ 8 * k + q ∧ Own StrLay 9 wx w3.heap.size v lz ∧ Kept w3 wx) (fun _ j _ => nc - (intOf j).toNat)
        case atStart => exact ⟨0, Nat.zero_le _, rfl, ly, HLL.out, HO.out, HKR.out⟩
        case round =>
          clear pw1 sq0 sq1 sq2
          obtain ⟨q, hq, rfl, lz, hlz, hoz, hKx⟩ := hrel
          obtain ⟨wx, rfl⟩ : ∃ W, W = wr := ⟨_, rfl⟩
          have HLZ := Lib.hid hlz
          have HOZ := Lib.hid hoz
          have HKX := Lib.hid hKx
          have sq0 := (HQS.out.kept hKx).at_ 0 _ rfl
          have sq1 := (HQS.out.kept hKx).at_ 1 _ rfl
          have sq2 := (HQS.out.kept hKx).at_ 2 _ rfl
          have pp1 := cell_later hKx HP1.out
          by_cases hlq : q < nc
          · have hqq : (q : Int) < (nc : Int) := by omega
            have hq0 : ¬ (q : Int) < 0 := by omega
            obtain ⟨b7, off7, rfl⟩ := HVA.out.form.resolve_left (by omega)
            obtain ⟨-, cc0, cc1⟩ := ((HVA.out.kept hKx).cells hlq)
            have hsz9 := (HVA.out.2.2.1 q (by have := HVA.out.1; omega)).1
            obtain ⟨x, hx⟩ : ∃ q9, Vec.nm n9.cap q = q9 := ⟨_, rfl⟩
            rw [hx] at cc0 hsz9
            obtain ⟨len1, hlen1⟩ : ∃ q, lz.length = q := ⟨_, rfl⟩
            have HL9 := Lib.hid hlen1
            rw [hlen1] at HLZ
            have hbase : w3.heap.size ≤ wx.heap.size := hKx.size
            have HOWN := Lib.hid (show wx.ownsRow w3.heap.size 9 1 u7 len1 (rowCells StrLay lz) by have := HOZ.out.1; rw [HL9.out] at this; exact this)
            have HXS := Lib.hid hsz9
            clear hlz hoz hKx hx hlen1 hsz9 cc1
            go_wp2_with (at_builtin; refine wpList_append_lies _ rfl _ _ _ rfl w3.heap.size 9 i0 _ 1 16 Tryz.underlying34 hi hz0 hz1 hz2' rfl (by decide) u7 len1 (rowCells StrLay lz) rfl (HOWN.out.alloc _) ⟨wx.heap.size, 0, none⟩ 1 1 (StrLay.cs x) rfl rfl (World.news_of_block (cs := #[.string x]) (t := 9) (fr := (0, 0)) (heap_alloc_new wx _)) (one_s x) (by decide) (by unfold maxLen; have := HLZ.out; omega) (by have := HLZ.out; omega) (by simp; omega) (wx.heap.size + 1) (by simp) ?_; intro gg cap1 w9 hown1 hgrow hat hlt1)
            have HON := Lib.hid (show Own StrLay 9 w9 w3.heap.size (.slice (some ⟨gg, 0, none⟩) (len1 + 1) cap1) (lz ++ [x]) from Own.snoc hown1 (by rw [HL9.out]) HOZ.out.2 HXS.out)
            have HKN := Lib.hid (show Kept w3 w9 from (show Below w3.heap.size w3 _ from HKX.out.trans (kept_alloc wx (.cells #[.string x] 9))).grown hgrow (by rw [World.size_alloc]; omega) (fun j hj => (HOWN.out.lt j hj).1))
            clear hown1 hgrow hat hlt1
            go_wp2
            go_roundw
            case rel => exact ⟨q + 1, by omega, by go_num, _, by rw [List.length_append, HL9.out]; have := HLZ.out; simp; omega, HON.out, HKN.out⟩
            case measure => simp [intOf]; omega
          · have hqq : ¬ (q : Int) < (nc : Int) := by omega
            clear hlz hoz hKx
            go_wp2
            go_roundw
            case rel => exact ⟨k + 1, by omega, by go_num, lz, by have := HLZ.out; omega, HOZ.out, HKX.out⟩
            case measure => simp [intOf]; omega
      · have hkk : ¬ (k : Int) < (sl1 : Int) := by omega
        have HQS := Lib.hid (HQS.out.kept HKR.out)
        have HS := Lib.hid (HS.out.kept HKR.out)
        have HNA := Lib.hid (HNA.out.kept HKR.out)
        have HPA := Lib.hid (HPA.out.kept HKR.out)
        have HTV := Lib.hid (HTV.out.kept HKR.out)
        have K := Lib.hid (K.out.trans HKR.out)
        obtain ⟨na, nc, rfl, -, -, hrow⟩ := HO.out.at_
        have HROW := Lib.hid hrow
        obtain ⟨nl, hnl⟩ : ∃ q, ly.length = q := ⟨_, rfl⟩
        rw [hnl] at HROW HLL ⊢
        have hnlb : nl ≤ 8 * 34 := by have := HLL.out; omega
        clear hrow hnl HO
        clear sq0 sq1 sq2
        have sq0 := HQS.out.at_ 0 _ rfl
        have sq1 := HQS.out.at_ 1 _ rfl
        have sq2 := HQS.out.at_ 2 _ rfl
        go_wp2
        go_loopw [10] (fun i wx => ∃ q : Nat, q ≤ nl ∧ i = .int .i64 q ∧ Kept wq1 wx) (fun i _ => nl - (intOf i).toNat)
        case atStart => exact ⟨0, Nat.zero_le _, rfl, Kept.refl _⟩
        case round =>
          clear sq0 sq1 sq2
          obtain ⟨q, hq, rfl, hKx⟩ := hrel
          obtain ⟨wx, rfl⟩ : ∃ W, W = wr := ⟨_, rfl⟩
          have HQS := Lib.hid (HQS.out.kept hKx)
          have HS := Lib.hid (HS.out.kept hKx)
          have HNA := Lib.hid (HNA.out.kept hKx)
          have HPA := Lib.hid (HPA.out.kept hKx)
          have HTV := Lib.hid (HTV.out.kept hKx)
          have HROW := Lib.hid (HROW.out.kept hKx)
          have K := Lib.hid (K.out.trans hKx)
          have HKX := Lib.hid hKx
          clear hKx
          have sq0 := HQS.out.at_ 0 _ rfl
          have sq1 := HQS.out.at_ 1 _ rfl
          have sq2 := HQS.out.at_ 2 _ rfl
          by_cases hlq : q < nl
          · have hqq : (q : Int) < (nl : Int) := by omega
            have hq0 : ¬ (q : Int) < 0 := by omega
            obtain ⟨bn, offn, rfl⟩ := HROW.out.form.resolve_left (by omega)
            obtain ⟨x, -, -, -, -, cx⟩ := HROW.out.str hlq
            have HCX := Lib.hid cx
            clear cx
            go_wp2
            go_loopw [11, 12] (fun nv j wy => ∃ r : Nat, r ≤ sl1 ∧ j = .int .i64 r ∧ nv = .int .i64 (sumN (s.nodes.take r) x) ∧ Kept wx wy) (fun _ j _ => sl1 - (intOf j).toNat)
            case atStart => exact ⟨0, Nat.zero_le _, rfl, rfl, Kept.refl _⟩
            case round =>
              clear sq0 sq1 sq2
              obtain ⟨r, hr, rfl, rfl, hKy⟩ := hrel
              obtain ⟨wy, rfl⟩ : ∃ W, W = wr := ⟨_, rfl⟩
              have HKY := Lib.hid hKy
              have sq0 := (HQS.out.kept hKy).at_ 0 _ rfl
              have sq1 := (HQS.out.kept hKy).at_ 1 _ rfl
              have sq2 := (HQS.out.kept hKy).at_ 2 _ rfl
              by_cases hlr : r < sl1
              · have hrr : (r : Int) < (sl1 : Int) := by omega
                have hr0 : ¬ (r : Int) < 0 := by omega
                obtain ⟨b8, off, rfl⟩ := HNA.out.form.resolve_left (by omega)
                obtain ⟨n9, x1, y1, z1, x2, y2, z2, x3, y3, z3, hn, hd, hb, p0, p1, p2, p3, p4, hat⟩ := (HNA.out.kept hKy).at_ hlr
                have HF := Lib.hid (show ∀ W, Kept wy W → W.cell? ⟨w.heap.size, 0, none⟩ = some (.slice (some ⟨b8, off, none⟩) sl1 sc1) ∧ W.cell? ⟨w.heap.size, 1, none⟩ = some (.slice sa2 sl2 sc2) ∧ W.cell? ⟨w.heap.size, 2, none⟩ = some (.slice sa3 sl3 sc3) ∧ W.cell? ⟨b8, off + r * 5, none⟩ = some (.string n9.name) ∧ W.cell? ⟨b8, off + r * 5 + 1, none⟩ = some (.slice x1 y1 z1) ∧ W.cell? ⟨b8, off + r * 5 + 2, none⟩ = some (.slice x2 y2 z2) ∧ W.cell? ⟨b8, off + r * 5 + 3, none⟩ = some (.slice x3 y3 z3) ∧ W.cell? ⟨b8, off + r * 5 + 4, none⟩ = some (.bool n9.cordon) ∧ W.cell? ⟨bn, offn + q, none⟩ = some (.string x) from fun W kk => ⟨cell_later kk sq0, cell_later kk sq1, cell_later kk sq2, cell_later kk p0, cell_later kk p1, cell_later kk p2, cell_later kk p3, cell_later kk p4, cell_later (hKy.trans kk) HCX.out⟩)
                have HCAP := Lib.hid hat.cap
                have hcl := (HSN.out.cap n9 (List.mem_of_getElem? hn)).2
                have hstep := sumN_snoc x hn
                have hle := (sumN_le x (l := s.nodes) (r + 1) HSN.out.cap)
                have hmx := (Vec.get_bd x HFIT.out.1).2
                rw [HSUM.out x] at hmx
                obtain ⟨A, hA⟩ : ∃ q : Int, sumN (s.nodes.take r) x = q := ⟨_, rfl⟩
                obtain ⟨G, hG⟩ : ∃ q : Int, Vec.getV n9.cap x = q := ⟨_, rfl⟩
                rw [hA, hG] at hstep
                have HST := Lib.hid hstep
                have hwr : IntKind.i64.wrap (A + G) = A + G := IntWalk.i64_in _ (by omega)
                have HG := Lib.hid hG
                rw [hA]
                go_upto_region 23 with fail
                clear hat hn hd hb hKy hA hG hle hmx hstep p0 p1 p2 p3 p4 sq0 sq1 sq2
                have J := Lib.hid (Kept.drew wy)
                refine wp_region_held_drew (S := fun W => W.cell? ⟨w.heap.size, 0, none⟩ = some (.slice (some ⟨b8, off, none⟩) sl1 sc1) ∧ W.cell? ⟨w.heap.size, 1, none⟩ = some (.slice sa2 sl2 sc2) ∧ W.cell? ⟨w.heap.size, 2, none⟩ = some (.slice sa3 sl3 sc3) ∧ W.cell? ⟨b8, off + r * 5, none⟩ = some (.string n9.name) ∧ W.cell? ⟨b8, off + r * 5 + 1, none⟩ = some (.slice x1 y1 z1) ∧ W.cell? ⟨b8, off + r * 5 + 2, none⟩ = some (.slice x2 y2 z2) ∧ W.cell? ⟨b8, off + r * 5 + 3, none⟩ = some (.slice x3 y3 z3) ∧ W.cell? ⟨b8, off + r * 5 + 4, none⟩ = some (.bool n9.cordon) ∧ W.cell? ⟨bn, offn + q, none⟩ = some (.string x)) (by kernel_rfl) (HF.out _ J.out) (fun hHeld => ?_)
                refine wpAnyH_take (i := 0) (v := ?_) (by rw [List.getElem?_toArray]; exact rfl) (by kernel_rfl) (by kernel_rfl) (by kernel_rfl) (by exact fun _ _ _ h => h) (Or.inl ⟨by rfl, (by intro W hSw; obtain ⟨o0, o1, o2, o3, o4, o5, o6, o7, o8⟩ := hSw; go_simp <;> with_reducible rfl)⟩) (by assumption) ?_
                try simp only [Act.put, List.setIfInBounds_toArray, List.set_cons_zero, List.set_cons_succ]
                refine wpAnyH_take (i := 1) (v := ?_) (by rw [List.getElem?_toArray]; exact rfl) (by kernel_rfl) (by kernel_rfl) (by kernel_rfl) (by exact fun _ _ _ h => h) (Or.inl ⟨by rfl, (by intro W hSw; obtain ⟨o0, o1, o2, o3, o4, o5, o6, o7, o8⟩ := hSw; go_simp <;> with_reducible rfl)⟩) (by assumption) ?_
                try simp only [Act.put, List.setIfInBounds_toArray, List.set_cons_zero, List.set_cons_succ]
                refine wpAnyH_take (i := 2) (v := ?_) (by rw [List.getElem?_toArray]; exact rfl) (by kernel_rfl) (by kernel_rfl) (by kernel_rfl) (by exact fun _ _ _ h => h) (Or.inl ⟨by rfl, (by intro W hSw; obtain ⟨o0, o1, o2, o3, o4, o5, o6, o7, o8⟩ := hSw; go_simp <;> with_reducible rfl)⟩) (by assumption) ?_
                try simp only [Act.put, List.setIfInBounds_toArray, List.set_cons_zero, List.set_cons_succ]
                refine wpAnyH_take (i := 3) (v := ?_) (by rw [List.getElem?_toArray]; exact rfl) (by kernel_rfl) (by kernel_rfl) (by kernel_rfl) (by exact fun _ _ _ h => h) (Or.inl ⟨by rfl, (by intro W hSw; obtain ⟨o0, o1, o2, o3, o4, o5, o6, o7, o8⟩ := hSw; go_simp <;> with_reducible rfl)⟩) (by assumption) ?_
                try simp only [Act.put, List.setIfInBounds_toArray, List.set_cons_zero, List.set_cons_succ]
                refine wpAnyH_take (i := 4) (v := ?_) (by rw [List.getElem?_toArray]; exact rfl) (by kernel_rfl) (by kernel_rfl) (by kernel_rfl) (by exact fun _ _ _ h => h) (Or.inl ⟨by rfl, (by intro W hSw; obtain ⟨o0, o1, o2, o3, o4, o5, o6, o7, o8⟩ := hSw; go_simp <;> with_reducible rfl)⟩) (by assumption) ?_
                try simp only [Act.put, List.setIfInBounds_toArray, List.set_cons_zero, List.set_cons_succ]
                refine wpAnyH_take (i := 5) (v := ?_) (by rw [List.getElem?_toArray]; exact rfl) (by kernel_rfl) (by kernel_rfl) (by kernel_rfl) (by exact fun _ _ _ h => h) (Or.inl ⟨by rfl, (by intro W hSw; obtain ⟨o0, o1, o2, o3, o4, o5, o6, o7, o8⟩ := hSw; go_simp <;> with_reducible rfl)⟩) (by assumption) ?_
                try simp only [Act.put, List.setIfInBounds_toArray, List.set_cons_zero, List.set_cons_succ]
                refine wpAnyH_take (i := 6) (v := ?_) (by rw [List.getElem?_toArray]; exact rfl) (by kernel_rfl) (by kernel_rfl) (by kernel_rfl) (by exact fun _ _ _ h => h) (Or.inl ⟨by rfl, (by intro W hSw; obtain ⟨o0, o1, o2, o3, o4, o5, o6, o7, o8⟩ := hSw; go_simp <;> with_reducible rfl)⟩) (by assumption) ?_
                try simp only [Act.put, List.setIfInBounds_toArray, List.set_cons_zero, List.set_cons_succ]
                refine wpAnyH_take (i := 8) (v := ?_) (by rw [List.getElem?_toArray]; exact rfl) (by kernel_rfl) (by kernel_rfl) (by kernel_rfl) (by exact fun _ _ _ h => h) (Or.inl ⟨by rfl, (by intro W hSw; obtain ⟨o0, o1, o2, o3, o4, o5, o6, o7, o8⟩ := hSw; go_simp <;> with_reducible rfl)⟩) (by assumption) ?_
                try simp only [Act.put, List.setIfInBounds_toArray, List.set_cons_zero, List.set_cons_succ]
                refine wpAnyH_take (i := 9) (v := ?_) (by rw [List.getElem?_toArray]; exact rfl) (by kernel_rfl) (by kernel_rfl) (by kernel_rfl) (by exact fun _ _ _ h => h) (Or.inl ⟨by rfl, (by intro W hSw; obtain ⟨o0, o1, o2, o3, o4, o5, o6, o7, o8⟩ := hSw; go_simp <;> with_reducible rfl)⟩) (by assumption) ?_
                try simp only [Act.put, List.setIfInBounds_toArray, List.set_cons_zero, List.set_cons_succ]
                refine wpAnyH_take (i := 10) (v := ?_) (by rw [List.getElem?_toArray]; exact rfl) (by kernel_rfl) (by kernel_rfl) (by kernel_rfl) (by exact fun _ _ _ h => h) (Or.inl ⟨by rfl, (by intro W hSw; obtain ⟨o0, o1, o2, o3, o4, o5, o6, o7, o8⟩ := hSw; go_simp <;> with_reducible rfl)⟩) (by assumption) ?_
                try simp only [Act.put, List.setIfInBounds_toArray, List.set_cons_zero, List.set_cons_succ]
                refine wpAnyH_take (i := 11) (v := ?_) (by rw [List.getElem?_toArray]; exact rfl) (by kernel_rfl) (by kernel_rfl) (by kernel_rfl) (by exact fun _ _ _ h => h) (Or.inl ⟨by rfl, (by intro W hSw; obtain ⟨o0, o1, o2, o3, o4, o5, o6, o7, o8⟩ := hSw; go_simp <;> with_reducible rfl)⟩) (by assumption) ?_
                try simp only [Act.put, List.setIfInBounds_toArray, List.set_cons_zero, List.set_cons_succ]
                refine wpAnyH_ready (rs := [7]) (by kernel_rfl) (by simp) (AllReadyH.cons (by rw [List.getElem?_toArray]; exact rfl) (fun K9 hK9 => ?_) AllReadyH.nil)
                go_simp
                refine (ofVR (HCAP.out.kept J.out) hcl).mono ?_
                rintro e r1 ⟨v1, rfl, hy, kk⟩
                have J := Lib.hid (J.out.trans kk)
                have HV1 := Lib.hid hy
                clear hy kk
                refine hK9.out _ _ (HF.out _ J.out) (fun hHeld1 => ?_)
                clear hK9 K9
                try simp only [Act.put, List.setIfInBounds_toArray, List.set_cons_zero, List.set_cons_succ]
                refine wpAnyH_ready (rs := [12]) (by kernel_rfl) (by simp) (AllReadyH.cons (by rw [List.getElem?_toArray]; exact rfl) (fun K9 hK9 => ?_) AllReadyH.nil)
                go_simp
                refine (rgetVR HV1.out).mono ?_
                rw [HG.out]
                rintro e r2 ⟨rfl, kk⟩
                have J := Lib.hid (J.out.trans kk)
                clear kk
                refine hK9.out _ _ (HF.out _ J.out) (fun hHeld2 => ?_)
                clear hK9 K9
                try simp only [Act.put, List.setIfInBounds_toArray, List.set_cons_zero, List.set_cons_succ]
                refine wpAnyH_take (i := 13) (v := ?_) (by rw [List.getElem?_toArray]; exact rfl) (by kernel_rfl) (by kernel_rfl) (by kernel_rfl) (by exact fun _ _ _ h => h) (Or.inl ⟨by rfl, (by intro W hSw; obtain ⟨o0, o1, o2, o3, o4, o5, o6, o7, o8⟩ := hSw; go_simp <;> with_reducible rfl)⟩) (by assumption) ?_
                try simp only [Act.put, List.setIfInBounds_toArray, List.set_cons_zero, List.set_cons_succ]
                refine wpAnyH_take (i := 14) (v := ?_) (by rw [List.getElem?_toArray]; exact rfl) (by kernel_rfl) (by kernel_rfl) (by kernel_rfl) (by exact fun _ _ _ h => h) (Or.inl ⟨by rfl, (by intro W hSw; obtain ⟨o0, o1, o2, o3, o4, o5, o6, o7, o8⟩ := hSw; go_simp <;> with_reducible rfl)⟩) (by assumption) ?_
                try simp only [Act.put, List.setIfInBounds_toArray, List.set_cons_zero, List.set_cons_succ]
                refine wpAnyH_done (by kernel_rfl) ?_ _
                go_wp2
                go_roundw
                case rel => exact ⟨r + 1, by omega, by go_num, by rw [HST.out], HKY.out.trans J.out⟩
                case measure => simp [intOf]; omega
              · have hrr : ¬ (r : Int) < (sl1 : Int) := by omega
                have hall : sumN (s.nodes.take r) x = Vec.getV tv x := by rw [HSUM.out x, List.take_of_length_le (by rw [HL1.out]; omega)]
                rw [hall]
                have hcx := cell_later hKy HCX.out
                obtain ⟨G, hG⟩ : ∃ q : Int, Vec.getV tv x = q := ⟨_, rfl⟩
                have HG := Lib.hid hG
                rw [hG]
                have hgg := bneq_own G
                clear hall hG
                go_wp2_with fail
                refine (getVR (HTV.out.kept HKY.out)).mono ?_
                rw [HG.out]
                rintro e r1 ⟨rfl, kk⟩
                have KY := Lib.hid (HKY.out.trans kk)
                clear kk hKy hcx sq0 sq1 sq2
                go_wp2
                go_roundw
                case rel => exact ⟨q + 1, by omega, by go_num, HKX.out.trans KY.out⟩
                case measure => simp [intOf]; omega
          · have hqq : ¬ (q : Int) < (nl : Int) := by omega
            by_cases hp0 : sl2 = 0
            · have hp0i : (sl2 : Int) = 0 := by omega
              have hp0b : ((sl2 : Int) == 0) = true := by rw [hp0i]; rfl
              go_wp2
              go_ret
              exact ⟨rfl, HKZ.out.trans K.out⟩
            have hz1 : ¬ (sl2 : Int) = 0 := by omega
            have hz1b : ((sl2 : Int) == 0) = false := by simp; omega
            obtain ⟨k1, hk1, hkr1⟩ := rem_nat HN1.out (show 0 < sl2 by omega)
            have hki1 : (k1 : Int) < (sl2 : Int) := by omega
            have hk10 : ¬ (k1 : Int) < 0 := by omega
            have hw1 : IntKind.i64.wrap n1 = n1 := IntWalk.i64_in _ (by have := HN1.out; omega)
            obtain ⟨b9, off9, rfl⟩ := HPA.out.form.resolve_left (by omega)
            obtain ⟨pp, a1, m1, c1, a2, m2, c2, a3, m3, c3, a4, m4, c4, hn, hd, hb, p0, p1, p2, p3, p4, p5, p6, p7, p8, p9, p10, hat⟩ := HPA.out.at_ hk1
            have HPM := Lib.hid (List.mem_of_getElem? hn)
            have HF := Lib.hid (show ∀ W, Kept wx W → W.cell? ⟨w.heap.size, 0, none⟩ = some (.slice sa1 sl1 sc1) ∧ W.cell? ⟨w.heap.size, 1, none⟩ = some (.slice (some ⟨b9, off9, none⟩) sl2 sc2) ∧ W.cell? ⟨w.heap.size, 2, none⟩ = some (.slice sa3 sl3 sc3) ∧ W.cell? ⟨b9, off9 + k1 * 11, none⟩ = some (.string pp.name) from fun W kk => ⟨cell_later kk (HQS.out.at_ 0 _ rfl), cell_later kk (HQS.out.at_ 1 _ rfl), cell_later kk (HQS.out.at_ 2 _ rfl), cell_later kk p0⟩)
            go_upto_region 28 with fail
            clear hat hn hd hb p0 p1 p2 p3 p4 p5 p6 p7 p8 p9 p10 sq0 sq1 sq2
            go_cut [13] from 101 to 113 (fun s13 wz => ∃ q, s13 = .pointer (some ⟨q, 0, none⟩) ∧ Hid (∃ ta1 tl1 tc1 ta2 tl2 tc2 ta3 tl3 tc3, CellsN q [.slice ta1 tl1 tc1, .slice ta2 tl2 tc2, .slice ta3 tl3 tc3] wz ∧ CluR wz (.agg #[.slice ta1 tl1 tc1, .slice ta2 tl2 tc2, .slice ta3 tl3 tc3]) (dropSt s pp.name) ∧ Kept wx wz))
            case first =>
              have J := Lib.hid (Kept.drew wx)
              refine wp_region_held_drew (S := fun W => W.cell? ⟨w.heap.size, 0, none⟩ = some (.slice sa1 sl1 sc1) ∧ W.cell? ⟨w.heap.size, 1, none⟩ = some (.slice (some ⟨b9, off9, none⟩) sl2 sc2) ∧ W.cell? ⟨w.heap.size, 2, none⟩ = some (.slice sa3 sl3 sc3) ∧ W.cell? ⟨b9, off9 + k1 * 11, none⟩ = some (.string pp.name)) (by kernel_rfl) (HF.out _ J.out) (fun hHeld => ?_)
              obtain ⟨wd, hwd⟩ : ∃ W, wx.drew = W := ⟨_, rfl⟩
              rw [hwd] at J hHeld
              try rw [hwd]
              clear hwd
              refine wpAnyH_take (i := 0) (v := ?_) (by rw [List.getElem?_toArray]; exact rfl) (by kernel_rfl) (by kernel_rfl) (by kernel_rfl) (by exact fun _ _ _ h => h) (Or.inl ⟨by rfl, (by intro W hSw; obtain ⟨o0, o1, o2, o3⟩ := hSw; go_simp <;> with_reducible rfl)⟩) (by assumption) ?_
              try simp only [Act.put, List.setIfInBounds_toArray, List.set_cons_zero, List.set_cons_succ]
              refine wpAnyH_take (i := 1) (v := ?_) (by rw [List.getElem?_toArray]; exact rfl) (by kernel_rfl) (by kernel_rfl) (by kernel_rfl) (by exact fun _ _ _ h => h) (Or.inl ⟨by rfl, (by intro W hSw; obtain ⟨o0, o1, o2, o3⟩ := hSw; go_simp <;> with_reducible rfl)⟩) (by assumption) ?_
              try simp only [Act.put, List.setIfInBounds_toArray, List.set_cons_zero, List.set_cons_succ]
              refine wpAnyH_take (i := 2) (v := ?_) (by rw [List.getElem?_toArray]; exact rfl) (by kernel_rfl) (by kernel_rfl) (by kernel_rfl) (by exact fun _ _ _ h => h) (Or.inl ⟨by rfl, (by intro W hSw; obtain ⟨o0, o1, o2, o3⟩ := hSw; go_simp <;> with_reducible rfl)⟩) (by assumption) ?_
              try simp only [Act.put, List.setIfInBounds_toArray, List.set_cons_zero, List.set_cons_succ]
              refine wpAnyH_take (i := 3) (v := ?_) (by rw [List.getElem?_toArray]; exact rfl) (by kernel_rfl) (by kernel_rfl) (by kernel_rfl) (by exact fun _ _ _ h => h) (Or.inl ⟨by rfl, (by intro W hSw; obtain ⟨o0, o1, o2, o3⟩ := hSw; go_simp <;> with_reducible rfl)⟩) (by assumption) ?_
              try simp only [Act.put, List.setIfInBounds_toArray, List.set_cons_zero, List.set_cons_succ]
              refine wpAnyH_take (i := 4) (v := ?_) (by rw [List.getElem?_toArray]; exact rfl) (by kernel_rfl) (by kernel_rfl) (by kernel_rfl) (by exact fun _ _ _ h => h) (Or.inl ⟨by rfl, (by intro W hSw; obtain ⟨o0, o1, o2, o3⟩ := hSw; go_simp <;> with_reducible rfl)⟩) (by assumption) ?_
              try simp only [Act.put, List.setIfInBounds_toArray, List.set_cons_zero, List.set_cons_succ]
              refine wpAnyH_take (i := 5) (v := ?_) (by rw [List.getElem?_toArray]; exact rfl) (by kernel_rfl) (by kernel_rfl) (by kernel_rfl) (by exact fun _ _ _ h => h) (Or.inl ⟨by rfl, (by intro W hSw; obtain ⟨o0, o1, o2, o3⟩ := hSw; go_simp <;> with_reducible rfl)⟩) (by assumption) ?_
              try simp only [Act.put, List.setIfInBounds_toArray, List.set_cons_zero, List.set_cons_succ]
              refine wpAnyH_take (i := 6) (v := ?_) (by rw [List.getElem?_toArray]; exact rfl) (by kernel_rfl) (by kernel_rfl) (by kernel_rfl) (by exact fun _ _ _ h => h) (Or.inl ⟨by rfl, (by intro W hSw; obtain ⟨o0, o1, o2, o3⟩ := hSw; go_simp <;> with_reducible rfl)⟩) (by assumption) ?_
              try simp only [Act.put, List.setIfInBounds_toArray, List.set_cons_zero, List.set_cons_succ]
              refine wpAnyH_take (i := 7) (v := ?_) (by rw [List.getElem?_toArray]; exact rfl) (by kernel_rfl) (by kernel_rfl) (by kernel_rfl) (by exact fun _ _ _ h => h) (Or.inl ⟨by rfl, (by intro W hSw; obtain ⟨o0, o1, o2, o3⟩ := hSw; go_simp <;> with_reducible rfl)⟩) (by assumption) ?_
              try simp only [Act.put, List.setIfInBounds_toArray, List.set_cons_zero, List.set_cons_succ]
              refine wpAnyH_take (i := 8) (v := ?_) (by rw [List.getElem?_toArray]; exact rfl) (by kernel_rfl) (by kernel_rfl) (by kernel_rfl) (by exact fun _ _ _ h => h) (Or.inl ⟨by rfl, (by intro W hSw; obtain ⟨o0, o1, o2, o3⟩ := hSw; go_simp <;> with_reducible rfl)⟩) (by assumption) ?_
              try simp only [Act.put, List.setIfInBounds_toArray, List.set_cons_zero, List.set_cons_succ]
              refine wpAnyH_take (i := 9) (v := ?_) (by rw [List.getElem?_toArray]; exact rfl) (by kernel_rfl) (by kernel_rfl) (by kernel_rfl) (by exact fun _ _ _ h => h) (Or.inl ⟨by rfl, (by intro W hSw; obtain ⟨o0, o1, o2, o3⟩ := hSw; go_simp <;> with_reducible rfl)⟩) (by assumption) ?_
              try simp only [Act.put, List.setIfInBounds_toArray, List.set_cons_zero, List.set_cons_succ]
              refine wpAnyH_take (i := 10) (v := ?_) (by rw [List.getElem?_toArray]; exact rfl) (by kernel_rfl) (by kernel_rfl) (by kernel_rfl) (by exact fun _ _ _ h => h) (Or.inl ⟨by rfl, (by intro W hSw; obtain ⟨o0, o1, o2, o3⟩ := hSw; go_simp <;> with_reducible rfl)⟩) (by assumption) ?_
              try simp only [Act.put, List.setIfInBounds_toArray, List.set_cons_zero, List.set_cons_succ]
              refine wpAnyH_take (i := 11) (v := ?_) (by rw [List.getElem?_toArray]; exact rfl) (by kernel_rfl) (by kernel_rfl) (by kernel_rfl) (by exact fun _ _ _ h => h) (Or.inl ⟨by rfl, (by intro W hSw; obtain ⟨o0, o1, o2, o3⟩ := hSw; go_simp <;> with_reducible rfl)⟩) (by assumption) ?_
              try simp only [Act.put, List.setIfInBounds_toArray, List.set_cons_zero, List.set_cons_succ]
              refine wpAnyH_ready (rs := [12, 13]) (by kernel_rfl) (by simp) (AllReadyH.cons (by rw [List.getElem?_toArray]; exact rfl) (fun K9 hK9 => ?_) (AllReadyH.cons (by rw [List.getElem?_toArray]; exact rfl) (fun K9 hK9 => ?_) AllReadyH.nil))
              · go_simp
                refine (dropStR (HS.out.kept J.out) pp.name HL.out).mono ?_
                rintro e x1 ⟨tv9, rfl, ht, kk⟩
                have J := Lib.hid (J.out.trans kk)
                clear kk
                have hs0 := ht
                obtain ⟨_, _, _, rfl, ⟨ta1, tc1, rfl, -, -, -⟩, ⟨ta2, tc2, rfl, -, -, -⟩, ⟨ta3, tc3, rfl, -, -, -⟩⟩ := hs0
                obtain ⟨tl1, htl1⟩ : ∃ q, (dropSt s pp.name).nodes.length = q := ⟨_, rfl⟩
                rw [htl1] at ht
                try rw [htl1]
                obtain ⟨tl2, htl2⟩ : ∃ q, (dropSt s pp.name).pods.length = q := ⟨_, rfl⟩
                rw [htl2] at ht
                try rw [htl2]
                obtain ⟨tl3, htl3⟩ : ∃ q, (dropSt s pp.name).buds.length = q := ⟨_, rfl⟩
                rw [htl3] at ht
                try rw [htl3]
                clear htl1 htl2 htl3
                have HT := Lib.hid ht
                clear ht
                refine hK9.out _ _ (HF.out _ J.out) (fun hHeld6 => ?_)
                clear hK9 K9
                try simp only [Act.put, List.setIfInBounds_toArray, List.set_cons_zero, List.set_cons_succ]
                refine wpAnyH_ready (rs := [13]) (by kernel_rfl) (by simp) (AllReadyH.cons (by rw [List.getElem?_toArray]; exact rfl) (fun K9 hK9 => ?_) AllReadyH.nil)
                go_simp
                refine hK9.out _ _ (HF.out _ (J.out.trans (kept_alloc _ _))) (fun hHeldA => ?_)
                clear hK9 K9
                try simp only [Act.put, List.setIfInBounds_toArray, List.set_cons_zero, List.set_cons_succ]
                refine wpAnyH_ready (rs := [14]) (by kernel_rfl) (by simp) (AllReadyH.cons (by rw [List.getElem?_toArray]; exact rfl) (fun K9 hK9 => ?_) AllReadyH.nil)
                go_simp
                refine hK9.out _ _ (HF.out _ (J.out.trans (kept_alloc _ _))) (fun hHeldB => ?_)
                clear hK9 K9
                try simp only [Act.put, List.setIfInBounds_toArray, List.set_cons_zero, List.set_cons_succ]
                obtain ⟨x2, hx2⟩ : ∃ W, x1.alloc (.cells #[.slice ta1 tl1 tc1, .slice ta2 tl2 tc2, .slice ta3 tl3 tc3] 26) = W := ⟨_, rfl⟩
                have hk3 : Kept x1 x2 := by rw [← hx2]; exact kept_alloc _ _
                have HQT := Lib.hid (show CellsN x1.heap.size [.slice ta1 tl1 tc1, .slice ta2 tl2 tc2, .slice ta3 tl3 tc3] x2 from freshN x1 (.slice ta1 tl1 tc1) [.slice ta2 tl2 tc2, .slice ta3 tl3 tc3] 26 x2 (by rw [hx2]; exact Kept.refl _))
                have HT := Lib.hid (HT.out.kept hk3)
                have J := Lib.hid (J.out.trans hk3)
                try rw [hx2]
                clear hx2 hk3
                refine wpAnyH_done (by kernel_rfl) ?_ _
                go_wp2
                go_meet
                case rel => exact ⟨_, rfl, Lib.hid ⟨_, _, _, _, _, _, _, _, _, HQT.out, HT.out, J.out⟩⟩
              · go_simp
                refine hK9.out _ _ (HF.out _ (J.out.trans (kept_alloc _ _))) (fun hHeldA => ?_)
                clear hK9 K9
                try simp only [Act.put, List.setIfInBounds_toArray, List.set_cons_zero, List.set_cons_succ]
                obtain ⟨wa, hwa⟩ : ∃ W, wd.alloc (.cells #[.slice none 0 0, .slice none 0 0, .slice none 0 0] 26) = W := ⟨_, rfl⟩
                have hka : Kept wd wa := by rw [← hwa]; exact kept_alloc _ _
                have HQA := Lib.hid (show CellsN wd.heap.size [.slice none 0 0, .slice none 0 0, .slice none 0 0] wa from freshN wd (.slice none 0 0) [.slice none 0 0, .slice none 0 0] 26 wa (by rw [hwa]; exact Kept.refl _))
                have HSL := Lib.hid (show ∀ W, Kept wa W → AllSl W wd.heap.size from fun W k => by
                  have hh : wa.heap[wd.heap.size]? = some (.cells #[.slice none 0 0, .slice none 0 0, .slice none 0 0] 26) := by rw [← hwa]; exact World.alloc_heap_new wd _
                  exact all_sl ((k.block _ (Array.getElem?_eq_some_iff.1 hh).1).trans hh))
                have HQB := Lib.hid (show wx.heap.size ≤ wd.heap.size from J.out.size)
                obtain ⟨qa, hqa⟩ : ∃ q, wd.heap.size = q := ⟨_, rfl⟩
                rw [hqa] at HQA HSL HQB
                have J := Lib.hid (J.out.trans hka)
                have KA := Lib.hid (Kept.refl wa)
                try rw [hwa]
                try rw [hqa]
                clear hwa hka hqa
                refine wpAnyH_ready (rs := [12]) (by kernel_rfl) (by simp) (AllReadyH.cons (by rw [List.getElem?_toArray]; exact rfl) (fun K9 hK9 => ?_) AllReadyH.nil)
                go_simp
                refine (dropStR (HS.out.kept J.out) pp.name HL.out).mono ?_
                rintro e x1 ⟨tv9, rfl, ht, kk⟩
                have J := Lib.hid (J.out.trans kk)
                have KA := Lib.hid (KA.out.trans kk)
                have HQA := Lib.hid (HQA.out.kept kk)
                clear kk
                have hs0 := ht
                obtain ⟨_, _, _, rfl, ⟨ta1, tc1, rfl, -, -, -⟩, ⟨ta2, tc2, rfl, -, -, -⟩, ⟨ta3, tc3, rfl, -, -, -⟩⟩ := hs0
                obtain ⟨tl1, htl1⟩ : ∃ q, (dropSt s pp.name).nodes.length = q := ⟨_, rfl⟩
                rw [htl1] at ht
                try rw [htl1]
                obtain ⟨tl2, htl2⟩ : ∃ q, (dropSt s pp.name).pods.length = q := ⟨_, rfl⟩
                rw [htl2] at ht
                try rw [htl2]
                obtain ⟨tl3, htl3⟩ : ∃ q, (dropSt s pp.name).buds.length = q := ⟨_, rfl⟩
                rw [htl3] at ht
                try rw [htl3]
                clear htl1 htl2 htl3
                have HT := Lib.hid ht
                clear ht
                refine hK9.out _ _ (HF.out _ J.out) (fun hHeld16 => ?_)
                clear hK9 K9
                try simp only [Act.put, List.setIfInBounds_toArray, List.set_cons_zero, List.set_cons_succ]
                have z0 := HQA.out.at_ 0 _ rfl
                have z1 := HQA.out.at_ 1 _ rfl
                have z2 := HQA.out.at_ 2 _ rfl
                have f0 := HQA.out.free 0
                have f1 := HQA.out.free 1
                have f2 := HQA.out.free 2
                have PP := Lib.hid (putN (vs := [.slice ta1 tl1 tc1, .slice ta2 tl2 tc2, .slice ta3 tl3 tc3]) HQA.out rfl)
                refine wpAnyH_ready (rs := [14]) (by kernel_rfl) (by simp) (AllReadyH.cons (by rw [List.getElem?_toArray]; exact rfl) (fun K9 hK9 => ?_) AllReadyH.nil)
                go_simp
                obtain ⟨WE, hWE⟩ : ∃ W, x1.setCells qa 0 [.slice ta1 tl1 tc1, .slice ta2 tl2 tc2, .slice ta3 tl3 tc3] = W := ⟨_, rfl⟩
                have hWE2 : (((x1.setCell ⟨qa, 0, none⟩ (.slice ta1 tl1 tc1)).setCell ⟨qa, 1, none⟩ (.slice ta2 tl2 tc2)).setCell ⟨qa, 2, none⟩ (.slice ta3 tl3 tc3)) = WE := hWE
                rw [hWE] at PP
                try rw [hWE2]
                obtain ⟨PC, hsz, hbl, hkp⟩ := PP.out
                have JE := Lib.hid (show Kept wx WE from hkp _ _ HQB.out J.out)
                have RE := Lib.hid (clu_pastS hsz hbl (HSL.out _ KA.out) HT.out)
                have HQT := Lib.hid PC
                clear hWE hWE2 PP PC hsz hbl hkp z0 z1 z2 f0 f1 f2
                refine hK9.out _ _ (HF.out _ JE.out) (fun hHeldS => ?_)
                clear hK9 K9
                try simp only [Act.put, List.setIfInBounds_toArray, List.set_cons_zero, List.set_cons_succ]
                refine wpAnyH_done (by kernel_rfl) ?_ _
                go_wp2
                go_meet
                case rel => exact ⟨_, rfl, Lib.hid ⟨_, _, _, _, _, _, _, _, _, HQT.out, RE.out, JE.out⟩⟩
            case rest =>
              obtain ⟨tq, rfl, hh⟩ := hcut
              obtain ⟨ta1, tl1, tc1, ta2, tl2, tc2, ta3, tl3, tc3, hqt, ht, hkx⟩ := hh.out
              have HQT := Lib.hid hqt
              have HT := Lib.hid ht
              have HQS := Lib.hid (HQS.out.kept hkx)
              have HS := Lib.hid (HS.out.kept hkx)
              have HNA := Lib.hid (HNA.out.kept hkx)
              have HPA := Lib.hid (HPA.out.kept hkx)
              have K := Lib.hid (K.out.trans hkx)
              clear hh hqt ht hkx HF
              have sq0 := HQS.out.at_ 0 _ rfl
              have sq1 := HQS.out.at_ 1 _ rfl
              have sq2 := HQS.out.at_ 2 _ rfl
              have tq0 := HQT.out.at_ 0 _ rfl
              have tq1 := HQT.out.at_ 1 _ rfl
              have tq2 := HQT.out.at_ 2 _ rfl
              go_wp2
              go_loopw [14] (fun i wr => ∃ k : Nat, k ≤ sl1 ∧ i = .int .i64 k ∧ Kept wc wr) (fun i _ => sl1 - (intOf i).toNat)
              case atStart => exact ⟨0, Nat.zero_le _, rfl, Kept.refl _⟩
              case round =>
                clear sq0 sq1 sq2 tq0 tq1 tq2
                obtain ⟨k, hk, rfl, hK⟩ := hrel
                have HQS := Lib.hid (HQS.out.kept hK)
                have HQT := Lib.hid (HQT.out.kept hK)
                have HS := Lib.hid (HS.out.kept hK)
                have HNA := Lib.hid (HNA.out.kept hK)
                have HPA := Lib.hid (HPA.out.kept hK)
                have HT := Lib.hid (HT.out.kept hK)
                have K := Lib.hid (K.out.trans hK)
                have HKL := Lib.hid hK
                clear hK
                have sq0 := HQS.out.at_ 0 _ rfl
                have sq1 := HQS.out.at_ 1 _ rfl
                have sq2 := HQS.out.at_ 2 _ rfl
                have tq0 := HQT.out.at_ 0 _ rfl
                have tq1 := HQT.out.at_ 1 _ rfl
                have tq2 := HQT.out.at_ 2 _ rfl
                by_cases hlt : k < sl1
                · have hkk : (k : Int) < (sl1 : Int) := by omega
                  have hk0 : ¬ (k : Int) < 0 := by omega
                  obtain ⟨b8, off, rfl⟩ := HNA.out.form.resolve_left (by omega)
                  obtain ⟨n9, x1, y1, z1, x2, y2, z2, x3, y3, z3, hn, hd, hb, p0, p1, p2, p3, p4, hat⟩ := HNA.out.at_ hlt
                  obtain ⟨ua, ub, hua, hub, hfit⟩ := room_less HSN.out (List.mem_of_getElem? hn) HPM.out
                  have HUA := Lib.hid hua
                  have HUB := Lib.hid hub
                  have HFT := Lib.hid hfit
                  have HF := Lib.hid (show ∀ W, Kept wr W → W.cell? ⟨w.heap.size, 0, none⟩ = some (.slice (some ⟨b8, off, none⟩) sl1 sc1) ∧ W.cell? ⟨w.heap.size, 1, none⟩ = some (.slice (some ⟨b9, off9, none⟩) sl2 sc2) ∧ W.cell? ⟨w.heap.size, 2, none⟩ = some (.slice sa3 sl3 sc3) ∧ W.cell? ⟨tq, 0, none⟩ = some (.slice ta1 tl1 tc1) ∧ W.cell? ⟨tq, 1, none⟩ = some (.slice ta2 tl2 tc2) ∧ W.cell? ⟨tq, 2, none⟩ = some (.slice ta3 tl3 tc3) ∧ W.cell? ⟨b8, off + k * 5, none⟩ = some (.string n9.name) from fun W kk => ⟨cell_later kk (HQS.out.at_ 0 _ rfl), cell_later kk (HQS.out.at_ 1 _ rfl), cell_later kk (HQS.out.at_ 2 _ rfl), cell_later kk (HQT.out.at_ 0 _ rfl), cell_later kk (HQT.out.at_ 1 _ rfl), cell_later kk (HQT.out.at_ 2 _ rfl), cell_later kk p0⟩)
                  go_upto_region 32 with fail
                  clear hat hn hd hb hua hub hfit p0 p1 p2 p3 p4 sq0 sq1 sq2 tq0 tq1 tq2
                  have J := Lib.hid (Kept.drew wr)
                  refine wp_region_held_drew (S := fun W => W.cell? ⟨w.heap.size, 0, none⟩ = some (.slice (some ⟨b8, off, none⟩) sl1 sc1) ∧ W.cell? ⟨w.heap.size, 1, none⟩ = some (.slice (some ⟨b9, off9, none⟩) sl2 sc2) ∧ W.cell? ⟨w.heap.size, 2, none⟩ = some (.slice sa3 sl3 sc3) ∧ W.cell? ⟨tq, 0, none⟩ = some (.slice ta1 tl1 tc1) ∧ W.cell? ⟨tq, 1, none⟩ = some (.slice ta2 tl2 tc2) ∧ W.cell? ⟨tq, 2, none⟩ = some (.slice ta3 tl3 tc3) ∧ W.cell? ⟨b8, off + k * 5, none⟩ = some (.string n9.name)) (by kernel_rfl) (HF.out _ J.out) (fun hHeld => ?_)
                  refine wpAnyH_take (i := 0) (v := ?_) (by rw [List.getElem?_toArray]; exact rfl) (by kernel_rfl) (by kernel_rfl) (by kernel_rfl) (by exact fun _ _ _ h => h) (Or.inl ⟨by rfl, (by intro W hSw; obtain ⟨o0, o1, o2, o3, o4, o5, o6⟩ := hSw; go_simp <;> with_reducible rfl)⟩) (by assumption) ?_
                  try simp only [Act.put, List.setIfInBounds_toArray, List.set_cons_zero, List.set_cons_succ]
                  refine wpAnyH_take (i := 1) (v := ?_) (by rw [List.getElem?_toArray]; exact rfl) (by kernel_rfl) (by kernel_rfl) (by kernel_rfl) (by exact fun _ _ _ h => h) (Or.inl ⟨by rfl, (by intro W hSw; obtain ⟨o0, o1, o2, o3, o4, o5, o6⟩ := hSw; go_simp <;> with_reducible rfl)⟩) (by assumption) ?_
                  try simp only [Act.put, List.setIfInBounds_toArray, List.set_cons_zero, List.set_cons_succ]
                  refine wpAnyH_take (i := 2) (v := ?_) (by rw [List.getElem?_toArray]; exact rfl) (by kernel_rfl) (by kernel_rfl) (by kernel_rfl) (by exact fun _ _ _ h => h) (Or.inl ⟨by rfl, (by intro W hSw; obtain ⟨o0, o1, o2, o3, o4, o5, o6⟩ := hSw; go_simp <;> with_reducible rfl)⟩) (by assumption) ?_
                  try simp only [Act.put, List.setIfInBounds_toArray, List.set_cons_zero, List.set_cons_succ]
                  refine wpAnyH_take (i := 3) (v := ?_) (by rw [List.getElem?_toArray]; exact rfl) (by kernel_rfl) (by kernel_rfl) (by kernel_rfl) (by exact fun _ _ _ h => h) (Or.inl ⟨by rfl, (by intro W hSw; obtain ⟨o0, o1, o2, o3, o4, o5, o6⟩ := hSw; go_simp <;> with_reducible rfl)⟩) (by assumption) ?_
                  try simp only [Act.put, List.setIfInBounds_toArray, List.set_cons_zero, List.set_cons_succ]
                  refine wpAnyH_take (i := 4) (v := ?_) (by rw [List.getElem?_toArray]; exact rfl) (by kernel_rfl) (by kernel_rfl) (by kernel_rfl) (by exact fun _ _ _ h => h) (Or.inl ⟨by rfl, (by intro W hSw; obtain ⟨o0, o1, o2, o3, o4, o5, o6⟩ := hSw; go_simp <;> with_reducible rfl)⟩) (by assumption) ?_
                  try simp only [Act.put, List.setIfInBounds_toArray, List.set_cons_zero, List.set_cons_succ]
                  refine wpAnyH_take (i := 5) (v := ?_) (by rw [List.getElem?_toArray]; exact rfl) (by kernel_rfl) (by kernel_rfl) (by kernel_rfl) (by exact fun _ _ _ h => h) (Or.inl ⟨by rfl, (by intro W hSw; obtain ⟨o0, o1, o2, o3, o4, o5, o6⟩ := hSw; go_simp <;> with_reducible rfl)⟩) (by assumption) ?_
                  try simp only [Act.put, List.setIfInBounds_toArray, List.set_cons_zero, List.set_cons_succ]
                  refine wpAnyH_take (i := 6) (v := ?_) (by rw [List.getElem?_toArray]; exact rfl) (by kernel_rfl) (by kernel_rfl) (by kernel_rfl) (by exact fun _ _ _ h => h) (Or.inl ⟨by rfl, (by intro W hSw; obtain ⟨o0, o1, o2, o3, o4, o5, o6⟩ := hSw; go_simp <;> with_reducible rfl)⟩) (by assumption) ?_
                  try simp only [Act.put, List.setIfInBounds_toArray, List.set_cons_zero, List.set_cons_succ]
                  refine wpAnyH_ready (rs := [7]) (by kernel_rfl) (by simp) (AllReadyH.cons (by rw [List.getElem?_toArray]; exact rfl) (fun K9 hK9 => ?_) AllReadyH.nil)
                  go_simp
                  refine (freeR (HS.out.kept J.out) n9.name HL.out).mono ?_
                  rw [HUA.out]
                  rintro e r1 ⟨v1, rfl, hy, kk⟩
                  have J := Lib.hid (J.out.trans kk)
                  have HY1 := Lib.hid (show Vec.Reads r1 v1 ua from hy)
                  clear hy kk
                  refine hK9.out _ _ (HF.out _ J.out) (fun hHeld1 => ?_)
                  clear hK9 K9
                  try simp only [Act.put, List.setIfInBounds_toArray, List.set_cons_zero, List.set_cons_succ]
                  refine wpAnyH_take (i := 8) (v := ?_) (by rw [List.getElem?_toArray]; exact rfl) (by kernel_rfl) (by kernel_rfl) (by kernel_rfl) (by exact fun _ _ _ h => h) (Or.inl ⟨by rfl, (by intro W hSw; obtain ⟨o0, o1, o2, o3, o4, o5, o6⟩ := hSw; go_simp <;> with_reducible rfl)⟩) (by assumption) ?_
                  try simp only [Act.put, List.setIfInBounds_toArray, List.set_cons_zero, List.set_cons_succ]
                  refine wpAnyH_take (i := 9) (v := ?_) (by rw [List.getElem?_toArray]; exact rfl) (by kernel_rfl) (by kernel_rfl) (by kernel_rfl) (by exact fun _ _ _ h => h) (Or.inl ⟨by rfl, (by intro W hSw; obtain ⟨o0, o1, o2, o3, o4, o5, o6⟩ := hSw; go_simp <;> with_reducible rfl)⟩) (by assumption) ?_
                  try simp only [Act.put, List.setIfInBounds_toArray, List.set_cons_zero, List.set_cons_succ]
                  refine wpAnyH_take (i := 10) (v := ?_) (by rw [List.getElem?_toArray]; exact rfl) (by kernel_rfl) (by kernel_rfl) (by kernel_rfl) (by exact fun _ _ _ h => h) (Or.inl ⟨by rfl, (by intro W hSw; obtain ⟨o0, o1, o2, o3, o4, o5, o6⟩ := hSw; go_simp <;> with_reducible rfl)⟩) (by assumption) ?_
                  try simp only [Act.put, List.setIfInBounds_toArray, List.set_cons_zero, List.set_cons_succ]
                  refine wpAnyH_take (i := 11) (v := ?_) (by rw [List.getElem?_toArray]; exact rfl) (by kernel_rfl) (by kernel_rfl) (by kernel_rfl) (by exact fun _ _ _ h => h) (Or.inl ⟨by rfl, (by intro W hSw; obtain ⟨o0, o1, o2, o3, o4, o5, o6⟩ := hSw; go_simp <;> with_reducible rfl)⟩) (by assumption) ?_
                  try simp only [Act.put, List.setIfInBounds_toArray, List.set_cons_zero, List.set_cons_succ]
                  refine wpAnyH_take (i := 12) (v := ?_) (by rw [List.getElem?_toArray]; exact rfl) (by kernel_rfl) (by kernel_rfl) (by kernel_rfl) (by exact fun _ _ _ h => h) (Or.inl ⟨by rfl, (by intro W hSw; obtain ⟨o0, o1, o2, o3, o4, o5, o6⟩ := hSw; go_simp <;> with_reducible rfl)⟩) (by assumption) ?_
                  try simp only [Act.put, List.setIfInBounds_toArray, List.set_cons_zero, List.set_cons_succ]
                  refine wpAnyH_done (by kernel_rfl) ?_ _
                  go_upto_region 33 with fail
                  have J := Lib.hid (J.out.trans (Kept.drew r1))
                  have HY1 := Lib.hid (HY1.out.kept (Kept.drew r1))
                  refine wp_region_held_drew (S := fun W => W.cell? ⟨w.heap.size, 0, none⟩ = some (.slice (some ⟨b8, off, none⟩) sl1 sc1) ∧ W.cell? ⟨w.heap.size, 1, none⟩ = some (.slice (some ⟨b9, off9, none⟩) sl2 sc2) ∧ W.cell? ⟨w.heap.size, 2, none⟩ = some (.slice sa3 sl3 sc3) ∧ W.cell? ⟨tq, 0, none⟩ = some (.slice ta1 tl1 tc1) ∧ W.cell? ⟨tq, 1, none⟩ = some (.slice ta2 tl2 tc2) ∧ W.cell? ⟨tq, 2, none⟩ = some (.slice ta3 tl3 tc3) ∧ W.cell? ⟨b8, off + k * 5, none⟩ = some (.string n9.name)) (by kernel_rfl) (HF.out _ J.out) (fun hHeld => ?_)
                  refine wpAnyH_take (i := 0) (v := ?_) (by rw [List.getElem?_toArray]; exact rfl) (by kernel_rfl) (by kernel_rfl) (by kernel_rfl) (by exact fun _ _ _ h => h) (Or.inl ⟨by rfl, (by intro W hSw; obtain ⟨o0, o1, o2, o3, o4, o5, o6⟩ := hSw; go_simp <;> with_reducible rfl)⟩) (by assumption) ?_
                  try simp only [Act.put, List.setIfInBounds_toArray, List.set_cons_zero, List.set_cons_succ]
                  refine wpAnyH_take (i := 1) (v := ?_) (by rw [List.getElem?_toArray]; exact rfl) (by kernel_rfl) (by kernel_rfl) (by kernel_rfl) (by exact fun _ _ _ h => h) (Or.inl ⟨by rfl, (by intro W hSw; obtain ⟨o0, o1, o2, o3, o4, o5, o6⟩ := hSw; go_simp <;> with_reducible rfl)⟩) (by assumption) ?_
                  try simp only [Act.put, List.setIfInBounds_toArray, List.set_cons_zero, List.set_cons_succ]
                  refine wpAnyH_take (i := 2) (v := ?_) (by rw [List.getElem?_toArray]; exact rfl) (by kernel_rfl) (by kernel_rfl) (by kernel_rfl) (by exact fun _ _ _ h => h) (Or.inl ⟨by rfl, (by intro W hSw; obtain ⟨o0, o1, o2, o3, o4, o5, o6⟩ := hSw; go_simp <;> with_reducible rfl)⟩) (by assumption) ?_
                  try simp only [Act.put, List.setIfInBounds_toArray, List.set_cons_zero, List.set_cons_succ]
                  refine wpAnyH_take (i := 3) (v := ?_) (by rw [List.getElem?_toArray]; exact rfl) (by kernel_rfl) (by kernel_rfl) (by kernel_rfl) (by exact fun _ _ _ h => h) (Or.inl ⟨by rfl, (by intro W hSw; obtain ⟨o0, o1, o2, o3, o4, o5, o6⟩ := hSw; go_simp <;> with_reducible rfl)⟩) (by assumption) ?_
                  try simp only [Act.put, List.setIfInBounds_toArray, List.set_cons_zero, List.set_cons_succ]
                  refine wpAnyH_take (i := 4) (v := ?_) (by rw [List.getElem?_toArray]; exact rfl) (by kernel_rfl) (by kernel_rfl) (by kernel_rfl) (by exact fun _ _ _ h => h) (Or.inl ⟨by rfl, (by intro W hSw; obtain ⟨o0, o1, o2, o3, o4, o5, o6⟩ := hSw; go_simp <;> with_reducible rfl)⟩) (by assumption) ?_
                  try simp only [Act.put, List.setIfInBounds_toArray, List.set_cons_zero, List.set_cons_succ]
                  refine wpAnyH_take (i := 5) (v := ?_) (by rw [List.getElem?_toArray]; exact rfl) (by kernel_rfl) (by kernel_rfl) (by kernel_rfl) (by exact fun _ _ _ h => h) (Or.inl ⟨by rfl, (by intro W hSw; obtain ⟨o0, o1, o2, o3, o4, o5, o6⟩ := hSw; go_simp <;> with_reducible rfl)⟩) (by assumption) ?_
                  try simp only [Act.put, List.setIfInBounds_toArray, List.set_cons_zero, List.set_cons_succ]
                  refine wpAnyH_take (i := 6) (v := ?_) (by rw [List.getElem?_toArray]; exact rfl) (by kernel_rfl) (by kernel_rfl) (by kernel_rfl) (by exact fun _ _ _ h => h) (Or.inl ⟨by rfl, (by intro W hSw; obtain ⟨o0, o1, o2, o3, o4, o5, o6⟩ := hSw; go_simp <;> with_reducible rfl)⟩) (by assumption) ?_
                  try simp only [Act.put, List.setIfInBounds_toArray, List.set_cons_zero, List.set_cons_succ]
                  refine wpAnyH_ready (rs := [7]) (by kernel_rfl) (by simp) (AllReadyH.cons (by rw [List.getElem?_toArray]; exact rfl) (fun K9 hK9 => ?_) AllReadyH.nil)
                  go_simp
                  refine (freeR (HT.out.kept J.out) n9.name (drop_low HL.out _)).mono ?_
                  rw [HUB.out]
                  rintro e r2 ⟨v2, rfl, hy, kk⟩
                  have J := Lib.hid (J.out.trans kk)
                  have HY1 := Lib.hid (HY1.out.kept kk)
                  have HY2 := Lib.hid (show Vec.Reads r2 v2 ub from hy)
                  clear hy kk
                  refine hK9.out _ _ (HF.out _ J.out) (fun hHeld1 => ?_)
                  clear hK9 K9
                  try simp only [Act.put, List.setIfInBounds_toArray, List.set_cons_zero, List.set_cons_succ]
                  refine wpAnyH_take (i := 8) (v := ?_) (by rw [List.getElem?_toArray]; exact rfl) (by kernel_rfl) (by kernel_rfl) (by kernel_rfl) (by exact fun _ _ _ h => h) (Or.inl ⟨by rfl, (by intro W hSw; obtain ⟨o0, o1, o2, o3, o4, o5, o6⟩ := hSw; go_simp <;> with_reducible rfl)⟩) (by assumption) ?_
                  try simp only [Act.put, List.setIfInBounds_toArray, List.set_cons_zero, List.set_cons_succ]
                  refine wpAnyH_take (i := 9) (v := ?_) (by rw [List.getElem?_toArray]; exact rfl) (by kernel_rfl) (by kernel_rfl) (by kernel_rfl) (by exact fun _ _ _ h => h) (Or.inl ⟨by rfl, (by intro W hSw; obtain ⟨o0, o1, o2, o3, o4, o5, o6⟩ := hSw; go_simp <;> with_reducible rfl)⟩) (by assumption) ?_
                  try simp only [Act.put, List.setIfInBounds_toArray, List.set_cons_zero, List.set_cons_succ]
                  refine wpAnyH_take (i := 10) (v := ?_) (by rw [List.getElem?_toArray]; exact rfl) (by kernel_rfl) (by kernel_rfl) (by kernel_rfl) (by exact fun _ _ _ h => h) (Or.inl ⟨by rfl, (by intro W hSw; obtain ⟨o0, o1, o2, o3, o4, o5, o6⟩ := hSw; go_simp <;> with_reducible rfl)⟩) (by assumption) ?_
                  try simp only [Act.put, List.setIfInBounds_toArray, List.set_cons_zero, List.set_cons_succ]
                  refine wpAnyH_take (i := 11) (v := ?_) (by rw [List.getElem?_toArray]; exact rfl) (by kernel_rfl) (by kernel_rfl) (by kernel_rfl) (by exact fun _ _ _ h => h) (Or.inl ⟨by rfl, (by intro W hSw; obtain ⟨o0, o1, o2, o3, o4, o5, o6⟩ := hSw; go_simp <;> with_reducible rfl)⟩) (by assumption) ?_
                  try simp only [Act.put, List.setIfInBounds_toArray, List.set_cons_zero, List.set_cons_succ]
                  refine wpAnyH_take (i := 12) (v := ?_) (by rw [List.getElem?_toArray]; exact rfl) (by kernel_rfl) (by kernel_rfl) (by kernel_rfl) (by exact fun _ _ _ h => h) (Or.inl ⟨by rfl, (by intro W hSw; obtain ⟨o0, o1, o2, o3, o4, o5, o6⟩ := hSw; go_simp <;> with_reducible rfl)⟩) (by assumption) ?_
                  try simp only [Act.put, List.setIfInBounds_toArray, List.set_cons_zero, List.set_cons_succ]
                  refine wpAnyH_done (by kernel_rfl) ?_ _
                  go_wp2_with fail
                  refine (fitVR (c := true) HY1.out HY2.out HFT.out).mono ?_
                  rintro e r3 ⟨rfl, kk⟩
                  have J := Lib.hid (J.out.trans kk)
                  clear kk
                  go_wp2
                  go_roundw
                  case rel => exact ⟨k + 1, by omega, by go_num, HKL.out.trans J.out⟩
                  case measure => simp [intOf]; omega
                · have hkk : ¬ (k : Int) < (sl1 : Int) := by omega
                  go_wp2
                  go_ret
                  exact ⟨rfl, HKZ.out.trans K.out⟩

end Go.Proofs.YtapnffejnhkoaaaGreat
