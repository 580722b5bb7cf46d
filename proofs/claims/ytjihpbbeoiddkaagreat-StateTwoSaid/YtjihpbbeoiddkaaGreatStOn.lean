/- Clusters: On. -/
import Derived.Test.YtjihpbbeoiddkaaGreatStB
import Derived.Deep.RegionHeld3
namespace Go.Proofs.YtjihpbbeoiddkaaGreat
open Go.RowKit
set_option linter.unusedVariables false

theorem on_snoc {x : ByteArray} {l : List Pd} {k : Nat} {n : Pd} (h : l[k]? = some n) : (l.take (k + 1)).filter (fun p => eqS p.node x) = (l.take k).filter (fun p => eqS p.node x) ++ (if eqS n.node x = true then [n] else []) := by
  rw [take_snoc h, List.filter_append]
  congr 1
  rw [List.filter_cons, List.filter_nil]
set_option maxRecDepth 100000 in
set_option maxHeartbeats 6400000 in
theorem onSt_any (a a8 a9 : Option Addr) (len cap m8 c8 m9 c9 : Nat) (l : List Pd) (x : ByteArray) (w : World) (hr : PodsAt w a len l) (hlow : ∀ n ∈ l, LowPd n) (hlen : len ≤ 100000) :
    Calls Tryz.prog 32 #[.agg #[.slice a8 m8 c8, .slice a len cap, .slice a9 m9 c9], .string x] w fun e w' => ∃ v, e = .returned v ∧ PodsR w' v (onP x l) ∧ Kept w w' := by
  have hl := hr.1
  have hm := hr.2.1
  unfold maxLen at hm
  obtain ⟨i0, hi, hz0, hz1, hz2'⟩ := info_parts infoPd
  obtain ⟨Z, hZ⟩ : ∃ Z, w.alloc (.cells #[.slice a8 m8 c8, .slice a len cap, .slice a9 m9 c9] 26) = Z := ⟨_, rfl⟩
  have hkz : Kept w Z := by rw [← hZ]; exact kept_alloc _ _
  have hst : Z.cell? ⟨w.heap.size, 1, none⟩ = some (.slice a len cap) := (freshN w (.slice a8 m8 c8) [.slice a len cap, .slice a9 m9 c9] 26 Z (by rw [hZ]; exact Kept.refl _)).at_ 1 _ rfl
  have HR := Lib.hid (hr.kept hkz)
  have HL := Lib.hid hl
  have HLOW := Lib.hid hlow
  have HKZ := Lib.hid hkz
  obtain ⟨t, ht⟩ : ∃ t, (x.toList == ([] : List UInt8)) = t := ⟨_, rfl⟩
  have HNO := Lib.hid (show isNo x = t by rw [no_iff]; exact ht)
  clear hr hl hkz hlow
  cases t with
  | true =>
    have HE := Lib.hid (show onP x l = [] by unfold onP; rw [if_pos HNO.out])
    go_enter Tryz.func32, Tryz.ntmps32
    go_wp2
    try rw [hZ]
    go_ret
    exact ⟨_, rfl, by rw [HE.out]; exact ⟨none, 0, rfl, Nat.le_refl _, by decide, rfl, by decide, .inl rfl⟩, by first | exact HKZ.out | (rw [hZ]; exact HKZ.out)⟩
  | false =>
    have HE := Lib.hid (show onP x l = l.filter (fun p => eqS p.node x) by unfold onP; rw [if_neg (by rw [HNO.out]; decide)])
    go_enter Tryz.func32, Tryz.ntmps32
    go_wp2
    try rw [hZ]
    clear hZ hst ht
    go_loopw [5, 13] (fun v i wr => ∃ k : Nat, k ≤ len ∧ i = .int .i64 k ∧ ∃ lx : List PX, (lx.map fun z => z.1) = (l.take k).filter (fun p => eqS p.node x) ∧ lx.length ≤ k ∧ Deep PodLay0 49 At4 wr Z.heap.size v lx ∧ Kept Z wr) (fun _ i _ => len - (intOf i).toNat)
    case atStart => exact ⟨0, Nat.zero_le _, rfl, [], rfl, Nat.le_refl _, ⟨Own.nil _ _ _, fun z h => by cases h⟩, Kept.refl _⟩
    case round =>
      obtain ⟨k, hk, rfl, lx, hlx, hll, hdp, hK⟩ := hrel
      have HX := Lib.hid hlx
      have HLL := Lib.hid hll
      have HD := Lib.hid hdp
      have HK := Lib.hid hK
      by_cases hlt : k < len
      · obtain ⟨b, off, rfl⟩ := HR.out.form.resolve_left (by omega)
        obtain ⟨n, a1, m1, c1, a2, m2, c2, a3, m3, c3, a4, m4, c4, hn, hd, hb, p0, p1, p2, p3, p4, p5, p6, p7, p8, p9, p10, hat⟩ := (HR.out.kept hK).at_ hlt
        have HN := Lib.hid hn
        have HAT := Lib.hid hat
        obtain ⟨t, ht⟩ : ∃ t, eqS n.node x = t := ⟨_, rfl⟩
        have ht' : (n.node.toList == x.toList) = t := ht
        have HT := Lib.hid ht
        have hkk : (k : Int) < (len : Int) := by omega
        clear hlx hll hdp hK hat hd hn ht
        cases t with
        | false =>
          have HX2 := Lib.hid (show (lx.map fun z => z.1) = (l.take (k + 1)).filter (fun p => eqS p.node x) by rw [on_snoc HN.out, if_neg (by rw [HT.out]; decide), List.append_nil]; exact HX.out)
          go_wp2
          go_roundw
          case rel => exact ⟨k + 1, by omega, by go_num, lx, HX2.out, by have := HLL.out; omega, HD.out.kept (kept_alloc _ _), HK.out.trans (kept_alloc _ _)⟩
          case measure => simp [intOf]; omega
        | true =>
          have HOW := Lib.hid (show ∀ W, Kept wr W → _ from fun W kk => ownedPod_any n (.slice a1 m1 c1) (.slice a2 m2 c2) (.slice a3 m3 c3) (.slice a4 m4 c4) W (HAT.out.kept kk) (HLOW.out n (List.mem_of_getElem? HN.out)))
          unfold PodV at HOW
          obtain ⟨len1, hlen1⟩ : ∃ q, lx.length = q := ⟨_, rfl⟩
          have HL1 := Lib.hid hlen1
          rw [hlen1] at HLL
          clear hlen1
          go_wp2_with fail
          refine (HOW.out _ (kept_alloc _ _)).mono ?_
          rintro e w1 ⟨v, rfl, hv, kk⟩
          obtain ⟨x1, y1, z1, x2, y2, z2, x3, y3, z3, x4, y4, z4, hv9, sp, g1, g2, g3, g4⟩ := hv
          have hv9 : v = .agg #[.string n.name, .string n.owner, .int .i64 n.prio, .slice x1 y1 z1, .slice x2 y2 z2, .slice x3 y3 z3, .slice x4 y4 z4, .string n.key, .int .i64 n.most, .string n.node, .bool n.hold] := hv9
          subst hv9
          have KW := Lib.hid ((kept_alloc wr _).trans kk)
          have hbase : Z.heap.size ≤ wr.heap.size := HK.out.size
          have HOF := Lib.hid (show Off (fun b => u5.ownBlock = some b) w1 fun u => At4 u (n, (x1, y1, z1), (x2, y2, z2), (x3, y3, z3), (x4, y4, z4)) from PodAt.off (B := wr.heap.size + 1) sp (by rw [World.size_alloc] at g1; exact g1) (by rw [World.size_alloc] at g2; exact g2) (by rw [World.size_alloc] at g3; exact g3) (by rw [World.size_alloc] at g4; exact g4) (fun b hb h => by have := (own_lt HD.out.own b h).2; omega))
          have HD1 := Lib.hid (HD.out.kept KW.out)
          have HOWN := Lib.hid (show w1.ownsRow Z.heap.size 49 11 u5 len1 (rowCells PodLay0 lx) by have := HD1.out.own.1; rw [HL1.out] at this; exact this)
          have hs1 : wr.heap.size ≤ w1.heap.size := KW.out.size
          clear kk sp g1 g2 g3 g4
          go_wp2_with (at_builtin; refine wpList_append_lies _ rfl _ _ _ rfl Z.heap.size 49 i0 _ 11 184 Tryz.underlying23 hi hz0 hz1 hz2' rfl (by decide) u5 len1 (rowCells PodLay0 lx) rfl (HOWN.out.alloc _) ⟨w1.heap.size, 0, none⟩ 1 1 (PodLay0.cs (n, (x1, y1, z1), (x2, y2, z2), (x3, y3, z3), (x4, y4, z4))) rfl rfl (World.news_of_block (cs := #[.string n.name, .string n.owner, .int .i64 n.prio, .slice x1 y1 z1, .slice x2 y2 z2, .slice x3 y3 z3, .slice x4 y4 z4, .string n.key, .int .i64 n.most, .string n.node, .bool n.hold]) (t := 49) (fr := (0, 0)) (heap_alloc_new w1 _)) (one_pod0 _) (by decide) (by unfold maxLen; have := HLL.out; omega) (by have := HLL.out; omega) (by simp; omega) (w1.heap.size + 1) (by simp) ?_; intro gg cap1 w2 hown1 hgrow hat hlt1)
          have GG := Lib.hid (GOff.grown (S := fun b => u5.ownBlock = some b) hgrow fun q e => e)
          have hnn : ∀ q, (Value.slice (some ⟨gg, 0, none⟩) (len1 + 1) cap1).ownBlock = some q → u5.ownBlock = some q ∨ (w1.alloc (.cells #[.string n.name, .string n.owner, .int .i64 n.prio, .slice x1 y1 z1, .slice x2 y2 z2, .slice x3 y3 z3, .slice x4 y4 z4, .string n.key, .int .i64 n.most, .string n.node, .bool n.hold] 49)).heap.size ≤ q := fun q hq => by
            obtain rfl : gg = q := Option.some.inj hq
            exact hat.imp id fun e => by rw [World.size_alloc]; omega
          have HDN := Lib.hid (show Deep PodLay0 49 At4 w2 Z.heap.size (.slice (some ⟨gg, 0, none⟩) (len1 + 1) cap1) (lx ++ [(n, (x1, y1, z1), (x2, y2, z2), (x3, y3, z3), (x4, y4, z4))]) from ⟨Own.snoc hown1 (by rw [HL1.out]) HD.out.own.2 trivial, fun z hz => by
            rcases List.mem_append.1 hz with hz | hz
            · exact (((HD1.out.off z hz).step (GOff.of (kept_alloc w1 (.cells #[.string n.name, .string n.owner, .int .i64 n.prio, .slice x1 y1 z1, .slice x2 y2 z2, .slice x3 y3 z3, .slice x4 y4 z4, .string n.key, .int .i64 n.most, .string n.node, .bool n.hold] 49)))).new GG.out fun b e => hnn b e)
            · obtain rfl := List.mem_singleton.1 hz
              exact ((HOF.out.step (GOff.of (kept_alloc w1 (.cells #[.string n.name, .string n.owner, .int .i64 n.prio, .slice x1 y1 z1, .slice x2 y2 z2, .slice x3 y3 z3, .slice x4 y4 z4, .string n.key, .int .i64 n.most, .string n.node, .bool n.hold] 49)))).new GG.out fun b e => hnn b e)⟩)
          have HKN := Lib.hid (show Kept Z w2 from Below.mono (show Below Z.heap.size Z w2 from Below.trans (HK.out.trans (KW.out.trans (kept_alloc w1 (.cells #[.string n.name, .string n.owner, .int .i64 n.prio, .slice x1 y1 z1, .slice x2 y2 z2, .slice x3 y3 z3, .slice x4 y4 z4, .string n.key, .int .i64 n.most, .string n.node, .bool n.hold] 49)))) (GG.out.at_below (B := Z.heap.size) (fun q e => (own_lt HD.out.own q e).1) (by have h1 := HK.out.size; rw [World.size_alloc]; omega))) (Nat.le_refl _))
          have HX2 := Lib.hid (show ((lx ++ [(n, (x1, y1, z1), (x2, y2, z2), (x3, y3, z3), (x4, y4, z4))]).map fun z => z.1) = (l.take (k + 1)).filter (fun p => eqS p.node x) by rw [on_snoc HN.out, if_pos HT.out, List.map_append, HX.out]; rfl)
          clear hown1 hgrow hat hlt1 hnn hs1 hbase
          go_wp2
          go_roundw
          case rel => exact ⟨k + 1, by omega, by go_num, _, HX2.out, by rw [List.length_append, HL1.out]; have := HLL.out; simp; omega, HDN.out, HKN.out⟩
          case measure => simp [intOf]; omega
      · have HK9 := Lib.hid (show l.take k = l by rw [List.take_of_length_le (by rw [HL.out]; omega)])
        have HRES := Lib.hid (show PodsR wr u5 (onP x l) by have := ownAt_pods HD.out; rw [HX.out, HK9.out, ← HE.out] at this; exact this)
        clear hlx hll hdp hK
        go_wp2
        go_ret
        exact ⟨_, rfl, HRES.out, HKZ.out.trans HK.out⟩

end Go.Proofs.YtjihpbbeoiddkaaGreat
