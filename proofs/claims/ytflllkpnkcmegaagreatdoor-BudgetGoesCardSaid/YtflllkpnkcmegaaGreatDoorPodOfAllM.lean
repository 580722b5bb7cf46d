/- Rows of pods as the reference has them, whatever their rows. -/
import Derived.Test.YtflllkpnkcmegaaGreatDoorPodOfM
import Derived.Test.YtflllkpnkcmegaaGreatDoorPodOfAll
namespace Go.Proofs.YtflllkpnkcmegaaGreatDoor
open Go.RowKit
set_option linter.unusedVariables false

set_option maxRecDepth 100000 in
set_option maxHeartbeats 8000000 in
theorem ofAllP_anyM (a : Option Addr) (len cap : Nat) (l : List Pd) (w : World) (hr : PodsAt w a len l) (hlow : ∀ n ∈ l, MemPd n) (hlen : len ≤ 1000) :
    Calls Tryz.prog 22 #[.slice a len cap] w fun e w' => ∃ v, e = .returned v ∧ PodsR w' v l ∧ Kept w w' := by
  have hl := hr.1
  have HLOW := Lib.hid hlow
  obtain ⟨i0, hi, hz0, hz1, hz2'⟩ := info_parts infoRP
  rcases hr.form with h0 | ⟨b, off, rfl⟩
  · subst h0
    have hl0 : l = [] := List.eq_nil_of_length_eq_zero hl
    subst hl0
    clear hr hl hi hz0 hz1 hz2' hlow
    go_enter Tryz.func22, Tryz.ntmps22
    go_wp2
    refine wp_loop_rounds 1 ?_
    rw [rounds_succ]
    go_wp2
    go_ret
    exact ⟨_, rfl, ⟨none, 0, rfl, Nat.le_refl _, by decide, rfl, by decide, .inl rfl⟩, Kept.refl _⟩
  · have HR := Lib.hid hr
    have HL := Lib.hid hl
    clear hr hl hlow
    go_enter Tryz.func22, Tryz.ntmps22
    go_wp2
    go_loopw [3, 4] (fun v i wr => ∃ k : Nat, k ≤ len ∧ i = .int .i64 k ∧ ∃ lx : List PX, (lx.map fun z => z.1) = l.take k ∧ Own PodLay0 38 wr w.heap.size v lx ∧ FarP wr v lx ∧ Below w.heap.size w wr) (fun _ i _ => len - (intOf i).toNat)
    case atStart => exact ⟨0, Nat.zero_le _, rfl, [], rfl, Own.nil _ _ _, (fun z h => by cases h), Below.refl _ _⟩
    case round =>
      obtain ⟨k, hk, rfl, lx, hlx, ho, hv, hB⟩ := hrel
      have HX := Lib.hid hlx
      have HO := Lib.hid ho
      have HV := Lib.hid hv
      have HB := Lib.hid hB
      have HT := Lib.hid (show lx.length = k by have := congrArg List.length hlx; rw [List.length_map, List.length_take, HL.out] at this; omega)
      have HOWN := Lib.hid (show wr.ownsRow w.heap.size 38 11 u3 k (rowCells PodLay0 lx) by have := HO.out.1; rw [HT.out] at this; exact this)
      have hbase : w.heap.size ≤ wr.heap.size := hB.size
      by_cases hlt : k < len
      · obtain ⟨n, a1, m1, c1, a2, m2, c2, a3, m3, c3, a4, m4, c4, hn, hd, hb, p0, p1, p2, p3, p4, p5, p6, p7, p8, p9, p10, hat⟩ := (HR.out.kept hB).at_ hlt
        have HN := Lib.hid hn
        have HOF := Lib.hid (ofP_anyM n (.slice a1 m1 c1) (.slice a2 m2 c2) (.slice a3 m3 c3) (.slice a4 m4 c4) wr hat (HLOW.out n (List.mem_of_getElem? hn)))
        have hk1 : (k : Int) < (len : Int) := by omega
        clear hlx ho hv hB hn hd hat
        go_wp2_with fail
        refine HOF.out.mono ?_
        rintro e w1 ⟨z, rfl, hz, h3, hwi, kk⟩
        have HZ := Lib.hid hz
        have H3 := Lib.hid h3
        have HW := Lib.hid hwi
        have KK := Lib.hid kk
        have hs1 : wr.heap.size ≤ w1.heap.size := kk.size
        have HOW2 := Lib.hid (show w1.ownsRow w.heap.size 38 11 u3 k (rowCells PodLay0 lx) by have := (HO.out.kept kk).1; rw [HT.out] at this; exact this)
        clear hz h3 hwi kk
        go_wp2_with (at_builtin; refine wpList_append_lies _ rfl _ _ _ rfl w.heap.size 38 i0 _ 11 184 Tryz.underlying52 hi hz0 hz1 hz2' rfl (by decide) u3 k (rowCells PodLay0 lx) rfl (HOW2.out.alloc _) ⟨w1.heap.size, 0, none⟩ 1 1 (PodLay0.cs z) rfl rfl (World.news_of_block (cs := #[.string z.1.name, .string z.1.owner, .int .i64 z.1.prio, slV z.2.1, slV z.2.2.1, slV z.2.2.2.1, slV z.2.2.2.2, .string z.1.key, .int .i64 z.1.most, .string z.1.node, .bool z.1.hold]) (t := 38) (fr := (0, 0)) (heap_alloc_new w1 _)) (one_pod0 z) (by decide) (by unfold maxLen; omega) (by omega) (by simp; omega) (w1.heap.size + 1) (by simp) ?_; intro gg cap1 w2 hown1 hgrow hat hlt1)
        have HFAR := Lib.hid (farP_grow (n := k + 1) (cap := cap1) HV.out KK.out H3.out HW.out (fun g h => (HOWN.out.lt g h).2) hgrow hat)
        have HBW := Lib.hid ((HB.out.trans ((Below.mono KK.out hbase).trans (Below.mono (kept_alloc w1 _) (by omega)))).grown hgrow (by simp; omega) (fun j hj => (HOWN.out.lt j hj).1))
        go_wp2
        go_roundw
        case rel => exact ⟨k + 1, by omega, by go_num, lx ++ [z], by rw [List.map_append, HX.out, take_snoc HN.out, ← HZ.out]; rfl, Own.snoc hown1 (by rw [HT.out]) HO.out.2 trivial, HFAR.out, HBW.out⟩
        case measure => simp [intOf]; omega
      · have HK := Lib.hid (show l.take k = l by rw [List.take_of_length_le (by rw [HL.out]; omega)])
        have HRES := Lib.hid (show PodsR wr u3 l by have := pods_own HO.out (fun z hz => (HV.out z hz).1); rw [HX.out, HK.out] at this; exact this)
        clear hlx ho hv hB
        go_wp2
        go_ret
        exact ⟨_, rfl, HRES.out, HB.out⟩
end Go.Proofs.YtflllkpnkcmegaaGreatDoor
