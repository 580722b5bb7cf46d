/- Rows of pods as the reference has them. -/
import Derived.Test.YtapnffejnhkoaaaGreatPodOf
import Derived.Test.YtapnffejnhkoaaaGreatNodOfAll
namespace Go.Proofs.YtapnffejnhkoaaaGreat
open Go.RowKit
set_option linter.unusedVariables false

theorem one_pod0 (x : PX) (u : Value) (h : u ∈ [Value.string x.1.name, .string x.1.owner, .int .i64 x.1.prio, slV x.2.1, slV x.2.2.1, slV x.2.2.2.1, slV x.2.2.2.2, .string x.1.key, .int .i64 x.1.most, .string x.1.node, .bool x.1.hold]) : u.oneCell' = true := by
  simp only [List.mem_cons, List.not_mem_nil, or_false] at h
  rcases h with rfl | rfl | rfl | rfl | rfl | rfl | rfl | rfl | rfl | rfl | rfl <;> rfl
def PodLay0 : Lay PX := { m := 11, cs := fun x => [.string x.1.name, .string x.1.owner, .int .i64 x.1.prio, slV x.2.1, slV x.2.2.1, slV x.2.2.2.1, slV x.2.2.2.2, .string x.1.key, .int .i64 x.1.most, .string x.1.node, .bool x.1.hold], fine := fun _ => True, len := fun _ => rfl, one := one_pod0, pos := by decide }
def NotIn (v : Value) (a : Option Addr) : Prop := ∀ b off sp, a = some ⟨b, off, sp⟩ → v.ownBlock ≠ some b
def FarP (w : World) (v : Value) (l : List PX) : Prop := ∀ z ∈ l, At4 w z ∧ Within4 0 w.heap.size z ∧ NotIn v z.2.1.1 ∧ NotIn v z.2.2.1.1 ∧ NotIn v z.2.2.2.1.1 ∧ NotIn v z.2.2.2.2.1
theorem farP_grow {wr w1 w2 : World} {o : Obj} {v : Value} {l : List PX} {z0 : PX} {gg n cap : Nat} (hv : FarP wr v l) (k : Kept wr w1) (hz : At4 w1 z0) (hw : Within4 wr.heap.size w1.heap.size z0) (hown : ∀ g, v.ownBlock = some g → g < wr.heap.size)
    (hgrow : (w1.alloc o).grownBy w2 v.ownBlock) (hat : v.ownBlock = some gg ∨ gg = w1.heap.size + 1) : FarP w2 (.slice (some ⟨gg, 0, none⟩) n cap) (l ++ [z0]) := by
  have hs := hgrow.size
  rw [World.size_alloc] at hs
  have hk := k.size
  have key : ∀ z, At4 w1 z → Within4 0 w1.heap.size z → NotIn v z.2.1.1 → NotIn v z.2.2.1.1 → NotIn v z.2.2.2.1.1 → NotIn v z.2.2.2.2.1 →
      At4 w2 z ∧ Within4 0 w2.heap.size z ∧ NotIn (.slice (some ⟨gg, 0, none⟩) n cap) z.2.1.1 ∧ NotIn (.slice (some ⟨gg, 0, none⟩) n cap) z.2.2.1.1 ∧ NotIn (.slice (some ⟨gg, 0, none⟩) n cap) z.2.2.2.1.1 ∧ NotIn (.slice (some ⟨gg, 0, none⟩) n cap) z.2.2.2.2.1 := by
    intro z h3 hwz f1 f2 f3 f4
    have ne : ∀ b, b < w1.heap.size → v.ownBlock ≠ some b → (Value.slice (some ⟨gg, 0, none⟩) n cap).ownBlock ≠ some b := by
      intro b hb hne e
      have e : some gg = some b := e
      rcases hat with hat | hat
      · exact hne (hat.trans e)
      · have : gg = b := Option.some.inj e
        omega
    have h3' := PodAt.kept h3 (kept_alloc w1 o)
    exact ⟨⟨h3'.name, h3'.owner, h3'.key, h3'.node, h3'.prio, h3'.most, h3'.need.grown hgrow (fun b off sp e => Ne.symm (f1 b off sp e)), h3'.labels.grown hgrow (fun b off sp e => Ne.symm (f2 b off sp e)), h3'.sel.grown hgrow (fun b off sp e => Ne.symm (f3 b off sp e)), h3'.tols.grown hgrow (fun b off sp e => Ne.symm (f4 b off sp e))⟩,
      hwz.up (Nat.le_refl _) (by omega), fun b off sp e => ne b (hwz.1 b off sp e).2 (f1 b off sp e), fun b off sp e => ne b (hwz.2.1 b off sp e).2 (f2 b off sp e), fun b off sp e => ne b (hwz.2.2.1 b off sp e).2 (f3 b off sp e), fun b off sp e => ne b (hwz.2.2.2 b off sp e).2 (f4 b off sp e)⟩
  intro z hzm
  rcases List.mem_append.1 hzm with hzm | hzm
  · obtain ⟨h0, h1, h2, h3, h4, h5⟩ := hv z hzm
    exact key z (PodAt.kept h0 k) (h1.up (Nat.le_refl _) hk) h2 h3 h4 h5
  · obtain rfl : z = z0 := by simpa using hzm
    exact key z hz (hw.up (Nat.zero_le _) (Nat.le_refl _)) (fun b off sp e f => by have := (hw.1 b off sp e).1; have := hown b f; omega) (fun b off sp e f => by have := (hw.2.1 b off sp e).1; have := hown b f; omega) (fun b off sp e f => by have := (hw.2.2.1 b off sp e).1; have := hown b f; omega) (fun b off sp e f => by have := (hw.2.2.2 b off sp e).1; have := hown b f; omega)
theorem pods_own {w : World} {T : TypeId} {B : Nat} {v : Value} {lx : List PX} (ho : Own PodLay0 T w B v lx) (hf : ∀ z ∈ lx, At4 w z) : PodsR w v (lx.map fun z => z.1) := by
  obtain ⟨a, cap, rfl, h1, h2, h3⟩ := ho.at_
  obtain ⟨g0, g1, g2, g3⟩ := h3
  refine ⟨a, cap, by rw [List.length_map], by rw [List.length_map]; exact h1, h2, rfl, by rw [List.length_map]; exact g1, ?_⟩
  rw [List.length_map]
  rcases g3 with g3 | ⟨b, off, rfl, hb, hc⟩
  · exact .inl g3
  · refine .inr ⟨b, off, rfl, hb, fun i n hi => ?_⟩
    rw [List.getElem?_map] at hi
    obtain ⟨z, hz, rfl⟩ := Option.map_eq_some_iff.1 hi
    exact ⟨slV z.2.1, slV z.2.2.1, slV z.2.2.2.1, slV z.2.2.2.2, hc i z 0 _ hz rfl, hc i z 1 _ hz rfl, hc i z 2 _ hz rfl, hc i z 3 _ hz rfl, hc i z 4 _ hz rfl, hc i z 5 _ hz rfl, hc i z 6 _ hz rfl, hc i z 7 _ hz rfl, hc i z 8 _ hz rfl, hc i z 9 _ hz rfl, hc i z 10 _ hz rfl, hf z (List.mem_of_getElem? hz)⟩
theorem infoRP : (Tryz.prog.info? 103).map (fun i => (i.zero, i.size, i.bytes)) = some (some (.agg #[.string ByteArray.empty, .string ByteArray.empty, .int .i64 0, .slice none 0 0, .slice none 0 0, .slice none 0 0, .slice none 0 0, .string ByteArray.empty, .int .i64 0, .string ByteArray.empty, .bool false]), 11, 184) := by kernel_rfl

set_option maxRecDepth 100000 in
set_option maxHeartbeats 8000000 in
theorem ofAllP_any (a : Option Addr) (len cap : Nat) (l : List Pd) (w : World) (hr : PodsAt w a len l) (hlow : ∀ n ∈ l, LowPd n) (hlen : len ≤ 1000) :
    Calls Tryz.prog 59 #[.slice a len cap] w fun e w' => ∃ v, e = .returned v ∧ PodsR w' v l ∧ Kept w w' := by
  have hl := hr.1
  have HLOW := Lib.hid hlow
  obtain ⟨i0, hi, hz0, hz1, hz2'⟩ := info_parts infoRP
  rcases hr.form with h0 | ⟨b, off, rfl⟩
  · subst h0
    have hl0 : l = [] := List.eq_nil_of_length_eq_zero hl
    subst hl0
    clear hr hl hi hz0 hz1 hz2' hlow
    go_enter Tryz.func59, Tryz.ntmps59
    go_wp2
    refine wp_loop_rounds 1 ?_
    rw [rounds_succ]
    go_wp2
    go_ret
    exact ⟨_, rfl, ⟨none, 0, rfl, Nat.le_refl _, by decide, rfl, by decide, .inl rfl⟩, Kept.refl _⟩
  · have HR := Lib.hid hr
    have HL := Lib.hid hl
    clear hr hl hlow
    go_enter Tryz.func59, Tryz.ntmps59
    go_wp2
    go_loopw [3, 4] (fun v i wr => ∃ k : Nat, k ≤ len ∧ i = .int .i64 k ∧ ∃ lx : List PX, (lx.map fun z => z.1) = l.take k ∧ Own PodLay0 103 wr w.heap.size v lx ∧ FarP wr v lx ∧ Below w.heap.size w wr) (fun _ i _ => len - (intOf i).toNat)
    case atStart => exact ⟨0, Nat.zero_le _, rfl, [], rfl, Own.nil _ _ _, (fun z h => by cases h), Below.refl _ _⟩
    case round =>
      obtain ⟨k, hk, rfl, lx, hlx, ho, hv, hB⟩ := hrel
      have HX := Lib.hid hlx
      have HO := Lib.hid ho
      have HV := Lib.hid hv
      have HB := Lib.hid hB
      have HT := Lib.hid (show lx.length = k by have := congrArg List.length hlx; rw [List.length_map, List.length_take, HL.out] at this; omega)
      have HOWN := Lib.hid (show wr.ownsRow w.heap.size 103 11 u3 k (rowCells PodLay0 lx) by have := HO.out.1; rw [HT.out] at this; exact this)
      have hbase : w.heap.size ≤ wr.heap.size := hB.size
      by_cases hlt : k < len
      · obtain ⟨n, a1, m1, c1, a2, m2, c2, a3, m3, c3, a4, m4, c4, hn, hd, hb, p0, p1, p2, p3, p4, p5, p6, p7, p8, p9, p10, hat⟩ := (HR.out.kept hB).at_ hlt
        have HN := Lib.hid hn
        have HOF := Lib.hid (ofP_any n (.slice a1 m1 c1) (.slice a2 m2 c2) (.slice a3 m3 c3) (.slice a4 m4 c4) wr hat (HLOW.out n (List.mem_of_getElem? hn)))
        have hk1 : (k : Int) < (len : Int) := by omega
        clear hlx ho hv hB hn hd hat
        go_wp2_with fail
        refine HOF.out.mono ?_
        rintro e w1 ⟨z, rfl, hz, h3, hwi, kk⟩
        have HZ := Lib.hid hz
        have H3 := Lib.hid h3
        have HW := Lib.hid hwi
        have KK := Lib.hid kk
        have hs1 : wr.heap.size ≤ w1.heap.size := kk.size
        have HOW2 := Lib.hid (show w1.ownsRow w.heap.size 103 11 u3 k (rowCells PodLay0 lx) by have := (HO.out.kept kk).1; rw [HT.out] at this; exact this)
        clear hz h3 hwi kk
        go_wp2_with (at_builtin; refine wpList_append_lies _ rfl _ _ _ rfl w.heap.size 103 i0 _ 11 184 Tryz.underlying64 hi hz0 hz1 hz2' rfl (by decide) u3 k (rowCells PodLay0 lx) rfl (HOW2.out.alloc _) ⟨w1.heap.size, 0, none⟩ 1 1 (PodLay0.cs z) rfl rfl (World.news_of_block (cs := #[.string z.1.name, .string z.1.owner, .int .i64 z.1.prio, slV z.2.1, slV z.2.2.1, slV z.2.2.2.1, slV z.2.2.2.2, .string z.1.key, .int .i64 z.1.most, .string z.1.node, .bool z.1.hold]) (t := 103) (fr := (0, 0)) (heap_alloc_new w1 _)) (one_pod0 z) (by decide) (by unfold maxLen; omega) (by omega) (by simp; omega) (w1.heap.size + 1) (by simp) ?_; intro gg cap1 w2 hown1 hgrow hat hlt1)
        have HFAR := Lib.hid (farP_grow (n := k + 1) (cap := cap1) HV.out KK.out H3.out HW.out (fun g h => (HOWN.out.lt g h).2) hgrow hat)
        have HBW := Lib.hid ((HB.out.trans ((Below.mono KK.out hbase).trans (Below.mono (kept_alloc w1 _) (by omega)))).grown hgrow (by simp; omega) (fun j hj => (HOWN.out.lt j hj).1))
        go_wp2
        go_roundw
        case rel => exact ⟨k + 1, by omega, by go_num, lx ++ [z], by rw [List.map_append, HX.out, take_snoc HN.out, ← HZ.out]; rfl, Own.snoc hown1 (by rw [HT.out]) HO.out.2 trivial, HFAR.out, HBW.out⟩
        case measure => simp [intOf]; omega
      · have HK := Lib.hid (show l.take k = l by rw [List.take_of_length_le (by rw [HL.out]; omega)])
        have HRES := Lib.hid (show PodsR wr u3 l by have := pods_own HO.out (fun z hz => (HV.out z hz).1); rw [HX.out, HK.out] at this; exact this)
        clear hlx ho hv hB
        go_wp2
        go_ret
        exact ⟨_, rfl, HRES.out, HB.out⟩
theorem ofAllPR {v : Value} {l : List Pd} {w : World} (h : PodsR w v l) (hlow : ∀ n ∈ l, LowPd n) (hlen : l.length ≤ 1000) :
    Calls Tryz.prog 59 #[v] w fun e w' => ∃ v, e = .returned v ∧ PodsR w' v l ∧ Kept w w' := by
  obtain ⟨a, cap, rfl, _, _, hr⟩ := h
  exact ofAllP_any a _ cap l w hr hlow hlen

end Go.Proofs.YtapnffejnhkoaaaGreat
