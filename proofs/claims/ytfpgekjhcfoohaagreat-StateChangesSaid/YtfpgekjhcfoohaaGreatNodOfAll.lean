/- Nodes as the reference has them: OfAll. -/
import Derived.Test.YtfpgekjhcfoohaaGreatShort
import Derived.Test.YtfpgekjhcfoohaaGreatNodOf
import Derived.Test.YtfpgekjhcfoohaaGreatBase
import Derived.Deep.AppendLies
set_option linter.unusedVariables false
namespace Go.Proofs.YtfpgekjhcfoohaaGreat
open Go.RowKit
theorem Reads.grown {α : Type} {L : Lay α} {w w' : World} {row : Option Nat} {a : Option Addr} {m c : Nat} {l : List α} (h : Reads L w (.slice a m c) l) (hg : w.grownBy w' row) (hb : ∀ b off sp, a = some ⟨b, off, sp⟩ → some b ≠ row) : Reads L w' (.slice a m c) l := by
 obtain ⟨a', cap', e, h1, h2, h3, h4, h5, h6⟩ := h
 cases e
 refine ⟨a, c, rfl, h1, h2, h3, h4, h5, h6.imp id ?_⟩
 rintro ⟨b, off, rfl, hlt, hc⟩
 exact ⟨b, off, rfl, Nat.lt_of_lt_of_le hlt hg.size, fun i x j u hi hj => (World.cell?_of_block (a := ⟨b, off + i * L.m + j, none⟩) (hg.block b hlt (hb b off none rfl))).trans (hc i x j u hi hj)⟩
theorem Vec.Reads.grown {w w' : World} {row : Option Nat} {a : Option Addr} {m c : Nat} {l : Vec.V} (h : Vec.Reads w (.slice a m c) l) (hg : w.grownBy w' row) (hb : ∀ b off sp, a = some ⟨b, off, sp⟩ → some b ≠ row) : Vec.Reads w' (.slice a m c) l := by
 obtain ⟨a', cap', e, h1, h2, h3, h4, h5, h6⟩ := h
 cases e
 refine ⟨a, c, rfl, h1, h2, h3, h4, h5, h6.imp id ?_⟩
 rintro ⟨b, off, rfl, hlt, hc⟩
 exact ⟨b, off, rfl, Nat.lt_of_lt_of_le hlt hg.size, fun i hi => ⟨(World.cell?_of_block (a := ⟨b, off + i * 2, none⟩) (hg.block b hlt (hb b off none rfl))).trans (hc i hi).1, (World.cell?_of_block (a := ⟨b, off + i * 2 + 1, none⟩) (hg.block b hlt (hb b off none rfl))).trans (hc i hi).2⟩⟩
theorem one_node0 (x : NX) (u : Value) (h : u ∈ [Value.string x.1.name, slV x.2.1, slV x.2.2.1, slV x.2.2.2, .bool x.1.cordon]) : u.oneCell' = true := by
 simp only [List.mem_cons, List.not_mem_nil, or_false] at h
 rcases h with rfl | rfl | rfl | rfl | rfl <;> rfl
def NodLay0 : Lay NX := { m := 5, cs := fun x => [.string x.1.name, slV x.2.1, slV x.2.2.1, slV x.2.2.2, .bool x.1.cordon], fine := fun _ => True, len := fun _ => rfl, one := one_node0, pos := by decide }
def FarN (w : World) (v : Value) (l : List NX) : Prop := ∀ z ∈ l, At3 w z ∧ Within 0 w.heap.size z ∧ (∀ b off sp, z.2.1.1 = some ⟨b, off, sp⟩ → v.ownBlock ≠ some b) ∧ (∀ b off sp, z.2.2.1.1 = some ⟨b, off, sp⟩ → v.ownBlock ≠ some b) ∧ (∀ b off sp, z.2.2.2.1 = some ⟨b, off, sp⟩ → v.ownBlock ≠ some b)
theorem within_up {lo lo' hi hi' : Nat} {z : NX} (h : Within lo hi z) (h1 : lo' ≤ lo) (h2 : hi ≤ hi') : Within lo' hi' z :=
 ⟨fun b o s e => ⟨Nat.le_trans h1 (h.1 b o s e).1, Nat.lt_of_lt_of_le (h.1 b o s e).2 h2⟩, fun b o s e => ⟨Nat.le_trans h1 (h.2.1 b o s e).1, Nat.lt_of_lt_of_le (h.2.1 b o s e).2 h2⟩, fun b o s e => ⟨Nat.le_trans h1 (h.2.2 b o s e).1, Nat.lt_of_lt_of_le (h.2.2 b o s e).2 h2⟩⟩
theorem far_grow {wr w1 w2 : World} {o : Obj} {v : Value} {l : List NX} {z0 : NX} {gg n cap : Nat} (hv : FarN wr v l) (k : Kept wr w1) (hz : At3 w1 z0) (hw : Within wr.heap.size w1.heap.size z0) (hown : ∀ g, v.ownBlock = some g → g < wr.heap.size)
 (hgrow : (w1.alloc o).grownBy w2 v.ownBlock) (hat : v.ownBlock = some gg ∨ gg = w1.heap.size + 1) : FarN w2 (.slice (some ⟨gg, 0, none⟩) n cap) (l ++ [z0]) := by
 have hs := hgrow.size
 rw [World.size_alloc] at hs
 have hk := k.size
 have key : ∀ z, At3 w1 z → Within 0 w1.heap.size z → (∀ b off sp, z.2.1.1 = some ⟨b, off, sp⟩ → v.ownBlock ≠ some b) → (∀ b off sp, z.2.2.1.1 = some ⟨b, off, sp⟩ → v.ownBlock ≠ some b) → (∀ b off sp, z.2.2.2.1 = some ⟨b, off, sp⟩ → v.ownBlock ≠ some b) →
  At3 w2 z ∧ Within 0 w2.heap.size z ∧ (∀ b off sp, z.2.1.1 = some ⟨b, off, sp⟩ → some gg ≠ some b) ∧ (∀ b off sp, z.2.2.1.1 = some ⟨b, off, sp⟩ → some gg ≠ some b) ∧ (∀ b off sp, z.2.2.2.1 = some ⟨b, off, sp⟩ → some gg ≠ some b) := by
  intro z h3 hwz f1 f2 f3
  have ne : ∀ b, b < w1.heap.size → v.ownBlock ≠ some b → some gg ≠ some b := by
   intro b hb hne e
   rcases hat with hat | hat
   · exact hne (hat.trans e)
   · have : gg = b := Option.some.inj e
     omega
  have h3' := h3.kept (kept_alloc w1 o)
  exact ⟨⟨h3'.size, h3'.cap.grown hgrow (fun b off sp e => Ne.symm (f1 b off sp e)), h3'.labels.grown hgrow (fun b off sp e => Ne.symm (f2 b off sp e)), h3'.taints.grown hgrow (fun b off sp e => Ne.symm (f3 b off sp e))⟩,
   within_up hwz (Nat.le_refl _) (by omega), fun b off sp e => ne b (hwz.1 b off sp e).2 (f1 b off sp e), fun b off sp e => ne b (hwz.2.1 b off sp e).2 (f2 b off sp e), fun b off sp e => ne b (hwz.2.2 b off sp e).2 (f3 b off sp e)⟩
 intro z hzm
 rcases List.mem_append.1 hzm with hzm | hzm
 · obtain ⟨h0, h1, h2, h3, h4⟩ := hv z hzm
   exact key z (h0.kept k) (within_up h1 (Nat.le_refl _) hk) h2 h3 h4
 · obtain rfl : z = z0 := by simpa using hzm
   exact key z hz (within_up hw (Nat.zero_le _) (Nat.le_refl _)) (fun b off sp e f => by have := (hw.1 b off sp e).1; have := hown b f; omega) (fun b off sp e f => by have := (hw.2.1 b off sp e).1; have := hown b f; omega) (fun b off sp e f => by have := (hw.2.2 b off sp e).1; have := hown b f; omega)
theorem nodes_own {w : World} {T : TypeId} {B : Nat} {v : Value} {lx : List NX} (ho : Own NodLay0 T w B v lx) (hf : ∀ z ∈ lx, At3 w z) : NodesR w v (lx.map fun z => z.1) := by
 obtain ⟨a, cap, rfl, h1, h2, h3⟩ := ho.at_
 obtain ⟨g0, g1, g2, g3⟩ := h3
 refine ⟨a, cap, by rw [List.length_map], by rw [List.length_map]; exact h1, h2, rfl, by rw [List.length_map]; exact g1, ?_⟩
 rw [List.length_map]
 rcases g3 with g3 | ⟨b, off, rfl, hb, hc⟩
 · exact .inl g3
 · refine .inr ⟨b, off, rfl, hb, fun i n hi => ?_⟩
   rw [List.getElem?_map] at hi
   obtain ⟨z, hz, rfl⟩ := Option.map_eq_some_iff.1 hi
   exact ⟨_, _, _, _, _, _, _, _, _, hc i z 0 _ hz rfl, hc i z 1 _ hz rfl, hc i z 2 _ hz rfl, hc i z 3 _ hz rfl, hc i z 4 _ hz rfl, hf z (List.mem_of_getElem? hz)⟩
theorem infoR : (Tryz.prog.info? 94).map (fun i => (i.zero, i.size, i.bytes)) = some (some (.agg #[.string ByteArray.empty, .slice none 0 0, .slice none 0 0, .slice none 0 0, .bool false]), 5, 96) := by kernel_rfl
set_option maxRecDepth 100000 in
set_option maxHeartbeats 4000000 in
theorem ofAll_any (a : Option Addr) (len cap : Nat) (l : List Nod) (w : World) (hr : NodesAt w a len l) (hlow : ∀ n ∈ l, LowNod n) (hlen : len ≤ 1000) :
 Calls Tryz.prog 44 #[.slice a len cap] w fun e w' => ∃ v, e = .returned v ∧ NodesR w' v l ∧ Kept w w' := by
 have hl := hr.1
 have HLOW := lH hlow
 obtain ⟨i0, hi, hz0, hz1, hz2'⟩ := info_parts infoR
 rcases hr.form with h0 | ⟨b, off, rfl⟩
 · subst h0
   have hl0 : l = [] := List.eq_nil_of_length_eq_zero hl
   subst hl0
   clear hr hl hi hz0 hz1 hz2' hlow
   go_enter Tryz.func44, Tryz.ntmps44
   go_wp2
   refine wp_loop_rounds 1 ?_
   rw [rounds_succ]
   go_wp2
   go_ret
   exact ⟨_, rfl, ⟨none, 0, rfl, Nat.le_refl _, by decide, rfl, by decide, .inl rfl⟩, Kept.refl _⟩
 · have HR := lH hr
   have HL := lH hl
   clear hr hl hlow
   go_enter Tryz.func44, Tryz.ntmps44
   go_wp2
   go_loopw [3, 4] (fun v i wr => ∃ k : Nat, k ≤ len ∧ i = .int .i64 k ∧ ∃ lx : List NX, (lx.map fun z => z.1) = l.take k ∧ Own NodLay0 94 wr w.heap.size v lx ∧ FarN wr v lx ∧ Below w.heap.size w wr) (fun _ i _ => len - (intOf i).toNat)
   case atStart => exact ⟨0, Nat.zero_le _, rfl, [], rfl, Own.nil _ _ _, (fun z h => by cases h), Below.refl _ _⟩
   case round =>
    obtain ⟨k, hk, rfl, lx, hlx, ho, hv, hB⟩ := hrel
    have HX := lH hlx
    have HO := lH ho
    have HV := lH hv
    have HB := lH hB
    have HT := lH (show lx.length = k by have := congrArg List.length hlx; rw [List.length_map, List.length_take, HL.out] at this; omega)
    have HOWN := lH (show wr.ownsRow w.heap.size 94 5 u3 k (rowCells NodLay0 lx) by have := HO.out.1; rw [HT.out] at this; exact this)
    have hbase : w.heap.size ≤ wr.heap.size := hB.size
    by_cases hlt : k < len
    · obtain ⟨n, a1, m1, c1, a2, m2, c2, a3, m3, c3, hn, hd, hb, p0, p1, p2, p3, p4, hat⟩ := (HR.out.kept hB).at_ hlt
      have HN := lH hn
      have HOF := lH (ofN_any n (.slice a1 m1 c1) (.slice a2 m2 c2) (.slice a3 m3 c3) wr hat (HLOW.out n (List.mem_of_getElem? hn)))
      have hk1 : (k : Int) < (len : Int) := by omega
      clear hlx ho hv hB hn hd hat
      go_wp2_with fail
      refine HOF.out.mono ?_
      rintro e w1 ⟨z, rfl, hz, h3, hwi, kk⟩
      have HZ := lH hz
      have H3 := lH h3
      have HW := lH hwi
      have KK := lH kk
      have hs1 : wr.heap.size ≤ w1.heap.size := kk.size
      have HOW2 := lH (show w1.ownsRow w.heap.size 94 5 u3 k (rowCells NodLay0 lx) by have := (HO.out.kept kk).1; rw [HT.out] at this; exact this)
      clear hz h3 hwi kk
      go_wp2_with (at_builtin; refine wpList_append_lies _ rfl _ _ _ rfl w.heap.size 94 i0 _ 5 96 Tryz.underlying31 hi hz0 hz1 hz2' rfl (by decide) u3 k (rowCells NodLay0 lx) rfl (HOW2.out.alloc _) ⟨w1.heap.size, 0, none⟩ 1 1 (NodLay0.cs z) rfl rfl (World.news_of_block (cs := #[.string z.1.name, slV z.2.1, slV z.2.2.1, slV z.2.2.2, .bool z.1.cordon]) (t := 94) (fr := (0, 0)) (heap_alloc_new w1 _)) (one_node0 z) (by decide) (by unfold maxLen; omega) (by omega) (by simp; omega) (w1.heap.size + 1) (by simp) ?_; intro gg cap1 w2 hown1 hgrow hat hlt1)
      have HFAR := lH (far_grow (n := k + 1) (cap := cap1) HV.out KK.out H3.out HW.out (fun g h => (HOWN.out.lt g h).2) hgrow hat)
      have HBW := lH ((HB.out.trans ((Below.mono KK.out hbase).trans (Below.mono (kept_alloc w1 _) (by omega)))).grown hgrow (by simp; omega) (fun j hj => (HOWN.out.lt j hj).1))
      go_wp2
      go_roundw
      case rel => exact ⟨k + 1, by omega, by go_num, lx ++ [z], by rw [List.map_append, HX.out, take_snoc HN.out, ← HZ.out]; rfl, Own.snoc hown1 (by rw [HT.out]) HO.out.2 trivial, HFAR.out, HBW.out⟩
      case measure => simp [intOf]; omega
    · have HK := lH (show l.take k = l by rw [List.take_of_length_le (by rw [HL.out]; omega)])
      have HRES := lH (show NodesR wr u3 l by have := nodes_own HO.out (fun z hz => (HV.out z hz).1); rw [HX.out, HK.out] at this; exact this)
      clear hlx ho hv hB
      go_wp2
      go_ret
      exact ⟨_, rfl, HRES.out, HB.out⟩
theorem ofAllR {v : Value} {l : List Nod} {w : World} (h : NodesR w v l) (hlow : ∀ n ∈ l, LowNod n) (hlen : l.length ≤ 1000) :
 Calls Tryz.prog 44 #[v] w fun e w' => ∃ v, e = .returned v ∧ NodesR w' v l ∧ Kept w w' := by
 obtain ⟨a, cap, rfl, _, _, hr⟩ := h
 exact ofAll_any a _ cap l w hr hlow hlen
end Go.Proofs.YtfpgekjhcfoohaaGreat
