/- Clusters: the reference's with: other pods. -/
import Derived.Test.YtfpgekjhcfoohaaGreatShort
import Derived.Test.YtfpgekjhcfoohaaGreatStD
import Derived.Test.YtfpgekjhcfoohaaGreatStC
import Derived.Test.YtfpgekjhcfoohaaGreatStRefM
import Derived.Test.YtfpgekjhcfoohaaGreatStPx
import Derived.Deep.RegionHeld3
set_option linter.unusedVariables false
namespace Go.Proofs.YtfpgekjhcfoohaaGreat
open Go.RowKit
theorem CluR.with' {w : World} {v1 v2 v3 u : Value} {s : Clu} {l : List Pd} (h : CluR w (CluV v1 v2 v3) s) (g : PodsR w u l) : CluR w (CluV v1 u v3) { s with pods := l } := by
 obtain ⟨_, _, _, e, g0⟩ := h
 cases e
 exact ⟨_, _, _, rfl, ⟨g0.nodes, g, g0.buds⟩⟩
theorem CluR.podsAt {w : World} {v1 v3 : Value} {b : Option Addr} {m cp : Nat} {s : Clu} (h : CluR w (CluV v1 (.slice b m cp) v3) s) : PodsAt w b m s.pods := by
 obtain ⟨_, _, _, e, g0⟩ := h
 cases e
 exact pods_ofR g0.pods
theorem PodsR.shape {w : World} {v : Value} {l : List Pd} (h : PodsR w v l) : ∃ a m c, v = .slice a m c ∧ m ≤ c ∧ c ≤ maxLen ∧ l.length = m := by
 obtain ⟨a, c, e, h1, h2, -⟩ := h
 exact ⟨a, _, c, e, h1, h2, rfl⟩
theorem kindRP : Kind 32 69 11 184 := by
 obtain ⟨i, hi, hz, h1, h2⟩ := info_parts infoRP
 exact ⟨i, _, Tryz.underlying32, hi, hz, h1, h2, rfl, by decide⟩
theorem RowAt.low {w : World} {b : Option Addr} {m k : Nat} {lx : List PX} (h : RowAt PodLay0 w b m lx) (hk : k ≤ m) : RowAt PodLay0 w b k (lx.take k) := by
 rcases h.form with h0 | ⟨b9, off, rfl⟩
 · obtain rfl : k = 0 := by omega
   rw [List.take_zero]
   exact RowAt.nil w b
 · exact h.preP (by have := h.1; omega)
theorem Own.node_at {T : TypeId} {w : World} {B g n cap k : Nat} {lx : List PX} {y : ByteArray} {z : PX} (h : Own PodLay0 T w B (.slice (some ⟨g, 0, none⟩) n cap) lx) (hz : lx[k]? = some z) :
 Own PodLay0 T (w.setCell ⟨g, k * 11 + 9, none⟩ (.string y)) B (.slice (some ⟨g, 0, none⟩) n cap) (lx.set k ({ z.1 with node := y }, z.2)) := by
 obtain ⟨a', c', e', _⟩ := h.at_
 have hlen : lx.length = n := by cases e'; rfl
 obtain ⟨q, x1, x2, x3, x4⟩ := z
 have hkl : k < lx.length := (List.getElem?_eq_some_iff.1 hz).1
 have hcs := rowCells_set PodLay0 lx k ({ q with node := y }, x1, x2, x3, x4) hkl
 have hid := rowCells_set PodLay0 lx k (q, x1, x2, x3, x4) hkl
 rw [show lx.set k (q, x1, x2, x3, x4) = lx by
  apply List.ext_getElem?
  intro i
  by_cases e : k = i
  · subst e; rw [List.getElem?_set_self hkl, hz]
  · rw [List.getElem?_set_ne e]] at hid
 have hrow : (rowCells PodLay0 lx).set (k * 11 + 9) (.string y) = rowCells PodLay0 (lx.set k ({ q with node := y }, x1, x2, x3, x4)) := by
  rw [← hcs]
  have hA : ((rowCells PodLay0 lx).take (k * 11)).length = k * 11 := by
   rw [List.length_take, rowCells_length]
   exact Nat.min_eq_left (Nat.mul_le_mul_right 11 (Nat.le_of_lt hkl))
  have e1 : rowCells PodLay0 lx = (rowCells PodLay0 lx).take (k * 11) ++ (PodLay0.cs (q, x1, x2, x3, x4) ++ (rowCells PodLay0 lx).drop (k * 11 + 11)) := by rw [← List.append_assoc]; exact hid.symm
  have e2 : ∀ (A C D : List Value), A.length = k * 11 → C.length = 11 → (A ++ (C ++ D)).set (k * 11 + 9) (.string y) = A ++ (C.set 9 (.string y) ++ D) := fun A C D ha hc => by
   rw [List.set_append_right _ _ (by omega), List.set_append_left _ _ (by omega), ha, show k * 11 + 9 - k * 11 = 9 by omega]
  have e3 := e2 ((rowCells PodLay0 lx).take (k * 11)) (PodLay0.cs (q, x1, x2, x3, x4)) ((rowCells PodLay0 lx).drop (k * 11 + 11)) hA rfl
  rw [← e1] at e3
  rw [e3]
  show _ = (rowCells PodLay0 lx).take (k * 11) ++ _ ++ (rowCells PodLay0 lx).drop (k * 11 + 11)
  rw [List.append_assoc]
  rfl
 refine ⟨?_, fun x hx => trivial⟩
 have h0 : w.ownsRow B T 11 (.slice (some ⟨g, 0, none⟩) n cap) n (rowCells PodLay0 lx) := by have := h.1; rw [hlen] at this; exact this
 have h1 := World.ownsRow.stored h0 (k * 11 + 9) (.string y)
 rw [hrow] at h1
 rw [List.length_set, hlen]
 exact h1.1
set_option maxRecDepth 100000 in
set_option maxHeartbeats 6400000 in
theorem rwithR {v u : Value} {s : Clu} {l : List Pd} {w : World} (h : CluR w v s) (g : PodsR w u l) : Calls Tryz.prog 86 #[v, u] w (TellsS { s with pods := l } w) := by
 have h0 := h
 obtain ⟨v1, v2, v3, rfl, ⟨a, cap, rfl, -, -, -⟩, ⟨b, cp, rfl, -, -, -⟩, ⟨d, cb, rfl, -, -, -⟩⟩ := h0
 obtain ⟨len, hl1⟩ : ∃ q, s.nodes.length = q := ⟨_, rfl⟩
 obtain ⟨m, hl2⟩ : ∃ q, s.pods.length = q := ⟨_, rfl⟩
 obtain ⟨n, hl3⟩ : ∃ q, s.buds.length = q := ⟨_, rfl⟩
 rw [hl1, hl2, hl3] at h ⊢
 clear hl1 hl2 hl3
 obtain ⟨b9, m9, c9, rfl, -, -, -⟩ := g.shape
 obtain ⟨Z, hZ⟩ : ∃ Z, (w.alloc (.cells #[.slice a len cap, .slice b m cp, .slice d n cb] 35)).alloc (.cells #[.slice none 0 0, .slice none 0 0, .slice none 0 0] 35) = Z := ⟨_, rfl⟩
 have hkz : Kept w Z := by rw [← hZ]; exact kept_two _ _ _
 have HQ := lH (show CellsN w.heap.size [.slice a len cap, .slice b m cp, .slice d n cb] Z from freshN w (.slice a len cap) [.slice b m cp, .slice d n cb] 35 Z (by rw [← hZ]; exact kept_alloc _ _))
 have HH := lH (show CellsN (w.heap.size + 1) [.slice none 0 0, .slice none 0 0, .slice none 0 0] Z by
  have dd := freshN (w.alloc (.cells #[.slice a len cap, .slice b m cp, .slice d n cb] 35)) (.slice none 0 0) [.slice none 0 0, .slice none 0 0] 35 Z (by rw [hZ]; exact Kept.refl _)
  rw [World.size_alloc] at dd
  exact dd)
 have HSL := lH (show ∀ W, Kept Z W → AllSl W (w.heap.size + 1) from fun W k => by
  have hh : Z.heap[w.heap.size + 1]? = some (.cells #[.slice none 0 0, .slice none 0 0, .slice none 0 0] 35) := by
   have := (w.alloc (.cells #[.slice a len cap, .slice b m cp, .slice d n cb] 35)).alloc_heap_new (.cells #[.slice none 0 0, .slice none 0 0, .slice none 0 0] 35)
   rw [World.size_alloc, hZ] at this
   exact this
  exact all_sl ((k.block _ (Array.getElem?_eq_some_iff.1 hh).1).trans hh))
 have HV := lH (h.kept hkz)
 have HKZ := lH hkz
 have HG := lH (g.kept hkz)
 clear h g hkz
 have cq0 := (HQ.out.kept (Kept.refl _)).at_ 0 _ rfl
 have cq1 := (HQ.out.kept (Kept.refl _)).at_ 1 _ rfl
 have cq2 := (HQ.out.kept (Kept.refl _)).at_ 2 _ rfl
 go_enter Tryz.func86, Tryz.ntmps86
 go_upto_region 1 with fail
 try rw [hZ]
 clear hZ
 have H9 := lH (HH.out.kept (Kept.refl _))
 have z0 := H9.out.at_ 0 _ rfl
 have z1 := H9.out.at_ 1 _ rfl
 have z2 := H9.out.at_ 2 _ rfl
 have f0 := H9.out.free 0
 have f1 := H9.out.free 1
 have f2 := H9.out.free 2
 have PP := lH (putN (vs := [.slice a len cap, .slice b9 m9 c9, .slice d n cb]) H9.out rfl)
 go_wp2
 obtain ⟨WE, hWE⟩ : ∃ V, Z.setCells (w.heap.size + 1) 0 [.slice a len cap, .slice b9 m9 c9, .slice d n cb] = V := ⟨_, rfl⟩
 have hWE2 : (((Z.setCell ⟨(w.heap.size + 1), 0, none⟩ (.slice a len cap)).setCell ⟨(w.heap.size + 1), 1, none⟩ (.slice b9 m9 c9)).setCell ⟨(w.heap.size + 1), 2, none⟩ (.slice d n cb)) = WE := hWE
 rw [hWE] at PP
 try rw [hWE2]
 clear hWE hWE2
 obtain ⟨PC, hsz, hbl, hkp⟩ := PP.out
 refine bodyPost_ret (by simp [results, Tryz.results86, go_sem, PC.at_ 0 _ rfl, PC.at_ 1 _ rfl, PC.at_ 2 _ rfl]; try rfl) rfl ?_
 exact ⟨_, rfl, clu_pastS hsz hbl (HSL.out _ (Kept.refl _)) (HV.out.with' HG.out), hkp _ _ (Nat.le_succ _) (HKZ.out.trans (Kept.refl _))⟩
end Go.Proofs.YtfpgekjhcfoohaaGreat
