/- Clusters: the laws' Same; Move; a pod as the reference's. -/
import Derived.Test.YtfpgekjhcfoohaaGreatShort
import Derived.Test.YtfpgekjhcfoohaaGreatStC
import Derived.Test.YtfpgekjhcfoohaaGreatStD
import Derived.Deep.RegionHeld3
set_option linter.unusedVariables false
namespace Go.Proofs.YtfpgekjhcfoohaaGreat
open Go.RowKit
theorem moveStR {v : Value} {s : Clu} {w : World} (h : CluR w v s) (x y : ByteArray) (hy : y.size ≤ maxLen) (hl : LowClu s) : Calls Tryz.prog 27 #[v, .string x, .string y] w (TellsS (moveSt s x y) w) := by
 obtain ⟨v1, v2, v3, rfl, ⟨a, cap, rfl, l1, m1, h1⟩, ⟨b, cp, rfl, l2, m2, h2⟩, ⟨d, cb, rfl, l3, m3, h3⟩⟩ := h
 refine (moveSt_any a b d _ cap _ cp _ cb s.nodes s.pods s.buds x y w hy h1 h2 h3 l1 m1 l2 m2 l3 m3 hl).mono ?_
 rintro e w' ⟨_, _, _, _, _, _, _, _, _, rfl, ho, kk⟩
 exact ⟨_, rfl, ho.toR, kk⟩
theorem move_len' (s : Clu) (x y : ByteArray) : (moveSt s x y).pods.length = s.pods.length := by
 have : ∀ l : List Pd, (moveP x y l).length = l.length := fun l => by
  induction l with
  | nil => rfl
  | cons p t ih =>
   rw [moveP]
   split
   · rfl
   · rw [List.length_cons, ih, List.length_cons]
 exact this s.pods
set_option maxRecDepth 100000 in
set_option maxHeartbeats 6400000 in
theorem lawSameR {v u : Value} {s t : Clu} {c : Bool} {w : World} (h : CluR w v s) (g : CluR w u t) (hl : LowClu s) (e1 : s.nodes.length ≤ 1000) (e2 : s.pods.length ≤ 1000) (e3 : s.buds.length ≤ 1000) (hc : sameSt s t = c) : Calls Tryz.prog 24 #[v, u] w (Say (.bool c) w) := by
 have HL := lH (And.intro hl (And.intro e1 (And.intro e2 e3)))
 clear hl e1 e2 e3
 have hs0 := h
 obtain ⟨_, _, _, rfl, ⟨a, cap, rfl, -, -, -⟩, ⟨b, cp, rfl, -, -, -⟩, ⟨d, cb, rfl, -, -, -⟩⟩ := hs0
 obtain ⟨len, hlen⟩ : ∃ q, (s).nodes.length = q := ⟨_, rfl⟩
 rw [hlen] at h
 try rw [hlen]
 clear hlen
 obtain ⟨m, hm⟩ : ∃ q, (s).pods.length = q := ⟨_, rfl⟩
 rw [hm] at h
 try rw [hm]
 clear hm
 obtain ⟨n, hn⟩ : ∃ q, (s).buds.length = q := ⟨_, rfl⟩
 rw [hn] at h
 try rw [hn]
 clear hn
 have hs0 := g
 obtain ⟨_, _, _, rfl, ⟨a9, cap9, rfl, -, -, -⟩, ⟨b9, cp9, rfl, -, -, -⟩, ⟨d9, cb9, rfl, -, -, -⟩⟩ := hs0
 obtain ⟨len9, hlen9⟩ : ∃ q, (t).nodes.length = q := ⟨_, rfl⟩
 rw [hlen9] at g
 try rw [hlen9]
 clear hlen9
 obtain ⟨m9, hm9⟩ : ∃ q, (t).pods.length = q := ⟨_, rfl⟩
 rw [hm9] at g
 try rw [hm9]
 clear hm9
 obtain ⟨n9, hn9⟩ : ∃ q, (t).buds.length = q := ⟨_, rfl⟩
 rw [hn9] at g
 try rw [hn9]
 clear hn9
 obtain ⟨Z, hZ⟩ : ∃ Z, (w.alloc (.cells #[.slice a len cap, .slice b m cp, .slice d n cb] 26)).alloc (.cells #[.slice a9 len9 cap9, .slice b9 m9 cp9, .slice d9 n9 cb9] 35) = Z := ⟨_, rfl⟩
 have hkz : Kept w Z := by rw [← hZ]; exact kept_two _ _ _
 have HC := lH (show CellsN w.heap.size [.slice a len cap, .slice b m cp, .slice d n cb] Z from freshN w (.slice a len cap) [.slice b m cp, .slice d n cb] 26 Z (by rw [← hZ]; exact kept_alloc _ _))
 have HD := lH (show CellsN (w.heap.size + 1) [.slice a9 len9 cap9, .slice b9 m9 cp9, .slice d9 n9 cb9] Z by
  have dd := freshN (w.alloc (.cells #[.slice a len cap, .slice b m cp, .slice d n cb] 26)) (.slice a9 len9 cap9) [.slice b9 m9 cp9, .slice d9 n9 cb9] 35 Z (by rw [hZ]; exact Kept.refl _)
  rw [World.size_alloc] at dd
  exact dd)
 have HV := lH (h.kept hkz)
 have HU := lH (g.kept hkz)
 have HKZ := lH hkz
 have HCC := lH hc
 clear h g hkz hc
 have HF := lH (show ∀ W, Kept Z W → W.cell? ⟨w.heap.size, 0, none⟩ = some (.slice a len cap) ∧ W.cell? ⟨w.heap.size, 1, none⟩ = some (.slice b m cp) ∧ W.cell? ⟨w.heap.size, 2, none⟩ = some (.slice d n cb) ∧ W.cell? ⟨w.heap.size + 1, 0, none⟩ = some (.slice a9 len9 cap9) ∧ W.cell? ⟨w.heap.size + 1, 1, none⟩ = some (.slice b9 m9 cp9) ∧ W.cell? ⟨w.heap.size + 1, 2, none⟩ = some (.slice d9 n9 cb9) from fun W k => ⟨(HC.out.kept k).at_ 0 _ rfl, (HC.out.kept k).at_ 1 _ rfl, (HC.out.kept k).at_ 2 _ rfl, (HD.out.kept k).at_ 0 _ rfl, (HD.out.kept k).at_ 1 _ rfl, (HD.out.kept k).at_ 2 _ rfl⟩)
 go_enter Tryz.func24, Tryz.ntmps24
 go_upto_region 1 with fail
 try rw [hZ]
 clear hZ
 have J := lH (Kept.drew Z)
 refine wp_region_held_drew (S := fun W => W.cell? ⟨w.heap.size, 0, none⟩ = some (.slice a len cap) ∧ W.cell? ⟨w.heap.size, 1, none⟩ = some (.slice b m cp) ∧ W.cell? ⟨w.heap.size, 2, none⟩ = some (.slice d n cb) ∧ W.cell? ⟨w.heap.size + 1, 0, none⟩ = some (.slice a9 len9 cap9) ∧ W.cell? ⟨w.heap.size + 1, 1, none⟩ = some (.slice b9 m9 cp9) ∧ W.cell? ⟨w.heap.size + 1, 2, none⟩ = some (.slice d9 n9 cb9)) (by kernel_rfl) (HF.out _ J.out) (fun hHeld => ?_)
 refine tkH 0 (v := ?_) (y := Or.inl ⟨by rfl, (by rintro W ⟨o0, o1, o2, o3, o4, o5⟩; go_simp <;> with_reducible rfl)⟩) (h := ?_)
 try simp only [nP]
 refine tkH 2 (v := ?_) (y := Or.inl ⟨by rfl, (by rintro W ⟨o0, o1, o2, o3, o4, o5⟩; go_simp <;> with_reducible rfl)⟩) (h := ?_)
 try simp only [nP]
 refine rdH (rs := [1]) (h := coH (fun K9 hK9 => ?_) AllReadyH.nil)
 go_simp
 obtain ⟨q1, q2, q3, q4⟩ := HL.out
 refine (ofStR (HV.out.kept J.out) q1 q2 q3 q4).mono ?_
 clear q1 q2 q3 q4
 rintro e w1 ⟨y1, rfl, hy, kk⟩
 have J := lH (J.out.trans kk)
 have hs0 := hy
 obtain ⟨_, _, _, rfl, ⟨x1, r1, rfl, -, -, -⟩, ⟨x2, r2, rfl, -, -, -⟩, ⟨x3, r3, rfl, -, -, -⟩⟩ := hs0
 obtain ⟨k1, hk1⟩ : ∃ q, (s).nodes.length = q := ⟨_, rfl⟩
 rw [hk1] at hy
 try rw [hk1]
 clear hk1
 obtain ⟨k2, hk2⟩ : ∃ q, (s).pods.length = q := ⟨_, rfl⟩
 rw [hk2] at hy
 try rw [hk2]
 clear hk2
 obtain ⟨k3, hk3⟩ : ∃ q, (s).buds.length = q := ⟨_, rfl⟩
 rw [hk3] at hy
 try rw [hk3]
 clear hk3
 have HY := lH hy
 clear hy kk
 refine hK9.out _ _ (HF.out _ J.out) (fun hHeld1 => ?_)
 clear hK9 K9
 try simp only [nP]
 refine rdH (rs := [3]) (h := coH (fun K9 hK9 => ?_) AllReadyH.nil)
 go_simp
 refine (rsameStR HY.out (HU.out.kept J.out) HCC.out).mono ?_
 rintro e w2 ⟨rfl, kk⟩
 have J := lH (J.out.trans kk)
 clear kk
 refine hK9.out _ _ (HF.out _ J.out) (fun hHeld2 => ?_)
 clear hK9 K9
 try simp only [nP]
 refine tkH 4 (v := ?_) (y := Or.inl ⟨by rfl, (by rintro W ⟨o0, o1, o2, o3, o4, o5⟩; go_simp <;> with_reducible rfl)⟩) (h := ?_)
 try simp only [nP]
 refine wpAnyH_done (by kernel_rfl) ?_ _
 go_wp2
 go_ret
 exact ⟨rfl, HKZ.out.trans J.out⟩
end Go.Proofs.YtfpgekjhcfoohaaGreat
