/- Package by package: contracts of the functions that the laws call. -/
import Derived.Test.YtfpgekjhcfoohaaGreatShort
import Derived.Test.YtfpgekjhcfoohaaGreatNodB
import Derived.Test.YtfpgekjhcfoohaaGreatPodP
import Derived.Test.YtfpgekjhcfoohaaGreatBudA
import Derived.Test.YtfpgekjhcfoohaaGreatResB
import Derived.Test.YtfpgekjhcfoohaaGreatBase
import Derived.Deep.RegionHeld3
import Derived.Test.YtfpgekjhcfoohaaGreatResA
/- Clusters: how they are held; what is told of them, in plain words. -/
set_option linter.unusedVariables false
namespace Go.Proofs.YtfpgekjhcfoohaaGreat
open Go.RowKit
structure Clu where
 nodes : List Nod
 pods : List Pd
 buds : List Bd
abbrev CluV (v1 v2 v3 : Value) : Value := .agg #[v1, v2, v3]
structure CluAt (w : World) (v1 v2 v3 : Value) (s : Clu) : Prop where
 nodes : NodesR w v1 s.nodes
 pods : PodsR w v2 s.pods
 buds : BudsR w v3 s.buds
theorem CluAt.kept {w w' : World} {v1 v2 v3 : Value} {s : Clu} (h : CluAt w v1 v2 v3 s) (k : Kept w w') : CluAt w' v1 v2 v3 s := ⟨h.nodes.kept k, h.pods.kept k, h.buds.kept k⟩
def CluR (w : World) (v : Value) (s : Clu) : Prop := ∃ v1 v2 v3, v = CluV v1 v2 v3 ∧ CluAt w v1 v2 v3 s
theorem CluR.kept {w w' : World} {v : Value} {s : Clu} (h : CluR w v s) (k : Kept w w') : CluR w' v s := by
 obtain ⟨v1, v2, v3, e, h⟩ := h
 exact ⟨v1, v2, v3, e, h.kept k⟩
structure LowClu (s : Clu) : Prop where
 nodes : ∀ n ∈ s.nodes, LowNod n
 pods : ∀ n ∈ s.pods, LowPd n
 buds : ∀ n ∈ s.buds, n.sel.length ≤ 1000000
 nodesN : s.nodes.length ≤ 100000
 podsN : s.pods.length ≤ 100000
 budsN : s.buds.length ≤ 100000
def useV (x : ByteArray) : List Pd → Vec.V → Int × Vec.V
 | [], v => (0, v)
 | p :: t, v => if eqS p.node x = true then (if (Vec.mergedV Vec.addF v p.need).1 = 0 then useV x t (Vec.mergedV Vec.addF v p.need).2 else ((Vec.mergedV Vec.addF v p.need).1, [])) else useV x t v
theorem useV_skip {x : ByteArray} {p : Pd} {t : List Pd} {v : Vec.V} (h : eqS p.node x = false) : useV x (p :: t) v = useV x t v := by
 rw [useV, if_neg (by rw [h]; decide)]
theorem useV_add {x : ByteArray} {p : Pd} {t : List Pd} {v m : Vec.V} (h : eqS p.node x = true) (g : Vec.mergedV Vec.addF v p.need = (0, m)) : useV x (p :: t) v = useV x t m := by
 rw [useV, if_pos h, g, if_pos rfl]
theorem useV_bad {x : ByteArray} {p : Pd} {t : List Pd} {v m : Vec.V} {c : Int} (h : eqS p.node x = true) (g : Vec.mergedV Vec.addF v p.need = (c, m)) (hc : c ≠ 0) : useV x (p :: t) v = (c, []) := by
 rw [useV, if_pos h, g, if_neg hc]
theorem useV_none {x : ByteArray} : ∀ {l : List Pd} {v : Vec.V}, (useV x l v).1 ≠ 0 → (useV x l v).2 = []
 | [], v, h => absurd rfl h
 | p :: t, v, h => by
  rw [useV] at h ⊢
  split at h
  · rename_i h1
    rw [if_pos h1]
    split at h
    · rename_i h2; rw [if_pos h2]; exact useV_none h
    · rename_i h2; rw [if_neg h2]
  · rename_i h1
    rw [if_neg h1]; exact useV_none h
def totV : List Nod → Vec.V → Int × Vec.V
 | [], v => (0, v)
 | n :: t, v => if (Vec.mergedV Vec.addF v n.cap).1 = 0 then totV t (Vec.mergedV Vec.addF v n.cap).2 else ((Vec.mergedV Vec.addF v n.cap).1, [])
theorem totV_add {n : Nod} {t : List Nod} {v m : Vec.V} (g : Vec.mergedV Vec.addF v n.cap = (0, m)) : totV (n :: t) v = totV t m := by
 rw [totV, g, if_pos rfl]
theorem totV_bad {n : Nod} {t : List Nod} {v m : Vec.V} {c : Int} (g : Vec.mergedV Vec.addF v n.cap = (c, m)) (hc : c ≠ 0) : totV (n :: t) v = (c, []) := by
 rw [totV, g, if_neg hc]
theorem totV_none : ∀ {l : List Nod} {v : Vec.V}, (totV l v).1 ≠ 0 → (totV l v).2 = []
 | [], v, h => absurd rfl h
 | n :: t, v, h => by
  rw [totV] at h ⊢
  split at h
  · rename_i h2; rw [if_pos h2]; exact totV_none h
  · rename_i h2; rw [if_neg h2]
def usedSt (s : Clu) (x : ByteArray) : Int × Vec.V := match findN s.nodes x with | none => (3, []) | some n => useV n.name s.pods []
def totalSt (s : Clu) : Int × Vec.V := totV s.nodes []
def chkPlaces (nodes : List Nod) : List Pd → Int
 | [] => 0
 | p :: t => if isNo p.node = false ∧ (findN nodes p.node).isSome = false then 3 else chkPlaces nodes t
theorem places_bad {nodes : List Nod} {p : Pd} {t : List Pd} (h : isNo p.node = false) (g : (findN nodes p.node).isSome = false) : chkPlaces nodes (p :: t) = 3 := by
 rw [chkPlaces, if_pos ⟨h, g⟩]
theorem places_none {nodes : List Nod} {p : Pd} {t : List Pd} (h : isNo p.node = true) : chkPlaces nodes (p :: t) = chkPlaces nodes t := by
 rw [chkPlaces, if_neg (by rw [h]; simp)]
theorem places_some {nodes : List Nod} {p : Pd} {t : List Pd} (g : (findN nodes p.node).isSome = true) : chkPlaces nodes (p :: t) = chkPlaces nodes t := by
 rw [chkPlaces, if_neg (by rw [g]; simp)]
def chkRooms (pods : List Pd) : List Nod → Int
 | [] => 0
 | n :: t => if (useV n.name pods []).1 = 0 then (if Vec.fitsFrom n.cap (useV n.name pods []).2 = true then chkRooms pods t else 7) else (useV n.name pods []).1
theorem rooms_bad {pods : List Pd} {n : Nod} {t : List Nod} {c : Int} {u : Vec.V} (h : useV n.name pods [] = (c, u)) (hc : c ≠ 0) : chkRooms pods (n :: t) = c := by
 rw [chkRooms, h, if_neg hc]
theorem rooms_full {pods : List Pd} {n : Nod} {t : List Nod} {u : Vec.V} (h : useV n.name pods [] = (0, u)) (hf : Vec.fitsFrom n.cap u = false) : chkRooms pods (n :: t) = 7 := by
 rw [chkRooms, h, if_pos rfl, if_neg (by rw [hf]; decide)]
theorem rooms_next {pods : List Pd} {n : Nod} {t : List Nod} {u : Vec.V} (h : useV n.name pods [] = (0, u)) (hf : Vec.fitsFrom n.cap u = true) : chkRooms pods (n :: t) = chkRooms pods t := by
 rw [chkRooms, h, if_pos rfl, if_pos hf]
def chkSt (s : Clu) : Int :=
 if or3 (chkAllN s.nodes) (chkAllP s.pods) (chkAllBd s.buds) ≠ 0 then or3 (chkAllN s.nodes) (chkAllP s.pods) (chkAllBd s.buds)
 else if chkPlaces s.nodes s.pods ≠ 0 then chkPlaces s.nodes s.pods
 else if chkRooms s.pods s.nodes ≠ 0 then chkRooms s.pods s.nodes
 else (totV s.nodes []).1
def onP (x : ByteArray) (l : List Pd) : List Pd := if isNo x = true then [] else l.filter fun p => eqS p.node x
def dropP (x : ByteArray) : List Pd → List Pd
 | [] => []
 | p :: t => if eqS p.name x = true then t else p :: dropP x t
def insP (p : Pd) : List Pd → List Pd
 | [] => [p]
 | q :: t => if ltS p.name q.name = true then p :: q :: t else q :: insP p t
def moveP (x y : ByteArray) : List Pd → List Pd
 | [] => []
 | p :: t => if eqS p.name x = true then { p with node := y } :: t else p :: moveP x y t
def dropSt (s : Clu) (x : ByteArray) : Clu := { s with pods := dropP x s.pods }
def putSt (s : Clu) (p : Pd) : Clu := { s with pods := insP p (dropP p.name s.pods) }
def moveSt (s : Clu) (x y : ByteArray) : Clu := { s with pods := moveP x y s.pods }
def allSame {α : Type} (f : α → α → Bool) : List α → List α → Bool
 | [], [] => true
 | x :: s, y :: t => f x y && allSame f s t
 | [], _ :: _ => false
 | _ :: _, [] => false
open Go.RowKit
def VRes (r : Int × Vec.V) (w : World) (e : Ending) (w' : World) : Prop := (r.1 = 0 → ∃ v, e = .returned v ∧ Vec.OwnV 103 w' w.heap.size v r.2) ∧ (r.1 ≠ 0 → e = .panicked [perr r.1]) ∧ Kept w w'
theorem VRes.good {r : Int × Vec.V} {m : Vec.V} {v : Value} {w w' : World} (h : r = (0, m)) (g : Vec.OwnV 103 w' w.heap.size v m) (k : Kept w w') : VRes r w (.returned v) w' := by
 subst h; exact ⟨fun _ => ⟨v, rfl, g⟩, fun h => absurd rfl h, k⟩
theorem VRes.bad {r : Int × Vec.V} {m : Vec.V} {c : Int} {w w' : World} (h : r = (c, m)) (hc : c ≠ 0) (k : Kept w w') : VRes r w (.panicked [perr c]) w' := by
 subst h; exact ⟨fun h => absurd h hc, fun _ => rfl, k⟩
theorem addD {v v' : Value} {l l' : Vec.V} {w : World} (h : Vec.Reads w v l) (h' : Vec.Reads w v' l') : Calls Tryz.prog 140 #[v, v'] w (Vec.Done (Vec.mergedV Vec.addF l l') w) := by
 obtain ⟨a, cap, rfl, h1, h2, hr⟩ := h
 obtain ⟨a', cap', rfl, h1', h2', hr'⟩ := h'
 exact Vec.add_any a a' _ cap _ cap' l l' w hr hr' h1 h2 h1' h2'
theorem refuse_ok (w : World) : Calls Tryz.prog 113 #[.int .i64 0] w fun e w' => e = .returned (.tuple #[]) ∧ w = w' := by
 go_enter Tryz.func113, Tryz.ntmps113
 go_wp2
 go_end0
 exact ⟨rfl, rfl⟩
theorem refuse_bad (x : Int) (w : World) (h : x ≠ 0) : Calls Tryz.prog 113 #[.int .i64 x] w fun e w' => e = .panicked [perr x] ∧ w = w' := by
 have h3 : (x != 0) = true := by simpa using h
 clear h
 go_enter Tryz.func113, Tryz.ntmps113
 go_wp2
 exact ⟨rfl, rfl, rfl⟩
def NodeRes (o : Option Nod) (w : World) (e : Ending) (w' : World) : Prop := (∀ n, o = some n → ∃ v, e = .returned v ∧ NodRB w.heap.size w' v n) ∧ (o = none → e = .panicked [perr 3]) ∧ Kept w w'
set_option maxRecDepth 100000 in
set_option maxHeartbeats 1600000 in
theorem nodeOf_any (a a8 a9 : Option Addr) (len cap m8 c8 m9 c9 : Nat) (l : List Nod) (x : ByteArray) (w : World) (hr : NodesAt w a len l) (hlow : ∀ n ∈ l, LowNod n) :
 Calls Tryz.prog 90 #[.agg #[.slice a len cap, .slice a8 m8 c8, .slice a9 m9 c9], .string x] w (NodeRes (findN l x) w) := by
 obtain ⟨Z, hZ⟩ : ∃ Z, (w.alloc (.cells #[.slice a len cap, .slice a8 m8 c8, .slice a9 m9 c9] 26)).alloc (.cells #[.string ⟨#[]⟩, .slice none 0 0, .slice none 0 0, .slice none 0 0, .bool false] 43) = Z := ⟨_, rfl⟩
 have hkz : Kept w Z := by rw [← hZ]; exact kept_two _ _ _
 have hzs : Z.heap.size = w.heap.size + 2 := by rw [← hZ]; simp
 have HQ0 := lH (show CellsN (w.heap.size + 1) [.string ⟨#[]⟩, .slice none 0 0, .slice none 0 0, .slice none 0 0, .bool false] Z by
  have := freshN (w.alloc (.cells #[.slice a len cap, .slice a8 m8 c8, .slice a9 m9 c9] 26)) (.string ⟨#[]⟩) [.slice none 0 0, .slice none 0 0, .slice none 0 0, .bool false] 43 Z (by rw [hZ]; exact Kept.refl _)
  rw [World.size_alloc] at this
  exact this)
 have hst : Z.cell? ⟨w.heap.size, 0, none⟩ = some (.slice a len cap) := (freshN w (.slice a len cap) [.slice a8 m8 c8, .slice a9 m9 c9] 26 Z (by rw [← hZ]; exact kept_alloc _ _)).at_ 0 _ rfl
 have HF := lH (find_anyB a len cap l x Z (hr.kept hkz) hlow)
 have HKZ := lH hkz
 have HZS := lH hzs
 obtain ⟨o, ho⟩ : ∃ o, findN l x = o := ⟨_, rfl⟩
 rw [ho] at HF ⊢
 clear hr hlow hkz hzs ho
 cases o with
 | none =>
  go_enter Tryz.func90, Tryz.ntmps90
  go_wp2_with fail
  try rw [hZ]
  clear hZ hst
  refine HF.out.mono ?_
  rintro e w1 ⟨v, rfl, hn, k1⟩
  have KW := lH (HKZ.out.trans k1)
  obtain ⟨b1, n1, d1, b2, n2, d2, b3, n3, d3, rfl, -⟩ := hn
  clear k1
  go_wp2
  exact ⟨rfl, (fun n h => by cases h), (fun _ => rfl), KW.out.trans (kept_alloc _ _)⟩
 | some n9 =>
  go_enter Tryz.func90, Tryz.ntmps90
  go_wp2_with fail
  try rw [hZ]
  clear hZ hst
  refine HF.out.mono ?_
  rintro e w1 ⟨v, rfl, hn, k1⟩
  have HN := lH hn
  have HQZ := lH (HQ0.out.kept k1)
  have KW := lH (HKZ.out.trans k1)
  obtain ⟨b1, n1, d1, b2, n2, d2, b3, n3, d3, hv, -⟩ := hn
  have hv : v = .agg #[.string n9.name, .slice b1 n1 d1, .slice b2 n2 d2, .slice b3 n3 d3, .bool n9.cordon] := hv
  subst hv
  obtain ⟨z, hz⟩ : ∃ z, n9.name = z := ⟨_, rfl⟩
  obtain ⟨cd, hcd⟩ : ∃ z, n9.cordon = z := ⟨_, rfl⟩
  have HZ1 := lH (show w.heap.size + 2 ≤ w1.heap.size by have := k1.size; rw [HZS.out] at this; exact this)
  rw [hz, hcd]
  rw [hz, hcd] at HN
  clear k1
  have HQW := lH (HQZ.out.kept (kept_alloc w1 (.cells #[.string z, .slice b1 n1 d1, .slice b2 n2 d2, .slice b3 n3 d3, .bool cd] 43)))
  clear HQZ
  obtain ⟨W1, hW1⟩ : ∃ W, w1.alloc (.cells #[.string z, .slice b1 n1 d1, .slice b2 n2 d2, .slice b3 n3 d3, .bool cd] 43) = W := ⟨_, rfl⟩
  rw [hW1] at HQW
  have c := freshN w1 (.string z) [.slice b1 n1 d1, .slice b2 n2 d2, .slice b3 n3 d3, .bool cd] 43 W1 (by rw [hW1]; exact Kept.refl _)
  have g0 := c.at_ 0 _ rfl
  have g1 := c.at_ 1 _ rfl
  have g2 := c.at_ 2 _ rfl
  have g3 := c.at_ 3 _ rfl
  have g4 := c.at_ 4 _ rfl
  have HNW := lH (HN.out.kept (show Kept w1 W1 by rw [← hW1]; exact kept_alloc _ _))
  have HKW := lH (KW.out.trans (show Kept w1 W1 by rw [← hW1]; exact kept_alloc _ _))
  have y0 := HQW.out.at_ 0 _ rfl
  have y1 := HQW.out.at_ 1 _ rfl
  have y2 := HQW.out.at_ 2 _ rfl
  have y3 := HQW.out.at_ 3 _ rfl
  have y4 := HQW.out.at_ 4 _ rfl
  have x0 := HQW.out.free 0
  have x1 := HQW.out.free 1
  have x2 := HQW.out.free 2
  have x3 := HQW.out.free 3
  have x4 := HQW.out.free 4
  have P := lH (putN (vs := [.string z, .slice b1 n1 d1, .slice b2 n2 d2, .slice b3 n3 d3, .bool cd]) HQW.out rfl)
  clear HQW c
  go_wp2_with fail
  try rw [hW1]
  clear hW1
  go_wp2
  obtain ⟨WE, hWE⟩ : ∃ W, W1.setCells (w.heap.size + 1) 0 [.string z, .slice b1 n1 d1, .slice b2 n2 d2, .slice b3 n3 d3, .bool cd] = W := ⟨_, rfl⟩
  have hWE2 : (((((W1.setCell ⟨(w.heap.size + 1), 0, none⟩ (.string z)).setCell ⟨(w.heap.size + 1), 1, none⟩ (.slice b1 n1 d1)).setCell ⟨(w.heap.size + 1), 2, none⟩ (.slice b2 n2 d2)).setCell ⟨(w.heap.size + 1), 3, none⟩ (.slice b3 n3 d3)).setCell ⟨(w.heap.size + 1), 4, none⟩ (.bool cd)) = WE := hWE
  rw [hWE] at P
  try rw [hWE2]
  clear hWE hWE2
  obtain ⟨PC, hsz, hbl, hkp⟩ := P.out
  refine bodyPost_ret (by simp [results, Tryz.results90, go_sem, PC.at_ 0 _ rfl, PC.at_ 1 _ rfl, PC.at_ 2 _ rfl, PC.at_ 3 _ rfl, PC.at_ 4 _ rfl]; try rfl) rfl ?_
  exact ⟨(fun n h => by cases h; exact ⟨_, rfl, (HNW.out.far hsz (fun b hb => hbl b (by have := HZS.out; omega))).less (by have := HZS.out; omega)⟩), (fun h => by cases h), hkp _ _ (by omega) HKW.out⟩
set_option maxRecDepth 100000 in
set_option maxHeartbeats 3200000 in
theorem used_any (a a8 a9 b1 b2 b3 : Option Addr) (len cap m8 c8 m9 c9 n1 d1 n2 d2 n3 d3 : Nat) (q : ByteArray) (cd : Bool) (l : List Pd) (w : World) (hr : PodsAt w a len l) :
 Calls Tryz.prog 89 #[.agg #[.slice a8 m8 c8, .slice a len cap, .slice a9 m9 c9], .agg #[.string q, .slice b1 n1 d1, .slice b2 n2 d2, .slice b3 n3 d3, .bool cd]] w (VRes (useV q l []) w) := by
 have hl := hr.1
 have hm := hr.2.1
 unfold maxLen at hm
 obtain ⟨Z, hZ⟩ : ∃ Z, (w.alloc (.cells #[.slice a8 m8 c8, .slice a len cap, .slice a9 m9 c9] 26)).alloc (.cells #[.string q, .slice b1 n1 d1, .slice b2 n2 d2, .slice b3 n3 d3, .bool cd] 43) = Z := ⟨_, rfl⟩
 have hkz : Kept w Z := by rw [← hZ]; exact kept_two _ _ _
 have HQ := lH (show ∀ W, Kept Z W → W.cell? ⟨w.heap.size + 1, 0, none⟩ = some (.string q) from fun W k => by
  have := freshN (w.alloc (.cells #[.slice a8 m8 c8, .slice a len cap, .slice a9 m9 c9] 26)) (.string q) [.slice b1 n1 d1, .slice b2 n2 d2, .slice b3 n3 d3, .bool cd] 43 W (by rw [hZ]; exact k)
  rw [World.size_alloc] at this
  exact this.at_ 0 _ rfl)
 have hst : Z.cell? ⟨w.heap.size, 1, none⟩ = some (.slice a len cap) := (freshN w (.slice a8 m8 c8) [.slice a len cap, .slice a9 m9 c9] 26 Z (by rw [← hZ]; exact kept_alloc _ _)).at_ 1 _ rfl
 have HR := lH (hr.kept hkz)
 have HL := lH hl
 have HKZ := lH hkz
 by_cases h0 : len = 0
 · subst h0
   have HE := lH (show useV q l [] = (0, []) by rw [List.eq_nil_of_length_eq_zero hl]; rfl)
   clear hr hl hkz
   go_enter Tryz.func89, Tryz.ntmps89
   go_wp2
   try rw [hZ]
   refine wp_loop_rounds 1 ?_
   rw [rounds_succ]
   go_wp2
   go_ret
   exact VRes.good HE.out (Vec.OwnV.nil _ _ _) (by first | exact HKZ.out | (rw [hZ]; exact HKZ.out))
 · obtain ⟨b, off, rfl⟩ := hr.form.resolve_left h0
   clear hr hl hkz h0
   go_enter Tryz.func89, Tryz.ntmps89
   go_wp2
   try rw [hZ]
   clear hZ hst
   go_loopw [5, 11] (fun s i wr => ∃ k : Nat, k ≤ len ∧ i = .int .i64 k ∧ ∃ acc : Vec.V, Vec.OwnV 103 wr w.heap.size s acc ∧ useV q (l.drop k) acc = useV q l [] ∧ Kept Z wr) (fun _ i _ => len - (intOf i).toNat)
   case atStart => exact ⟨0, Nat.zero_le _, rfl, [], Vec.OwnV.nil _ _ _, rfl, Kept.refl _⟩
   case round =>
    obtain ⟨k, hk, rfl, acc, hv, hrest, hK⟩ := hrel
    have HS := lH hrest
    have HV := lH hv
    have HK := lH hK
    by_cases hlt : k < len
    · obtain ⟨n, a1, m1, c1, a2, m2, c2, a3, m3, c3, a4, m4, c4, hn, hd, hb, p0, p1, p2, p3, p4, p5, p6, p7, p8, p9, p10, hat⟩ := (HR.out.kept hK).at_ hlt
      have HD := lH hd
      have HAT := lH hat
      have q0 := HQ.out _ hK
      obtain ⟨t, ht⟩ : ∃ t, eqS n.node q = t := ⟨_, rfl⟩
      have ht' : (n.node.toList == q.toList) = t := ht
      have HT := lH ht
      have hkk : (k : Int) < (len : Int) := by omega
      have z0 := HQ.out _ (hK.trans (kept_alloc wr (.cells #[.string n.name, .string n.owner, .int .i64 n.prio, .slice a1 m1 c1, .slice a2 m2 c2, .slice a3 m3 c3, .slice a4 m4 c4, .string n.key, .int .i64 n.most, .string n.node, .bool n.hold] 49)))
      clear hrest hK hat hd hn ht hv
      cases t with
      | false =>
       have HX := lH (show useV q (l.drop (k + 1)) acc = useV q l [] by rw [← HS.out, HD.out, useV_skip HT.out])
       go_wp2
       go_roundw
       case rel => exact ⟨k + 1, by omega, by go_num, acc, HV.out.kept (kept_alloc _ _), HX.out, HK.out.trans (kept_alloc _ _)⟩
       case measure => simp [intOf]; omega
      | true =>
       obtain ⟨c, m, hcm⟩ : ∃ c m, Vec.mergedV Vec.addF acc n.need = (c, m) := ⟨_, _, rfl⟩
       have HCM := lH hcm
       have HBS := lH (show w.heap.size ≤ wr.heap.size from (HKZ.out.trans HK.out).size)
       have HADD := lH (fun W (kk : Kept wr W) => addD (HV.out.kept kk).reads (HAT.out.need.kept kk))
       rw [hcm] at HADD
       clear hcm
       by_cases hc : c = 0
       · subst hc
         have HX := lH (show useV q (l.drop (k + 1)) m = useV q l [] by rw [← HS.out, HD.out, useV_add HT.out HCM.out])
         go_wp2_with fail
         refine (HADD.out _ (kept_alloc _ _)).mono ?_
         rintro e w1 ⟨x, rfl, r, kk⟩
         have RX := lH (r.base_le (show w.heap.size ≤ _ by rw [World.size_alloc]; have := HBS.out; omega))
         have KW := lH (HK.out.trans ((kept_alloc _ _).trans kk))
         clear r kk
         go_wp2_with fail
         refine (soundV_ok _ _).mono ?_
         rintro e w2 ⟨rfl, rfl⟩
         go_wp2
         go_roundw
         case rel => exact ⟨k + 1, by omega, by go_num, m, RX.out, HX.out, KW.out⟩
         case measure => simp [intOf]; omega
       · have HX := lH (show useV q l [] = (c, []) by rw [← HS.out, HD.out, useV_bad HT.out HCM.out hc])
         have HC := lH hc
         clear hc
         go_wp2_with fail
         refine (HADD.out _ (kept_alloc _ _)).mono ?_
         rintro e w1 ⟨x, rfl, r, kk⟩
         have KW := lH (HK.out.trans ((kept_alloc _ _).trans kk))
         clear r kk
         go_wp2_with fail
         refine (soundV_bad _ _ _ HC.out).mono ?_
         rintro e w2 ⟨rfl, rfl⟩
         go_wp2
         exact ⟨rfl, VRes.bad HX.out HC.out (HKZ.out.trans KW.out)⟩
    · have HE := lH (show useV q l [] = (0, acc) by rw [← hrest, List.drop_of_length_le (by rw [HL.out]; omega)]; rfl)
      clear hrest hK hv
      go_wp2
      go_ret
      exact VRes.good HE.out HV.out (HKZ.out.trans HK.out)
set_option maxRecDepth 100000 in
set_option maxHeartbeats 3200000 in
theorem total_any (a a8 a9 : Option Addr) (len cap m8 c8 m9 c9 : Nat) (l : List Nod) (w : World) (hr : NodesAt w a len l) :
 Calls Tryz.prog 95 #[.agg #[.slice a len cap, .slice a8 m8 c8, .slice a9 m9 c9]] w (VRes (totV l []) w) := by
 have hl := hr.1
 have hm := hr.2.1
 unfold maxLen at hm
 obtain ⟨Z, hZ⟩ : ∃ Z, w.alloc (.cells #[.slice a len cap, .slice a8 m8 c8, .slice a9 m9 c9] 26) = Z := ⟨_, rfl⟩
 have hkz : Kept w Z := by rw [← hZ]; exact kept_alloc _ _
 have hst : Z.cell? ⟨w.heap.size, 0, none⟩ = some (.slice a len cap) := (freshN w (.slice a len cap) [.slice a8 m8 c8, .slice a9 m9 c9] 26 Z (by rw [hZ]; exact Kept.refl _)).at_ 0 _ rfl
 have HR := lH (hr.kept hkz)
 have HL := lH hl
 have HKZ := lH hkz
 by_cases h0 : len = 0
 · subst h0
   have HE := lH (show totV l [] = (0, []) by rw [List.eq_nil_of_length_eq_zero hl]; rfl)
   clear hr hl hkz
   go_enter Tryz.func95, Tryz.ntmps95
   go_wp2
   try rw [hZ]
   refine wp_loop_rounds 1 ?_
   rw [rounds_succ]
   go_wp2
   go_ret
   exact VRes.good HE.out (Vec.OwnV.nil _ _ _) (by first | exact HKZ.out | (rw [hZ]; exact HKZ.out))
 · obtain ⟨b, off, rfl⟩ := hr.form.resolve_left h0
   clear hr hl hkz h0
   go_enter Tryz.func95, Tryz.ntmps95
   go_wp2
   try rw [hZ]
   clear hZ hst
   go_loopw [3, 9] (fun s i wr => ∃ k : Nat, k ≤ len ∧ i = .int .i64 k ∧ ∃ acc : Vec.V, Vec.OwnV 103 wr w.heap.size s acc ∧ totV (l.drop k) acc = totV l [] ∧ Kept Z wr) (fun _ i _ => len - (intOf i).toNat)
   case atStart => exact ⟨0, Nat.zero_le _, rfl, [], Vec.OwnV.nil _ _ _, rfl, Kept.refl _⟩
   case round =>
    obtain ⟨k, hk, rfl, acc, hv, hrest, hK⟩ := hrel
    have HS := lH hrest
    have HV := lH hv
    have HK := lH hK
    by_cases hlt : k < len
    · obtain ⟨n, a1, m1, c1, a2, m2, c2, a3, m3, c3, hn, hd, hb, p0, p1, p2, p3, p4, hat⟩ := (HR.out.kept hK).at_ hlt
      have HD := lH hd
      have HAT := lH hat
      have hkk : (k : Int) < (len : Int) := by omega
      obtain ⟨c, m, hcm⟩ : ∃ c m, Vec.mergedV Vec.addF acc n.cap = (c, m) := ⟨_, _, rfl⟩
      have HCM := lH hcm
      have HBS := lH (show w.heap.size ≤ wr.heap.size from (HKZ.out.trans HK.out).size)
      have HADD := lH (fun W (kk : Kept wr W) => addD (HV.out.kept kk).reads (HAT.out.cap.kept kk))
      rw [hcm] at HADD
      clear hrest hK hat hd hn hv hcm
      by_cases hc : c = 0
      · subst hc
        have HX := lH (show totV (l.drop (k + 1)) m = totV l [] by rw [← HS.out, HD.out, totV_add HCM.out])
        go_wp2_with fail
        refine (HADD.out _ (kept_alloc _ _)).mono ?_
        rintro e w1 ⟨x, rfl, r, kk⟩
        have RX := lH (r.base_le (show w.heap.size ≤ _ by rw [World.size_alloc]; have := HBS.out; omega))
        have KW := lH (HK.out.trans ((kept_alloc _ _).trans kk))
        clear r kk
        go_wp2_with fail
        refine (soundV_ok _ _).mono ?_
        rintro e w2 ⟨rfl, rfl⟩
        go_wp2
        go_roundw
        case rel => exact ⟨k + 1, by omega, by go_num, m, RX.out, HX.out, KW.out⟩
        case measure => simp [intOf]; omega
      · have HX := lH (show totV l [] = (c, []) by rw [← HS.out, HD.out, totV_bad HCM.out hc])
        have HC := lH hc
        clear hc
        go_wp2_with fail
        refine (HADD.out _ (kept_alloc _ _)).mono ?_
        rintro e w1 ⟨x, rfl, r, kk⟩
        have KW := lH (HK.out.trans ((kept_alloc _ _).trans kk))
        clear r kk
        go_wp2_with fail
        refine (soundV_bad _ _ _ HC.out).mono ?_
        rintro e w2 ⟨rfl, rfl⟩
        go_wp2
        exact ⟨rfl, VRes.bad HX.out HC.out (HKZ.out.trans KW.out)⟩
    · have HE := lH (show totV l [] = (0, acc) by rw [← hrest, List.drop_of_length_le (by rw [HL.out]; omega)]; rfl)
      clear hrest hK hv
      go_wp2
      go_ret
      exact VRes.good HE.out HV.out (HKZ.out.trans HK.out)
open Go.RowKit
theorem subD {v v' : Value} {l l' : Vec.V} {w : World} (h : Vec.Reads w v l) (h' : Vec.Reads w v' l') : Calls Tryz.prog 93 #[v, v'] w (Vec.Done (Vec.mergedV Vec.subF l l') w) := by
 obtain ⟨a, cap, rfl, h1, h2, hr⟩ := h
 obtain ⟨a', cap', rfl, h1', h2', hr'⟩ := h'
 exact Vec.sub_any a a' _ cap _ cap' l l' w hr hr' h1 h2 h1' h2'
theorem nodeOf_none (a a8 a9 : Option Addr) (len cap m8 c8 m9 c9 : Nat) (l : List Nod) (x : ByteArray) (w : World) (hr : NodesAt w a len l) (hlow : ∀ n ∈ l, LowNod n) (hf : findN l x = none) :
 Calls Tryz.prog 90 #[.agg #[.slice a len cap, .slice a8 m8 c8, .slice a9 m9 c9], .string x] w fun e w' => e = .panicked [perr 3] ∧ Kept w w' := by
 refine (nodeOf_any a a8 a9 len cap m8 c8 m9 c9 l x w hr hlow).mono ?_
 rintro e w' ⟨-, h, k⟩
 exact ⟨h hf, k⟩
theorem nodeOf_some (a a8 a9 : Option Addr) (len cap m8 c8 m9 c9 : Nat) (l : List Nod) (x : ByteArray) (n : Nod) (w : World) (hr : NodesAt w a len l) (hlow : ∀ n ∈ l, LowNod n) (hf : findN l x = some n) :
 Calls Tryz.prog 90 #[.agg #[.slice a len cap, .slice a8 m8 c8, .slice a9 m9 c9], .string x] w fun e w' => ∃ b1 n1 d1 b2 n2 d2 b3 n3 d3, e = .returned (.agg #[.string n.name, .slice b1 n1 d1, .slice b2 n2 d2, .slice b3 n3 d3, .bool n.cordon]) ∧ NodAt w' (.slice b1 n1 d1) (.slice b2 n2 d2) (.slice b3 n3 d3) n ∧ Kept w w' := by
 refine (nodeOf_any a a8 a9 len cap m8 c8 m9 c9 l x w hr hlow).mono ?_
 rintro e w' ⟨h, -, k⟩
 obtain ⟨v, rfl, b1, n1, d1, b2, n2, d2, b3, n3, d3, rfl, s0, s1, s2, s3, -⟩ := h n hf
 exact ⟨b1, n1, d1, b2, n2, d2, b3, n3, d3, rfl, ⟨s0, s1, s2, s3⟩, k⟩
theorem VRes.ok {m : Vec.V} {w w' : World} {e : Ending} {r : Int × Vec.V} (h : VRes r w e w') (hr : r = (0, m)) : ∃ v, e = .returned v ∧ Vec.OwnV 103 w' w.heap.size v m ∧ Kept w w' := by
 subst hr
 obtain ⟨v, rfl, g⟩ := h.1 rfl
 exact ⟨v, rfl, g, h.2.2⟩
theorem VRes.not {m : Vec.V} {c : Int} {w w' : World} {e : Ending} {r : Int × Vec.V} (h : VRes r w e w') (hr : r = (c, m)) (hc : c ≠ 0) : e = .panicked [perr c] ∧ Kept w w' := by
 subst hr
 exact ⟨h.2.1 hc, h.2.2⟩
set_option maxHeartbeats 800000 in
theorem caught_used (C : Addr × Addr) (r : Int × Vec.V) (w : World) (hr : r.1 ≠ 0 → r.2 = [])
 (hk : ∀ W, Kept w W → Calls Tryz.prog 88 #[.pointer (some C.1), .pointer (some C.2)] W (VRes r W)) :
 Calls Tryz.prog 87 #[.func (.func 88) #[] #[.pointer (some C.1), .pointer (some C.2)]] w (Vec.Done r w) := by
 have hmf : ∀ (fn : Fn) (first cap : Array Value) (w : World), (Instr.makeFunc fn first cap).run Tryz.prog w = .ok (.func fn first cap) w := fun _ _ _ _ => rfl
 have HK := lH hk
 have HR := lH hr
 clear hk hr
 obtain ⟨r1, r2⟩ := r
 go_enter_defers Tryz.func87, Tryz.ntmps87
 go_wp2_with fail
 refine (HK.out _ (kept_alloc _ _)).mono ?_
 rintro e1 w1 ⟨h0, h1, hb⟩
 have k1 := hb.size
 simp only [World.size_alloc] at k1
 have c2 := (hb.cell (p := ⟨w.heap.size, 0, none⟩) (by simp))
 have z2 := (hb.frozen (p := ⟨w.heap.size, 0, none⟩) (by simp))
 have e2' : w1.cell? ⟨w.heap.size, 0, none⟩ = some (.int .i64 0) := by rw [c2]; go_simp
 have y2 : w1.frozen? ⟨w.heap.size, 0, none⟩ = false := by rw [z2]; go_simp
 clear c2 z2
 have KB := lH (show Below w.heap.size w w1 from (kept_alloc w _).trans hb)
 by_cases hx : r1 = 0
 · subst hx
   obtain ⟨v, rfl, ho⟩ := h0 rfl
   have HO := lH ho
   obtain ⟨av, cv, rfl, _, _, _⟩ := ho.at_
   have hsz := World.size_alloc w (.cells #[.int .i64 0] 53)
   clear h0 h1 hb ho
   go_wp2_with fail
   refine leaves_cons (f := 139) (args := #[.pointer (some ⟨w.heap.size, 0, none⟩)]) (by simp) (by simp [go_sem]) ?_
   refine (Vec.caught_idle ⟨w.heap.size, 0, none⟩ _).mono ?_
   rintro e u' w'' ⟨rfl, rfl, rfl⟩
   simp [Leaves, settle, results, Tryz.results87, go_sem, e2']
   exact ⟨_, rfl, (HO.out.setCell_below (a := ⟨w.heap.size, 0, none⟩) (by simp) _).base_le (by simp), KB.out.setCell (p := ⟨w.heap.size, 0, none⟩) (Nat.le_refl _) _⟩
 · obtain rfl := h1 hx
   obtain rfl := HR.out hx
   clear h0 h1 hb
   go_wp2_with fail
   refine leaves_cons (f := 139) (args := #[.pointer (some ⟨w.heap.size, 0, none⟩)]) (by simp) (by simp [go_sem]) ?_
   refine (Vec.caught_panicking w.heap.size w.heap.size r1 0 _ e2' y2 (by omega)).mono ?_
   rintro e u' w'' ⟨rfl, rfl, q2, q3⟩
   simp [Leaves, settle, results, Tryz.results87, go_sem, q2]
   exact ⟨_, rfl, Vec.OwnV.nil _ _ _, KB.out.trans q3⟩
set_option maxHeartbeats 800000 in
theorem caught_free (C : Addr × Addr) (r : Int × Vec.V) (w : World) (hr : r.1 ≠ 0 → r.2 = [])
 (hk : ∀ W, Kept w W → Calls Tryz.prog 91 #[.pointer (some C.1), .pointer (some C.2)] W (VRes r W)) :
 Calls Tryz.prog 87 #[.func (.func 91) #[] #[.pointer (some C.1), .pointer (some C.2)]] w (Vec.Done r w) := by
 have hmf : ∀ (fn : Fn) (first cap : Array Value) (w : World), (Instr.makeFunc fn first cap).run Tryz.prog w = .ok (.func fn first cap) w := fun _ _ _ _ => rfl
 have HK := lH hk
 have HR := lH hr
 clear hk hr
 obtain ⟨r1, r2⟩ := r
 go_enter_defers Tryz.func87, Tryz.ntmps87
 go_wp2_with fail
 refine (HK.out _ (kept_alloc _ _)).mono ?_
 rintro e1 w1 ⟨h0, h1, hb⟩
 have k1 := hb.size
 simp only [World.size_alloc] at k1
 have c2 := (hb.cell (p := ⟨w.heap.size, 0, none⟩) (by simp))
 have z2 := (hb.frozen (p := ⟨w.heap.size, 0, none⟩) (by simp))
 have e2' : w1.cell? ⟨w.heap.size, 0, none⟩ = some (.int .i64 0) := by rw [c2]; go_simp
 have y2 : w1.frozen? ⟨w.heap.size, 0, none⟩ = false := by rw [z2]; go_simp
 clear c2 z2
 have KB := lH (show Below w.heap.size w w1 from (kept_alloc w _).trans hb)
 by_cases hx : r1 = 0
 · subst hx
   obtain ⟨v, rfl, ho⟩ := h0 rfl
   have HO := lH ho
   obtain ⟨av, cv, rfl, _, _, _⟩ := ho.at_
   have hsz := World.size_alloc w (.cells #[.int .i64 0] 53)
   clear h0 h1 hb ho
   go_wp2_with fail
   refine leaves_cons (f := 139) (args := #[.pointer (some ⟨w.heap.size, 0, none⟩)]) (by simp) (by simp [go_sem]) ?_
   refine (Vec.caught_idle ⟨w.heap.size, 0, none⟩ _).mono ?_
   rintro e u' w'' ⟨rfl, rfl, rfl⟩
   simp [Leaves, settle, results, Tryz.results87, go_sem, e2']
   exact ⟨_, rfl, (HO.out.setCell_below (a := ⟨w.heap.size, 0, none⟩) (by simp) _).base_le (by simp), KB.out.setCell (p := ⟨w.heap.size, 0, none⟩) (Nat.le_refl _) _⟩
 · obtain rfl := h1 hx
   obtain rfl := HR.out hx
   clear h0 h1 hb
   go_wp2_with fail
   refine leaves_cons (f := 139) (args := #[.pointer (some ⟨w.heap.size, 0, none⟩)]) (by simp) (by simp [go_sem]) ?_
   refine (Vec.caught_panicking w.heap.size w.heap.size r1 0 _ e2' y2 (by omega)).mono ?_
   rintro e u' w'' ⟨rfl, rfl, q2, q3⟩
   simp [Leaves, settle, results, Tryz.results87, go_sem, q2]
   exact ⟨_, rfl, Vec.OwnV.nil _ _ _, KB.out.trans q3⟩
set_option maxHeartbeats 800000 in
theorem caught_total (C : Addr) (r : Int × Vec.V) (w : World) (hr : r.1 ≠ 0 → r.2 = [])
 (hk : ∀ W, Kept w W → Calls Tryz.prog 94 #[.pointer (some C)] W (VRes r W)) :
 Calls Tryz.prog 87 #[.func (.func 94) #[] #[.pointer (some C)]] w (Vec.Done r w) := by
 have hmf : ∀ (fn : Fn) (first cap : Array Value) (w : World), (Instr.makeFunc fn first cap).run Tryz.prog w = .ok (.func fn first cap) w := fun _ _ _ _ => rfl
 have HK := lH hk
 have HR := lH hr
 clear hk hr
 obtain ⟨r1, r2⟩ := r
 go_enter_defers Tryz.func87, Tryz.ntmps87
 go_wp2_with fail
 refine (HK.out _ (kept_alloc _ _)).mono ?_
 rintro e1 w1 ⟨h0, h1, hb⟩
 have k1 := hb.size
 simp only [World.size_alloc] at k1
 have c2 := (hb.cell (p := ⟨w.heap.size, 0, none⟩) (by simp))
 have z2 := (hb.frozen (p := ⟨w.heap.size, 0, none⟩) (by simp))
 have e2' : w1.cell? ⟨w.heap.size, 0, none⟩ = some (.int .i64 0) := by rw [c2]; go_simp
 have y2 : w1.frozen? ⟨w.heap.size, 0, none⟩ = false := by rw [z2]; go_simp
 clear c2 z2
 have KB := lH (show Below w.heap.size w w1 from (kept_alloc w _).trans hb)
 by_cases hx : r1 = 0
 · subst hx
   obtain ⟨v, rfl, ho⟩ := h0 rfl
   have HO := lH ho
   obtain ⟨av, cv, rfl, _, _, _⟩ := ho.at_
   have hsz := World.size_alloc w (.cells #[.int .i64 0] 53)
   clear h0 h1 hb ho
   go_wp2_with fail
   refine leaves_cons (f := 139) (args := #[.pointer (some ⟨w.heap.size, 0, none⟩)]) (by simp) (by simp [go_sem]) ?_
   refine (Vec.caught_idle ⟨w.heap.size, 0, none⟩ _).mono ?_
   rintro e u' w'' ⟨rfl, rfl, rfl⟩
   simp [Leaves, settle, results, Tryz.results87, go_sem, e2']
   exact ⟨_, rfl, (HO.out.setCell_below (a := ⟨w.heap.size, 0, none⟩) (by simp) _).base_le (by simp), KB.out.setCell (p := ⟨w.heap.size, 0, none⟩) (Nat.le_refl _) _⟩
 · obtain rfl := h1 hx
   obtain rfl := HR.out hx
   clear h0 h1 hb
   go_wp2_with fail
   refine leaves_cons (f := 139) (args := #[.pointer (some ⟨w.heap.size, 0, none⟩)]) (by simp) (by simp [go_sem]) ?_
   refine (Vec.caught_panicking w.heap.size w.heap.size r1 0 _ e2' y2 (by omega)).mono ?_
   rintro e u' w'' ⟨rfl, rfl, q2, q3⟩
   simp [Leaves, settle, results, Tryz.results87, go_sem, q2]
   exact ⟨_, rfl, Vec.OwnV.nil _ _ _, KB.out.trans q3⟩
def usedL (nl : List Nod) (pl : List Pd) (x : ByteArray) : Int × Vec.V := match findN nl x with | none => (3, []) | some n => useV n.name pl []
def freeL (nl : List Nod) (pl : List Pd) (x : ByteArray) : Int × Vec.V := match findN nl x with | none => (3, []) | some n => if (useV n.name pl []).1 = 0 then Vec.mergedV Vec.subF n.cap (useV n.name pl []).2 else ((useV n.name pl []).1, [])
theorem usedL_none {nl : List Nod} {pl : List Pd} {x : ByteArray} (h : findN nl x = none) : usedL nl pl x = (3, []) := by unfold usedL; rw [h]
theorem usedL_some {nl : List Nod} {pl : List Pd} {x : ByteArray} {n : Nod} (h : findN nl x = some n) : usedL nl pl x = useV n.name pl [] := by unfold usedL; rw [h]
theorem freeL_none {nl : List Nod} {pl : List Pd} {x : ByteArray} (h : findN nl x = none) : freeL nl pl x = (3, []) := by unfold freeL; rw [h]
theorem freeL_bad {nl : List Nod} {pl : List Pd} {x : ByteArray} {n : Nod} {c : Int} {m : Vec.V} (h : findN nl x = some n) (g : useV n.name pl [] = (c, m)) (hc : c ≠ 0) : freeL nl pl x = (c, []) := by unfold freeL; rw [h]; show (if (useV n.name pl []).1 = 0 then _ else ((useV n.name pl []).1, [])) = _; rw [g, if_neg hc]
theorem freeL_ok {nl : List Nod} {pl : List Pd} {x : ByteArray} {n : Nod} {m : Vec.V} (h : findN nl x = some n) (g : useV n.name pl [] = (0, m)) : freeL nl pl x = Vec.mergedV Vec.subF n.cap m := by unfold freeL; rw [h]; show (if (useV n.name pl []).1 = 0 then Vec.mergedV Vec.subF n.cap (useV n.name pl []).2 else _) = _; rw [g, if_pos rfl]
theorem usedL_zero {nl : List Nod} {pl : List Pd} {x : ByteArray} : (usedL nl pl x).1 ≠ 0 → (usedL nl pl x).2 = [] := by
 unfold usedL; split
 · exact fun _ => rfl
 · exact useV_none
theorem freeL_zero {nl : List Nod} {pl : List Pd} {x : ByteArray} : (freeL nl pl x).1 ≠ 0 → (freeL nl pl x).2 = [] := by
 unfold freeL; split
 · exact fun _ => rfl
 · split
   · exact Vec.merged_sub_none _ _
   · exact fun _ => rfl
set_option maxRecDepth 100000 in
set_option maxHeartbeats 1600000 in
theorem usedCl_any (a b d : Option Addr) (len cap m c n e : Nat) (nl : List Nod) (pl : List Pd) (p q : Nat) (x : ByteArray) (w : World) (h0 : w.cell? ⟨p, 0, none⟩ = some (.slice a len cap)) (h1 : w.cell? ⟨p, 1, none⟩ = some (.slice b m c)) (h2 : w.cell? ⟨p, 2, none⟩ = some (.slice d n e)) (hq : w.cell? ⟨q, 0, none⟩ = some (.string x)) (hn : NodesAt w a len nl) (hp : PodsAt w b m pl) (hlow : ∀ n ∈ nl, LowNod n) :
 Calls Tryz.prog 88 #[.pointer (some ⟨p, 0, none⟩), .pointer (some ⟨q, 0, none⟩)] w (VRes (usedL nl pl x) w) := by
 have HS := lH (show ∀ W, Kept w W → W.cell? ⟨p, 0, none⟩ = some (.slice a len cap) ∧ W.cell? ⟨p, 1, none⟩ = some (.slice b m c) ∧ W.cell? ⟨p, 2, none⟩ = some (.slice d n e) ∧ W.cell? ⟨q, 0, none⟩ = some (.string x) from fun W k => ⟨cell_later k h0, cell_later k h1, cell_later k h2, cell_later k hq⟩)
 have HN := lH hn
 have HP := lH hp
 have HLOW := lH hlow
 clear h0 h1 h2 hq hn hp hlow
 cases hf : findN nl x with
 | none =>
  have HE := lH (usedL_none (pl := pl) hf)
  have HF := lH hf
  clear hf
  go_enter Tryz.func88, Tryz.ntmps88
  go_wp2
  refine wp_region_held_drew (S := fun W => W.cell? ⟨p, 0, none⟩ = some (.slice a len cap) ∧ W.cell? ⟨p, 1, none⟩ = some (.slice b m c) ∧ W.cell? ⟨p, 2, none⟩ = some (.slice d n e) ∧ W.cell? ⟨q, 0, none⟩ = some (.string x)) (by kernel_rfl) (HS.out _ (Kept.drew _)) (fun hHeld => ?_)
  refine tkH 0 (v := ?_) (y := Or.inl ⟨by rfl, (by rintro W ⟨o0, o1, o2, o3⟩; go_simp <;> with_reducible rfl)⟩) (h := ?_)
  try simp only [nP]
  refine tkH 1 (v := ?_) (y := Or.inl ⟨by rfl, (by rintro W ⟨o0, o1, o2, o3⟩; go_simp <;> with_reducible rfl)⟩) (h := ?_)
  try simp only [nP]
  refine tkH 2 (v := ?_) (y := Or.inl ⟨by rfl, (by rintro W ⟨o0, o1, o2, o3⟩; go_simp <;> with_reducible rfl)⟩) (h := ?_)
  try simp only [nP]
  refine rdH (rs := [3]) (h := coH (fun K9 hK9 => ?_) AllReadyH.nil)
  go_simp
  refine (nodeOf_none a b d len cap m c n e nl x _ (HN.out.kept (Kept.drew _)) HLOW.out HF.out).mono ?_
  rintro e1 w1 ⟨rfl, kk⟩
  exact ⟨rfl, VRes.bad HE.out (by decide) ((Kept.drew _).trans kk)⟩
 | some n9 =>
  obtain ⟨c9, m9, hu⟩ : ∃ c m, useV n9.name pl [] = (c, m) := ⟨_, _, rfl⟩
  have HU := lH hu
  have HF := lH hf
  clear hf hu
  by_cases hc : c9 = 0
  · subst hc
    have HE := lH ((usedL_some (pl := pl) HF.out).trans HU.out)
    go_enter Tryz.func88, Tryz.ntmps88
    go_wp2
    refine wp_region_held_drew (S := fun W => W.cell? ⟨p, 0, none⟩ = some (.slice a len cap) ∧ W.cell? ⟨p, 1, none⟩ = some (.slice b m c) ∧ W.cell? ⟨p, 2, none⟩ = some (.slice d n e) ∧ W.cell? ⟨q, 0, none⟩ = some (.string x)) (by kernel_rfl) (HS.out _ (Kept.drew _)) (fun hHeld => ?_)
    refine tkH 0 (v := ?_) (y := Or.inl ⟨by rfl, (by rintro W ⟨o0, o1, o2, o3⟩; go_simp <;> with_reducible rfl)⟩) (h := ?_)
    try simp only [nP]
    refine tkH 1 (v := ?_) (y := Or.inl ⟨by rfl, (by rintro W ⟨o0, o1, o2, o3⟩; go_simp <;> with_reducible rfl)⟩) (h := ?_)
    try simp only [nP]
    refine tkH 2 (v := ?_) (y := Or.inl ⟨by rfl, (by rintro W ⟨o0, o1, o2, o3⟩; go_simp <;> with_reducible rfl)⟩) (h := ?_)
    try simp only [nP]
    refine rdH (rs := [3]) (h := coH (fun K9 hK9 => ?_) AllReadyH.nil)
    go_simp
    refine (nodeOf_some a b d len cap m c n e nl x n9 _ (HN.out.kept (Kept.drew _)) HLOW.out HF.out).mono ?_
    rintro e1 w1 ⟨b1, n1, d1, b2, n2, d2, b3, n3, d3, rfl, hat, kk⟩
    have J1 := lH ((Kept.drew _).trans kk)
    clear kk hat
    refine hK9.out _ _ (HS.out _ J1.out) (fun hHeld1 => ?_)
    clear hK9 K9
    try simp only [nP]
    refine rdH (rs := [4]) (h := coH (fun K9 hK9 => ?_) AllReadyH.nil)
    go_simp
    refine ((used_any b a d b1 b2 b3 m c len cap n e n1 d1 n2 d2 n3 d3 n9.name n9.cordon pl _ (HP.out.kept J1.out)).mono fun _ _ h => h.ok HU.out).mono ?_
    rintro e2 w2 ⟨v, rfl, ho, kk⟩
    have J2 := lH (J1.out.trans kk)
    have HO := lH (ho.base_le J1.out.size)
    clear kk ho
    refine hK9.out _ _ (HS.out _ J2.out) (fun hHeld2 => ?_)
    clear hK9 K9
    try simp only [nP]
    refine tkH 5 (v := ?_) (y := Or.inl ⟨by rfl, (by rintro W ⟨o0, o1, o2, o3⟩; go_simp <;> with_reducible rfl)⟩) (h := ?_)
    try simp only [nP]
    refine wpAnyH_done (by kernel_rfl) ?_ _
    go_wp2
    go_ret
    exact VRes.good HE.out HO.out J2.out
  · have HE := lH (show usedL nl pl x = (c9, m9) from (usedL_some (pl := pl) HF.out).trans HU.out)
    have HC := lH hc
    clear hc
    go_enter Tryz.func88, Tryz.ntmps88
    go_wp2
    refine wp_region_held_drew (S := fun W => W.cell? ⟨p, 0, none⟩ = some (.slice a len cap) ∧ W.cell? ⟨p, 1, none⟩ = some (.slice b m c) ∧ W.cell? ⟨p, 2, none⟩ = some (.slice d n e) ∧ W.cell? ⟨q, 0, none⟩ = some (.string x)) (by kernel_rfl) (HS.out _ (Kept.drew _)) (fun hHeld => ?_)
    refine tkH 0 (v := ?_) (y := Or.inl ⟨by rfl, (by rintro W ⟨o0, o1, o2, o3⟩; go_simp <;> with_reducible rfl)⟩) (h := ?_)
    try simp only [nP]
    refine tkH 1 (v := ?_) (y := Or.inl ⟨by rfl, (by rintro W ⟨o0, o1, o2, o3⟩; go_simp <;> with_reducible rfl)⟩) (h := ?_)
    try simp only [nP]
    refine tkH 2 (v := ?_) (y := Or.inl ⟨by rfl, (by rintro W ⟨o0, o1, o2, o3⟩; go_simp <;> with_reducible rfl)⟩) (h := ?_)
    try simp only [nP]
    refine rdH (rs := [3]) (h := coH (fun K9 hK9 => ?_) AllReadyH.nil)
    go_simp
    refine (nodeOf_some a b d len cap m c n e nl x n9 _ (HN.out.kept (Kept.drew _)) HLOW.out HF.out).mono ?_
    rintro e1 w1 ⟨b1, n1, d1, b2, n2, d2, b3, n3, d3, rfl, hat, kk⟩
    have J1 := lH ((Kept.drew _).trans kk)
    clear kk hat
    refine hK9.out _ _ (HS.out _ J1.out) (fun hHeld1 => ?_)
    clear hK9 K9
    try simp only [nP]
    refine rdH (rs := [4]) (h := coH (fun K9 hK9 => ?_) AllReadyH.nil)
    go_simp
    refine ((used_any b a d b1 b2 b3 m c len cap n e n1 d1 n2 d2 n3 d3 n9.name n9.cordon pl _ (HP.out.kept J1.out)).mono fun _ _ h => h.not HU.out HC.out).mono ?_
    rintro e2 w2 ⟨rfl, kk⟩
    exact ⟨rfl, VRes.bad HE.out HC.out (J1.out.trans kk)⟩
set_option maxRecDepth 100000 in
set_option maxHeartbeats 1600000 in
theorem freeCl_any (a b d : Option Addr) (len cap m c n e : Nat) (nl : List Nod) (pl : List Pd) (p q : Nat) (x : ByteArray) (w : World) (h0 : w.cell? ⟨p, 0, none⟩ = some (.slice a len cap)) (h1 : w.cell? ⟨p, 1, none⟩ = some (.slice b m c)) (h2 : w.cell? ⟨p, 2, none⟩ = some (.slice d n e)) (hq : w.cell? ⟨q, 0, none⟩ = some (.string x)) (hn : NodesAt w a len nl) (hp : PodsAt w b m pl) (hlow : ∀ n ∈ nl, LowNod n) :
 Calls Tryz.prog 91 #[.pointer (some ⟨p, 0, none⟩), .pointer (some ⟨q, 0, none⟩)] w (VRes (freeL nl pl x) w) := by
 have HS := lH (show ∀ W, Kept w W → W.cell? ⟨p, 0, none⟩ = some (.slice a len cap) ∧ W.cell? ⟨p, 1, none⟩ = some (.slice b m c) ∧ W.cell? ⟨p, 2, none⟩ = some (.slice d n e) from fun W k => ⟨cell_later k h0, cell_later k h1, cell_later k h2⟩)
 have HN := lH hn
 have HP := lH hp
 have HLOW := lH hlow
 clear hn hp hlow
 cases hf : findN nl x with
 | none =>
  have HE := lH (freeL_none (pl := pl) hf)
  have HF := lH hf
  clear hf
  go_enter Tryz.func91, Tryz.ntmps91
  go_wp2_with fail
  refine (nodeOf_none a b d len cap m c n e nl x _ HN.out HLOW.out HF.out).mono ?_
  rintro e1 w1 ⟨rfl, kk⟩
  go_wp2
  exact ⟨rfl, VRes.bad HE.out (by decide) kk⟩
 | some n9 =>
  obtain ⟨c9, m9, hu⟩ : ∃ c m, useV n9.name pl [] = (c, m) := ⟨_, _, rfl⟩
  have HU := lH hu
  have HF := lH hf
  clear hf hu
  by_cases hc : c9 = 0
  · subst hc
    obtain ⟨c8, m8, hs⟩ : ∃ c m, Vec.mergedV Vec.subF n9.cap m9 = (c, m) := ⟨_, _, rfl⟩
    have HM := lH hs
    have HE := lH (show freeL nl pl x = (c8, m8) from (freeL_ok HF.out HU.out).trans hs)
    clear hs
    by_cases hc : c8 = 0
    · subst hc
      go_enter Tryz.func91, Tryz.ntmps91
      go_wp2_with fail
      refine (nodeOf_some a b d len cap m c n e nl x n9 _ HN.out HLOW.out HF.out).mono ?_
      rintro e1 w1 ⟨b1, n1, d1, b2, n2, d2, b3, n3, d3, rfl, hat, kk⟩
      have HA := lH hat
      obtain ⟨z0, hz0⟩ : ∃ z, n9.name = z := ⟨_, rfl⟩
      obtain ⟨z4, hz4⟩ : ∃ z, n9.cordon = z := ⟨_, rfl⟩
      rw [hz0, hz4]
      rw [hz0] at HU
      obtain ⟨W1, hW1⟩ : ∃ W, w1.alloc (.cells #[.string z0, .slice b1 n1 d1, .slice b2 n2 d2, .slice b3 n3 d3, .bool z4] 43) = W := ⟨_, rfl⟩
      have hk1 : Kept w1 W1 := by rw [← hW1]; exact kept_alloc _ _
      have HB := lH (fun W (k : Kept W1 W) => freshN w1 (.string z0) [.slice b1 n1 d1, .slice b2 n2 d2, .slice b3 n3 d3, .bool z4] 43 W (by rw [hW1]; exact k))
      have J0 := lH (kk.trans hk1)
      have HAW := lH (fun W (k : Kept W1 W) => HA.out.kept (hk1.trans k))
      clear kk hat hk1 h0 h1 h2
      go_wp2_with fail
      try rw [hW1]
      clear hW1
      have HT := lH (show ∀ W, Kept W1 W → W.cell? ⟨p, 0, none⟩ = some (.slice a len cap) ∧ W.cell? ⟨p, 1, none⟩ = some (.slice b m c) ∧ W.cell? ⟨p, 2, none⟩ = some (.slice d n e) ∧ W.cell? ⟨w1.heap.size, 0, none⟩ = some (.string z0) ∧ W.cell? ⟨w1.heap.size, 1, none⟩ = some (.slice b1 n1 d1) ∧ W.cell? ⟨w1.heap.size, 2, none⟩ = some (.slice b2 n2 d2) ∧ W.cell? ⟨w1.heap.size, 3, none⟩ = some (.slice b3 n3 d3) ∧ W.cell? ⟨w1.heap.size, 4, none⟩ = some (.bool z4) from fun W k => by
       obtain ⟨o0, o1, o2⟩ := HS.out W (J0.out.trans k)
       have c := HB.out W k
       exact ⟨o0, o1, o2, c.at_ 0 _ rfl, c.at_ 1 _ rfl, c.at_ 2 _ rfl, c.at_ 3 _ rfl, c.at_ 4 _ rfl⟩)
      refine wp_region_held_drew (S := fun W => W.cell? ⟨p, 0, none⟩ = some (.slice a len cap) ∧ W.cell? ⟨p, 1, none⟩ = some (.slice b m c) ∧ W.cell? ⟨p, 2, none⟩ = some (.slice d n e) ∧ W.cell? ⟨w1.heap.size, 0, none⟩ = some (.string z0) ∧ W.cell? ⟨w1.heap.size, 1, none⟩ = some (.slice b1 n1 d1) ∧ W.cell? ⟨w1.heap.size, 2, none⟩ = some (.slice b2 n2 d2) ∧ W.cell? ⟨w1.heap.size, 3, none⟩ = some (.slice b3 n3 d3) ∧ W.cell? ⟨w1.heap.size, 4, none⟩ = some (.bool z4)) (by kernel_rfl) (HT.out _ (Kept.drew _)) (fun hHeld => ?_)
      refine tkH 0 (v := ?_) (y := Or.inl ⟨by rfl, (by rintro W ⟨o0, o1, o2, o3, o4, o5, o6, o7⟩; go_simp <;> with_reducible rfl)⟩) (h := ?_)
      try simp only [nP]
      refine tkH 1 (v := ?_) (y := Or.inl ⟨by rfl, (by rintro W ⟨o0, o1, o2, o3, o4, o5, o6, o7⟩; go_simp <;> with_reducible rfl)⟩) (h := ?_)
      try simp only [nP]
      refine tkH 2 (v := ?_) (y := Or.inl ⟨by rfl, (by rintro W ⟨o0, o1, o2, o3, o4, o5, o6, o7⟩; go_simp <;> with_reducible rfl)⟩) (h := ?_)
      try simp only [nP]
      refine tkH 3 (v := ?_) (y := Or.inl ⟨by rfl, (by rintro W ⟨o0, o1, o2, o3, o4, o5, o6, o7⟩; go_simp <;> with_reducible rfl)⟩) (h := ?_)
      try simp only [nP]
      refine rdH (rs := [4]) (h := coH (fun K9 hK9 => ?_) AllReadyH.nil)
      go_simp
      refine ((used_any b a d b1 b2 b3 m c len cap n e n1 d1 n2 d2 n3 d3 z0 z4 pl _ (HP.out.kept (J0.out.trans (Kept.drew _)))).mono fun _ _ h => h.ok HU.out).mono ?_
      rintro e2 w2 ⟨v, rfl, ho, kk⟩
      have J2 := lH ((Kept.drew _).trans kk)
      have HO := lH ho
      clear kk ho
      refine hK9.out _ _ (HT.out _ J2.out) (fun hHeld1 => ?_)
      clear hK9 K9
      try simp only [nP]
      refine rdH (rs := [5]) (h := coH (fun K9 hK9 => ?_) AllReadyH.nil)
      go_simp
      have HSB := subD (HAW.out _ J2.out).cap HO.out.reads
      rw [HM.out] at HSB
      refine HSB.mono ?_
      rintro e3 w3 ⟨x3, rfl, ho3, kk⟩
      have J3 := lH (J2.out.trans kk)
      have HO3 := lH (ho3.base_le (show w.heap.size ≤ _ from (J0.out.trans J2.out).size))
      clear kk ho3
      refine hK9.out _ _ (HT.out _ J3.out) (fun hHeld2 => ?_)
      clear hK9 K9
      try simp only [nP]
      refine tkH 6 (v := ?_) (y := Or.inl ⟨by rfl, (by rintro W ⟨o0, o1, o2, o3, o4, o5, o6, o7⟩; go_simp <;> with_reducible rfl)⟩) (h := ?_)
      try simp only [nP]
      refine tkH 7 (v := ?_) (y := Or.inl ⟨by rfl, (by rintro W ⟨o0, o1, o2, o3, o4, o5, o6, o7⟩; go_simp <;> with_reducible rfl)⟩) (h := ?_)
      try simp only [nP]
      refine rdH (rs := [8]) (h := coH (fun K9 hK9 => ?_) AllReadyH.nil)
      go_simp
      refine (soundV_ok _ _).mono ?_
      rintro e4 w4 ⟨rfl, rfl⟩
      refine hK9.out _ _ (HT.out _ J3.out) (fun hHeld3 => ?_)
      clear hK9 K9
      try simp only [nP]
      refine tkH 9 (v := ?_) (y := Or.inl ⟨by rfl, (by rintro W ⟨o0, o1, o2, o3, o4, o5, o6, o7⟩; go_simp <;> with_reducible rfl)⟩) (h := ?_)
      try simp only [nP]
      refine wpAnyH_done (by kernel_rfl) ?_ _
      go_wp2
      go_ret
      exact VRes.good HE.out HO3.out (J0.out.trans J3.out)
    · have HC := lH hc
      clear hc
      go_enter Tryz.func91, Tryz.ntmps91
      go_wp2_with fail
      refine (nodeOf_some a b d len cap m c n e nl x n9 _ HN.out HLOW.out HF.out).mono ?_
      rintro e1 w1 ⟨b1, n1, d1, b2, n2, d2, b3, n3, d3, rfl, hat, kk⟩
      have HA := lH hat
      obtain ⟨z0, hz0⟩ : ∃ z, n9.name = z := ⟨_, rfl⟩
      obtain ⟨z4, hz4⟩ : ∃ z, n9.cordon = z := ⟨_, rfl⟩
      rw [hz0, hz4]
      rw [hz0] at HU
      obtain ⟨W1, hW1⟩ : ∃ W, w1.alloc (.cells #[.string z0, .slice b1 n1 d1, .slice b2 n2 d2, .slice b3 n3 d3, .bool z4] 43) = W := ⟨_, rfl⟩
      have hk1 : Kept w1 W1 := by rw [← hW1]; exact kept_alloc _ _
      have HB := lH (fun W (k : Kept W1 W) => freshN w1 (.string z0) [.slice b1 n1 d1, .slice b2 n2 d2, .slice b3 n3 d3, .bool z4] 43 W (by rw [hW1]; exact k))
      have J0 := lH (kk.trans hk1)
      have HAW := lH (fun W (k : Kept W1 W) => HA.out.kept (hk1.trans k))
      clear kk hat hk1 h0 h1 h2
      go_wp2_with fail
      try rw [hW1]
      clear hW1
      have HT := lH (show ∀ W, Kept W1 W → W.cell? ⟨p, 0, none⟩ = some (.slice a len cap) ∧ W.cell? ⟨p, 1, none⟩ = some (.slice b m c) ∧ W.cell? ⟨p, 2, none⟩ = some (.slice d n e) ∧ W.cell? ⟨w1.heap.size, 0, none⟩ = some (.string z0) ∧ W.cell? ⟨w1.heap.size, 1, none⟩ = some (.slice b1 n1 d1) ∧ W.cell? ⟨w1.heap.size, 2, none⟩ = some (.slice b2 n2 d2) ∧ W.cell? ⟨w1.heap.size, 3, none⟩ = some (.slice b3 n3 d3) ∧ W.cell? ⟨w1.heap.size, 4, none⟩ = some (.bool z4) from fun W k => by
       obtain ⟨o0, o1, o2⟩ := HS.out W (J0.out.trans k)
       have c := HB.out W k
       exact ⟨o0, o1, o2, c.at_ 0 _ rfl, c.at_ 1 _ rfl, c.at_ 2 _ rfl, c.at_ 3 _ rfl, c.at_ 4 _ rfl⟩)
      refine wp_region_held_drew (S := fun W => W.cell? ⟨p, 0, none⟩ = some (.slice a len cap) ∧ W.cell? ⟨p, 1, none⟩ = some (.slice b m c) ∧ W.cell? ⟨p, 2, none⟩ = some (.slice d n e) ∧ W.cell? ⟨w1.heap.size, 0, none⟩ = some (.string z0) ∧ W.cell? ⟨w1.heap.size, 1, none⟩ = some (.slice b1 n1 d1) ∧ W.cell? ⟨w1.heap.size, 2, none⟩ = some (.slice b2 n2 d2) ∧ W.cell? ⟨w1.heap.size, 3, none⟩ = some (.slice b3 n3 d3) ∧ W.cell? ⟨w1.heap.size, 4, none⟩ = some (.bool z4)) (by kernel_rfl) (HT.out _ (Kept.drew _)) (fun hHeld => ?_)
      refine tkH 0 (v := ?_) (y := Or.inl ⟨by rfl, (by rintro W ⟨o0, o1, o2, o3, o4, o5, o6, o7⟩; go_simp <;> with_reducible rfl)⟩) (h := ?_)
      try simp only [nP]
      refine tkH 1 (v := ?_) (y := Or.inl ⟨by rfl, (by rintro W ⟨o0, o1, o2, o3, o4, o5, o6, o7⟩; go_simp <;> with_reducible rfl)⟩) (h := ?_)
      try simp only [nP]
      refine tkH 2 (v := ?_) (y := Or.inl ⟨by rfl, (by rintro W ⟨o0, o1, o2, o3, o4, o5, o6, o7⟩; go_simp <;> with_reducible rfl)⟩) (h := ?_)
      try simp only [nP]
      refine tkH 3 (v := ?_) (y := Or.inl ⟨by rfl, (by rintro W ⟨o0, o1, o2, o3, o4, o5, o6, o7⟩; go_simp <;> with_reducible rfl)⟩) (h := ?_)
      try simp only [nP]
      refine rdH (rs := [4]) (h := coH (fun K9 hK9 => ?_) AllReadyH.nil)
      go_simp
      refine ((used_any b a d b1 b2 b3 m c len cap n e n1 d1 n2 d2 n3 d3 z0 z4 pl _ (HP.out.kept (J0.out.trans (Kept.drew _)))).mono fun _ _ h => h.ok HU.out).mono ?_
      rintro e2 w2 ⟨v, rfl, ho, kk⟩
      have J2 := lH ((Kept.drew _).trans kk)
      have HO := lH ho
      clear kk ho
      refine hK9.out _ _ (HT.out _ J2.out) (fun hHeld1 => ?_)
      clear hK9 K9
      try simp only [nP]
      refine rdH (rs := [5]) (h := coH (fun K9 hK9 => ?_) AllReadyH.nil)
      go_simp
      have HSB := subD (HAW.out _ J2.out).cap HO.out.reads
      rw [HM.out] at HSB
      refine HSB.mono ?_
      rintro e3 w3 ⟨x3, rfl, ho3, kk⟩
      have J3 := lH (J2.out.trans kk)
      have HO3 := lH (ho3.base_le (show w.heap.size ≤ _ from (J0.out.trans J2.out).size))
      clear kk ho3
      refine hK9.out _ _ (HT.out _ J3.out) (fun hHeld2 => ?_)
      clear hK9 K9
      try simp only [nP]
      refine tkH 6 (v := ?_) (y := Or.inl ⟨by rfl, (by rintro W ⟨o0, o1, o2, o3, o4, o5, o6, o7⟩; go_simp <;> with_reducible rfl)⟩) (h := ?_)
      try simp only [nP]
      refine tkH 7 (v := ?_) (y := Or.inl ⟨by rfl, (by rintro W ⟨o0, o1, o2, o3, o4, o5, o6, o7⟩; go_simp <;> with_reducible rfl)⟩) (h := ?_)
      try simp only [nP]
      refine rdH (rs := [8]) (h := coH (fun K9 hK9 => ?_) AllReadyH.nil)
      go_simp
      refine (soundV_bad _ _ _ HC.out).mono ?_
      rintro e4 w4 ⟨rfl, rfl⟩
      exact ⟨rfl, VRes.bad HE.out HC.out (J0.out.trans J3.out)⟩
  · have HE := lH (freeL_bad (pl := pl) HF.out HU.out hc)
    have HC := lH hc
    clear hc
    go_enter Tryz.func91, Tryz.ntmps91
    go_wp2_with fail
    refine (nodeOf_some a b d len cap m c n e nl x n9 _ HN.out HLOW.out HF.out).mono ?_
    rintro e1 w1 ⟨b1, n1, d1, b2, n2, d2, b3, n3, d3, rfl, hat, kk⟩
    have HA := lH hat
    obtain ⟨z0, hz0⟩ : ∃ z, n9.name = z := ⟨_, rfl⟩
    obtain ⟨z4, hz4⟩ : ∃ z, n9.cordon = z := ⟨_, rfl⟩
    rw [hz0, hz4]
    rw [hz0] at HU
    obtain ⟨W1, hW1⟩ : ∃ W, w1.alloc (.cells #[.string z0, .slice b1 n1 d1, .slice b2 n2 d2, .slice b3 n3 d3, .bool z4] 43) = W := ⟨_, rfl⟩
    have hk1 : Kept w1 W1 := by rw [← hW1]; exact kept_alloc _ _
    have HB := lH (fun W (k : Kept W1 W) => freshN w1 (.string z0) [.slice b1 n1 d1, .slice b2 n2 d2, .slice b3 n3 d3, .bool z4] 43 W (by rw [hW1]; exact k))
    have J0 := lH (kk.trans hk1)
    have HAW := lH (fun W (k : Kept W1 W) => HA.out.kept (hk1.trans k))
    clear kk hat hk1 h0 h1 h2
    go_wp2_with fail
    try rw [hW1]
    clear hW1
    have HT := lH (show ∀ W, Kept W1 W → W.cell? ⟨p, 0, none⟩ = some (.slice a len cap) ∧ W.cell? ⟨p, 1, none⟩ = some (.slice b m c) ∧ W.cell? ⟨p, 2, none⟩ = some (.slice d n e) ∧ W.cell? ⟨w1.heap.size, 0, none⟩ = some (.string z0) ∧ W.cell? ⟨w1.heap.size, 1, none⟩ = some (.slice b1 n1 d1) ∧ W.cell? ⟨w1.heap.size, 2, none⟩ = some (.slice b2 n2 d2) ∧ W.cell? ⟨w1.heap.size, 3, none⟩ = some (.slice b3 n3 d3) ∧ W.cell? ⟨w1.heap.size, 4, none⟩ = some (.bool z4) from fun W k => by
     obtain ⟨o0, o1, o2⟩ := HS.out W (J0.out.trans k)
     have c := HB.out W k
     exact ⟨o0, o1, o2, c.at_ 0 _ rfl, c.at_ 1 _ rfl, c.at_ 2 _ rfl, c.at_ 3 _ rfl, c.at_ 4 _ rfl⟩)
    refine wp_region_held_drew (S := fun W => W.cell? ⟨p, 0, none⟩ = some (.slice a len cap) ∧ W.cell? ⟨p, 1, none⟩ = some (.slice b m c) ∧ W.cell? ⟨p, 2, none⟩ = some (.slice d n e) ∧ W.cell? ⟨w1.heap.size, 0, none⟩ = some (.string z0) ∧ W.cell? ⟨w1.heap.size, 1, none⟩ = some (.slice b1 n1 d1) ∧ W.cell? ⟨w1.heap.size, 2, none⟩ = some (.slice b2 n2 d2) ∧ W.cell? ⟨w1.heap.size, 3, none⟩ = some (.slice b3 n3 d3) ∧ W.cell? ⟨w1.heap.size, 4, none⟩ = some (.bool z4)) (by kernel_rfl) (HT.out _ (Kept.drew _)) (fun hHeld => ?_)
    refine tkH 0 (v := ?_) (y := Or.inl ⟨by rfl, (by rintro W ⟨o0, o1, o2, o3, o4, o5, o6, o7⟩; go_simp <;> with_reducible rfl)⟩) (h := ?_)
    try simp only [nP]
    refine tkH 1 (v := ?_) (y := Or.inl ⟨by rfl, (by rintro W ⟨o0, o1, o2, o3, o4, o5, o6, o7⟩; go_simp <;> with_reducible rfl)⟩) (h := ?_)
    try simp only [nP]
    refine tkH 2 (v := ?_) (y := Or.inl ⟨by rfl, (by rintro W ⟨o0, o1, o2, o3, o4, o5, o6, o7⟩; go_simp <;> with_reducible rfl)⟩) (h := ?_)
    try simp only [nP]
    refine tkH 3 (v := ?_) (y := Or.inl ⟨by rfl, (by rintro W ⟨o0, o1, o2, o3, o4, o5, o6, o7⟩; go_simp <;> with_reducible rfl)⟩) (h := ?_)
    try simp only [nP]
    refine rdH (rs := [4]) (h := coH (fun K9 hK9 => ?_) AllReadyH.nil)
    go_simp
    refine ((used_any b a d b1 b2 b3 m c len cap n e n1 d1 n2 d2 n3 d3 z0 z4 pl _ (HP.out.kept (J0.out.trans (Kept.drew _)))).mono fun _ _ h => h.not HU.out HC.out).mono ?_
    rintro e2 w2 ⟨rfl, kk⟩
    exact ⟨rfl, VRes.bad HE.out HC.out (J0.out.trans ((Kept.drew _).trans kk))⟩
theorem totalCl_any (a b d : Option Addr) (len cap m c n e : Nat) (nl : List Nod) (pl : List Pd) (p : Nat) (w : World) (h0 : w.cell? ⟨p, 0, none⟩ = some (.slice a len cap)) (h1 : w.cell? ⟨p, 1, none⟩ = some (.slice b m c)) (h2 : w.cell? ⟨p, 2, none⟩ = some (.slice d n e)) (hn : NodesAt w a len nl) :
 Calls Tryz.prog 94 #[.pointer (some ⟨p, 0, none⟩)] w (VRes (totV nl []) w) := by
 have HT := lH (total_any a b d len cap m c n e nl w hn)
 obtain ⟨c9, m9, hu⟩ : ∃ c m, totV nl [] = (c, m) := ⟨_, _, rfl⟩
 have HU := lH hu
 clear hn hu
 by_cases hc : c9 = 0
 · subst hc
   go_enter Tryz.func94, Tryz.ntmps94
   go_wp2_with fail
   refine (HT.out.mono fun _ _ h => h.ok HU.out).mono ?_
   rintro e1 w1 ⟨v, rfl, ho, kk⟩
   have HO := lH ho
   have HK := lH kk
   clear ho kk h0 h1 h2
   go_wp2
   go_ret
   exact VRes.good HU.out HO.out HK.out
 · have HC := lH hc
   clear hc
   go_enter Tryz.func94, Tryz.ntmps94
   go_wp2_with fail
   refine (HT.out.mono fun _ _ h => h.not HU.out HC.out).mono ?_
   rintro e1 w1 ⟨rfl, kk⟩
   go_wp2
   exact ⟨rfl, VRes.bad HU.out HC.out kk⟩
set_option maxHeartbeats 800000 in
theorem usedF_any (a b d : Option Addr) (len cap m c n e : Nat) (nl : List Nod) (pl : List Pd) (x : ByteArray) (w : World) (hn : NodesAt w a len nl) (hp : PodsAt w b m pl) (hlow : ∀ n ∈ nl, LowNod n) :
 Calls Tryz.prog 29 #[.agg #[.slice a len cap, .slice b m c, .slice d n e], .string x] w (Vec.Done (usedL nl pl x) w) := by
 have hmf : ∀ (fn : Fn) (first cap : Array Value) (w : World), (Instr.makeFunc fn first cap).run Tryz.prog w = .ok (.func fn first cap) w := fun _ _ _ _ => rfl
 obtain ⟨Z, hZ⟩ : ∃ Z, (w.alloc (.cells #[.slice a len cap, .slice b m c, .slice d n e] 26)).alloc (.cells #[.string x] 9) = Z := ⟨_, rfl⟩
 have hkz : Kept w Z := by rw [← hZ]; exact kept_two _ _ _
 have hC : ∀ W, Kept Z W → Calls Tryz.prog 88 #[.pointer (some ⟨w.heap.size, 0, none⟩), .pointer (some ⟨w.heap.size + 1, 0, none⟩)] W (VRes (usedL nl pl x) W) := by
  intro W k
  have cc := freshN w (.slice a len cap) [.slice b m c, .slice d n e] 26 W (by have := (kept_alloc (w.alloc (.cells #[.slice a len cap, .slice b m c, .slice d n e] 26)) (.cells #[.string x] 9)); rw [hZ] at this; exact this.trans k)
  have dd := freshN (w.alloc (.cells #[.slice a len cap, .slice b m c, .slice d n e] 26)) (.string x) [] 9 W (by rw [hZ]; exact k)
  rw [World.size_alloc] at dd
  exact usedCl_any a b d len cap m c n e nl pl w.heap.size (w.heap.size + 1) x W (cc.at_ 0 _ rfl) (cc.at_ 1 _ rfl) (cc.at_ 2 _ rfl) (dd.at_ 0 _ rfl) (hn.kept (hkz.trans k)) (hp.kept (hkz.trans k)) hlow
 have HC := lH hC
 have HKZ := lH hkz
 clear hC hn hkz hp hlow
 go_enter Tryz.func29, Tryz.ntmps29
 go_wp2_with fail
 try rw [hZ]
 refine (caught_used (⟨w.heap.size, 0, none⟩, ⟨w.heap.size + 1, 0, none⟩) (usedL nl pl x) _ usedL_zero HC.out).mono ?_
 rintro e1 w1 ⟨v, rfl, ho, k⟩
 have HO := lH ho
 have HK := lH k
 clear ho k
 go_wp2
 go_ret2
 exact ⟨v, rfl, HO.out.base_le HKZ.out.size, HKZ.out.trans HK.out⟩
set_option maxHeartbeats 800000 in
theorem freeF_any (a b d : Option Addr) (len cap m c n e : Nat) (nl : List Nod) (pl : List Pd) (x : ByteArray) (w : World) (hn : NodesAt w a len nl) (hp : PodsAt w b m pl) (hlow : ∀ n ∈ nl, LowNod n) :
 Calls Tryz.prog 30 #[.agg #[.slice a len cap, .slice b m c, .slice d n e], .string x] w (Vec.Done (freeL nl pl x) w) := by
 have hmf : ∀ (fn : Fn) (first cap : Array Value) (w : World), (Instr.makeFunc fn first cap).run Tryz.prog w = .ok (.func fn first cap) w := fun _ _ _ _ => rfl
 obtain ⟨Z, hZ⟩ : ∃ Z, (w.alloc (.cells #[.slice a len cap, .slice b m c, .slice d n e] 26)).alloc (.cells #[.string x] 9) = Z := ⟨_, rfl⟩
 have hkz : Kept w Z := by rw [← hZ]; exact kept_two _ _ _
 have hC : ∀ W, Kept Z W → Calls Tryz.prog 91 #[.pointer (some ⟨w.heap.size, 0, none⟩), .pointer (some ⟨w.heap.size + 1, 0, none⟩)] W (VRes (freeL nl pl x) W) := by
  intro W k
  have cc := freshN w (.slice a len cap) [.slice b m c, .slice d n e] 26 W (by have := (kept_alloc (w.alloc (.cells #[.slice a len cap, .slice b m c, .slice d n e] 26)) (.cells #[.string x] 9)); rw [hZ] at this; exact this.trans k)
  have dd := freshN (w.alloc (.cells #[.slice a len cap, .slice b m c, .slice d n e] 26)) (.string x) [] 9 W (by rw [hZ]; exact k)
  rw [World.size_alloc] at dd
  exact freeCl_any a b d len cap m c n e nl pl w.heap.size (w.heap.size + 1) x W (cc.at_ 0 _ rfl) (cc.at_ 1 _ rfl) (cc.at_ 2 _ rfl) (dd.at_ 0 _ rfl) (hn.kept (hkz.trans k)) (hp.kept (hkz.trans k)) hlow
 have HC := lH hC
 have HKZ := lH hkz
 clear hC hn hkz hp hlow
 go_enter Tryz.func30, Tryz.ntmps30
 go_wp2_with fail
 try rw [hZ]
 refine (caught_free (⟨w.heap.size, 0, none⟩, ⟨w.heap.size + 1, 0, none⟩) (freeL nl pl x) _ freeL_zero HC.out).mono ?_
 rintro e1 w1 ⟨v, rfl, ho, k⟩
 have HO := lH ho
 have HK := lH k
 clear ho k
 go_wp2
 go_ret2
 exact ⟨v, rfl, HO.out.base_le HKZ.out.size, HKZ.out.trans HK.out⟩
set_option maxHeartbeats 800000 in
theorem totalF_any (a b d : Option Addr) (len cap m c n e : Nat) (nl : List Nod) (pl : List Pd) (w : World) (hn : NodesAt w a len nl) :
 Calls Tryz.prog 31 #[.agg #[.slice a len cap, .slice b m c, .slice d n e]] w (Vec.Done (totV nl []) w) := by
 have hmf : ∀ (fn : Fn) (first cap : Array Value) (w : World), (Instr.makeFunc fn first cap).run Tryz.prog w = .ok (.func fn first cap) w := fun _ _ _ _ => rfl
 obtain ⟨Z, hZ⟩ : ∃ Z, (w.alloc (.cells #[.slice a len cap, .slice b m c, .slice d n e] 26)) = Z := ⟨_, rfl⟩
 have hkz : Kept w Z := by rw [← hZ]; exact kept_alloc _ _
 have hC : ∀ W, Kept Z W → Calls Tryz.prog 94 #[.pointer (some ⟨w.heap.size, 0, none⟩)] W (VRes (totV nl []) W) := by
  intro W k
  have cc := freshN w (.slice a len cap) [.slice b m c, .slice d n e] 26 W (by rw [hZ]; exact k)
  exact totalCl_any a b d len cap m c n e nl pl w.heap.size W (cc.at_ 0 _ rfl) (cc.at_ 1 _ rfl) (cc.at_ 2 _ rfl) (hn.kept (hkz.trans k))
 have HC := lH hC
 have HKZ := lH hkz
 clear hC hn hkz
 go_enter Tryz.func31, Tryz.ntmps31
 go_wp2_with fail
 try rw [hZ]
 refine (caught_total ⟨w.heap.size, 0, none⟩ (totV nl []) _ totV_none HC.out).mono ?_
 rintro e1 w1 ⟨v, rfl, ho, k⟩
 have HO := lH ho
 have HK := lH k
 clear ho k
 go_wp2
 go_ret2
 exact ⟨v, rfl, HO.out.base_le HKZ.out.size, HKZ.out.trans HK.out⟩
open Go.RowKit
def ChkRes (c : Int) (v : Value) (w : World) (e : Ending) (w' : World) : Prop := (c = 0 → e = .returned v) ∧ (c ≠ 0 → e = .panicked [perr c]) ∧ Kept w w'
theorem ChkRes.good {x c : Int} {v : Value} {w w' : World} (h : x = c) (hc : c = 0) (k : Kept w w') : ChkRes x v w (.returned v) w' := by
 subst h; exact ⟨fun _ => rfl, fun h => absurd hc h, k⟩
theorem ChkRes.bad {x c : Int} {v : Value} {w w' : World} (h : x = c) (hc : c ≠ 0) (k : Kept w w') : ChkRes x v w (.panicked [perr c]) w' := by
 subst h; exact ⟨fun h => absurd h hc, fun _ => rfl, k⟩
theorem st_or {nl : List Nod} {pl : List Pd} {bl : List Bd} {c : Int} (h : or3 (chkAllN nl) (chkAllP pl) (chkAllBd bl) = c) (hc : c ≠ 0) : chkSt ⟨nl, pl, bl⟩ = c := by
 unfold chkSt; dsimp only; rw [h, if_pos hc]
theorem st_places {nl : List Nod} {pl : List Pd} {bl : List Bd} {c : Int} (h : or3 (chkAllN nl) (chkAllP pl) (chkAllBd bl) = 0) (g : chkPlaces nl pl = c) (hc : c ≠ 0) : chkSt ⟨nl, pl, bl⟩ = c := by
 unfold chkSt; dsimp only; rw [h, if_neg (by simp), g, if_pos hc]
theorem st_rooms {nl : List Nod} {pl : List Pd} {bl : List Bd} {c : Int} (h : or3 (chkAllN nl) (chkAllP pl) (chkAllBd bl) = 0) (g : chkPlaces nl pl = 0) (r : chkRooms pl nl = c) (hc : c ≠ 0) : chkSt ⟨nl, pl, bl⟩ = c := by
 unfold chkSt; dsimp only; rw [h, if_neg (by simp), g, if_neg (by simp), r, if_pos hc]
theorem st_total {nl : List Nod} {pl : List Pd} {bl : List Bd} (h : or3 (chkAllN nl) (chkAllP pl) (chkAllBd bl) = 0) (g : chkPlaces nl pl = 0) (r : chkRooms pl nl = 0) : chkSt ⟨nl, pl, bl⟩ = (totV nl []).1 := by
 unfold chkSt; dsimp only; rw [h, if_neg (by simp), g, if_neg (by simp), r, if_neg (by simp)]
set_option maxRecDepth 100000 in
set_option maxHeartbeats 6400000 in
theorem checkedSt_any (a b d : Option Addr) (len cap m c n e : Nat) (nl : List Nod) (pl : List Pd) (bl : List Bd) (w : World) (hn : NodesAt w a len nl) (hp : PodsAt w b m pl) (hb : BudsAt w d n bl) (hlow : ∀ n ∈ nl, LowNod n) :
 Calls Tryz.prog 52 #[.agg #[.slice a len cap, .slice b m c, .slice d n e]] w (ChkRes (chkSt ⟨nl, pl, bl⟩) (.agg #[.slice a len cap, .slice b m c, .slice d n e]) w) := by
 have hlN := hn.1
 have hlP := hp.1
 have hmN := hn.2.1
 have hmP := hp.2.1
 unfold maxLen at hmN hmP
 obtain ⟨Z, hZ⟩ : ∃ Z, (w.alloc (.cells #[.slice a len cap, .slice b m c, .slice d n e] 26)).alloc (.cells #[.slice none 0 0, .slice none 0 0, .slice none 0 0] 26) = Z := ⟨_, rfl⟩
 have hkz : Kept w Z := by rw [← hZ]; exact kept_two _ _ _
 have HS := lH (show ∀ W, Kept Z W → W.cell? ⟨w.heap.size, 0, none⟩ = some (.slice a len cap) ∧ W.cell? ⟨w.heap.size, 1, none⟩ = some (.slice b m c) ∧ W.cell? ⟨w.heap.size, 2, none⟩ = some (.slice d n e) from fun W k => by
  have cc := freshN w (.slice a len cap) [.slice b m c, .slice d n e] 26 W (by have := kept_alloc (w.alloc (.cells #[.slice a len cap, .slice b m c, .slice d n e] 26)) (.cells #[.slice none 0 0, .slice none 0 0, .slice none 0 0] 26); rw [hZ] at this; exact this.trans k)
  exact ⟨cc.at_ 0 _ rfl, cc.at_ 1 _ rfl, cc.at_ 2 _ rfl⟩)
 have HQ := lH (show ∀ W, Kept Z W → CellsN (w.heap.size + 1) [.slice none 0 0, .slice none 0 0, .slice none 0 0] W from fun W k => by
  have dd := freshN (w.alloc (.cells #[.slice a len cap, .slice b m c, .slice d n e] 26)) (.slice none 0 0) [.slice none 0 0, .slice none 0 0] 26 W (by rw [hZ]; exact k)
  rw [World.size_alloc] at dd
  exact dd)
 have HN := lH (hn.kept hkz)
 have HP := lH (hp.kept hkz)
 have HB := lH (hb.kept hkz)
 have HLOW := lH hlow
 have HLN := lH hlN
 have HLP := lH hlP
 have HKZ := lH hkz
 obtain ⟨x1, hx1⟩ : ∃ x, chkAllN nl = x := ⟨_, rfl⟩
 obtain ⟨x2, hx2⟩ : ∃ x, chkAllP pl = x := ⟨_, rfl⟩
 obtain ⟨x3, hx3⟩ : ∃ x, chkAllBd bl = x := ⟨_, rfl⟩
 obtain ⟨x0, hx0⟩ : ∃ x, or3 x1 x2 x3 = x := ⟨_, rfl⟩
 have HX0 := lH hx0
 have HOR := lH (show or3 (chkAllN nl) (chkAllP pl) (chkAllBd bl) = x0 by rw [hx1, hx2, hx3, hx0])
 have H1 := lH (fun W (k : Kept Z W) => checkAll_any a len cap nl W (HN.out.kept k))
 have H2 := lH (fun W (k : Kept Z W) => checkAllP_any b m c pl W (HP.out.kept k))
 have H3 := lH (fun W (k : Kept Z W) => checkAllB_any d n e bl W (HB.out.kept k))
 rw [hx1] at H1
 rw [hx2] at H2
 rw [hx3] at H3
 clear hn hp hb hlow hlN hlP hkz hx1 hx2 hx3 hx0
 by_cases hc : x0 = 0
 · subst hc
   go_enter Tryz.func52, Tryz.ntmps52
   go_wp2
   try rw [hZ]
   clear hZ
   refine wp_region_held_drew (S := fun W => W.cell? ⟨w.heap.size, 0, none⟩ = some (.slice a len cap) ∧ W.cell? ⟨w.heap.size, 1, none⟩ = some (.slice b m c) ∧ W.cell? ⟨w.heap.size, 2, none⟩ = some (.slice d n e)) (by kernel_rfl) (HS.out _ (Kept.drew _)) (fun hHeld => ?_)
   refine tkH 0 (v := ?_) (y := Or.inl ⟨by rfl, (by rintro W ⟨o0, o1, o2⟩; go_simp <;> with_reducible rfl)⟩) (h := ?_)
   try simp only [nP]
   refine tkH 1 (v := ?_) (y := Or.inl ⟨by rfl, (by rintro W ⟨o0, o1, o2⟩; go_simp <;> with_reducible rfl)⟩) (h := ?_)
   try simp only [nP]
   refine tkH 3 (v := ?_) (y := Or.inl ⟨by rfl, (by rintro W ⟨o0, o1, o2⟩; go_simp <;> with_reducible rfl)⟩) (h := ?_)
   try simp only [nP]
   refine tkH 4 (v := ?_) (y := Or.inl ⟨by rfl, (by rintro W ⟨o0, o1, o2⟩; go_simp <;> with_reducible rfl)⟩) (h := ?_)
   try simp only [nP]
   refine tkH 6 (v := ?_) (y := Or.inl ⟨by rfl, (by rintro W ⟨o0, o1, o2⟩; go_simp <;> with_reducible rfl)⟩) (h := ?_)
   try simp only [nP]
   refine tkH 7 (v := ?_) (y := Or.inl ⟨by rfl, (by rintro W ⟨o0, o1, o2⟩; go_simp <;> with_reducible rfl)⟩) (h := ?_)
   try simp only [nP]
   refine rdH (rs := [2]) (h := coH (fun K9 hK9 => ?_) AllReadyH.nil)
   go_simp
   refine (H1.out _ (Kept.drew _)).mono ?_
   rintro e1 w1 ⟨rfl, kk⟩
   have J1 := lH ((Kept.drew _).trans kk)
   clear kk
   refine hK9.out _ _ (HS.out _ J1.out) (fun hHeld1 => ?_)
   clear hK9 K9
   try simp only [nP]
   refine rdH (rs := [5]) (h := coH (fun K9 hK9 => ?_) AllReadyH.nil)
   go_simp
   refine (H2.out _ J1.out).mono ?_
   rintro e2 w2 ⟨rfl, kk⟩
   have J2 := lH ((J1.out).trans kk)
   clear kk
   refine hK9.out _ _ (HS.out _ J2.out) (fun hHeld2 => ?_)
   clear hK9 K9
   try simp only [nP]
   refine rdH (rs := [8]) (h := coH (fun K9 hK9 => ?_) AllReadyH.nil)
   go_simp
   refine (H3.out _ J2.out).mono ?_
   rintro e3 w3 ⟨rfl, kk⟩
   have J3 := lH ((J2.out).trans kk)
   clear kk
   refine hK9.out _ _ (HS.out _ J3.out) (fun hHeld3 => ?_)
   clear hK9 K9
   try simp only [nP]
   refine rdH (rs := [9]) (h := coH (fun K9 hK9 => ?_) AllReadyH.nil)
   go_simp
   have J4 := lH (J3.out.trans (kept_alloc w3 (.cells #[.int .i64 x1, .int .i64 x2, .int .i64 x3] 53)))
   refine hK9.out _ _ (HS.out _ J4.out) (fun hHeld9 => ?_)
   clear hK9 K9
   try simp only [nP]
   refine rdH (rs := [10]) (h := coH (fun K9 hK9 => ?_) AllReadyH.nil)
   go_simp
   refine (or3_any _ x1 x2 x3 _ (by go_simp) (by go_simp) (by go_simp)).mono ?_
   rintro e4 w4 ⟨rfl, rfl⟩
   rw [HX0.out]
   refine hK9.out _ _ (HS.out _ J4.out) (fun hHeld4 => ?_)
   clear hK9 K9
   try simp only [nP]
   refine rdH (rs := [11]) (h := coH (fun K9 hK9 => ?_) AllReadyH.nil)
   go_simp
   refine (refuse_ok _).mono ?_
   rintro e5 w5 ⟨rfl, rfl⟩
   refine hK9.out _ _ (HS.out _ J4.out) (fun hHeld5 => ?_)
   clear hK9 K9
   try simp only [nP]
   refine wpAnyH_done (by kernel_rfl) ?_ _
   obtain ⟨W0, hW0⟩ : ∃ W, w3.alloc (.cells #[.int .i64 x1, .int .i64 x2, .int .i64 x3] 53) = W := ⟨_, rfl⟩
   rw [hW0] at J4 ⊢
   obtain ⟨o0, o1, o2⟩ := HS.out _ J4.out
   clear hW0
   go_wp2
   clear o0 o1 o2
   go_loopw [22] (fun i wr => ∃ k : Nat, k ≤ m ∧ i = .int .i64 k ∧ chkPlaces nl (pl.drop k) = chkPlaces nl pl ∧ Kept Z wr) (fun i _ => m - (intOf i).toNat)
   case atStart => exact ⟨0, Nat.zero_le _, rfl, rfl, J4.out⟩
   case round =>
    obtain ⟨k, hk, rfl, hrest, hK⟩ := hrel
    have HT := lH hrest
    have HK := lH hK
    by_cases hlt : k < m
    · obtain ⟨b0, off, rfl⟩ := HP.out.form.resolve_left (by omega)
      obtain ⟨p, a1, m1, c1, a2, m2, c2, a3, m3, c3, a4, m4, c4, hn, hd, hb, y0, y1, y2, y3, y4, y5, y6, y7, y8, y9, y10, hat⟩ := (HP.out.kept hK).at_ hlt
      have HD := lH hd
      obtain ⟨t, ht⟩ : ∃ t, (p.node.toList == ([] : List UInt8)) = t := ⟨_, rfl⟩
      have HNO := lH (show isNo p.node = t by rw [no_iff]; exact ht)
      have hkk : (k : Int) < (m : Int) := by omega
      have KA := lH (hK.trans (kept_alloc wr (.cells #[.string p.name, .string p.owner, .int .i64 p.prio, .slice a1 m1 c1, .slice a2 m2 c2, .slice a3 m3 c3, .slice a4 m4 c4, .string p.key, .int .i64 p.most, .string p.node, .bool p.hold] 49)))
      obtain ⟨o0, o1, o2⟩ := HS.out _ KA.out
      clear hrest hK hat hd hn
      cases t with
      | true =>
       have HX := lH (show chkPlaces nl (pl.drop (k + 1)) = chkPlaces nl pl by rw [← HT.out, HD.out, places_none HNO.out])
       go_wp2
       go_roundw
       case rel => exact ⟨k + 1, by omega, by go_num, HX.out, KA.out⟩
       case measure => simp [intOf]; omega
      | false =>
       cases hf : findN nl p.node with
       | none =>
        have HX := lH (show chkPlaces nl pl = 3 by rw [← HT.out, HD.out, places_bad HNO.out (by rw [hf]; rfl)])
        have HF := lH hf
        clear hf
        go_wp2_with fail
        refine (nodeOf_none a _ d len cap m c n e nl p.node _ (HN.out.kept KA.out) HLOW.out HF.out).mono ?_
        rintro e1 v1 ⟨rfl, kk⟩
        go_wp2
        exact ⟨rfl, ChkRes.bad (st_places HOR.out HX.out (by decide)) (by decide) (HKZ.out.trans (KA.out.trans kk))⟩
       | some n9 =>
        have HX := lH (show chkPlaces nl (pl.drop (k + 1)) = chkPlaces nl pl by rw [← HT.out, HD.out, places_some (by rw [hf]; rfl)])
        have HF := lH hf
        clear hf
        go_wp2_with fail
        refine (nodeOf_some a _ d len cap m c n e nl p.node n9 _ (HN.out.kept KA.out) HLOW.out HF.out).mono ?_
        rintro e1 v1 ⟨b1, n1, d1, b2, n2, d2, b3, n3, d3, rfl, -, kk⟩
        have KB := lH (KA.out.trans kk)
        clear kk o0 o1 o2
        go_wp2
        go_roundw
        case rel => exact ⟨k + 1, by omega, by go_num, HX.out, KB.out⟩
        case measure => simp [intOf]; omega
    · have HPL := lH (show chkPlaces nl pl = 0 by rw [← hrest, List.drop_of_length_le (by rw [HLP.out]; omega)]; rfl)
      obtain ⟨o0, o1, o2⟩ := HS.out _ hK
      clear hrest hK
      go_wp2
      clear o0 o1 o2
      go_loopw [37] (fun i wr => ∃ k : Nat, k ≤ len ∧ i = .int .i64 k ∧ chkRooms pl (nl.drop k) = chkRooms pl nl ∧ Kept Z wr) (fun i _ => len - (intOf i).toNat)
      case atStart => exact ⟨0, Nat.zero_le _, rfl, rfl, HK.out⟩
      case round =>
       obtain ⟨k, hk, rfl, hrest, hK⟩ := hrel
       have HT := lH hrest
       have HK := lH hK
       by_cases hlt : k < len
       · obtain ⟨b0, off, rfl⟩ := HN.out.form.resolve_left (by omega)
         obtain ⟨p, a1, m1, c1, a2, m2, c2, a3, m3, c3, hn, hd, hb, y0, y1, y2, y3, y4, hat⟩ := (HN.out.kept hK).at_ hlt
         have HD := lH hd
         have HA := lH hat
         have hkk : (k : Int) < (len : Int) := by omega
         obtain ⟨c9, m9, hu⟩ : ∃ c m, useV p.name pl [] = (c, m) := ⟨_, _, rfl⟩
         have HU := lH hu
         obtain ⟨z0, hz0⟩ : ∃ z, p.name = z := ⟨_, rfl⟩
         obtain ⟨z4, hz4⟩ : ∃ z, p.cordon = z := ⟨_, rfl⟩
         have HZ0 := lH hz0
         rw [hz0] at y0
         rw [hz4] at y4
         have HT2 := lH (show ∀ W, Kept (wr.alloc (.cells #[.string z0, .slice a1 m1 c1, .slice a2 m2 c2, .slice a3 m3 c3, .bool z4] 43)) W → W.cell? ⟨w.heap.size, 0, none⟩ = some (.slice (some ⟨b0, off, none⟩) len cap) ∧ W.cell? ⟨w.heap.size, 1, none⟩ = some (.slice b m c) ∧ W.cell? ⟨w.heap.size, 2, none⟩ = some (.slice d n e) ∧ W.cell? ⟨wr.heap.size, 0, none⟩ = some (.string z0) ∧ W.cell? ⟨wr.heap.size, 1, none⟩ = some (.slice a1 m1 c1) ∧ W.cell? ⟨wr.heap.size, 2, none⟩ = some (.slice a2 m2 c2) ∧ W.cell? ⟨wr.heap.size, 3, none⟩ = some (.slice a3 m3 c3) ∧ W.cell? ⟨wr.heap.size, 4, none⟩ = some (.bool z4) from fun W k => by
          obtain ⟨o0, o1, o2⟩ := HS.out W (hK.trans ((kept_alloc _ _).trans k))
          have cc := freshN wr (.string z0) [.slice a1 m1 c1, .slice a2 m2 c2, .slice a3 m3 c3, .bool z4] 43 W k
          exact ⟨o0, o1, o2, cc.at_ 0 _ rfl, cc.at_ 1 _ rfl, cc.at_ 2 _ rfl, cc.at_ 3 _ rfl, cc.at_ 4 _ rfl⟩)
         have HUS := lH (fun W (k : Kept wr W) => used_any b (some ⟨b0, off, none⟩) d a1 a2 a3 m c len cap n e m1 c1 m2 c2 m3 c3 z0 z4 pl W (HP.out.kept (HK.out.trans k)))
         clear hrest hK hat hd hn hu
         by_cases hc : c9 = 0
         · subst hc
           obtain ⟨t, ht⟩ : ∃ t, Vec.fitsFrom p.cap m9 = t := ⟨_, rfl⟩
           have HFT := lH ht
           clear ht
           cases t with
           | true =>
            have HX := lH (show chkRooms pl (nl.drop (k + 1)) = chkRooms pl nl by rw [← HT.out, HD.out, rooms_next HU.out HFT.out])
            obtain ⟨o0, o1, o2, -⟩ := HT2.out _ (Kept.refl _)
            go_wp2
            clear o0 o1 o2
            refine wp_region_held_drew (S := fun W => W.cell? ⟨w.heap.size, 0, none⟩ = some (.slice (some ⟨b0, off, none⟩) len cap) ∧ W.cell? ⟨w.heap.size, 1, none⟩ = some (.slice b m c) ∧ W.cell? ⟨w.heap.size, 2, none⟩ = some (.slice d n e) ∧ W.cell? ⟨wr.heap.size, 0, none⟩ = some (.string z0) ∧ W.cell? ⟨wr.heap.size, 1, none⟩ = some (.slice a1 m1 c1) ∧ W.cell? ⟨wr.heap.size, 2, none⟩ = some (.slice a2 m2 c2) ∧ W.cell? ⟨wr.heap.size, 3, none⟩ = some (.slice a3 m3 c3) ∧ W.cell? ⟨wr.heap.size, 4, none⟩ = some (.bool z4)) (by kernel_rfl) (HT2.out _ (Kept.drew _)) (fun hHeld => ?_)
            refine tkH 0 (v := ?_) (y := Or.inl ⟨by rfl, (by rintro W ⟨o0, o1, o2, o3, o4, o5, o6, o7⟩; go_simp <;> with_reducible rfl)⟩) (h := ?_)
            try simp only [nP]
            refine tkH 1 (v := ?_) (y := Or.inl ⟨by rfl, (by rintro W ⟨o0, o1, o2, o3, o4, o5, o6, o7⟩; go_simp <;> with_reducible rfl)⟩) (h := ?_)
            try simp only [nP]
            refine tkH 3 (v := ?_) (y := Or.inl ⟨by rfl, (by rintro W ⟨o0, o1, o2, o3, o4, o5, o6, o7⟩; go_simp <;> with_reducible rfl)⟩) (h := ?_)
            try simp only [nP]
            refine tkH 4 (v := ?_) (y := Or.inl ⟨by rfl, (by rintro W ⟨o0, o1, o2, o3, o4, o5, o6, o7⟩; go_simp <;> with_reducible rfl)⟩) (h := ?_)
            try simp only [nP]
            refine rdH (rs := [2]) (h := coH (fun K9 hK9 => ?_) AllReadyH.nil)
            go_simp
            refine (((HUS.out _ ((kept_alloc wr (.cells #[.string z0, .slice a1 m1 c1, .slice a2 m2 c2, .slice a3 m3 c3, .bool z4] 43)).trans (Kept.drew _))).mono fun _ _ h => h.ok (by rw [← HZ0.out]; exact HU.out))).mono ?_
            rintro e1 v1 ⟨v, rfl, ho, kk⟩
            have J1 := lH ((Kept.drew _).trans kk)
            have HO := lH ho
            clear kk ho
            refine hK9.out _ _ (HT2.out _ J1.out) (fun hHeld1 => ?_)
            clear hK9 K9
            try simp only [nP]
            refine rdH (rs := [5]) (h := coH (fun K9 hK9 => ?_) AllReadyH.nil)
            go_simp
            refine (Vec.fitsR HO.out.reads (HA.out.kept ((kept_alloc wr (.cells #[.string z0, .slice a1 m1 c1, .slice a2 m2 c2, .slice a3 m3 c3, .bool z4] 43)).trans J1.out)).cap HFT.out).mono ?_
            rintro e2 v2 ⟨rfl, kk⟩
            have J2 := lH (J1.out.trans kk)
            clear kk
            refine hK9.out _ _ (HT2.out _ J2.out) (fun hHeld2 => ?_)
            clear hK9 K9
            try simp only [nP]
            refine tkH 6 (v := ?_) (y := Or.inl ⟨by rfl, (by rintro W ⟨o0, o1, o2, o3, o4, o5, o6, o7⟩; go_simp <;> with_reducible rfl)⟩) (h := ?_)
            try simp only [nP]
            refine wpAnyH_done (by kernel_rfl) ?_ _
            have KB := lH (HK.out.trans ((kept_alloc wr (.cells #[.string z0, .slice a1 m1 c1, .slice a2 m2 c2, .slice a3 m3 c3, .bool z4] 43)).trans J2.out))
            go_wp2
            go_roundw
            case rel => exact ⟨k + 1, by omega, by go_num, HX.out, KB.out⟩
            case measure => simp [intOf]; omega
           | false =>
            have HX := lH (show chkRooms pl nl = 7 by rw [← HT.out, HD.out, rooms_full HU.out HFT.out])
            obtain ⟨o0, o1, o2, -⟩ := HT2.out _ (Kept.refl _)
            go_wp2
            clear o0 o1 o2
            refine wp_region_held_drew (S := fun W => W.cell? ⟨w.heap.size, 0, none⟩ = some (.slice (some ⟨b0, off, none⟩) len cap) ∧ W.cell? ⟨w.heap.size, 1, none⟩ = some (.slice b m c) ∧ W.cell? ⟨w.heap.size, 2, none⟩ = some (.slice d n e) ∧ W.cell? ⟨wr.heap.size, 0, none⟩ = some (.string z0) ∧ W.cell? ⟨wr.heap.size, 1, none⟩ = some (.slice a1 m1 c1) ∧ W.cell? ⟨wr.heap.size, 2, none⟩ = some (.slice a2 m2 c2) ∧ W.cell? ⟨wr.heap.size, 3, none⟩ = some (.slice a3 m3 c3) ∧ W.cell? ⟨wr.heap.size, 4, none⟩ = some (.bool z4)) (by kernel_rfl) (HT2.out _ (Kept.drew _)) (fun hHeld => ?_)
            refine tkH 0 (v := ?_) (y := Or.inl ⟨by rfl, (by rintro W ⟨o0, o1, o2, o3, o4, o5, o6, o7⟩; go_simp <;> with_reducible rfl)⟩) (h := ?_)
            try simp only [nP]
            refine tkH 1 (v := ?_) (y := Or.inl ⟨by rfl, (by rintro W ⟨o0, o1, o2, o3, o4, o5, o6, o7⟩; go_simp <;> with_reducible rfl)⟩) (h := ?_)
            try simp only [nP]
            refine tkH 3 (v := ?_) (y := Or.inl ⟨by rfl, (by rintro W ⟨o0, o1, o2, o3, o4, o5, o6, o7⟩; go_simp <;> with_reducible rfl)⟩) (h := ?_)
            try simp only [nP]
            refine tkH 4 (v := ?_) (y := Or.inl ⟨by rfl, (by rintro W ⟨o0, o1, o2, o3, o4, o5, o6, o7⟩; go_simp <;> with_reducible rfl)⟩) (h := ?_)
            try simp only [nP]
            refine rdH (rs := [2]) (h := coH (fun K9 hK9 => ?_) AllReadyH.nil)
            go_simp
            refine (((HUS.out _ ((kept_alloc wr (.cells #[.string z0, .slice a1 m1 c1, .slice a2 m2 c2, .slice a3 m3 c3, .bool z4] 43)).trans (Kept.drew _))).mono fun _ _ h => h.ok (by rw [← HZ0.out]; exact HU.out))).mono ?_
            rintro e1 v1 ⟨v, rfl, ho, kk⟩
            have J1 := lH ((Kept.drew _).trans kk)
            have HO := lH ho
            clear kk ho
            refine hK9.out _ _ (HT2.out _ J1.out) (fun hHeld1 => ?_)
            clear hK9 K9
            try simp only [nP]
            refine rdH (rs := [5]) (h := coH (fun K9 hK9 => ?_) AllReadyH.nil)
            go_simp
            refine (Vec.fitsR HO.out.reads (HA.out.kept ((kept_alloc wr (.cells #[.string z0, .slice a1 m1 c1, .slice a2 m2 c2, .slice a3 m3 c3, .bool z4] 43)).trans J1.out)).cap HFT.out).mono ?_
            rintro e2 v2 ⟨rfl, kk⟩
            have J2 := lH (J1.out.trans kk)
            clear kk
            refine hK9.out _ _ (HT2.out _ J2.out) (fun hHeld2 => ?_)
            clear hK9 K9
            try simp only [nP]
            refine tkH 6 (v := ?_) (y := Or.inl ⟨by rfl, (by rintro W ⟨o0, o1, o2, o3, o4, o5, o6, o7⟩; go_simp <;> with_reducible rfl)⟩) (h := ?_)
            try simp only [nP]
            refine wpAnyH_done (by kernel_rfl) ?_ _
            have KB := lH (HK.out.trans ((kept_alloc wr (.cells #[.string z0, .slice a1 m1 c1, .slice a2 m2 c2, .slice a3 m3 c3, .bool z4] 43)).trans J2.out))
            go_wp2
            exact ⟨rfl, ChkRes.bad (st_rooms HOR.out HPL.out HX.out (by decide)) (by decide) (HKZ.out.trans KB.out)⟩
         · have HX := lH (show chkRooms pl nl = c9 by rw [← HT.out, HD.out, rooms_bad HU.out hc])
           have HC := lH hc
           clear hc
           obtain ⟨o0, o1, o2, -⟩ := HT2.out _ (Kept.refl _)
           go_wp2
           clear o0 o1 o2
           refine wp_region_held_drew (S := fun W => W.cell? ⟨w.heap.size, 0, none⟩ = some (.slice (some ⟨b0, off, none⟩) len cap) ∧ W.cell? ⟨w.heap.size, 1, none⟩ = some (.slice b m c) ∧ W.cell? ⟨w.heap.size, 2, none⟩ = some (.slice d n e) ∧ W.cell? ⟨wr.heap.size, 0, none⟩ = some (.string z0) ∧ W.cell? ⟨wr.heap.size, 1, none⟩ = some (.slice a1 m1 c1) ∧ W.cell? ⟨wr.heap.size, 2, none⟩ = some (.slice a2 m2 c2) ∧ W.cell? ⟨wr.heap.size, 3, none⟩ = some (.slice a3 m3 c3) ∧ W.cell? ⟨wr.heap.size, 4, none⟩ = some (.bool z4)) (by kernel_rfl) (HT2.out _ (Kept.drew _)) (fun hHeld => ?_)
           refine tkH 0 (v := ?_) (y := Or.inl ⟨by rfl, (by rintro W ⟨o0, o1, o2, o3, o4, o5, o6, o7⟩; go_simp <;> with_reducible rfl)⟩) (h := ?_)
           try simp only [nP]
           refine tkH 1 (v := ?_) (y := Or.inl ⟨by rfl, (by rintro W ⟨o0, o1, o2, o3, o4, o5, o6, o7⟩; go_simp <;> with_reducible rfl)⟩) (h := ?_)
           try simp only [nP]
           refine tkH 3 (v := ?_) (y := Or.inl ⟨by rfl, (by rintro W ⟨o0, o1, o2, o3, o4, o5, o6, o7⟩; go_simp <;> with_reducible rfl)⟩) (h := ?_)
           try simp only [nP]
           refine tkH 4 (v := ?_) (y := Or.inl ⟨by rfl, (by rintro W ⟨o0, o1, o2, o3, o4, o5, o6, o7⟩; go_simp <;> with_reducible rfl)⟩) (h := ?_)
           try simp only [nP]
           refine rdH (rs := [2]) (h := coH (fun K9 hK9 => ?_) AllReadyH.nil)
           go_simp
           refine (((HUS.out _ ((kept_alloc wr (.cells #[.string z0, .slice a1 m1 c1, .slice a2 m2 c2, .slice a3 m3 c3, .bool z4] 43)).trans (Kept.drew _))).mono fun _ _ h => h.not (by rw [← HZ0.out]; exact HU.out) HC.out)).mono ?_
           rintro e1 v1 ⟨rfl, kk⟩
           exact ⟨rfl, ChkRes.bad (st_rooms HOR.out HPL.out HX.out HC.out) HC.out (HKZ.out.trans (HK.out.trans ((kept_alloc wr (.cells #[.string z0, .slice a1 m1 c1, .slice a2 m2 c2, .slice a3 m3 c3, .bool z4] 43)).trans ((Kept.drew _).trans kk))))⟩
       · have HRO := lH (show chkRooms pl nl = 0 by rw [← hrest, List.drop_of_length_le (by rw [HLN.out]; omega)]; rfl)
         obtain ⟨o0, o1, o2⟩ := HS.out _ hK
         have HTV := lH (total_any a b d len cap m c n e nl wr (HN.out.kept hK))
         have HST := lH (st_total HOR.out HPL.out HRO.out)
         obtain ⟨c9, m9, hu⟩ : ∃ c m, totV nl [] = (c, m) := ⟨_, _, rfl⟩
         have HU := lH hu
         have HV := lH (show chkSt ⟨nl, pl, bl⟩ = c9 by rw [HST.out, hu])
         clear hrest hK hu
         by_cases hc : c9 = 0
         · subst hc
           go_wp2_with fail
           refine (HTV.out.mono fun _ _ h => h.ok HU.out).mono ?_
           rintro e1 v1 ⟨v, rfl, ho, kk⟩
           have KB := lH (HK.out.trans kk)
           clear kk ho o0 o1 o2
           obtain ⟨o0, o1, o2⟩ := HS.out _ KB.out
           have y0 := (HQ.out _ KB.out).at_ 0 _ rfl
           have y1 := (HQ.out _ KB.out).at_ 1 _ rfl
           have y2 := (HQ.out _ KB.out).at_ 2 _ rfl
           have f0 := (HQ.out _ KB.out).free 0
           have f1 := (HQ.out _ KB.out).free 1
           have f2 := (HQ.out _ KB.out).free 2
           have PP := lH (putN (vs := [.slice a len cap, .slice b m c, .slice d n e]) (HQ.out _ KB.out) rfl)
           go_wp2
           obtain ⟨WE, hWE⟩ : ∃ W, v1.setCells (w.heap.size + 1) 0 [.slice a len cap, .slice b m c, .slice d n e] = W := ⟨_, rfl⟩
           have hWE2 : (((v1.setCell ⟨(w.heap.size + 1), 0, none⟩ (.slice a len cap)).setCell ⟨(w.heap.size + 1), 1, none⟩ (.slice b m c)).setCell ⟨(w.heap.size + 1), 2, none⟩ (.slice d n e)) = WE := hWE
           rw [hWE] at PP
           try rw [hWE2]
           clear hWE hWE2
           obtain ⟨PC, hsz, hbl, hkp⟩ := PP.out
           refine bodyPost_ret (by simp [results, Tryz.results52, go_sem, PC.at_ 0 _ rfl, PC.at_ 1 _ rfl, PC.at_ 2 _ rfl]; try rfl) rfl ?_
           exact ChkRes.good HV.out rfl (hkp _ _ (by omega) (HKZ.out.trans KB.out))
         · have HC := lH hc
           clear hc
           go_wp2_with fail
           refine (HTV.out.mono fun _ _ h => h.not HU.out HC.out).mono ?_
           rintro e1 v1 ⟨rfl, kk⟩
           go_wp2
           exact ⟨rfl, ChkRes.bad HV.out HC.out (HKZ.out.trans (HK.out.trans kk))⟩
 · have HC := lH hc
   clear hc
   go_enter Tryz.func52, Tryz.ntmps52
   go_wp2
   try rw [hZ]
   clear hZ
   refine wp_region_held_drew (S := fun W => W.cell? ⟨w.heap.size, 0, none⟩ = some (.slice a len cap) ∧ W.cell? ⟨w.heap.size, 1, none⟩ = some (.slice b m c) ∧ W.cell? ⟨w.heap.size, 2, none⟩ = some (.slice d n e)) (by kernel_rfl) (HS.out _ (Kept.drew _)) (fun hHeld => ?_)
   refine tkH 0 (v := ?_) (y := Or.inl ⟨by rfl, (by rintro W ⟨o0, o1, o2⟩; go_simp <;> with_reducible rfl)⟩) (h := ?_)
   try simp only [nP]
   refine tkH 1 (v := ?_) (y := Or.inl ⟨by rfl, (by rintro W ⟨o0, o1, o2⟩; go_simp <;> with_reducible rfl)⟩) (h := ?_)
   try simp only [nP]
   refine tkH 3 (v := ?_) (y := Or.inl ⟨by rfl, (by rintro W ⟨o0, o1, o2⟩; go_simp <;> with_reducible rfl)⟩) (h := ?_)
   try simp only [nP]
   refine tkH 4 (v := ?_) (y := Or.inl ⟨by rfl, (by rintro W ⟨o0, o1, o2⟩; go_simp <;> with_reducible rfl)⟩) (h := ?_)
   try simp only [nP]
   refine tkH 6 (v := ?_) (y := Or.inl ⟨by rfl, (by rintro W ⟨o0, o1, o2⟩; go_simp <;> with_reducible rfl)⟩) (h := ?_)
   try simp only [nP]
   refine tkH 7 (v := ?_) (y := Or.inl ⟨by rfl, (by rintro W ⟨o0, o1, o2⟩; go_simp <;> with_reducible rfl)⟩) (h := ?_)
   try simp only [nP]
   refine rdH (rs := [2]) (h := coH (fun K9 hK9 => ?_) AllReadyH.nil)
   go_simp
   refine (H1.out _ (Kept.drew _)).mono ?_
   rintro e1 w1 ⟨rfl, kk⟩
   have J1 := lH ((Kept.drew _).trans kk)
   clear kk
   refine hK9.out _ _ (HS.out _ J1.out) (fun hHeld1 => ?_)
   clear hK9 K9
   try simp only [nP]
   refine rdH (rs := [5]) (h := coH (fun K9 hK9 => ?_) AllReadyH.nil)
   go_simp
   refine (H2.out _ J1.out).mono ?_
   rintro e2 w2 ⟨rfl, kk⟩
   have J2 := lH ((J1.out).trans kk)
   clear kk
   refine hK9.out _ _ (HS.out _ J2.out) (fun hHeld2 => ?_)
   clear hK9 K9
   try simp only [nP]
   refine rdH (rs := [8]) (h := coH (fun K9 hK9 => ?_) AllReadyH.nil)
   go_simp
   refine (H3.out _ J2.out).mono ?_
   rintro e3 w3 ⟨rfl, kk⟩
   have J3 := lH ((J2.out).trans kk)
   clear kk
   refine hK9.out _ _ (HS.out _ J3.out) (fun hHeld3 => ?_)
   clear hK9 K9
   try simp only [nP]
   refine rdH (rs := [9]) (h := coH (fun K9 hK9 => ?_) AllReadyH.nil)
   go_simp
   have J4 := lH (J3.out.trans (kept_alloc w3 (.cells #[.int .i64 x1, .int .i64 x2, .int .i64 x3] 53)))
   refine hK9.out _ _ (HS.out _ J4.out) (fun hHeld9 => ?_)
   clear hK9 K9
   try simp only [nP]
   refine rdH (rs := [10]) (h := coH (fun K9 hK9 => ?_) AllReadyH.nil)
   go_simp
   refine (or3_any _ x1 x2 x3 _ (by go_simp) (by go_simp) (by go_simp)).mono ?_
   rintro e4 w4 ⟨rfl, rfl⟩
   rw [HX0.out]
   refine hK9.out _ _ (HS.out _ J4.out) (fun hHeld4 => ?_)
   clear hK9 K9
   try simp only [nP]
   refine rdH (rs := [11]) (h := coH (fun K9 hK9 => ?_) AllReadyH.nil)
   go_simp
   refine (refuse_bad _ _ HC.out).mono ?_
   rintro e5 w5 ⟨rfl, rfl⟩
   exact ⟨rfl, ChkRes.bad (st_or HOR.out HC.out) HC.out (HKZ.out.trans J4.out)⟩
set_option maxHeartbeats 1600000 in
theorem checkCl_any (a b d : Option Addr) (len cap m c n e p : Nat) (nl : List Nod) (pl : List Pd) (bl : List Bd) (w : World) (hn : NodesAt w a len nl) (hp : PodsAt w b m pl) (hb : BudsAt w d n bl) (hlow : ∀ n ∈ nl, LowNod n) (hs : w.cell? ⟨p, 0, none⟩ = some (.slice a len cap) ∧ w.cell? ⟨p, 1, none⟩ = some (.slice b m c) ∧ w.cell? ⟨p, 2, none⟩ = some (.slice d n e)) :
 Calls Tryz.prog 51 #[.pointer (some ⟨p, 0, none⟩)] w (ChkRes (chkSt ⟨nl, pl, bl⟩) (.agg #[.slice a len cap, .slice b m c, .slice d n e]) w) := by
 obtain ⟨Z, hZ⟩ : ∃ Z, w.alloc (.cells #[.slice none 0 0, .slice none 0 0, .slice none 0 0] 26) = Z := ⟨_, rfl⟩
 have hkz : Kept w Z := by rw [← hZ]; exact kept_alloc _ _
 have HQ := lH (show ∀ W, Kept Z W → CellsN w.heap.size [.slice none 0 0, .slice none 0 0, .slice none 0 0] W from fun W k => freshN w (.slice none 0 0) [.slice none 0 0, .slice none 0 0] 26 W (by rw [hZ]; exact k))
 have HS := lH (show Z.cell? ⟨p, 0, none⟩ = some (.slice a len cap) ∧ Z.cell? ⟨p, 1, none⟩ = some (.slice b m c) ∧ Z.cell? ⟨p, 2, none⟩ = some (.slice d n e) from ⟨cell_later hkz hs.1, cell_later hkz hs.2.1, cell_later hkz hs.2.2⟩)
 have HC := lH (checkedSt_any a b d len cap m c n e nl pl bl Z (hn.kept hkz) (hp.kept hkz) (hb.kept hkz) hlow)
 have HKZ := lH hkz
 obtain ⟨c9, hc9⟩ : ∃ x, chkSt ⟨nl, pl, bl⟩ = x := ⟨_, rfl⟩
 rw [hc9] at HC ⊢
 obtain ⟨o0, o1, o2⟩ := HS.out
 clear hn hp hb hlow hs hkz hc9
 go_enter Tryz.func51, Tryz.ntmps51
 go_wp2_with fail
 try rw [hZ]
 go_wp2_with fail
 try rw [hZ]
 clear hZ
 refine HC.out.mono ?_
 rintro e1 w1 ⟨h0, h1, k⟩
 have KB := lH k
 by_cases hc : c9 = 0
 · subst hc
   obtain rfl := h0 rfl
   clear h0 h1 k
   have y0 := (HQ.out _ KB.out).at_ 0 _ rfl
   have y1 := (HQ.out _ KB.out).at_ 1 _ rfl
   have y2 := (HQ.out _ KB.out).at_ 2 _ rfl
   have f0 := (HQ.out _ KB.out).free 0
   have f1 := (HQ.out _ KB.out).free 1
   have f2 := (HQ.out _ KB.out).free 2
   have PP := lH (putN (vs := [.slice a len cap, .slice b m c, .slice d n e]) (HQ.out _ KB.out) rfl)
   go_wp2
   obtain ⟨WE, hWE⟩ : ∃ W, w1.setCells w.heap.size 0 [.slice a len cap, .slice b m c, .slice d n e] = W := ⟨_, rfl⟩
   have hWE2 : (((w1.setCell ⟨w.heap.size, 0, none⟩ (.slice a len cap)).setCell ⟨w.heap.size, 1, none⟩ (.slice b m c)).setCell ⟨w.heap.size, 2, none⟩ (.slice d n e)) = WE := hWE
   rw [hWE] at PP
   try rw [hWE2]
   clear hWE hWE2
   obtain ⟨PC, hsz, hbl, hkp⟩ := PP.out
   refine bodyPost_ret (by simp [results, Tryz.results51, go_sem, PC.at_ 0 _ rfl, PC.at_ 1 _ rfl, PC.at_ 2 _ rfl]; try rfl) rfl ?_
   exact ChkRes.good rfl rfl (hkp _ _ (Nat.le_refl _) (HKZ.out.trans KB.out))
 · obtain rfl := h1 hc
   have HX := lH hc
   clear h0 h1 k hc
   go_wp2
   exact ⟨rfl, ChkRes.bad rfl HX.out (HKZ.out.trans KB.out)⟩
theorem caughtSt_panicking (B : Nat) (q : Nat) (x y : Int) (w : World) (hq : w.cell? ⟨q, 0, none⟩ = some (.int .i64 y)) (hzq : w.frozen? ⟨q, 0, none⟩ = false) (hBq : B ≤ q) :
 CallsD Tryz.prog 112 #[.pointer (some ⟨q, 0, none⟩)] (.panicking [perr x]) w fun e u' w' =>
  e = .returned (.tuple #[]) ∧ u' = .panicking [{ perr x with recovered := true }] ∧ w' = w.setCell ⟨q, 0, none⟩ (.int .i64 x) ∧ w'.cell? ⟨q, 0, none⟩ = some (.int .i64 x) ∧ Below B w w' := by
 have hta : ∀ W, (Instr.typeAssert (.iface 53 (.int .i64 x)) 20 53 false).run Tryz.prog W = .ok (.int .i64 x) W := fun _ => by kernel_rfl
 refine callsD_of_wpS Tryz.func112 rfl fun c₀ cs hu => ?_
 apply wpS_seq
 apply wpS_region
 simp [wpOpsS, go_sem, recoverD, hu, Tryz.ntmps112, Exit.thenS]
 apply wpS_seq
 apply wpS_region
 simp [wpOpsS, go_sem, recoverD, Exit.thenS]
 refine wpS_cond (t := true) (by simp [Act.eval, Array.replicate]) ?_
 simp only [if_true]
 refine wpS_of_wp ?_
 simp [Array.replicate]
 go_wp2
 simp [bodyPostS, results, Tryz.results112]
 exact ⟨World.cell?_setCell_same' _ _ _ (by rw [hq]; rfl), (Below.refl B w).setCell (p := ⟨q, 0, none⟩) hBq _⟩
theorem caughtSt_idle (q : Addr) (w : World) :
 CallsD Tryz.prog 112 #[.pointer (some q)] .returning w fun e u' w' => e = .returned (.tuple #[]) ∧ u' = .returning ∧ w' = w := by
 refine callsD_of_wpS Tryz.func112 rfl fun c₀ cs hu => ?_
 apply wpS_seq
 apply wpS_region
 simp [wpOpsS, go_sem, recoverD, hu, Tryz.ntmps112, Exit.thenS]
 apply wpS_seq
 apply wpS_region
 simp [wpOpsS, go_sem, recoverD, hu, Exit.thenS]
 refine wpS_cond (t := false) (by simp [Act.eval, Array.replicate]) ?_
 simp only [Bool.false_eq_true, if_false]
 refine wpS_of_wp (wp_skip ?_)
 cases c₀
 simp_all [bodyPostS, results, Tryz.results112]
set_option maxHeartbeats 1600000 in
theorem caughtSt_any (C : Addr) (r : Int) (a b d : Option Addr) (len cap m c n e : Nat) (w : World)
 (hk : ∀ W, Kept w W → Calls Tryz.prog 51 #[.pointer (some C)] W (ChkRes r (.agg #[.slice a len cap, .slice b m c, .slice d n e]) W)) :
 Calls Tryz.prog 50 #[.func (.func 51) #[] #[.pointer (some C)]] w fun e w' => ∃ a b d len cap m c n f, e = .returned (.tuple #[.agg #[.slice a len cap, .slice b m c, .slice d n f], .int .i64 r]) ∧ Kept w w' := by
 have hmf : ∀ (fn : Fn) (first cap : Array Value) (w : World), (Instr.makeFunc fn first cap).run Tryz.prog w = .ok (.func fn first cap) w := fun _ _ _ _ => rfl
 obtain ⟨Z, hZ⟩ : ∃ Z, (w.alloc (.cells #[.slice none 0 0, .slice none 0 0, .slice none 0 0] 26)).alloc (.cells #[.int .i64 0] 53) = Z := ⟨_, rfl⟩
 have hkz : Kept w Z := by rw [← hZ]; exact kept_two _ _ _
 have hzs : Z.heap.size = w.heap.size + 2 := by rw [← hZ]; simp
 have HK := lH hkz
 have HZ := lH (fun W (kk : Kept Z W) => freshN w (.slice none 0 0) [.slice none 0 0, .slice none 0 0] 26 W (by rw [← hZ] at kk; exact (kept_alloc _ _).trans kk))
 have HZE := lH (show ∀ W, Kept Z W → W.cell? ⟨w.heap.size + 1, 0, none⟩ = some (.int .i64 0) ∧ W.frozen? ⟨w.heap.size + 1, 0, none⟩ = false from fun W kk => by
  have hb := freshN (w.alloc (.cells #[.slice none 0 0, .slice none 0 0, .slice none 0 0] 26)) (.int .i64 0) [] 53 W (by rw [hZ]; exact kk)
  rw [World.size_alloc] at hb
  exact ⟨hb.at_ 0 _ rfl, hb.free 0⟩)
 have HKC := lH (hk Z hkz)
 clear hk hkz
 go_enter_defers Tryz.func50, Tryz.ntmps50
 go_wp2_with fail
 try rw [hZ]
 refine HKC.out.mono ?_
 rintro e1 w1 ⟨h0, h1, hb⟩
 have KK := lH hb
 have QQ := HZ.out _ hb
 obtain ⟨z0, z1⟩ := HZE.out _ hb
 have y0 := QQ.at_ 0 _ rfl
 have y1 := QQ.at_ 1 _ rfl
 have y2 := QQ.at_ 2 _ rfl
 have x0 := QQ.free 0
 have x1 := QQ.free 1
 have x2 := QQ.free 2
 have PP := lH (putN (vs := [.slice a len cap, .slice b m c, .slice d n e]) QQ rfl)
 clear QQ
 have hws : w.heap.size + 1 < w1.heap.size := by have := hb.size; omega
 by_cases hx : r = 0
 · subst hx
   obtain rfl := h0 rfl
   clear h0 h1 hb hZ
   go_wp2_with fail
   obtain ⟨WE, hWE⟩ : ∃ W, (((w1.setCell ⟨w.heap.size, 0, none⟩ (.slice a len cap)).setCell ⟨w.heap.size, 1, none⟩ (.slice b m c)).setCell ⟨w.heap.size, 2, none⟩ (.slice d n e)) = W := ⟨_, rfl⟩
   have hWE2 : w1.setCells w.heap.size 0 [.slice a len cap, .slice b m c, .slice d n e] = WE := hWE
   rw [hWE2] at PP
   rw [hWE]
   obtain ⟨PC, hsz, hbl, hkp⟩ := PP.out
   have ez : WE.cell? ⟨w.heap.size + 1, 0, none⟩ = some (.int .i64 0) := (World.cell?_of_block (a := ⟨w.heap.size + 1, 0, none⟩) (hbl (w.heap.size + 1) (by omega))).trans z0
   have hb2 : ∀ b, b ≠ w.heap.size + 1 → (WE.setCell ⟨w.heap.size + 1, 0, none⟩ (.int .i64 0)).heap[b]? = WE.heap[b]? := fun b hb => Below.heap_setCell WE ⟨w.heap.size + 1, 0, none⟩ _ b hb
   have fe := World.cell?_setCell_same' WE ⟨w.heap.size + 1, 0, none⟩ (.int .i64 0) (by rw [ez]; rfl)
   have ff : ∀ j v, WE.cell? ⟨w.heap.size, j, none⟩ = some v → (WE.setCell ⟨w.heap.size + 1, 0, none⟩ (.int .i64 0)).cell? ⟨w.heap.size, j, none⟩ = some v := fun j v h => (World.cell?_of_block (a := ⟨w.heap.size, j, none⟩) (hb2 w.heap.size (by omega))).trans h
   have f0 := ff 0 _ (PC.at_ 0 _ rfl)
   have f1 := ff 1 _ (PC.at_ 1 _ rfl)
   have f2 := ff 2 _ (PC.at_ 2 _ rfl)
   have KF := lH (show Kept w (WE.setCell ⟨w.heap.size + 1, 0, none⟩ (.int .i64 0)) from (hkp _ _ (Nat.le_refl _) (HK.out.trans KK.out)).setCell (p := ⟨w.heap.size + 1, 0, none⟩) (Nat.le_succ _) _)
   obtain ⟨WF, hWF⟩ : ∃ W, WE.setCell ⟨w.heap.size + 1, 0, none⟩ (.int .i64 0) = W := ⟨_, rfl⟩
   rw [hWF] at fe f0 f1 f2 KF ⊢
   clear hWE hWE2 hWF ff hb2 ez PP hbl hkp PC y0 y1 y2 x0 x1 x2 z0 z1
   refine leaves_cons (f := 112) (args := #[.pointer (some ⟨w.heap.size + 1, 0, none⟩)]) (by simp) (by simp [go_sem]) ?_
   refine (caughtSt_idle ⟨w.heap.size + 1, 0, none⟩ _).mono ?_
   rintro e u' w'' ⟨rfl, rfl, rfl⟩
   simp [Leaves, settle, results, Tryz.results50, go_sem, fe, f0, f1, f2]
   exact KF.out
 · obtain rfl := h1 hx
   have KW := lH (HK.out.trans KK.out)
   clear h0 h1 hb hZ PP
   go_wp2_with fail
   refine leaves_cons (f := 112) (args := #[.pointer (some ⟨w.heap.size + 1, 0, none⟩)]) (by simp) (by simp [go_sem]) ?_
   refine (caughtSt_panicking w.heap.size (w.heap.size + 1) r 0 _ z0 z1 (by omega)).mono ?_
   rintro e u' w'' ⟨rfl, rfl, rfl, q2, q3⟩
   have hb2 : (w1.setCell ⟨w.heap.size + 1, 0, none⟩ (.int .i64 r)).heap[w.heap.size]? = w1.heap[w.heap.size]? := Below.heap_setCell w1 ⟨w.heap.size + 1, 0, none⟩ _ w.heap.size (by simp)
   have ff : ∀ j v, w1.cell? ⟨w.heap.size, j, none⟩ = some v → (w1.setCell ⟨w.heap.size + 1, 0, none⟩ (.int .i64 r)).cell? ⟨w.heap.size, j, none⟩ = some v := fun j v h => (World.cell?_of_block (a := ⟨w.heap.size, j, none⟩) hb2).trans h
   have f0 := ff 0 _ y0
   have f1 := ff 1 _ y1
   have f2 := ff 2 _ y2
   simp [Leaves, settle, results, Tryz.results50, go_sem, q2, f0, f1, f2]
   exact Below.trans KW.out q3
set_option maxHeartbeats 1600000 in
theorem checkSt_any (a b d : Option Addr) (len cap m c n e : Nat) (nl : List Nod) (pl : List Pd) (bl : List Bd) (w : World) (hn : NodesAt w a len nl) (hp : PodsAt w b m pl) (hb : BudsAt w d n bl) (hlow : ∀ n ∈ nl, LowNod n) :
 Calls Tryz.prog 15 #[.agg #[.slice a len cap, .slice b m c, .slice d n e]] w (Say (.int .i64 (chkSt ⟨nl, pl, bl⟩)) w) := by
 have hmf : ∀ (fn : Fn) (first cap : Array Value) (w : World), (Instr.makeFunc fn first cap).run Tryz.prog w = .ok (.func fn first cap) w := fun _ _ _ _ => rfl
 obtain ⟨Z, hZ⟩ : ∃ Z, w.alloc (.cells #[.slice a len cap, .slice b m c, .slice d n e] 26) = Z := ⟨_, rfl⟩
 have hkz : Kept w Z := by rw [← hZ]; exact kept_alloc _ _
 have HC := lH (caughtSt_any ⟨w.heap.size, 0, none⟩ (chkSt ⟨nl, pl, bl⟩) a b d len cap m c n e Z fun W k => by
  have cc := freshN w (.slice a len cap) [.slice b m c, .slice d n e] 26 W (by rw [hZ]; exact k)
  exact checkCl_any a b d len cap m c n e w.heap.size nl pl bl W (hn.kept (hkz.trans k)) (hp.kept (hkz.trans k)) (hb.kept (hkz.trans k)) hlow ⟨cc.at_ 0 _ rfl, cc.at_ 1 _ rfl, cc.at_ 2 _ rfl⟩)
 have HKZ := lH hkz
 clear hn hp hb hlow hkz
 obtain ⟨c9, hc9⟩ : ∃ x, chkSt ⟨nl, pl, bl⟩ = x := ⟨_, rfl⟩
 rw [hc9] at HC ⊢
 clear hc9
 go_enter Tryz.func15, Tryz.ntmps15
 go_wp2_with fail
 try rw [hZ]
 clear hZ
 refine HC.out.mono ?_
 rintro e1 w1 ⟨a', b', d', len', cap', m', c', n', f', rfl, k⟩
 have KB := lH (HKZ.out.trans k)
 clear k
 go_wp2
 go_ret
 exact ⟨rfl, KB.out.trans (kept_alloc _ _)⟩
theorem checkStR {v : Value} {s : Clu} {c : Int} {w : World} (h : CluR w v s) (hl : ∀ n ∈ s.nodes, LowNod n) (hc : chkSt s = c) : Calls Tryz.prog 15 #[v] w (Say (.int .i64 c) w) := by
 subst hc
 obtain ⟨v1, v2, v3, rfl, ⟨a, cap, rfl, _, _, hn⟩, ⟨b, cp, rfl, _, _, hp⟩, ⟨d, cb, rfl, _, _, hb⟩⟩ := h
 exact checkSt_any a b d _ cap _ cp _ cb s.nodes s.pods s.buds w hn hp hb hl
open Go.RowKit
def sameBd (a b : Bd) : Bool := eqS a.name b.name && (sameT a.sel b.sel && decide (a.floor = b.floor))
def sameSt (a b : Clu) : Bool := allSame sameN a.nodes b.nodes && (allSame samePd a.pods b.pods && allSame sameBd a.buds b.buds)
theorem allSame_len {α : Type} {f : α → α → Bool} : ∀ {l m : List α}, l.length ≠ m.length → allSame f l m = false
 | [], [], h => absurd rfl h
 | [], _ :: _, _ => rfl
 | _ :: _, [], _ => rfl
 | x :: s, y :: t, h => by rw [allSame, allSame_len (l := s) (m := t) (fun e => h (by rw [List.length_cons, List.length_cons, e])), Bool.and_false]
theorem allSame_self {α : Type} {f : α → α → Bool} (hf : ∀ x, f x x = true) : ∀ l : List α, allSame f l l = true
 | [] => rfl
 | x :: t => by rw [allSame, hf, allSame_self hf t]; rfl
theorem sameBd_self (a : Bd) : sameBd a a = true := by
 unfold sameBd
 rw [eqS_self, sameT_self, decide_eq_true rfl]; rfl
theorem sameSt_self (a : Clu) : sameSt a a = true := by
 unfold sameSt
 rw [allSame_self sameN_self, allSame_self samePd_self, allSame_self sameBd_self]; rfl
set_option maxRecDepth 100000 in
set_option maxHeartbeats 1600000 in
theorem sameBudget_any (a1 a2 : Option Addr) (m1 c1 m2 c2 : Nat) (n k : Bd) (w : World) (h : BudAt w (.slice a1 m1 c1) n) (g : BudAt w (.slice a2 m2 c2) k) :
 Calls Tryz.prog 40 #[BudV n (.slice a1 m1 c1), BudV k (.slice a2 m2 c2)] w (Say (.bool (sameBd n k)) w) := by
 obtain ⟨x, s, p⟩ := n
 obtain ⟨y, t, q⟩ := k
 obtain ⟨Z, hZ⟩ : ∃ Z, (w.alloc (.cells #[.string x, .slice a1 m1 c1, .int .i64 p] 89)).alloc (.cells #[.string y, .slice a2 m2 c2, .int .i64 q] 89) = Z := ⟨_, rfl⟩
 have hkz : Kept w Z := by rw [← hZ]; exact kept_two _ _ _
 have cc := freshN w (.string x) [.slice a1 m1 c1, .int .i64 p] 89 Z (by rw [← hZ]; exact kept_alloc _ _)
 have dd := freshN (w.alloc (.cells #[.string x, .slice a1 m1 c1, .int .i64 p] 89)) (.string y) [.slice a2 m2 c2, .int .i64 q] 89 Z (by rw [hZ]; exact Kept.refl _)
 rw [World.size_alloc] at dd
 have o0 := cc.at_ 0 _ rfl
 have r0 := dd.at_ 0 _ rfl
 have o1 := cc.at_ 1 _ rfl
 have r1 := dd.at_ 1 _ rfl
 have o2 := cc.at_ 2 _ rfl
 have r2 := dd.at_ 2 _ rfl
 obtain ⟨e1, he1⟩ : ∃ e, eqS x y = e := ⟨_, rfl⟩
 have he1' : (x.toList == y.toList) = e1 := he1
 obtain ⟨e2, he2⟩ : ∃ e, sameT s t = e := ⟨_, rfl⟩
 obtain ⟨e3, he3⟩ : ∃ e, decide (p = q) = e := ⟨_, rfl⟩
 have he3' : (p == q) = e3 := he3
 have HV := lH (show sameBd ⟨x, s, p⟩ ⟨y, t, q⟩ = (e1 && (e2 && e3)) by unfold sameBd; dsimp only; rw [he1, he2, he3])
 have HE := lH (fun W (k : Kept Z W) => equalTR (h.sel.kept (hkz.trans k)) (g.sel.kept (hkz.trans k)) he2)
 have HKZ := lH hkz
 clear h g hkz cc dd he1 he2 he3
 unfold BudV
 dsimp only
 cases e1 with
 | false =>
  go_enter Tryz.func40, Tryz.ntmps40
  go_wp2
  go_ret
  exact ⟨ret_bool HV.out.symm, by first | exact HKZ.out | (rw [hZ]; exact HKZ.out)⟩
 | true =>
  cases e2 with
  | false =>
   go_enter Tryz.func40, Tryz.ntmps40
   go_wp2_with fail
   try rw [hZ]
   refine (HE.out _ (Kept.refl _)).mono ?_
   rintro e w1 ⟨rfl, k⟩
   have K := lH k
   have cc := freshN w (.string x) [.slice a1 m1 c1, .int .i64 p] 89 w1 (by rw [← hZ] at k; exact (kept_alloc _ _).trans k)
   have dd := freshN (w.alloc (.cells #[.string x, .slice a1 m1 c1, .int .i64 p] 89)) (.string y) [.slice a2 m2 c2, .int .i64 q] 89 w1 (by rw [hZ]; exact k)
   rw [World.size_alloc] at dd
   have v0 := cc.at_ 2 _ rfl
   have v1 := dd.at_ 2 _ rfl
   clear k cc dd
   go_wp2
   go_ret
   exact ⟨ret_bool HV.out.symm, HKZ.out.trans K.out⟩
  | true =>
   cases e3 <;>
   (go_enter Tryz.func40, Tryz.ntmps40
    go_wp2_with fail
    try rw [hZ]
    refine (HE.out _ (Kept.refl _)).mono ?_
    rintro e w1 ⟨rfl, k⟩
    have K := lH k
    have cc := freshN w (.string x) [.slice a1 m1 c1, .int .i64 p] 89 w1 (by rw [← hZ] at k; exact (kept_alloc _ _).trans k)
    have dd := freshN (w.alloc (.cells #[.string x, .slice a1 m1 c1, .int .i64 p] 89)) (.string y) [.slice a2 m2 c2, .int .i64 q] 89 w1 (by rw [hZ]; exact k)
    rw [World.size_alloc] at dd
    have v0 := cc.at_ 2 _ rfl
    have v1 := dd.at_ 2 _ rfl
    clear k cc dd
    go_wp2
    go_ret
    exact ⟨ret_bool HV.out.symm, HKZ.out.trans K.out⟩)
set_option maxRecDepth 100000 in
set_option maxHeartbeats 3200000 in
theorem eqfN_any (a a9 : Option Addr) (len cap len9 cap9 : Nat) (l l9 : List Nod) (w : World) (hr : NodesAt w a len l) (hr9 : NodesAt w a9 len9 l9) :
 Calls Tryz.prog 36 #[.slice a len cap, .slice a9 len9 cap9, .func (.func 37) #[] #[]] w (Say (.bool (allSame sameN l l9)) w) := by
 have hl := hr.1
 have hm := hr.2.1
 have hl9 := hr9.1
 have hm9 := hr9.2.1
 unfold maxLen at hm hm9
 by_cases he : len = len9
 · subst he
   have HR := lH hr
   have HR9 := lH hr9
   have HL := lH hl
   have HL9 := lH hl9
   clear hr hr9 hl hl9
   go_enter Tryz.func36, Tryz.ntmps36
   go_wp2
   go_loopw [17] (fun i wr => ∃ k : Nat, k ≤ len ∧ i = .int .i64 k ∧ allSame sameN (l.drop k) (l9.drop k) = allSame sameN l l9 ∧ Kept w wr) (fun i _ => len - (intOf i).toNat)
   case atStart => exact ⟨0, Nat.zero_le _, rfl, rfl, Kept.refl _⟩
   case round =>
    obtain ⟨k, hk, rfl, hrest, hK⟩ := hrel
    have HT := lH hrest
    have HK := lH hK
    by_cases hlt : k < len
    · obtain ⟨b, off, rfl⟩ := HR.out.form.resolve_left (by omega)
      obtain ⟨b9, off9, rfl⟩ := HR9.out.form.resolve_left (by omega)
      obtain ⟨n, a1, m1, c1, a2, m2, c2, a3, m3, c3, hn, hd, hb, p0, p1, p2, p3, p4, hat⟩ := (HR.out.kept hK).at_ hlt
      obtain ⟨k9, x1, y1, z1, x2, y2, z2, x3, y3, z3, hn9, hd9, hb9, q0, q1, q2, q3, q4, hat9⟩ := (HR9.out.kept hK).at_ hlt
      have HD := lH hd
      have HD9 := lH hd9
      obtain ⟨t, ht⟩ : ∃ t, sameN n k9 = t := ⟨_, rfl⟩
      have HTT := lH ht
      have HC := lH (fun W (kk : Kept wr W) => show Calls Tryz.prog 37 #[NodV n (.slice a1 m1 c1) (.slice a2 m2 c2) (.slice a3 m3 c3), NodV k9 (.slice x1 y1 z1) (.slice x2 y2 z2) (.slice x3 y3 z3)] W (Say (.bool t) W) from sameNodR ⟨_, _, _, rfl, hat.kept kk⟩ ⟨_, _, _, rfl, hat9.kept kk⟩ ht)
      unfold NodV at HC
      have hkk : (k : Int) < (len : Int) := by omega
      clear hrest hK hat hat9 hn hn9 hd hd9 ht
      cases t with
      | true =>
       have HX := lH (show allSame sameN (l.drop (k + 1)) (l9.drop (k + 1)) = allSame sameN l l9 by rw [← HT.out, HD.out, HD9.out, allSame, HTT.out]; rfl)
       go_wp2_with fail
       refine (HC.out _ ((kept_alloc _ _).trans (kept_alloc _ _))).mono ?_
       rintro e w1 ⟨rfl, kk⟩
       have KW := lH (HK.out.trans (((kept_alloc _ _).trans (kept_alloc _ _)).trans kk))
       clear kk
       go_wp2
       go_roundw
       case rel => exact ⟨k + 1, by omega, by go_num, HX.out, KW.out⟩
       case measure => simp [intOf]; omega
      | false =>
       have HX := lH (show allSame sameN l l9 = false by rw [← HT.out, HD.out, HD9.out, allSame, HTT.out]; rfl)
       go_wp2_with fail
       refine (HC.out _ ((kept_alloc _ _).trans (kept_alloc _ _))).mono ?_
       rintro e w1 ⟨rfl, kk⟩
       have KW := lH (HK.out.trans (((kept_alloc _ _).trans (kept_alloc _ _)).trans kk))
       clear kk
       go_wp2
       go_ret
       exact ⟨ret_bool HX.out.symm, KW.out⟩
    · have HX := lH (show allSame sameN l l9 = true by rw [← hrest, List.drop_of_length_le (by rw [HL.out]; omega), List.drop_of_length_le (by rw [HL9.out]; omega)]; rfl)
      clear hrest hK
      go_wp2
      go_ret
      exact ⟨ret_bool HX.out.symm, HK.out⟩
 · have HX := lH (show allSame sameN l l9 = false from allSame_len (by rw [hl, hl9]; exact he))
   have he' : ((len : Int) != (len9 : Int)) = true := by simpa using (fun e : (len : Int) = (len9 : Int) => he (by omega))
   clear hr hr9 he
   go_enter Tryz.func36, Tryz.ntmps36
   go_wp2
   go_ret
   exact ⟨ret_bool HX.out.symm, Kept.refl _⟩
set_option maxRecDepth 100000 in
set_option maxHeartbeats 3200000 in
theorem eqfP_any (a a9 : Option Addr) (len cap len9 cap9 : Nat) (l l9 : List Pd) (w : World) (hr : PodsAt w a len l) (hr9 : PodsAt w a9 len9 l9) :
 Calls Tryz.prog 38 #[.slice a len cap, .slice a9 len9 cap9, .func (.func 21) #[] #[]] w (Say (.bool (allSame samePd l l9)) w) := by
 have hl := hr.1
 have hm := hr.2.1
 have hl9 := hr9.1
 have hm9 := hr9.2.1
 unfold maxLen at hm hm9
 by_cases he : len = len9
 · subst he
   have HR := lH hr
   have HR9 := lH hr9
   have HL := lH hl
   have HL9 := lH hl9
   clear hr hr9 hl hl9
   go_enter Tryz.func38, Tryz.ntmps38
   go_wp2
   go_loopw [17] (fun i wr => ∃ k : Nat, k ≤ len ∧ i = .int .i64 k ∧ allSame samePd (l.drop k) (l9.drop k) = allSame samePd l l9 ∧ Kept w wr) (fun i _ => len - (intOf i).toNat)
   case atStart => exact ⟨0, Nat.zero_le _, rfl, rfl, Kept.refl _⟩
   case round =>
    obtain ⟨k, hk, rfl, hrest, hK⟩ := hrel
    have HT := lH hrest
    have HK := lH hK
    by_cases hlt : k < len
    · obtain ⟨b, off, rfl⟩ := HR.out.form.resolve_left (by omega)
      obtain ⟨b9, off9, rfl⟩ := HR9.out.form.resolve_left (by omega)
      obtain ⟨n, a1, m1, c1, a2, m2, c2, a3, m3, c3, a4, m4, c4, hn, hd, hb, p0, p1, p2, p3, p4, p5, p6, p7, p8, p9, p10, hat⟩ := (HR.out.kept hK).at_ hlt
      obtain ⟨k9, x1, y1, z1, x2, y2, z2, x3, y3, z3, x4, y4, z4, hn9, hd9, hb9, q0, q1, q2, q3, q4, q5, q6, q7, q8, q9, q10, hat9⟩ := (HR9.out.kept hK).at_ hlt
      have HD := lH hd
      have HD9 := lH hd9
      obtain ⟨t, ht⟩ : ∃ t, samePd n k9 = t := ⟨_, rfl⟩
      have HTT := lH ht
      have HC := lH (fun W (kk : Kept wr W) => show Calls Tryz.prog 21 #[PodV n (.slice a1 m1 c1) (.slice a2 m2 c2) (.slice a3 m3 c3) (.slice a4 m4 c4), PodV k9 (.slice x1 y1 z1) (.slice x2 y2 z2) (.slice x3 y3 z3) (.slice x4 y4 z4)] W (Say (.bool t) W) from samePodR ⟨_, _, _, _, rfl, hat.kept kk⟩ ⟨_, _, _, _, rfl, hat9.kept kk⟩ ht)
      unfold PodV at HC
      have hkk : (k : Int) < (len : Int) := by omega
      clear hrest hK hat hat9 hn hn9 hd hd9 ht
      cases t with
      | true =>
       have HX := lH (show allSame samePd (l.drop (k + 1)) (l9.drop (k + 1)) = allSame samePd l l9 by rw [← HT.out, HD.out, HD9.out, allSame, HTT.out]; rfl)
       go_wp2_with fail
       refine (HC.out _ ((kept_alloc _ _).trans (kept_alloc _ _))).mono ?_
       rintro e w1 ⟨rfl, kk⟩
       have KW := lH (HK.out.trans (((kept_alloc _ _).trans (kept_alloc _ _)).trans kk))
       clear kk
       go_wp2
       go_roundw
       case rel => exact ⟨k + 1, by omega, by go_num, HX.out, KW.out⟩
       case measure => simp [intOf]; omega
      | false =>
       have HX := lH (show allSame samePd l l9 = false by rw [← HT.out, HD.out, HD9.out, allSame, HTT.out]; rfl)
       go_wp2_with fail
       refine (HC.out _ ((kept_alloc _ _).trans (kept_alloc _ _))).mono ?_
       rintro e w1 ⟨rfl, kk⟩
       have KW := lH (HK.out.trans (((kept_alloc _ _).trans (kept_alloc _ _)).trans kk))
       clear kk
       go_wp2
       go_ret
       exact ⟨ret_bool HX.out.symm, KW.out⟩
    · have HX := lH (show allSame samePd l l9 = true by rw [← hrest, List.drop_of_length_le (by rw [HL.out]; omega), List.drop_of_length_le (by rw [HL9.out]; omega)]; rfl)
      clear hrest hK
      go_wp2
      go_ret
      exact ⟨ret_bool HX.out.symm, HK.out⟩
 · have HX := lH (show allSame samePd l l9 = false from allSame_len (by rw [hl, hl9]; exact he))
   have he' : ((len : Int) != (len9 : Int)) = true := by simpa using (fun e : (len : Int) = (len9 : Int) => he (by omega))
   clear hr hr9 he
   go_enter Tryz.func38, Tryz.ntmps38
   go_wp2
   go_ret
   exact ⟨ret_bool HX.out.symm, Kept.refl _⟩
set_option maxRecDepth 100000 in
set_option maxHeartbeats 3200000 in
theorem eqfB_any (a a9 : Option Addr) (len cap len9 cap9 : Nat) (l l9 : List Bd) (w : World) (hr : BudsAt w a len l) (hr9 : BudsAt w a9 len9 l9) :
 Calls Tryz.prog 39 #[.slice a len cap, .slice a9 len9 cap9, .func (.func 40) #[] #[]] w (Say (.bool (allSame sameBd l l9)) w) := by
 have hl := hr.1
 have hm := hr.2.1
 have hl9 := hr9.1
 have hm9 := hr9.2.1
 unfold maxLen at hm hm9
 by_cases he : len = len9
 · subst he
   have HR := lH hr
   have HR9 := lH hr9
   have HL := lH hl
   have HL9 := lH hl9
   clear hr hr9 hl hl9
   go_enter Tryz.func39, Tryz.ntmps39
   go_wp2
   go_loopw [17] (fun i wr => ∃ k : Nat, k ≤ len ∧ i = .int .i64 k ∧ allSame sameBd (l.drop k) (l9.drop k) = allSame sameBd l l9 ∧ Kept w wr) (fun i _ => len - (intOf i).toNat)
   case atStart => exact ⟨0, Nat.zero_le _, rfl, rfl, Kept.refl _⟩
   case round =>
    obtain ⟨k, hk, rfl, hrest, hK⟩ := hrel
    have HT := lH hrest
    have HK := lH hK
    by_cases hlt : k < len
    · obtain ⟨b, off, rfl⟩ := HR.out.form.resolve_left (by omega)
      obtain ⟨b9, off9, rfl⟩ := HR9.out.form.resolve_left (by omega)
      obtain ⟨n, a1, m1, c1, hn, hd, hb, p0, p1, p2, hat⟩ := (HR.out.kept hK).at_ hlt
      obtain ⟨k9, x1, y1, z1, hn9, hd9, hb9, q0, q1, q2, hat9⟩ := (HR9.out.kept hK).at_ hlt
      have HD := lH hd
      have HD9 := lH hd9
      obtain ⟨t, ht⟩ : ∃ t, sameBd n k9 = t := ⟨_, rfl⟩
      have HTT := lH ht
      have HC := lH (fun W (kk : Kept wr W) => show Calls Tryz.prog 40 #[BudV n (.slice a1 m1 c1), BudV k9 (.slice x1 y1 z1)] W (Say (.bool t) W) from by rw [← ht]; exact sameBudget_any a1 x1 m1 c1 y1 z1 n k9 W (hat.kept kk) (hat9.kept kk))
      unfold BudV at HC
      have hkk : (k : Int) < (len : Int) := by omega
      clear hrest hK hat hat9 hn hn9 hd hd9 ht
      cases t with
      | true =>
       have HX := lH (show allSame sameBd (l.drop (k + 1)) (l9.drop (k + 1)) = allSame sameBd l l9 by rw [← HT.out, HD.out, HD9.out, allSame, HTT.out]; rfl)
       go_wp2_with fail
       refine (HC.out _ ((kept_alloc _ _).trans (kept_alloc _ _))).mono ?_
       rintro e w1 ⟨rfl, kk⟩
       have KW := lH (HK.out.trans (((kept_alloc _ _).trans (kept_alloc _ _)).trans kk))
       clear kk
       go_wp2
       go_roundw
       case rel => exact ⟨k + 1, by omega, by go_num, HX.out, KW.out⟩
       case measure => simp [intOf]; omega
      | false =>
       have HX := lH (show allSame sameBd l l9 = false by rw [← HT.out, HD.out, HD9.out, allSame, HTT.out]; rfl)
       go_wp2_with fail
       refine (HC.out _ ((kept_alloc _ _).trans (kept_alloc _ _))).mono ?_
       rintro e w1 ⟨rfl, kk⟩
       have KW := lH (HK.out.trans (((kept_alloc _ _).trans (kept_alloc _ _)).trans kk))
       clear kk
       go_wp2
       go_ret
       exact ⟨ret_bool HX.out.symm, KW.out⟩
    · have HX := lH (show allSame sameBd l l9 = true by rw [← hrest, List.drop_of_length_le (by rw [HL.out]; omega), List.drop_of_length_le (by rw [HL9.out]; omega)]; rfl)
      clear hrest hK
      go_wp2
      go_ret
      exact ⟨ret_bool HX.out.symm, HK.out⟩
 · have HX := lH (show allSame sameBd l l9 = false from allSame_len (by rw [hl, hl9]; exact he))
   have he' : ((len : Int) != (len9 : Int)) = true := by simpa using (fun e : (len : Int) = (len9 : Int) => he (by omega))
   clear hr hr9 he
   go_enter Tryz.func39, Tryz.ntmps39
   go_wp2
   go_ret
   exact ⟨ret_bool HX.out.symm, Kept.refl _⟩
set_option maxRecDepth 100000 in
set_option maxHeartbeats 3200000 in
theorem same_anySt (a b d a9 b9 d9 : Option Addr) (len cap m c n e len9 cap9 m9 c9 n9 e9 : Nat) (nl nl9 : List Nod) (pl pl9 : List Pd) (bl bl9 : List Bd) (w : World) (h1 : NodesAt w a len nl) (h2 : PodsAt w b m pl) (h3 : BudsAt w d n bl) (g1 : NodesAt w a9 len9 nl9) (g2 : PodsAt w b9 m9 pl9) (g3 : BudsAt w d9 n9 bl9) :
 Calls Tryz.prog 9 #[.agg #[.slice a len cap, .slice b m c, .slice d n e], .agg #[.slice a9 len9 cap9, .slice b9 m9 c9, .slice d9 n9 e9]] w (Say (.bool (sameSt ⟨nl, pl, bl⟩ ⟨nl9, pl9, bl9⟩)) w) := by
 obtain ⟨Z, hZ⟩ : ∃ Z, (w.alloc (.cells #[.slice a len cap, .slice b m c, .slice d n e] 26)).alloc (.cells #[.slice a9 len9 cap9, .slice b9 m9 c9, .slice d9 n9 e9] 26) = Z := ⟨_, rfl⟩
 have hkz : Kept w Z := by rw [← hZ]; exact kept_two _ _ _
 have HS := lH (show ∀ W, Kept Z W → W.cell? ⟨w.heap.size, 0, none⟩ = some (.slice a len cap) ∧ W.cell? ⟨w.heap.size, 1, none⟩ = some (.slice b m c) ∧ W.cell? ⟨w.heap.size, 2, none⟩ = some (.slice d n e) ∧ W.cell? ⟨w.heap.size + 1, 0, none⟩ = some (.slice a9 len9 cap9) ∧ W.cell? ⟨w.heap.size + 1, 1, none⟩ = some (.slice b9 m9 c9) ∧ W.cell? ⟨w.heap.size + 1, 2, none⟩ = some (.slice d9 n9 e9) from fun W k => by
  have cc := freshN w (.slice a len cap) [.slice b m c, .slice d n e] 26 W (by rw [← hZ] at k; exact (kept_alloc _ _).trans k)
  have dd := freshN (w.alloc (.cells #[.slice a len cap, .slice b m c, .slice d n e] 26)) (.slice a9 len9 cap9) [.slice b9 m9 c9, .slice d9 n9 e9] 26 W (by rw [hZ]; exact k)
  rw [World.size_alloc] at dd
  exact ⟨cc.at_ 0 _ rfl, cc.at_ 1 _ rfl, cc.at_ 2 _ rfl, dd.at_ 0 _ rfl, dd.at_ 1 _ rfl, dd.at_ 2 _ rfl⟩)
 obtain ⟨e1, he1⟩ : ∃ e, allSame sameN nl nl9 = e := ⟨_, rfl⟩
 obtain ⟨e2, he2⟩ : ∃ e, allSame samePd pl pl9 = e := ⟨_, rfl⟩
 obtain ⟨e3, he3⟩ : ∃ e, allSame sameBd bl bl9 = e := ⟨_, rfl⟩
 have HV := lH (show sameSt ⟨nl, pl, bl⟩ ⟨nl9, pl9, bl9⟩ = (e1 && (e2 && e3)) by unfold sameSt; dsimp only; rw [he1, he2, he3])
 have H1 := lH (fun W (k : Kept Z W) => eqfN_any a a9 len cap len9 cap9 nl nl9 W (h1.kept (hkz.trans k)) (g1.kept (hkz.trans k)))
 have H2 := lH (fun W (k : Kept Z W) => eqfP_any b b9 m c m9 c9 pl pl9 W (h2.kept (hkz.trans k)) (g2.kept (hkz.trans k)))
 have H3 := lH (fun W (k : Kept Z W) => eqfB_any d d9 n e n9 e9 bl bl9 W (h3.kept (hkz.trans k)) (g3.kept (hkz.trans k)))
 rw [he1] at H1
 rw [he2] at H2
 rw [he3] at H3
 have HKZ := lH hkz
 clear h1 h2 h3 g1 g2 g3 hkz he1 he2 he3
 obtain ⟨o0, o1, o2, o3, o4, o5⟩ := HS.out _ (Kept.refl _)
 go_enter Tryz.func9, Tryz.ntmps9
 go_wp2_with fail
 try rw [hZ]
 refine (H1.out _ (Kept.refl _)).mono ?_
 rintro e w1 ⟨rfl, kk⟩
 have J1 := lH kk
 clear kk o0 o1 o2 o3 o4 o5
 obtain ⟨o0, o1, o2, o3, o4, o5⟩ := HS.out _ J1.out
 cases e1 with
 | false =>
  go_wp2
  go_ret
  exact ⟨ret_bool HV.out.symm, HKZ.out.trans J1.out⟩
 | true =>
  go_wp2_with fail
  try rw [hZ]
  refine (H2.out _ J1.out).mono ?_
  rintro e w2 ⟨rfl, kk⟩
  have J2 := lH (J1.out.trans kk)
  clear kk o0 o1 o2 o3 o4 o5
  obtain ⟨o0, o1, o2, o3, o4, o5⟩ := HS.out _ J2.out
  cases e2 with
  | false =>
   go_wp2
   go_ret
   exact ⟨ret_bool HV.out.symm, HKZ.out.trans J2.out⟩
  | true =>
   go_wp2_with fail
   try rw [hZ]
   refine (H3.out _ J2.out).mono ?_
   rintro e w3 ⟨rfl, kk⟩
   have J3 := lH (J2.out.trans kk)
   clear kk
   go_wp2
   go_ret
   exact ⟨ret_bool HV.out.symm, HKZ.out.trans J3.out⟩
theorem sameStR {v u : Value} {s t : Clu} {c : Bool} {w : World} (h : CluR w v s) (g : CluR w u t) (hc : sameSt s t = c) : Calls Tryz.prog 9 #[v, u] w (Say (.bool c) w) := by
 subst hc
 obtain ⟨v1, v2, v3, rfl, ⟨a, cap, rfl, _, _, h1⟩, ⟨b, cp, rfl, _, _, h2⟩, ⟨d, cb, rfl, _, _, h3⟩⟩ := h
 obtain ⟨u1, u2, u3, rfl, ⟨a9, cap9, rfl, _, _, g1⟩, ⟨b9, cp9, rfl, _, _, g2⟩, ⟨d9, cb9, rfl, _, _, g3⟩⟩ := g
 exact same_anySt a b d a9 b9 d9 _ cap _ cp _ cb _ cap9 _ cp9 _ cb9 s.nodes t.nodes s.pods t.pods s.buds t.buds w h1 h2 h3 g1 g2 g3
end Go.Proofs.YtfpgekjhcfoohaaGreat
