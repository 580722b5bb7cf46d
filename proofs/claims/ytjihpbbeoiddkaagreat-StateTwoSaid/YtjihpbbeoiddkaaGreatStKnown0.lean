/- The law's two nodes and two pods: what is told of them. -/
import Derived.Test.YtjihpbbeoiddkaaGreatStA
import Derived.Test.YtjihpbbeoiddkaaGreatStPut
import Derived.Test.YtjihpbbeoiddkaaGreatStOn
import Derived.Deep.CutRange
import Derived.Deep.RegionHeld3
namespace Go.Proofs.YtjihpbbeoiddkaaGreat
open Go.RowKit
set_option linter.unusedVariables false

/-- The law's node, pod. -/
def nodK (x : ByteArray) (c : Int) : Nod := ⟨x, [(⟨#[99, 112, 117]⟩, c)], [], [], false⟩
def podK (x : ByteArray) (c : Int) (y : ByteArray) : Pd := ⟨x, ⟨#[]⟩, 0, [(⟨#[99, 112, 117]⟩, c)], [], [], [], ⟨#[]⟩, 0, y, false⟩
theorem one_amount (w : World) (c : Int) (h : -9223372036854775808 ≤ c ∧ c ≤ 9223372036854775807) (W : World) (k : Kept (w.alloc (.cells #[.string ⟨#[99, 112, 117]⟩, .int .i64 c] 103)) W) : Vec.Reads W (.slice (some ⟨w.heap.size, 0, none⟩) 1 1) [(⟨#[99, 112, 117]⟩, c)] := by
  have cc := freshN w (.string ⟨#[99, 112, 117]⟩) [.int .i64 c] 103 W k
  refine ⟨_, 1, rfl, (by decide : (1 : Nat) ≤ 1), (by decide : (1 : Nat) ≤ maxLen), rfl, (by decide : (1 : Nat) ≤ maxLen), fun i hi => ?_, .inr ⟨w.heap.size, 0, rfl, cc.lt, fun i hi => ?_⟩⟩
  · obtain rfl : i = 0 := by simpa using hi
    exact ⟨(by decide : (3 : Nat) ≤ maxLen), h.1, h.2⟩
  · obtain rfl : i = 0 := by simpa using hi
    exact ⟨cc.at_ 0 _ rfl, cc.at_ 1 _ rfl⟩
set_option maxRecDepth 100000 in
set_option maxHeartbeats 1600000 in
theorem lawN_any (x : ByteArray) (c : Int) (hc : -9223372036854775808 ≤ c ∧ c ≤ 9223372036854775807) (hx : x.size ≤ maxLen) (w : World) :
    Calls Tryz.prog 12 #[.string x, .int .i64 c] w fun e w' => ∃ b1 n1 d1, e = .returned (.agg #[.string x, .slice b1 n1 d1, .slice none 0 0, .slice none 0 0, .bool false]) ∧ NodAt w' (.slice b1 n1 d1) (.slice none 0 0) (.slice none 0 0) (nodK x c) ∧ Kept w w' := by
  have cc := freshN w (.string ⟨#[]⟩) [.slice none 0 0, .slice none 0 0, .slice none 0 0, .bool false] 43 _ (Kept.refl _)
  obtain ⟨W0, hW0⟩ : ∃ W, w.alloc (.cells #[.string ⟨#[]⟩, .slice none 0 0, .slice none 0 0, .slice none 0 0, .bool false] 43) = W := ⟨_, rfl⟩
  have hs : W0.heap.size = w.heap.size + 1 := by rw [← hW0]; simp
  rw [hW0] at cc
  obtain ⟨W1, hW1⟩ : ∃ W, W0.alloc (.cells #[.string ⟨#[99, 112, 117]⟩, .int .i64 c] 103) = W := ⟨_, rfl⟩
  have HR := Lib.hid (one_amount W0 c hc W1 (by rw [hW1]; exact Kept.refl _))
  rw [hs] at HR
  have c1 := cc.kept (W' := W1) (by rw [← hW1]; exact kept_alloc _ _)
  have KW := Lib.hid (show Kept w W1 by rw [← hW1, ← hW0]; exact kept_two _ _ _)
  have y0 := c1.at_ 0 _ rfl
  have y1 := c1.at_ 1 _ rfl
  have y2 := c1.at_ 2 _ rfl
  have y3 := c1.at_ 3 _ rfl
  have y4 := c1.at_ 4 _ rfl
  have f0 := c1.free 0
  have f1 := c1.free 1
  have f2 := c1.free 2
  have f3 := c1.free 3
  have f4 := c1.free 4
  have P := Lib.hid (putN (vs := [.string x, .slice (some ⟨w.heap.size + 1, 0, none⟩) 1 1, .slice none 0 0, .slice none 0 0, .bool false]) c1 rfl)
  clear c1 cc
  go_enter Tryz.func12, Tryz.ntmps12
  go_wp2
  try rw [hW0]
  try rw [hW1]
  obtain ⟨WE, hWE⟩ : ∃ W, W1.setCells w.heap.size 0 [.string x, .slice (some ⟨w.heap.size + 1, 0, none⟩) 1 1, .slice none 0 0, .slice none 0 0, .bool false] = W := ⟨_, rfl⟩
  have hWE2 : (((((W1.setCell ⟨w.heap.size, 0, none⟩ (.string x)).setCell ⟨w.heap.size, 1, none⟩ (.slice (some ⟨w.heap.size + 1, 0, none⟩) 1 1)).setCell ⟨w.heap.size, 2, none⟩ (.slice none 0 0)).setCell ⟨w.heap.size, 3, none⟩ (.slice none 0 0)).setCell ⟨w.heap.size, 4, none⟩ (.bool false)) = WE := hWE
  rw [hWE] at P
  try rw [hWE2]
  clear hWE hWE2
  obtain ⟨PC, hsz, hbl, hkp⟩ := P.out
  refine bodyPost_ret (by simp [results, Tryz.results12, go_sem, PC.at_ 0 _ rfl, PC.at_ 1 _ rfl, PC.at_ 2 _ rfl, PC.at_ 3 _ rfl, PC.at_ 4 _ rfl]; try rfl) rfl ?_
  exact ⟨_, _, _, rfl, ⟨hx, (HR.out.far hsz (fun b o s e => hbl b (by cases e; omega))), Reads.nil _, Reads.nil _⟩, hkp _ _ (Nat.le_refl _) KW.out⟩
set_option maxRecDepth 100000 in
set_option maxHeartbeats 1600000 in
theorem lawP_any (x : ByteArray) (c : Int) (y : ByteArray) (hc : -9223372036854775808 ≤ c ∧ c ≤ 9223372036854775807) (hx : x.size ≤ maxLen) (hy : y.size ≤ maxLen) (w : World) :
    Calls Tryz.prog 13 #[.string x, .int .i64 c, .string y] w fun e w' => ∃ b1 n1 d1, e = .returned (.agg #[.string x, .string ⟨#[]⟩, .int .i64 0, .slice b1 n1 d1, .slice none 0 0, .slice none 0 0, .slice none 0 0, .string ⟨#[]⟩, .int .i64 0, .string y, .bool false]) ∧ PodAt w' (.slice b1 n1 d1) (.slice none 0 0) (.slice none 0 0) (.slice none 0 0) (podK x c y) ∧ Kept w w' := by
  have cc := freshN w (.string ⟨#[]⟩) [.string ⟨#[]⟩, .int .i64 0, .slice none 0 0, .slice none 0 0, .slice none 0 0, .slice none 0 0, .string ⟨#[]⟩, .int .i64 0, .string ⟨#[]⟩, .bool false] 49 _ (Kept.refl _)
  obtain ⟨W0, hW0⟩ : ∃ W, w.alloc (.cells #[.string ⟨#[]⟩, .string ⟨#[]⟩, .int .i64 0, .slice none 0 0, .slice none 0 0, .slice none 0 0, .slice none 0 0, .string ⟨#[]⟩, .int .i64 0, .string ⟨#[]⟩, .bool false] 49) = W := ⟨_, rfl⟩
  have hs : W0.heap.size = w.heap.size + 1 := by rw [← hW0]; simp
  rw [hW0] at cc
  obtain ⟨W1, hW1⟩ : ∃ W, W0.alloc (.cells #[.string ⟨#[99, 112, 117]⟩, .int .i64 c] 103) = W := ⟨_, rfl⟩
  have HR := Lib.hid (one_amount W0 c hc W1 (by rw [hW1]; exact Kept.refl _))
  rw [hs] at HR
  have c1 := cc.kept (W' := W1) (by rw [← hW1]; exact kept_alloc _ _)
  have KW := Lib.hid (show Kept w W1 by rw [← hW1, ← hW0]; exact kept_two _ _ _)
  have y0 := c1.at_ 0 _ rfl
  have y1 := c1.at_ 1 _ rfl
  have y2 := c1.at_ 2 _ rfl
  have y3 := c1.at_ 3 _ rfl
  have y4 := c1.at_ 4 _ rfl
  have y5 := c1.at_ 5 _ rfl
  have y6 := c1.at_ 6 _ rfl
  have y7 := c1.at_ 7 _ rfl
  have y8 := c1.at_ 8 _ rfl
  have y9 := c1.at_ 9 _ rfl
  have y10 := c1.at_ 10 _ rfl
  have f0 := c1.free 0
  have f1 := c1.free 1
  have f2 := c1.free 2
  have f3 := c1.free 3
  have f4 := c1.free 4
  have f5 := c1.free 5
  have f6 := c1.free 6
  have f7 := c1.free 7
  have f8 := c1.free 8
  have f9 := c1.free 9
  have f10 := c1.free 10
  have P := Lib.hid (putN (vs := [.string x, .string ⟨#[]⟩, .int .i64 0, .slice (some ⟨w.heap.size + 1, 0, none⟩) 1 1, .slice none 0 0, .slice none 0 0, .slice none 0 0, .string ⟨#[]⟩, .int .i64 0, .string y, .bool false]) c1 rfl)
  clear c1 cc
  go_enter Tryz.func13, Tryz.ntmps13
  go_wp2
  try rw [hW0]
  try rw [hW1]
  obtain ⟨WE, hWE⟩ : ∃ W, W1.setCells w.heap.size 0 [.string x, .string ⟨#[]⟩, .int .i64 0, .slice (some ⟨w.heap.size + 1, 0, none⟩) 1 1, .slice none 0 0, .slice none 0 0, .slice none 0 0, .string ⟨#[]⟩, .int .i64 0, .string y, .bool false] = W := ⟨_, rfl⟩
  have hWE2 : (((((((((((W1.setCell ⟨w.heap.size, 0, none⟩ (.string x)).setCell ⟨w.heap.size, 1, none⟩ (.string ⟨#[]⟩)).setCell ⟨w.heap.size, 2, none⟩ (.int .i64 0)).setCell ⟨w.heap.size, 3, none⟩ (.slice (some ⟨w.heap.size + 1, 0, none⟩) 1 1)).setCell ⟨w.heap.size, 4, none⟩ (.slice none 0 0)).setCell ⟨w.heap.size, 5, none⟩ (.slice none 0 0)).setCell ⟨w.heap.size, 6, none⟩ (.slice none 0 0)).setCell ⟨w.heap.size, 7, none⟩ (.string ⟨#[]⟩)).setCell ⟨w.heap.size, 8, none⟩ (.int .i64 0)).setCell ⟨w.heap.size, 9, none⟩ (.string y)).setCell ⟨w.heap.size, 10, none⟩ (.bool false)) = WE := hWE
  rw [hWE] at P
  try rw [hWE2]
  clear hWE hWE2
  obtain ⟨PC, hsz, hbl, hkp⟩ := P.out
  refine bodyPost_ret (by simp [results, Tryz.results13, go_sem, PC.at_ 0 _ rfl, PC.at_ 1 _ rfl, PC.at_ 2 _ rfl, PC.at_ 3 _ rfl, PC.at_ 4 _ rfl, PC.at_ 5 _ rfl, PC.at_ 6 _ rfl, PC.at_ 7 _ rfl, PC.at_ 8 _ rfl, PC.at_ 9 _ rfl, PC.at_ 10 _ rfl]; try rfl) rfl ?_
  exact ⟨_, _, _, rfl, ⟨hx, (by decide : (0 : Nat) ≤ maxLen), (by decide : (0 : Nat) ≤ maxLen), hy, (by decide : (-9223372036854775808 : Int) ≤ 0 ∧ (0 : Int) ≤ 9223372036854775807), (by decide : (-9223372036854775808 : Int) ≤ 0 ∧ (0 : Int) ≤ 9223372036854775807), (HR.out.far hsz (fun b o s e => hbl b (by cases e; omega))), Reads.nil _, Reads.nil _, Reads.nil _⟩, hkp _ _ (Nat.le_refl _) KW.out⟩
/-- A row laid in a block of its own. -/
theorem row_fresh {X : Type} {L : Lay X} {lx : List X} {q : Nat} {v : Value} {vs : List Value} {W : World} (hc : rowCells L lx = v :: vs) (c : CellsN q (v :: vs) W) (hf : ∀ x ∈ lx, L.fine x) (hm : lx.length ≤ maxLen) : RowAt L W (some ⟨q, 0, none⟩) lx.length lx :=
  ⟨rfl, hm, hf, .inr ⟨q, 0, rfl, c.lt, fun i x j u hi hj => by
    have := rowCells_at L lx i x j u hi hj
    rw [hc] at this
    rw [Nat.zero_add]
    exact c.at_ _ u this⟩⟩
theorem nodes_row {w : World} {a : Option Addr} {len : Nat} {lx : List NX} (h : RowAt NodLay0 w a len lx) (hf : ∀ z ∈ lx, At3 w z) : NodesAt w a len (lx.map fun z => z.1) := by
  obtain ⟨g0, g1, g2, g3⟩ := h
  refine ⟨by rw [List.length_map]; exact g0, g1, g3.imp id ?_⟩
  rintro ⟨b, off, rfl, hb, hc⟩
  refine ⟨b, off, rfl, hb, fun i n hi => ?_⟩
  rw [List.getElem?_map] at hi
  obtain ⟨z, hz, rfl⟩ := Option.map_eq_some_iff.1 hi
  exact ⟨_, _, _, _, _, _, _, _, _, hc i z 0 _ hz rfl, hc i z 1 _ hz rfl, hc i z 2 _ hz rfl, hc i z 3 _ hz rfl, hc i z 4 _ hz rfl, hf z (List.mem_of_getElem? hz)⟩
theorem pods_row {w : World} {a : Option Addr} {len : Nat} {lx : List PX} (h : RowAt PodLay0 w a len lx) (hf : ∀ z ∈ lx, At4 w z) : PodsAt w a len (lx.map fun z => z.1) := by
  obtain ⟨g0, g1, g2, g3⟩ := h
  refine ⟨by rw [List.length_map]; exact g0, g1, g3.imp id ?_⟩
  rintro ⟨b, off, rfl, hb, hc⟩
  refine ⟨b, off, rfl, hb, fun i n hi => ?_⟩
  rw [List.getElem?_map] at hi
  obtain ⟨z, hz, rfl⟩ := Option.map_eq_some_iff.1 hi
  exact ⟨_, _, _, _, hc i z 0 _ hz rfl, hc i z 1 _ hz rfl, hc i z 2 _ hz rfl, hc i z 3 _ hz rfl, hc i z 4 _ hz rfl, hc i z 5 _ hz rfl, hc i z 6 _ hz rfl, hc i z 7 _ hz rfl, hc i z 8 _ hz rfl, hc i z 9 _ hz rfl, hc i z 10 _ hz rfl, hf z (List.mem_of_getElem? hz)⟩
theorem buds_none (w : World) : BudsAt w none 0 [] := ⟨rfl, by decide, .inl rfl⟩

end Go.Proofs.YtjihpbbeoiddkaaGreat
