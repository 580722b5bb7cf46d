/- Package by package: contracts of the functions that the laws call. -/
import Derived.Test.YtflllkpnkcmegaaGreatDoorPodClone
import Derived.Test.YtflllkpnkcmegaaGreatDoorPodWords
import Derived.Test.YtflllkpnkcmegaaGreatDoorBase
import Derived.Test.YtflllkpnkcmegaaGreatDoorNodOf
import Derived.Test.YtflllkpnkcmegaaGreatDoorLab
import Derived.Test.YtflllkpnkcmegaaGreatDoorPodText
import Derived.Test.YtflllkpnkcmegaaGreatDoorNodParsed
import Derived.Test.YtflllkpnkcmegaaGreatDoorPodParsed
import Derived.Deep.RegionHeld3
import Derived.Handy
import Derived.Deep.CutRange
import Derived.Laws.ResultCell
import Derived.Recover
import Derived.Defers
import Derived.Laws.Pointers
import Derived.Test.YtflllkpnkcmegaaGreatDoorNodB
import Derived.Test.YtflllkpnkcmegaaGreatDoorPodFind
import Derived.Test.YtflllkpnkcmegaaGreatDoorPodChk
import Derived.Test.YtflllkpnkcmegaaGreatDoorPodVals

/- Budgets: how they are held, whether they may be. -/
namespace Go.Proofs.YtflllkpnkcmegaaGreatDoor
open Go.RowKit
set_option linter.unusedVariables false

/-- A budget's parts. -/
structure Bd where
  name : ByteArray
  sel : TL
  floor : Int
def Bd.zero : Bd := ⟨ByteArray.empty, [], 0⟩
abbrev BudV (n : Bd) (v1 : Value) : Value := .agg #[.string n.name, v1, .int .i64 n.floor]
/-- The row reads as the budget's. -/
structure BudAt (w : World) (v1 : Value) (n : Bd) : Prop where
  name : n.name.size ≤ maxLen
  floor : -9223372036854775808 ≤ n.floor ∧ n.floor ≤ 9223372036854775807
  sel : Reads TermLay w v1 n.sel
theorem BudAt.kept {w w' : World} {v1 : Value} {n : Bd} (h : BudAt w v1 n) (k : Kept w w') : BudAt w' v1 n := ⟨h.name, h.floor, h.sel.kept k⟩
/-- A value that reads as a budget. -/
def BudR (w : World) (v : Value) (n : Bd) : Prop := ∃ v1, v = BudV n v1 ∧ BudAt w v1 n
theorem BudR.kept {w w' : World} {v : Value} {n : Bd} (h : BudR w v n) (k : Kept w w') : BudR w' v n := by
  obtain ⟨v1, e, h⟩ := h
  exact ⟨v1, e, h.kept k⟩
/-- A value that reads as a budget, its row not below block B. -/
def BudRB (B : Nat) (w : World) (v : Value) (n : Bd) : Prop := ∃ b1 n1 d1, v = BudV n (.slice b1 n1 d1) ∧ BudAt w (.slice b1 n1 d1) n ∧ Behind B b1
theorem BudAt.far {B : Nat} {w w' : World} {n : Bd} {b1 : Option Addr} {n1 d1 : Nat} (h : BudAt w (.slice b1 n1 d1) n) (hs : w'.heap.size = w.heap.size) (hb : ∀ b, B ≤ b → w'.heap[b]? = w.heap[b]?) (g1 : Behind B b1) : BudAt w' (.slice b1 n1 d1) n :=
  ⟨h.name, h.floor, h.sel.far hs (fun b o s e => hb b (g1 b o s e))⟩
theorem BudRB.far {B : Nat} {w w' : World} {v : Value} {n : Bd} (h : BudRB B w v n) (hs : w'.heap.size = w.heap.size) (hb : ∀ b, B ≤ b → w'.heap[b]? = w.heap[b]?) : BudRB B w' v n := by
  obtain ⟨b1, n1, d1, e, h, g1⟩ := h
  exact ⟨b1, n1, d1, e, h.far hs hb g1, g1⟩
theorem BudRB.less {B B' : Nat} {w : World} {v : Value} {n : Bd} (h : BudRB B w v n) (hb : B' ≤ B) : BudRB B' w v n := by
  obtain ⟨b1, n1, d1, e, h, g1⟩ := h
  exact ⟨b1, n1, d1, e, h, g1.less hb⟩
theorem BudRB.kept {B : Nat} {w w' : World} {v : Value} {n : Bd} (h : BudRB B w v n) (k : Kept w w') : BudRB B w' v n := by
  obtain ⟨b1, n1, d1, e, h, g1⟩ := h
  exact ⟨b1, n1, d1, e, h.kept k, g1⟩
theorem zero_readsB (B : Nat) (w : World) : BudRB B w (.agg #[.string ⟨#[]⟩, .slice none 0 0, .int .i64 0]) Bd.zero :=
  ⟨none, 0, 0, rfl, ⟨(by decide : (0 : Nat) ≤ maxLen), by decide, Reads.nil _⟩, Behind.none _⟩
theorem BudAt.spelt {w : World} {v1 : Value} {n : Bd} (h : BudAt w v1 n) : ∃ b1 n1 d1, v1 = .slice b1 n1 d1 := by
  obtain ⟨a, c, e, -⟩ := h.sel
  exact ⟨_, _, _, e⟩

def chkBName (x : ByteArray) : Int := if isName x = true then 0 else 3
def chkFloor (m : Int) : Int := if m < 0 ∨ 128 < m then 1 else 0
/-- What is wrong with a budget. -/
def chkBud (n : Bd) : Int := orL [chkBName n.name, chkL n.sel, chkFloor n.floor]

theorem checkBName_any (x : ByteArray) (w : World) (hx : x.size ≤ maxLen) :
    Calls Tryz.prog 151 #[.string x] w fun e w' => e = .returned (.int .i64 (chkBName x)) ∧ w = w' := by
  obtain ⟨q, hq⟩ : ∃ q, isName x = q := ⟨_, rfl⟩
  have HV := Lib.hid (show chkBName x = if q = true then 0 else 3 by unfold chkBName; rw [hq])
  have HR := Lib.hid hq
  have HX := Lib.hid hx
  clear hq hx
  cases q <;>
  (go_enter Tryz.func151, Tryz.ntmps151
   go_wp2_with fail
   refine (Vec.nameR HX.out HR.out).mono ?_
   rintro e w' ⟨rfl, rfl⟩
   go_wp2
   go_ret
   exact ⟨ret_i64 HV.out.symm, rfl⟩)
theorem checkFloor_any (m : Int) (w : World) :
    Calls Tryz.prog 152 #[.int .i64 m] w fun e w' => e = .returned (.int .i64 (chkFloor m)) ∧ w = w' := by
  by_cases z : m < 0
  · have HW := Lib.hid (show chkFloor m = 1 by unfold chkFloor; rw [if_pos (.inl z)])
    go_enter Tryz.func152, Tryz.ntmps152
    go_wp2
    go_ret
    exact ⟨ret_i64 HW.out.symm, rfl⟩
  · by_cases y : 128 < m
    · have HW := Lib.hid (show chkFloor m = 1 by unfold chkFloor; rw [if_pos (.inr y)])
      have z' : 0 ≤ m := by omega
      clear z
      go_enter Tryz.func152, Tryz.ntmps152
      go_wp2
      go_ret
      exact ⟨ret_i64 HW.out.symm, rfl⟩
    · have HW := Lib.hid (show chkFloor m = 0 by unfold chkFloor; rw [if_neg (by omega)])
      have z' : 0 ≤ m := by omega
      have y' : m ≤ 128 := by omega
      clear z y
      go_enter Tryz.func152, Tryz.ntmps152
      go_wp2
      go_ret
      exact ⟨ret_i64 HW.out.symm, rfl⟩
theorem three_cells (W : World) (x1 x2 x3 : Int) (T : TypeId) (i : Nat) (x : Int) (hi : ([x1, x2, x3] : List Int)[i]? = some x) :
    (W.alloc (.cells #[.int .i64 x1, .int .i64 x2, .int .i64 x3] T)).cell? ⟨W.heap.size, i, none⟩ = some (.int .i64 x) := by
  refine (freshN W (.int .i64 x1) [.int .i64 x2, .int .i64 x3] T _ (Kept.refl _)).at_ i _ ?_
  match i, hi with
  | 0, h => simpa using h
  | 1, h => simpa using h
  | 2, h => simpa using h
  | j + 3, h => simp at h
set_option maxRecDepth 100000 in
set_option maxHeartbeats 4000000 in
theorem checkB_any (n : Bd) (v1 : Value) (w : World) (h : BudAt w v1 n) :
    Calls Tryz.prog 97 #[BudV n v1] w (Say (.int .i64 (chkBud n)) w) := by
  obtain ⟨W0, hW0⟩ : ∃ W0, w.alloc (.cells #[.string n.name, v1, .int .i64 n.floor] 70) = W0 := ⟨_, rfl⟩
  have hk0 : Kept w W0 := by rw [← hW0]; exact kept_alloc _ _
  have HC := Lib.hid (show ∀ W, Kept W0 W → W.cell? ⟨w.heap.size, 0, none⟩ = some (.string n.name) ∧ W.cell? ⟨w.heap.size, 1, none⟩ = some (v1) ∧ W.cell? ⟨w.heap.size, 2, none⟩ = some (.int .i64 n.floor) from fun W k => by
    have c := freshN w (.string n.name) [v1, .int .i64 n.floor] 70 W (by rw [hW0]; exact k)
    exact ⟨c.at_ 0 _ rfl, c.at_ 1 _ rfl, c.at_ 2 _ rfl⟩)
  have E1 := Lib.hid (fun W => checkBName_any n.name W h.name)
  have E5 := Lib.hid (fun W (k : Kept W0 W) => checkSelR (h.sel.kept (hk0.trans k)) rfl)
  have E7 := Lib.hid (fun W => checkFloor_any n.floor W)
  have HK0 := Lib.hid hk0
  obtain ⟨x1, hx1⟩ : ∃ x, chkBName n.name = x := ⟨_, rfl⟩
  rw [hx1] at E1
  obtain ⟨x2, hx2⟩ : ∃ x, chkL n.sel = x := ⟨_, rfl⟩
  rw [hx2] at E5
  obtain ⟨x3, hx3⟩ : ∃ x, chkFloor n.floor = x := ⟨_, rfl⟩
  rw [hx3] at E7
  have HV := Lib.hid (show chkBud n = orL [x1, x2, x3] by unfold chkBud; rw [hx1, hx2, hx3])
  have ORC := Lib.hid (fun W => three_cells W x1 x2 x3 41)
  clear hx1 hx2 hx3 h hk0
  obtain ⟨c0, c1, c2⟩ := HC.out _ (Kept.refl _)
  unfold BudV
  go_enter Tryz.func97, Tryz.ntmps97
  go_wp2
  try rw [hW0]
  clear hW0
  go_region_held3 (fun W => W.cell? ⟨w.heap.size, 0, none⟩ = some (.string n.name) ∧ W.cell? ⟨w.heap.size, 1, none⟩ = some (v1) ∧ W.cell? ⟨w.heap.size, 2, none⟩ = some (.int .i64 n.floor))
    (first | exact HC.out _ (Kept.drew _) | exact HC.out _ K5.out | exact HC.out _ (K5.out.trans (kept_alloc _ _)))
    (first | (go_at_call 151; refine (E1.out _).mono ?_; rintro e1 w1 ⟨rfl, rfl⟩)
           | (go_at_call 59; refine (E5.out _ (Kept.drew _)).mono ?_; rintro e5 w5 ⟨rfl, k5⟩; have K5 := Lib.hid ((Kept.drew _).trans k5); clear k5)
           | (go_at_call 152; refine (E7.out _).mono ?_; rintro e7 w7 ⟨rfl, rfl⟩)
           | (go_at_call 54; refine (orE_any _ 3 [x1, x2, x3] _ rfl (by decide) (ORC.out _)).mono ?_; rintro e9 w9 ⟨rfl, rfl⟩))
  go_wp2
  go_ret
  exact ⟨ret_i64 HV.out.symm, HK0.out.trans (K5.out.trans (kept_alloc _ _))⟩
theorem checkBR {v : Value} {n : Bd} {c : Int} {w : World} (h : BudR w v n) (hc : chkBud n = c) : Calls Tryz.prog 97 #[v] w (Say (.int .i64 c) w) := by
  subst hc
  obtain ⟨v1, rfl, h⟩ := h
  exact checkB_any n v1 w h

/-- A row of budgets lies at a. -/
def BudsAt (w : World) (a : Option Addr) (len : Nat) (l : List Bd) : Prop :=
  l.length = len ∧ len ≤ maxLen ∧ (len = 0 ∨ ∃ b off, a = some ⟨b, off, none⟩ ∧ b < w.heap.size ∧ ∀ i n, l[i]? = some n → ∃ v1,
    w.cell? ⟨b, off + i * 3, none⟩ = some (.string n.name) ∧ w.cell? ⟨b, off + i * 3 + 1, none⟩ = some (v1) ∧ w.cell? ⟨b, off + i * 3 + 2, none⟩ = some (.int .i64 n.floor) ∧ BudAt w v1 n)
theorem BudsAt.kept {w w' : World} {a : Option Addr} {len : Nat} {l : List Bd} (h : BudsAt w a len l) (k : Kept w w') : BudsAt w' a len l := by
  obtain ⟨h0, h1, h2⟩ := h
  refine ⟨h0, h1, h2.imp id ?_⟩
  rintro ⟨b, off, rfl, hb, hc⟩
  refine ⟨b, off, rfl, Nat.lt_of_lt_of_le hb k.size, fun i n hi => ?_⟩
  obtain ⟨v1, p0, p1, p2, hn⟩ := hc i n hi
  exact ⟨v1, cell_later k p0, cell_later k p1, cell_later k p2, hn.kept k⟩
theorem BudsAt.form {w : World} {a : Option Addr} {len : Nat} {l : List Bd} (h : BudsAt w a len l) : len = 0 ∨ ∃ b off, a = some ⟨b, off, none⟩ := by
  obtain ⟨_, _, h2⟩ := h
  exact h2.imp id fun ⟨b, off, e, _⟩ => ⟨b, off, e⟩
theorem BudsAt.at_ {w : World} {b off len : Nat} {l : List Bd} {k : Nat} (h : BudsAt w (some ⟨b, off, none⟩) len l) (hk : k < len) : ∃ n a1 m1 c1, l[k]? = some n ∧ l.drop k = n :: l.drop (k + 1) ∧ b < w.heap.size ∧
    w.cell? ⟨b, off + k * 3, none⟩ = some (.string n.name) ∧ w.cell? ⟨b, off + k * 3 + 1, none⟩ = some (.slice a1 m1 c1) ∧ w.cell? ⟨b, off + k * 3 + 2, none⟩ = some (.int .i64 n.floor) ∧ BudAt w (.slice a1 m1 c1) n := by
  obtain ⟨h0, _, h3⟩ := h
  have hkl : k < l.length := by omega
  rcases h3 with h3 | ⟨b', off', e, hb, hc⟩
  · omega
  · injection e with e; injection e with e1 e2 e3; subst e1; subst e2
    have he : l[k]? = some l[k] := List.getElem?_eq_getElem hkl
    obtain ⟨v1, r⟩ := hc k _ he
    obtain ⟨a1, m1, c1, rfl⟩ := BudAt.spelt r.2.2.2
    exact ⟨l[k], a1, m1, c1, he, List.drop_eq_getElem_cons hkl, hb, r⟩
def BudsR (w : World) (v : Value) (l : List Bd) : Prop := ∃ a cap, v = .slice a l.length cap ∧ l.length ≤ cap ∧ cap ≤ maxLen ∧ BudsAt w a l.length l
theorem BudsR.kept {w w' : World} {v : Value} {l : List Bd} (h : BudsR w v l) (k : Kept w w') : BudsR w' v l := by
  obtain ⟨a, cap, e, h1, h2, h3⟩ := h
  exact ⟨a, cap, e, h1, h2, h3.kept k⟩

end Go.Proofs.YtflllkpnkcmegaaGreatDoor

/- Three words. -/
namespace Go.Proofs.YtflllkpnkcmegaaGreatDoor
open Go.RowKit
set_option linter.unusedVariables false

set_option maxRecDepth 100000 in
set_option maxHeartbeats 1600000 in
theorem pwords3 (s : List UInt8) (w : World) (hE : Env w) (hs : s.length ≤ 1000000) :
    Calls Tryz.prog 115 #[.string (bytes s), .int .i64 3] w (Split 3 s w) := by
  obtain ⟨m, hm⟩ := hE.most
  have HSP := Lib.hid (Tryz.strings_SplitN (bytes s) ⟨#[32]⟩ 4 m w (by rw [bytes_size]; omega) hm (by decide) (by decide) (by decide))
  obtain ⟨h5, hn5⟩ := split_k 3 s
  obtain ⟨L, hL⟩ : ∃ L, Lib.splitB ⟨#[32]⟩ 0 (min 4 ((bytes s).size + 1) - 1) (bytes s) = L := ⟨_, rfl⟩
  obtain ⟨n, hn⟩ : ∃ n, min 4 ((bytes s).size + 1) = n := ⟨_, rfl⟩
  rw [hL] at h5 hn5 HSP
  rw [hn] at HSP
  have hcap : L.length ≤ n := by
    rw [← hL, ← hn]
    have := Lib.splitB_length_le ⟨#[32]⟩ 0 (min 4 ((bytes s).size + 1) - 1) (bytes s)
    omega
  by_cases hp : (partsAt 32 s).length = 3
  · have hLp := h5 hp
    have HP := Lib.hid hp
    obtain ⟨ps, hps⟩ : ∃ ps, partsAt 32 s = ps := ⟨_, rfl⟩
    have HPS := Lib.hid hps
    rw [hps] at hp hLp
    have hl5 : L.length = 3 := by rw [hLp, List.length_map, hp]
    rw [hl5] at HSP
    have HC := Lib.hid (show ∀ j p, ps[j]? = some p → (w.alloc (.cells (Lib.cellsOf L n) 9)).cell? ⟨w.heap.size, j, none⟩ = some (.string (bytes p)) from fun j p hj => by
      have hh := w.alloc_heap_new (.cells (Lib.cellsOf L n) 9)
      have hj5 : j < L.length := by have := (List.getElem?_eq_some_iff.1 hj).1; omega
      have hLj : L[j]? = some (bytes p) := by rw [hLp, List.getElem?_map, hj]; rfl
      rw [Lib.cell_of_heap hh]
      show (Lib.cellsOf L n)[j]? = some (.string (bytes p))
      unfold Lib.cellsOf
      rw [List.getElem?_toArray, List.getElem?_append_left (by rw [List.length_map]; exact hj5), List.getElem?_map, hLj]; rfl)
    have hcap5 : 3 ≤ n := by omega
    clear h5 hn5 hcap hE hm hL hn hLp hl5 hp hps
    go_enter Tryz.func115, Tryz.ntmps115
    go_wp2_with fail
    refine HSP.out.mono ?_
    rintro e w1 ⟨rfl, rfl⟩
    go_wp2
    go_ret
    exact ⟨fun _ => ⟨_, _, rfl, Nat.le_refl _, by rw [HPS.out]; exact HC.out⟩, fun h => absurd HP.out h, kept_alloc _ _⟩
  · obtain ⟨k, hk⟩ : ∃ k, L.length = k := ⟨_, rfl⟩
    have hk5 : k ≠ 3 := by rw [← hk]; exact hn5 hp
    rw [hk] at HSP
    have HP := Lib.hid hp
    have hb : ((k : Int) != 3) = true := by simp; omega
    clear h5 hn5 hcap hp hE hm hL hn hk hk5
    go_enter Tryz.func115, Tryz.ntmps115
    go_wp2_with fail
    refine HSP.out.mono ?_
    rintro e w1 ⟨rfl, rfl⟩
    go_wp2
    exact ⟨rfl, ⟨fun h => absurd h HP.out, fun _ => rfl, kept_alloc _ _⟩⟩


end Go.Proofs.YtflllkpnkcmegaaGreatDoor

/- Which pods count for a budget, how many do. -/
namespace Go.Proofs.YtflllkpnkcmegaaGreatDoor
open Go.RowKit
set_option linter.unusedVariables false

/-- Does a pod count for a budget? -/
def covB (b : Bd) (p : Pd) : Bool := !isNo p.node && (!p.hold && matchT b.sel p.labels)
/-- How many do. -/
def cntB (b : Bd) : List Pd → Nat
  | [] => 0
  | p :: t => (if covB b p = true then 1 else 0) + cntB b t
theorem cntB_append (b : Bd) : ∀ l m : List Pd, cntB b (l ++ m) = cntB b l + cntB b m
  | [], m => by rw [List.nil_append, cntB, Nat.zero_add]
  | p :: t, m => by rw [List.cons_append, cntB, cntB, cntB_append b t m, Nat.add_assoc]
theorem cntB_take {b : Bd} {l : List Pd} {k : Nat} {p : Pd} (h : l[k]? = some p) : cntB b (l.take (k + 1)) = cntB b (l.take k) + (if covB b p = true then 1 else 0) := by
  rw [take_snoc h, cntB_append]; rfl
set_option maxRecDepth 100000 in
set_option maxHeartbeats 1600000 in
theorem covB_any (b : Bd) (v : Value) (p : Pd) (v1 v2 v3 v4 : Value) (w : World) (hb : BudAt w v b) (hp : PodAt w v1 v2 v3 v4 p) :
    Calls Tryz.prog 102 #[BudV b v, PodV p v1 v2 v3 v4] w (Say (.bool (covB b p)) w) := by
  obtain ⟨x, l0, m⟩ := b
  obtain ⟨p0, p1, p2, l1, l2, l3, l4, p3, p4, p5, p6⟩ := p
  obtain ⟨W0, hW0⟩ : ∃ Z, (w.alloc (.cells #[.string x, v, .int .i64 m] 70)).alloc (.cells #[.string p0, .string p1, .int .i64 p2, v1, v2, v3, v4, .string p3, .int .i64 p4, .string p5, .bool p6] 30) = Z := ⟨_, rfl⟩
  have hk0 : Kept w W0 := by rw [← hW0]; exact kept_two _ _ _
  have c := freshN w (.string x) [v, .int .i64 m] 70 W0 (by rw [← hW0]; exact kept_alloc _ _)
  have d := freshN (w.alloc (.cells #[.string x, v, .int .i64 m] 70)) (.string p0) [.string p1, .int .i64 p2, v1, v2, v3, v4, .string p3, .int .i64 p4, .string p5, .bool p6] 30 W0 (by rw [hW0]; exact Kept.refl _)
  rw [World.size_alloc] at d
  have b0 := c.at_ 0 _ rfl
  have b1 := c.at_ 1 _ rfl
  have b2 := c.at_ 2 _ rfl
  have q0 := d.at_ 0 _ rfl
  have q1 := d.at_ 1 _ rfl
  have q2 := d.at_ 2 _ rfl
  have q3 := d.at_ 3 _ rfl
  have q4 := d.at_ 4 _ rfl
  have q5 := d.at_ 5 _ rfl
  have q6 := d.at_ 6 _ rfl
  have q7 := d.at_ 7 _ rfl
  have q8 := d.at_ 8 _ rfl
  have q9 := d.at_ 9 _ rfl
  have q10 := d.at_ 10 _ rfl
  obtain ⟨t, ht⟩ : ∃ t, matchT l0 l2 = t := ⟨_, rfl⟩
  have HM := Lib.hid (matchR (hb.sel.kept hk0) (hp.labels.kept hk0) ht)
  obtain ⟨n, hn⟩ : ∃ n, (p5.toList == ([] : List UInt8)) = n := ⟨_, rfl⟩
  have HV := Lib.hid (show covB ⟨x, l0, m⟩ ⟨p0, p1, p2, l1, l2, l3, l4, p3, p4, p5, p6⟩ = (!n && (!p6 && t)) by show (!isNo p5 && (!p6 && matchT l0 l2)) = _; rw [no_iff, hn, ht])
  have HK0 := Lib.hid hk0
  clear hb hp hk0 c d ht
  unfold BudV PodV
  dsimp only
  cases n with
  | true =>
    go_enter Tryz.func102, Tryz.ntmps102
    go_wp2
    go_ret
    exact ⟨ret_bool HV.out.symm, by first | exact HK0.out | (rw [hW0]; exact HK0.out)⟩
  | false =>
    cases p6 with
    | true =>
      go_enter Tryz.func102, Tryz.ntmps102
      go_wp2
      go_ret
      exact ⟨ret_bool HV.out.symm, by first | exact HK0.out | (rw [hW0]; exact HK0.out)⟩
    | false =>
      go_enter Tryz.func102, Tryz.ntmps102
      go_wp2_with fail
      try rw [hW0]
      refine HM.out.mono ?_
      rintro e w1 ⟨rfl, k⟩
      have K := Lib.hid k
      clear k
      go_wp2
      go_ret
      exact ⟨ret_bool HV.out.symm, HK0.out.trans K.out⟩
set_option maxRecDepth 100000 in
set_option maxHeartbeats 3200000 in
theorem countB_any (b : Bd) (s1 : Option Addr) (s2 s3 : Nat) (a : Option Addr) (len cap : Nat) (l : List Pd) (w : World) (hb : BudAt w (.slice s1 s2 s3) b) (hr : PodsAt w a len l) :
    Calls Tryz.prog 32 #[BudV b (.slice s1 s2 s3), .slice a len cap] w (Say (.int .i64 (cntB b l)) w) := by
  have hl := hr.1
  have hm := hr.2.1
  unfold maxLen at hm
  obtain ⟨x, l0, m⟩ := b
  obtain ⟨W0, hW0⟩ : ∃ Z, w.alloc (.cells #[.string x, .slice s1 s2 s3, .int .i64 m] 70) = Z := ⟨_, rfl⟩
  have hk0 : Kept w W0 := by rw [← hW0]; exact kept_alloc _ _
  have HBC := Lib.hid (show ∀ W, Kept W0 W → W.cell? ⟨w.heap.size, 0, none⟩ = some (.string x) ∧ W.cell? ⟨w.heap.size, 1, none⟩ = some (.slice s1 s2 s3) ∧ W.cell? ⟨w.heap.size, 2, none⟩ = some (.int .i64 m) from fun W k => by
    have c := freshN w (.string x) [.slice s1 s2 s3, .int .i64 m] 70 W (by rw [hW0]; exact k)
    exact ⟨c.at_ 0 _ rfl, c.at_ 1 _ rfl, c.at_ 2 _ rfl⟩)
  have HBA := Lib.hid (fun W (k : Kept W0 W) => hb.kept (hk0.trans k))
  have HR := Lib.hid (hr.kept hk0)
  have HL := Lib.hid hl
  have HK0 := Lib.hid hk0
  by_cases h0 : len = 0
  · subst h0
    have HE := Lib.hid (show cntB ⟨x, l0, m⟩ l = 0 by rw [List.eq_nil_of_length_eq_zero hl]; rfl)
    clear hr hl hb hk0
    unfold BudV
    go_enter Tryz.func32, Tryz.ntmps32
    go_wp2
    try rw [hW0]
    refine wp_loop_rounds 1 ?_
    rw [rounds_succ]
    go_wp2
    go_ret
    exact ⟨by rw [HE.out]; rfl, HK0.out⟩
  · obtain ⟨b, off, rfl⟩ := hr.form.resolve_left h0
    clear hr hl hb hk0 h0
    unfold BudV
    dsimp only
    go_enter Tryz.func32, Tryz.ntmps32
    go_wp2
    try rw [hW0]
    go_loopw [5, 10] (fun s i wr => ∃ k c : Nat, k ≤ len ∧ c ≤ k ∧ i = .int .i64 k ∧ s = .int .i64 c ∧ cntB ⟨x, l0, m⟩ (l.take k) = c ∧ Kept W0 wr) (fun _ i _ => len - (intOf i).toNat)
    case atStart => exact ⟨0, 0, Nat.zero_le _, Nat.le_refl _, rfl, rfl, rfl, Kept.refl _⟩
    case round =>
      obtain ⟨k, c, hk, hck, rfl, rfl, hc, hK⟩ := hrel
      have HCN := Lib.hid hc
      have HK := Lib.hid hK
      by_cases hlt : k < len
      · obtain ⟨n, a1, m1, c1, a2, m2, c2, a3, m3, c3, a4, m4, c4, hn, hd, hb, p0, p1, p2, p3, p4, p5, p6, p7, p8, p9, p10, hat⟩ := (HR.out.kept hK).at_ hlt
        have HN := Lib.hid hn
        have HCV := Lib.hid (fun W (kk : Kept wr W) => covB_any ⟨x, l0, m⟩ (.slice s1 s2 s3) n (.slice a1 m1 c1) (.slice a2 m2 c2) (.slice a3 m3 c3) (.slice a4 m4 c4) W (HBA.out _ (hK.trans kk)) (hat.kept kk))
        unfold BudV PodV at HCV
        dsimp only at HCV
        obtain ⟨t, ht⟩ : ∃ t, covB ⟨x, l0, m⟩ n = t := ⟨_, rfl⟩
        have HT := Lib.hid ht
        rw [ht] at HCV
        have hkk : (k : Int) < (len : Int) := by omega
        obtain ⟨z0, z1, z2⟩ := HBC.out _ (hK.trans (kept_alloc wr (.cells #[.string n.name, .string n.owner, .int .i64 n.prio, .slice a1 m1 c1, .slice a2 m2 c2, .slice a3 m3 c3, .slice a4 m4 c4, .string n.key, .int .i64 n.most, .string n.node, .bool n.hold] 30)))
        clear hc hK hat hd hn ht
        go_wp2_with fail
        refine (HCV.out _ (kept_alloc _ _)).mono ?_
        rintro e w1 ⟨rfl, kk⟩
        have KW := Lib.hid (HK.out.trans ((kept_alloc _ _).trans kk))
        clear kk z0 z1 z2
        cases t with
        | true =>
          have HX := Lib.hid (show cntB ⟨x, l0, m⟩ (l.take (k + 1)) = c + 1 by rw [cntB_take HN.out, HCN.out, if_pos HT.out])
          go_wp2
          go_roundw
          case rel => exact ⟨k + 1, c + 1, by omega, by omega, by go_num, by go_num, HX.out, KW.out⟩
          case measure => simp [intOf]; omega
        | false =>
          have HX := Lib.hid (show cntB ⟨x, l0, m⟩ (l.take (k + 1)) = c by rw [cntB_take HN.out, HCN.out, if_neg (by rw [HT.out]; decide)]; rfl)
          go_wp2
          go_roundw
          case rel => exact ⟨k + 1, c, by omega, by omega, by go_num, rfl, HX.out, KW.out⟩
          case measure => simp [intOf]; omega
      · have HE := Lib.hid (show cntB ⟨x, l0, m⟩ l = c by rw [← hc, List.take_of_length_le (by rw [HL.out]; omega)])
        clear hc hK
        go_wp2
        go_ret
        exact ⟨by rw [HE.out]; rfl, HK0.out.trans HK.out⟩
end Go.Proofs.YtflllkpnkcmegaaGreatDoor

/- Rows of names that read alike are alike. -/
namespace Go.Proofs.YtflllkpnkcmegaaGreatDoor
open Go.RowKit
set_option linter.unusedVariables false

set_option maxHeartbeats 800000 in
theorem names_any (a a9 : Option Addr) (len cap cap9 : Nat) (l : List ByteArray) (w : World) (hr : RowAt StrLay w a len l) (hr9 : RowAt StrLay w a9 len l) :
    Calls Tryz.prog 38 #[.slice a len cap, .slice a9 len cap9] w fun e w' => e = .returned (.bool true) ∧ Kept w w' := by
  have hl := hr.1
  have hm := hr.2.1
  unfold maxLen at hm
  by_cases h0 : len = 0
  · subst h0
    clear hr hl hr9
    go_enter Tryz.func38, Tryz.ntmps38
    go_wp2
    refine wp_loop_rounds 1 ?_
    rw [rounds_succ]
    go_wp2
    go_ret
    exact ⟨rfl, Kept.refl _⟩
  · obtain ⟨b, off, rfl⟩ : ∃ b off, a = some ⟨b, off, none⟩ := by
      rcases hr.form with h | h
      · exact absurd h h0
      · exact h
    obtain ⟨b9, off9, rfl⟩ : ∃ b off, a9 = some ⟨b, off, none⟩ := by
      rcases hr9.form with h | h
      · exact absurd h h0
      · exact h
    have HR := Lib.hid hr
    have HR9 := Lib.hid hr9
    clear hr hl hr9 h0
    go_enter Tryz.func38, Tryz.ntmps38
    go_wp2
    go_loopw [5] (fun i wr => ∃ k : Nat, k ≤ len ∧ i = .int .i64 k ∧ Kept w wr) (fun i _ => len - (intOf i).toNat)
    case atStart => exact ⟨0, Nat.zero_le _, rfl, Kept.refl _⟩
    case round =>
      obtain ⟨k, hk, rfl, hK⟩ := hrel
      have HK := Lib.hid hK
      by_cases hlt : k < len
      · obtain ⟨x, hx, hd, hb, hz, c1⟩ := (HR.out.kept hK).str hlt
        obtain ⟨x9, hx9, _, hb9, _, d1⟩ := (HR9.out.kept hK).str hlt
        obtain rfl : x = x9 := by rw [hx] at hx9; exact Option.some.inj hx9
        clear hx hd hx9 hK
        go_wp2
        go_quiet (fail)
        go_wp2
        go_roundw
        case rel => exact ⟨k + 1, by omega, by go_num, HK.out.trans (Kept.drewN _ _)⟩
        case measure => simp [intOf]; omega
      · clear hK
        go_wp2
        go_ret
        exact ⟨rfl, HK.out⟩
theorem namesR {v v9 : Value} {l : List ByteArray} {w : World} (h : Reads StrLay w v l) (h9 : Reads StrLay w v9 l) : Calls Tryz.prog 38 #[v, v9] w (Say (.bool true) w) := by
  obtain ⟨a, cap, rfl, _, _, hr⟩ := h
  obtain ⟨a9, cap9, rfl, _, _, hr9⟩ := h9
  exact names_any a a9 _ cap cap9 l w hr hr9


end Go.Proofs.YtflllkpnkcmegaaGreatDoor

/- Which budgets are breached. -/
namespace Go.Proofs.YtflllkpnkcmegaaGreatDoor
open Go.RowKit
set_option linter.unusedVariables false

/-- Which are breached, by name. -/
def brkB (bs : List Bd) (l : List Pd) : List ByteArray := (bs.filter fun b => decide ((cntB b l : Int) < b.floor)).map Bd.name
theorem brk_take {bs : List Bd} {l : List Pd} {k : Nat} {n : Bd} (h : bs[k]? = some n) : brkB (bs.take (k + 1)) l = brkB (bs.take k) l ++ (if (cntB n l : Int) < n.floor then [n.name] else []) := by
  unfold brkB
  rw [take_snoc h, List.filter_append, List.map_append]
  congr 1
  by_cases z : (cntB n l : Int) < n.floor
  · rw [if_pos z, List.filter_cons_of_pos (by simpa using z)]; rfl
  · rw [if_neg z, List.filter_cons_of_neg (by simpa using z)]; rfl
theorem brk_len (bs : List Bd) (l : List Pd) : (brkB bs l).length ≤ bs.length := by
  unfold brkB
  rw [List.length_map]
  exact List.length_filter_le _ _
theorem one_str0 (x : ByteArray) (u : Value) (h : u ∈ [Value.string x]) : u.oneCell' = true := one_s x u h
theorem infoSt : (Tryz.prog.info? 9).map (fun i => (i.zero, i.size, i.bytes)) = some (some (.string ByteArray.empty), 1, 16) := by kernel_rfl
set_option maxRecDepth 100000 in
set_option maxHeartbeats 8000000 in
theorem brk_any (a a9 : Option Addr) (len cap len9 cap9 : Nat) (bs : List Bd) (l : List Pd) (w : World) (hb : BudsAt w a len bs) (hr : PodsAt w a9 len9 l) (hn : len ≤ 1000) :
    Calls Tryz.prog 39 #[.slice a len cap, .slice a9 len9 cap9] w fun e w' => ∃ v, e = .returned v ∧ Own StrLay 9 w' w.heap.size v (brkB bs l) ∧ Kept w w' := by
  have hl := hb.1
  obtain ⟨i0, hi, hz0, hz1, hz2'⟩ := info_parts infoSt
  rcases hb.form with h0 | ⟨b, off, rfl⟩
  · subst h0
    have hl0 : bs = [] := List.eq_nil_of_length_eq_zero hl
    subst hl0
    clear hr hl hb hi hz0 hz1 hz2'
    go_enter Tryz.func39, Tryz.ntmps39
    go_wp2
    refine wp_loop_rounds 1 ?_
    rw [rounds_succ]
    go_wp2
    go_ret
    exact ⟨_, rfl, Own.nil _ _ _, Kept.refl _⟩
  · have HR := Lib.hid hb
    have HP := Lib.hid hr
    have HL := Lib.hid hl
    clear hr hl hb
    go_enter Tryz.func39, Tryz.ntmps39
    go_wp2
    go_loopw [5, 10] (fun v i wr => ∃ k : Nat, k ≤ len ∧ i = .int .i64 k ∧ ∃ la : List ByteArray, brkB (bs.take k) l = la ∧ Own StrLay 9 wr w.heap.size v la ∧ Below w.heap.size w wr) (fun _ i _ => len - (intOf i).toNat)
    case atStart => exact ⟨0, Nat.zero_le _, rfl, [], rfl, Own.nil _ _ _, Below.refl _ _⟩
    case round =>
      obtain ⟨k, hk, rfl, la, hla, ho, hB⟩ := hrel
      have HX := Lib.hid hla
      have HO := Lib.hid ho
      have HB := Lib.hid hB
      obtain ⟨m, hm⟩ : ∃ m, la.length = m := ⟨_, rfl⟩
      have hmk : m ≤ k := by
        have := brk_len (bs.take k) l
        rw [hla, hm, List.length_take] at this
        omega
      have HT := Lib.hid hm
      have HOWN := Lib.hid (show wr.ownsRow w.heap.size 9 1 u5 m (rowCells StrLay la) by have := HO.out.1; rw [hm] at this; exact this)
      have hbase : w.heap.size ≤ wr.heap.size := hB.size
      by_cases hlt : k < len
      · obtain ⟨n, a1, m1, c1, hn, hd, hb, p0, p1, p2, hat⟩ := (HR.out.kept hB).at_ hlt
        have HN := Lib.hid hn
        have HSZ := Lib.hid hat.name
        have HCT := Lib.hid (fun W (kk : Kept wr W) => countB_any n a1 m1 c1 a9 len9 cap9 l W (hat.kept kk) (HP.out.kept (Kept.trans hB kk)))
        unfold BudV at HCT
        obtain ⟨ct, hct⟩ : ∃ c, cntB n l = c := ⟨_, rfl⟩
        have HC := Lib.hid hct
        rw [hct] at HCT
        have hk1 : (k : Int) < (len : Int) := by omega
        obtain ⟨W1, hW1⟩ : ∃ W, wr.alloc (.cells #[.string n.name, .slice a1 m1 c1, .int .i64 n.floor] 70) = W := ⟨_, rfl⟩
        have HKA := Lib.hid (show Kept wr W1 by rw [← hW1]; exact kept_alloc _ _)
        have HS := Lib.hid (show ∀ W, Kept W1 W → W.cell? ⟨wr.heap.size, 0, none⟩ = some (.string n.name) ∧ W.cell? ⟨wr.heap.size, 1, none⟩ = some (.slice a1 m1 c1) ∧ W.cell? ⟨wr.heap.size, 2, none⟩ = some (.int .i64 n.floor) from fun W kk => by
          have c := freshN wr (.string n.name) [.slice a1 m1 c1, .int .i64 n.floor] 70 W (by rw [hW1]; exact kk)
          exact ⟨c.at_ 0 _ rfl, c.at_ 1 _ rfl, c.at_ 2 _ rfl⟩)
        clear hla ho hB hn hd hat hct hm
        by_cases z : (ct : Int) < n.floor
        · have HV := Lib.hid (show brkB (bs.take (k + 1)) l = la ++ [n.name] by rw [brk_take HN.out, HX.out, HC.out, if_pos z])
          go_wp2
          try rw [hW1]
          clear hW1
          clear p0 p1 p2
          obtain ⟨p0, p1, p2⟩ := HS.out _ (Kept.refl _)
          go_region_held3 (fun W => W.cell? ⟨wr.heap.size, 0, none⟩ = some (.string n.name) ∧ W.cell? ⟨wr.heap.size, 1, none⟩ = some (.slice a1 m1 c1) ∧ W.cell? ⟨wr.heap.size, 2, none⟩ = some (.int .i64 n.floor))
            (first | exact HS.out _ (Kept.drew _) | exact HS.out _ J1.out)
            (first | (go_at_call 32; refine (HCT.out _ (HKA.out.trans (Kept.drew _))).mono ?_; rintro e1 w1 ⟨rfl, kk⟩; have J1 := Lib.hid ((Kept.drew _).trans kk); clear kk))
          have KW := Lib.hid (HKA.out.trans J1.out)
          clear p0 p1 p2
          obtain ⟨p0, p1, p2⟩ := HS.out _ J1.out
          have HOW2 := Lib.hid (show w1.ownsRow w.heap.size 9 1 u5 m (rowCells StrLay la) by have := (HO.out.kept KW.out).1; rw [HT.out] at this; exact this)
          have hs1 : wr.heap.size ≤ w1.heap.size := Below.size KW.out
          go_wp2_with (at_builtin; refine wpList_append_lies _ rfl _ _ _ rfl w.heap.size 9 i0 _ 1 16 Tryz.underlying80 hi hz0 hz1 hz2' rfl (by decide) u5 m (rowCells StrLay la) rfl (HOW2.out.alloc _) ⟨w1.heap.size, 0, none⟩ 1 1 (StrLay.cs n.name) rfl rfl (World.news_of_block (cs := #[.string n.name]) (t := 9) (fr := (0, 0)) (heap_alloc_new w1 _)) (one_str0 n.name) (by decide) (by unfold maxLen; omega) (by omega) (by simp; omega) (w1.heap.size + 1) (by simp) ?_; intro gg cap1 w2 hown1 hgrow hat hlt1)
          have HBW := Lib.hid ((HB.out.trans ((Below.mono KW.out hbase).trans (Below.mono (kept_alloc w1 _) (by omega)))).grown hgrow (by simp; omega) (fun j hj => (HOWN.out.lt j hj).1))
          go_wp2
          go_roundw
          case rel => exact ⟨k + 1, by omega, by go_num, la ++ [n.name], HV.out, Own.snoc hown1 (by rw [HT.out]) HO.out.2 HSZ.out, HBW.out⟩
          case measure => simp [intOf]; omega
        · have HV := Lib.hid (show brkB (bs.take (k + 1)) l = la by rw [brk_take HN.out, HX.out, HC.out, if_neg z, List.append_nil])
          have z1 : n.floor ≤ (ct : Int) := by omega
          clear z
          go_wp2
          try rw [hW1]
          clear hW1
          clear p0 p1 p2
          obtain ⟨p0, p1, p2⟩ := HS.out _ (Kept.refl _)
          go_region_held3 (fun W => W.cell? ⟨wr.heap.size, 0, none⟩ = some (.string n.name) ∧ W.cell? ⟨wr.heap.size, 1, none⟩ = some (.slice a1 m1 c1) ∧ W.cell? ⟨wr.heap.size, 2, none⟩ = some (.int .i64 n.floor))
            (first | exact HS.out _ (Kept.drew _) | exact HS.out _ J1.out)
            (first | (go_at_call 32; refine (HCT.out _ (HKA.out.trans (Kept.drew _))).mono ?_; rintro e1 w1 ⟨rfl, kk⟩; have J1 := Lib.hid ((Kept.drew _).trans kk); clear kk))
          have KW := Lib.hid (HKA.out.trans J1.out)
          clear p0 p1 p2
          obtain ⟨p0, p1, p2⟩ := HS.out _ J1.out
          go_wp2
          go_roundw
          case rel => exact ⟨k + 1, by omega, by go_num, la, HV.out, HO.out.kept KW.out, HB.out.trans (Below.mono KW.out hbase)⟩
          case measure => simp [intOf]; omega
      · have HK := Lib.hid (show brkB bs l = la by rw [← hla, List.take_of_length_le (by rw [HL.out]; omega)])
        clear hla ho hB hm
        go_wp2
        go_ret
        exact ⟨_, rfl, by rw [HK.out]; exact HO.out, HB.out⟩
theorem brkR {v u : Value} {bs : List Bd} {l : List Pd} {x : List ByteArray} {w : World} (h : BudsR w v bs) (g : PodsR w u l) (hn : bs.length ≤ 1000) (hx : brkB bs l = x) :
    Calls Tryz.prog 39 #[v, u] w fun e w' => ∃ v, e = .returned v ∧ Reads StrLay w' v x ∧ Kept w w' := by
  subst hx
  obtain ⟨a, cap, rfl, _, _, hb⟩ := h
  obtain ⟨a9, cap9, rfl, _, _, hr⟩ := g
  refine (brk_any a a9 _ cap _ cap9 bs l w hb hr hn).mono ?_
  rintro e w' ⟨v, rfl, ho, k⟩
  exact ⟨v, rfl, ho.reads, k⟩

end Go.Proofs.YtflllkpnkcmegaaGreatDoor

/- A budget in words. -/
namespace Go.Proofs.YtflllkpnkcmegaaGreatDoor
open Go.RowKit
set_option linter.unusedVariables false

def textBd (n : Bd) : ByteArray := n.name ++ ⟨#[32]⟩ ++ textL n.sel ++ ⟨#[32]⟩ ++ bytes (Lib.itoa n.floor)
/-- Is it short? -/
def fewBd (n : Bd) : Bool := decide (n.name.size ≤ 50) && fewL n.sel
theorem fewBd_parts {n : Bd} (h : fewBd n = true) : n.name.size ≤ 50 ∧ fewL n.sel = true := by
  unfold fewBd at h
  simpa only [Bool.and_eq_true, decide_eq_true_eq] using h
theorem join_three (a b c : ByteArray) : (⟨(Lib.join ([a, b, c].map (·.data.toList)) [32]).toArray⟩ : ByteArray) = a ++ ⟨#[32]⟩ ++ b ++ ⟨#[32]⟩ ++ c := by
  apply Go.WideShapes.bytes_inj
  simp [Lib.join, List.intercalate, ByteArray.data_append]
theorem three_strings (W : World) (a0 a1 a2 : ByteArray) (T : TypeId) (i : Nat) (z : ByteArray) (hi : ([a0, a1, a2] : List ByteArray)[i]? = some z) :
    (W.alloc (.cells #[.string a0, .string a1, .string a2] T)).cell? ⟨W.heap.size, i, none⟩ = some (.string z) := by
  refine (freshN W (.string a0) [.string a1, .string a2] T _ (Kept.refl _)).at_ i _ ?_
  match i, hi with
  | 0, h => simpa using h
  | 1, h => simpa using h
  | 2, h => simpa using h
  | j + 3, h => simp at h
set_option maxRecDepth 100000 in
set_option maxHeartbeats 4000000 in
theorem textBd_any (n : Bd) (v1 : Value) (w : World) (hE : Vec.EnvT w) (h : BudAt w v1 n) (hf : fewBd n = true) :
    Calls Tryz.prog 34 #[BudV n v1] w (Say (.string (textBd n)) w) := by
  obtain ⟨x0, l3, x2⟩ := n
  obtain ⟨f1, f7⟩ := fewBd_parts hf
  have g7 := fewL_parts f7
  have sL := textL_few f7
  have hi := Lib.itoa_length_le x2 h.floor.1 h.floor.2
  dsimp only at f1 f7 g7 sL
  obtain ⟨W0, hW0⟩ : ∃ W0, w.alloc (.cells #[.string x0, v1, .int .i64 x2] 70) = W0 := ⟨_, rfl⟩
  have hk0 : Kept w W0 := by rw [← hW0]; exact kept_alloc _ _
  have HC := Lib.hid (show ∀ W, Kept W0 W → W.cell? ⟨w.heap.size, 0, none⟩ = some (.string x0) ∧ W.cell? ⟨w.heap.size, 1, none⟩ = some (v1) ∧ W.cell? ⟨w.heap.size, 2, none⟩ = some (.int .i64 x2) from fun W k => by
    have c := freshN w (.string x0) [v1, .int .i64 x2] 70 W (by rw [hW0]; exact k)
    exact ⟨c.at_ 0 _ rfl, c.at_ 1 _ rfl, c.at_ 2 _ rfl⟩)
  have E2 := Lib.hid (fun W (k : Kept W0 W) => itoa_any x2 W (hE.kept (hk0.trans k)) h.floor.1 h.floor.2)
  have E5 := Lib.hid (fun W (k : Kept W0 W) => selTextR (h.sel.kept (hk0.trans k)) (fun x hx => ⟨Nat.le_trans (g7.2 x hx).1 (by decide), Nat.le_trans (g7.2 x hx).2 (by decide)⟩) (Nat.le_trans g7.1 (by decide)) rfl)
  have HV0 := Lib.hid (show textBd ⟨x0, l3, x2⟩ = x0 ++ ⟨#[32]⟩ ++ textL l3 ++ ⟨#[32]⟩ ++ bytes (Lib.itoa x2) from rfl)
  have sI : (bytes (Lib.itoa x2)).size ≤ 100 := by rw [bytes_size]; omega
  obtain ⟨t2, ht2⟩ : ∃ t, bytes (Lib.itoa x2) = t := ⟨_, rfl⟩
  obtain ⟨t5, ht5⟩ : ∃ t, textL l3 = t := ⟨_, rfl⟩
  rw [ht2, ht5] at HV0
  rw [ht2] at E2 sI
  rw [ht5] at E5 sL
  obtain ⟨RES, hRES⟩ : ∃ R, textBd ⟨x0, l3, x2⟩ = R := ⟨_, rfl⟩
  have HJ := Lib.hid (show (Lib.join ([x0, t5, t2].map (·.data.toList)) [32]).length ≤ 140737488355328 by
    have e : (⟨(Lib.join ([x0, t5, t2].map (·.data.toList)) [32]).toArray⟩ : ByteArray).size = (Lib.join ([x0, t5, t2].map (·.data.toList)) [32]).length := by simp [ByteArray.size]
    rw [← e, join_three]
    have z : (⟨#[32]⟩ : ByteArray).size = 1 := rfl
    rw [ByteArray.size_append, ByteArray.size_append, ByteArray.size_append, ByteArray.size_append]; omega)
  have HJC := Lib.hid (fun W : World => pjoin_of (Tryz.strings_Join W.heap.size 0 3 [x0, t5, t2] ⟨#[32]⟩ (W.alloc (.cells #[.string x0, .string t5, .string t2] 9)) (fun j z hj => (by rw [Nat.zero_add]; exact three_strings W x0 t5 t2 9 j z hj)) (by simp) (by simp) (by simp) HJ.out))
  rw [join_three, ← HV0.out, hRES] at HJC
  have HK0 := Lib.hid hk0
  rw [hRES]
  clear ht2 ht5 hRES HJ HV0 f1 f7 g7 sL sI hi h hE hf hk0
  obtain ⟨c0, c1, c2⟩ := HC.out _ (Kept.refl _)
  unfold BudV
  dsimp only
  go_enter Tryz.func34, Tryz.ntmps34
  go_wp2
  try rw [hW0]
  clear hW0
  go_region_held3 (fun W => W.cell? ⟨w.heap.size, 0, none⟩ = some (.string x0) ∧ W.cell? ⟨w.heap.size, 1, none⟩ = some (v1) ∧ W.cell? ⟨w.heap.size, 2, none⟩ = some (.int .i64 x2))
    (first | exact HC.out _ (Kept.drew _) | exact HC.out _ K5.out | exact HC.out _ K2.out | exact HC.out _ (K2.out.trans (kept_alloc _ _)) | exact HC.out _ K10.out)
    (first | (go_at_call 82; refine (E5.out _ (Kept.drew _)).mono ?_; rintro e5 w5 ⟨rfl, k5⟩; have K5 := Lib.hid ((Kept.drew _).trans k5); clear k5)
           | (go_at_call 79; refine (E2.out _ K5.out).mono ?_; rintro e2 w2 ⟨rfl, k2⟩; have K2 := Lib.hid (K5.out.trans k2); clear k2)
           | (go_at_call 77; refine (HJC.out _).mono ?_; rintro e10 w10 ⟨rfl, k10⟩; have K10 := Lib.hid ((K2.out.trans (kept_alloc _ _)).trans k10); clear k10))
  go_wp2
  go_ret
  exact ⟨rfl, HK0.out.trans K10.out⟩
theorem textBdR {v : Value} {n : Bd} {t : ByteArray} {w : World} (hE : Vec.EnvT w) (h : BudR w v n) (hf : fewBd n = true) (ht : textBd n = t) : Calls Tryz.prog 34 #[v] w (Say (.string t) w) := by
  subst ht
  obtain ⟨v1, rfl, h⟩ := h
  exact textBd_any n v1 w hE h hf

end Go.Proofs.YtflllkpnkcmegaaGreatDoor

/- A budget's text read: parsed. -/
namespace Go.Proofs.YtflllkpnkcmegaaGreatDoor
open Go.RowKit
set_option linter.unusedVariables false

/-- A text says a budget: its three words, each of its form. -/
def SaysB (s : List UInt8) (n : Bd) : Prop := ∃ a b c : List UInt8, partsAt 32 s = [a, b, c] ∧ n.name = bytes a ∧ parsedT b = (0, n.sel) ∧ numL c = some n.floor
/-- What a call does that makes a budget, or panics. -/
def BudRes (c : Int) (n : Bd) (w : World) (e : Ending) (w' : World) : Prop := (c = 0 → ∃ v, e = .returned v ∧ BudRB w.heap.size w' v n) ∧ (c ≠ 0 → e = .panicked [perr c]) ∧ Kept w w'
theorem BudRes.bad {c : Int} {n : Bd} {w w' : World} (hc : c ≠ 0) (hb : Kept w w') : BudRes c n w (.panicked [perr c]) w' := ⟨fun g => absurd g hc, fun _ => rfl, hb⟩
theorem soundBd_ok (x0 : ByteArray) (x2 : Int) (b1 : Option Addr) (n1 d1 : Nat) (w : World) : Calls Tryz.prog 181 #[.agg #[.string x0, .slice b1 n1 d1, .int .i64 x2], .int .i64 0] w fun e w' => e = .returned (.agg #[.string x0, .slice b1 n1 d1, .int .i64 x2]) ∧ Kept w w' := by
  go_enter Tryz.func181, Tryz.ntmps181
  go_wp2
  go_returns
  exact ⟨rfl, kept_two _ _ _⟩
theorem soundBd_bad (x0 : ByteArray) (x2 : Int) (b1 : Option Addr) (n1 d1 : Nat) (c : Int) (w : World) (h : c ≠ 0) : Calls Tryz.prog 181 #[.agg #[.string x0, .slice b1 n1 d1, .int .i64 x2], .int .i64 c] w fun e w' => e = .panicked [perr c] ∧ Kept w w' := by
  have h3 : (c != 0) = true := by simpa using h
  clear h
  go_enter Tryz.func181, Tryz.ntmps181
  go_wp2
  exact ⟨rfl, rfl, kept_two _ _ _⟩
theorem three_past {W : World} {q p : Nat} {c0 c1 c2 u0 u1 u2 : Value} (h : (W).cell? ⟨q, 0, none⟩ = some (c0) ∧ (W).cell? ⟨q, 1, none⟩ = some (c1) ∧ (W).cell? ⟨q, 2, none⟩ = some (c2)) (hne : q ≠ p) :
    ((((W.setCell ⟨p, 0, none⟩ u0).setCell ⟨p, 1, none⟩ u1).setCell ⟨p, 2, none⟩ u2)).cell? ⟨q, 0, none⟩ = some (c0) ∧ ((((W.setCell ⟨p, 0, none⟩ u0).setCell ⟨p, 1, none⟩ u1).setCell ⟨p, 2, none⟩ u2)).cell? ⟨q, 1, none⟩ = some (c1) ∧ ((((W.setCell ⟨p, 0, none⟩ u0).setCell ⟨p, 1, none⟩ u1).setCell ⟨p, 2, none⟩ u2)).cell? ⟨q, 2, none⟩ = some (c2) := by
  have e : (W.setCells p 0 [u0, u1, u2]).heap[q]? = W.heap[q]? := setCells_block p _ 0 W q hne
  have c : ∀ j, ((((W.setCell ⟨p, 0, none⟩ u0).setCell ⟨p, 1, none⟩ u1).setCell ⟨p, 2, none⟩ u2)).cell? ⟨q, j, none⟩ = W.cell? ⟨q, j, none⟩ := fun j => World.cell?_of_block (a := ⟨q, j, none⟩) e
  simp only [c]
  exact h
set_option maxRecDepth 100000 in
set_option maxHeartbeats 8000000 in
theorem parsedBd_any (s : List UInt8) (n : Bd) (c : Int) (w : World) (hE : EnvP w) (hs : s.length ≤ 900000) (h : SaysB s n) (hc : chkBud n = c) :
    Calls Tryz.prog 150 #[.string (bytes s)] w (BudRes c n w) := by
  obtain ⟨a, b, c0, hp, ha, hf, hcc⟩ := h
  obtain ⟨x0, l3, x2⟩ := n
  dsimp only at ha hf hcc
  subst ha
  have hlen : ∀ p ∈ [a, b, c0], p.length ≤ s.length := fun p hm => partAt_len 32 s p (by rw [hp]; exact hm)
  have la := hlen a (by simp)
  have lb := hlen b (by simp)
  have lc := hlen c0 (by simp)
  obtain ⟨Z, hZ⟩ : ∃ Z, w.alloc (.cells #[.string ⟨#[]⟩, .slice none 0 0, .int .i64 0] 70) = Z := ⟨_, rfl⟩
  have hkz : Kept w Z := by rw [← hZ]; exact kept_alloc _ _
  have hzs : Z.heap.size = w.heap.size + 1 := by rw [← hZ]; simp
  have HR0 := Lib.hid (show CellsN w.heap.size [.string ⟨#[]⟩, .slice none 0 0, .int .i64 0] Z from freshN w (.string ⟨#[]⟩) [.slice none 0 0, .int .i64 0] 70 Z (by rw [hZ]; exact Kept.refl _))
  have HWD := Lib.hid (pwords3 s Z (hE.kept hkz).toEnvT.toEnv.base (by omega))
  have H2 := Lib.hid (fun W => number_ok c0 x2 W (by omega) hcc)
  have H0 := Lib.hid (fun W => clone_any (bytes a) W (by rw [bytes_size]; omega))
  have H5 := Lib.hid (fun W (k : Kept w W) => (parseSel_any b W (hE.kept k).toEnvT.toEnv.base (by omega)).mono fun _ _ => own_spelt)
  rw [hf] at H5
  dsimp only at H5
  have S0 := Lib.hid (show (bytes a).size ≤ maxLen by rw [bytes_size]; unfold maxLen; omega)
  have S2 := Lib.hid (num_fine hcc)
  have HCH := Lib.hid hc
  have HP := Lib.hid hp
  have HKZ := Lib.hid hkz
  have HZS := Lib.hid hzs
  clear hE hs hc hp hcc hf hlen la lb lc hkz hzs
  go_enter Tryz.func150, Tryz.ntmps150
  go_wp2_with fail
  try rw [hZ]
  clear hZ
  refine HWD.out.mono ?_
  rintro ee w1 ⟨hw, -, k⟩
  obtain ⟨g, cap, rfl, -, hcells⟩ := hw (by rw [HP.out]; rfl)
  have K := Lib.hid (HKZ.out.trans k)
  have HR1 := Lib.hid (HR0.out.kept k)
  have HRS := Lib.hid (show w.heap.size + 1 ≤ w1.heap.size by have := k.size; rw [HZS.out] at this; exact this)
  rw [HP.out] at hcells
  have HC := Lib.hid (show ∀ W, Kept w1 W → W.cell? ⟨g, 0, none⟩ = some (.string (bytes a)) ∧ W.cell? ⟨g, 1, none⟩ = some (.string (bytes b)) ∧ W.cell? ⟨g, 2, none⟩ = some (.string (bytes c0)) from fun W k =>
    ⟨cell_later k (hcells 0 a rfl), cell_later k (hcells 1 b rfl), cell_later k (hcells 2 c0 rfl)⟩)
  clear hw k hcells HWD
  obtain ⟨g0, g1, g2⟩ := HC.out _ (Kept.refl _)
  go_wp2_with fail
  refine (H2.out _).mono ?_
  rintro e9 w2 ⟨rfl, k⟩
  have KK := Lib.hid k
  clear g0 g1 g2
  obtain ⟨g0, g1, g2⟩ := HC.out _ (k.trans (kept_alloc w2 (.cells #[.string ⟨#[]⟩, .slice none 0 0, .int .i64 x2] 70)))
  clear k
  go_wp2_with fail
  clear g0 g1 g2
  have hn := freshN w2 (.string ⟨#[]⟩) [.slice none 0 0, .int .i64 x2] 70 _ (Kept.refl _)
  have hq1 : w1.heap.size ≤ w2.heap.size := KK.out.size
  have k2 := KK.out.trans (kept_alloc w2 (.cells #[.string ⟨#[]⟩, .slice none 0 0, .int .i64 x2] 70))
  obtain ⟨q, hqe⟩ : ∃ z, w2.heap.size = z := ⟨_, rfl⟩
  rw [hqe] at hn hq1
  try rw [hqe]
  obtain ⟨w3, hw3⟩ : ∃ W, w2.alloc (.cells #[.string ⟨#[]⟩, .slice none 0 0, .int .i64 x2] 70) = W := ⟨_, rfl⟩
  rw [hw3] at hn k2
  try rw [hw3]
  clear hw3 hqe
  have Q := Lib.hid hn
  have HQ1 := Lib.hid hq1
  have KK := Lib.hid k2
  clear hn hq1 k2
  refine (H0.out _).mono ?_
  rintro e9 w4 ⟨rfl, k⟩
  have KK := Lib.hid (KK.out.trans k)
  have Q := Lib.hid (Q.out.kept k)
  clear k
  have y := Q.out.at_ 0 _ rfl
  have x := Q.out.free 0
  have Q := Lib.hid (show CellsN q [.string (bytes a), .slice none 0 0, .int .i64 x2] (w4.setCell ⟨q, 0, none⟩ (.string (bytes a))) from Q.out.set (j := 0) (by simp))
  have KK := Lib.hid (show Kept w1 (w4.setCell ⟨q, 0, none⟩ (.string (bytes a))) from KK.out.setCell (p := ⟨q, 0, none⟩) HQ1.out _)
  obtain ⟨g0, g1, g2⟩ := HC.out _ KK.out
  go_wp2_with fail
  clear g0 g1 g2 y x
  obtain ⟨W0, hW⟩ : ∃ W, w4.setCell ⟨q, 0, none⟩ (.string (bytes a)) = W := ⟨_, rfl⟩
  rw [hW] at Q KK
  try rw [hW]
  clear hW
  refine (H5.out _ (K.out.trans KK.out)).mono ?_
  rintro e9 v3 ⟨b1, n1, d1, rfl, rr, gg, k⟩
  have G1 := Lib.hid (show Behind (q + 1) b1 from fun b o s e => Nat.le_trans Q.out.lt (gg b o s e).1)
  have R1 := Lib.hid rr
  have KK := Lib.hid (KK.out.trans k)
  have Q := Lib.hid (Q.out.kept k)
  clear k rr gg
  go_wp2_with fail
  refine (soundT_ok _ _).mono ?_
  rintro e9 w9 ⟨rfl, rfl⟩
  have y := Q.out.at_ 1 _ rfl
  have x := Q.out.free 1
  have Q := Lib.hid (show CellsN q [.string (bytes a), .slice b1 n1 d1, .int .i64 x2] (v3.setCell ⟨q, 1, none⟩ (.slice b1 n1 d1)) from Q.out.set (j := 1) (by simp))
  have KK := Lib.hid (show Kept w1 (v3.setCell ⟨q, 1, none⟩ (.slice b1 n1 d1)) from KK.out.setCell (p := ⟨q, 1, none⟩) HQ1.out _)
  have R1 := Lib.hid (far_set (p := q) (j := 1) (u := .slice b1 n1 d1) R1.out G1.out (Nat.lt_succ_self q))
  go_wp2
  clear y x
  obtain ⟨W7, hW⟩ : ∃ W, v3.setCell ⟨q, 1, none⟩ (.slice b1 n1 d1) = W := ⟨_, rfl⟩
  rw [hW] at Q KK R1
  try rw [hW]
  clear hW
  have HAT := Lib.hid (show BudAt W7 (.slice b1 n1 d1) ⟨bytes a, l3, x2⟩ from ⟨S0.out, S2.out, R1.out⟩)
  have HCK := Lib.hid (fun W (k : Kept W7 W) => checkB_any ⟨bytes a, l3, x2⟩ (.slice b1 n1 d1) W (HAT.out.kept k))
  rw [HCH.out] at HCK
  unfold BudV at HCK
  dsimp only at HCK
  have HS := Lib.hid (show ∀ W, Kept W7 W → W.cell? ⟨q, 0, none⟩ = some (.string (bytes a)) ∧ W.cell? ⟨q, 1, none⟩ = some (.slice b1 n1 d1) ∧ W.cell? ⟨q, 2, none⟩ = some (.int .i64 x2) from fun W k => by
      have h := CellsN.kept Q.out k
      exact ⟨h.at_ 0 _ rfl, h.at_ 1 _ rfl, h.at_ 2 _ rfl⟩)
  have HR7 := Lib.hid (fun W (k : Kept W7 W) => CellsN.kept HR1.out (KK.out.trans k))
  have HQR := Lib.hid (show q ≠ w.heap.size by have := HQ1.out; have := HRS.out; omega)
  have HRT := Lib.hid (show w.heap.size < W7.heap.size by have := KK.out.size; have := HRS.out; omega)
  obtain ⟨r0, r1, r2⟩ := HS.out _ (Kept.refl _)
  refine wp_region_held_drew (S := fun W => W.cell? ⟨q, 0, none⟩ = some (.string (bytes a)) ∧ W.cell? ⟨q, 1, none⟩ = some (.slice b1 n1 d1) ∧ W.cell? ⟨q, 2, none⟩ = some (.int .i64 x2)) (by kernel_rfl) (HS.out _ (Kept.drew _)) (fun hHeld => ?_)
  refine wpAnyH_take (i := 0) (v := ?_) (by rw [List.getElem?_toArray]; exact rfl) (by kernel_rfl) (by kernel_rfl) (by kernel_rfl) (by exact fun _ _ _ h => h) (Or.inl ⟨by rfl, (by intro W hSw; obtain ⟨q0, q1, q2⟩ := hSw; go_simp <;> with_reducible rfl)⟩) (by assumption) ?_
  try simp only [Act.put, List.setIfInBounds_toArray, List.set_cons_zero, List.set_cons_succ]
  refine wpAnyH_take (i := 1) (v := ?_) (by rw [List.getElem?_toArray]; exact rfl) (by kernel_rfl) (by kernel_rfl) (by kernel_rfl) (by exact fun _ _ _ h => h) (Or.inl ⟨by rfl, (by intro W hSw; obtain ⟨q0, q1, q2⟩ := hSw; go_simp <;> with_reducible rfl)⟩) (by assumption) ?_
  try simp only [Act.put, List.setIfInBounds_toArray, List.set_cons_zero, List.set_cons_succ]
  refine wpAnyH_ready (rs := [2]) (by kernel_rfl) (by simp) (AllReadyH.cons (by rw [List.getElem?_toArray]; exact rfl) (fun K9 hK9 => ?_) AllReadyH.nil)
  go_simp
  refine (HCK.out _ (Kept.drew _)).mono ?_
  rintro e9 u1 ⟨rfl, k⟩
  have J1 := Lib.hid ((Kept.drew _).trans k)
  clear k
  refine hK9.out _ _ (HS.out _ J1.out) (fun hHeld1 => ?_)
  clear hK9 K9
  try simp only [Act.put, List.setIfInBounds_toArray, List.set_cons_zero, List.set_cons_succ]
  by_cases z : c = 0
  · subst z
    refine wpAnyH_ready (rs := [3]) (by kernel_rfl) (by simp) (AllReadyH.cons (by rw [List.getElem?_toArray]; exact rfl) (fun K9 hK9 => ?_) AllReadyH.nil)
    go_simp
    refine (soundBd_ok _ _ _ _ _ _).mono ?_
    rintro e8 u2 ⟨rfl, k⟩
    have J2 := Lib.hid (J1.out.trans k)
    clear k
    refine hK9.out _ _ (HS.out _ J2.out) (fun hHeld2 => ?_)
    clear hK9 K9
    try simp only [Act.put, List.setIfInBounds_toArray, List.set_cons_zero, List.set_cons_succ]
    have z0 := (HR7.out _ J2.out).at_ 0 _ rfl
    have z1 := (HR7.out _ J2.out).at_ 1 _ rfl
    have z2 := (HR7.out _ J2.out).at_ 2 _ rfl
    have f0 := (HR7.out _ J2.out).free 0
    have f1 := (HR7.out _ J2.out).free 1
    have f2 := (HR7.out _ J2.out).free 2
    refine wpAnyH_ready (rs := [4]) (by kernel_rfl) (by simp) (AllReadyH.cons (by rw [List.getElem?_toArray]; exact rfl) (fun K9 hK9 => ?_) AllReadyH.nil)
    go_simp
    refine hK9.out _ _ (three_past (HS.out _ J2.out) HQR.out) (fun hHeldS => ?_)
    clear hK9 K9 hHeldS
    try simp only [Act.put, List.setIfInBounds_toArray, List.set_cons_zero, List.set_cons_succ]
    refine wpAnyH_done (by kernel_rfl) ?_ _
    have P := Lib.hid (putN (vs := [.string (bytes a), .slice b1 n1 d1, .int .i64 x2]) (HR7.out _ J2.out) rfl)
    clear z0 f0 z1 f1 z2 f2
    go_wp2
    (try simp only [Exit.inBlock, Exit.then])
    obtain ⟨WE, hWE⟩ : ∃ W, u2.setCells w.heap.size 0 [.string (bytes a), .slice b1 n1 d1, .int .i64 x2] = W := ⟨_, rfl⟩
    have hWE2 : (((u2.setCell ⟨w.heap.size, 0, none⟩ (.string (bytes a))).setCell ⟨w.heap.size, 1, none⟩ (.slice b1 n1 d1)).setCell ⟨w.heap.size, 2, none⟩ (.int .i64 x2)) = WE := hWE
    rw [hWE] at P
    rw [hWE2]
    clear hWE hWE2
    obtain ⟨PC, hsz, hbl, hkp⟩ := P.out
    refine bodyPost_ret (by simp [results, Tryz.results150, go_sem, PC.at_ 0 _ rfl, PC.at_ 1 _ rfl, PC.at_ 2 _ rfl]; try rfl) rfl ?_
    refine ⟨fun _ => ⟨_, rfl, ⟨_, _, _, rfl, BudAt.far (B := q + 1) (HAT.out.kept J2.out) hsz (fun b hb => hbl b (by have := HQ1.out; have := HRS.out; omega)) G1.out, G1.out.less (by have := HQ1.out; have := HRS.out; omega)⟩⟩, fun h => absurd rfl h, hkp _ _ (Nat.le_refl _) (K.out.trans (KK.out.trans J2.out))⟩
  · skip
    refine wpAnyH_ready (rs := [3]) (by kernel_rfl) (by simp) (AllReadyH.cons (by rw [List.getElem?_toArray]; exact rfl) (fun K9 hK9 => ?_) AllReadyH.nil)
    go_simp
    refine (soundBd_bad _ _ _ _ _ _ _ z).mono ?_
    rintro e8 u2 ⟨rfl, k⟩
    exact ⟨rfl, BudRes.bad z (K.out.trans (KK.out.trans (J1.out.trans k)))⟩
set_option maxRecDepth 100000 in
set_option maxHeartbeats 3200000 in
theorem parsedBd_words (s : List UInt8) (w : World) (hE : EnvP w) (hs : s.length ≤ 900000) (hp : (partsAt 32 s).length ≠ 3) :
    Calls Tryz.prog 150 #[.string (bytes s)] w (BudRes 2 Bd.zero w) := by
  obtain ⟨Z, hZ⟩ : ∃ Z, w.alloc (.cells #[.string ⟨#[]⟩, .slice none 0 0, .int .i64 0] 70) = Z := ⟨_, rfl⟩
  have hkz : Kept w Z := by rw [← hZ]; exact kept_alloc _ _
  have HWD := Lib.hid (pwords3 s Z (hE.kept hkz).toEnvT.toEnv.base (by omega))
  have HKZ := Lib.hid hkz
  have HP := Lib.hid hp
  clear hE hs hkz hp
  go_enter Tryz.func150, Tryz.ntmps150
  go_wp2_with fail
  try rw [hZ]
  clear hZ
  refine HWD.out.mono ?_
  rintro ee w1 ⟨-, hw, k⟩
  obtain rfl := hw HP.out
  have K := Lib.hid (HKZ.out.trans k)
  clear hw k
  go_wp2
  exact ⟨rfl, BudRes.bad (by decide) K.out⟩

end Go.Proofs.YtflllkpnkcmegaaGreatDoor

/- A budget's text read: the closure, the recovery, the face. -/
namespace Go.Proofs.YtflllkpnkcmegaaGreatDoor
open Go.RowKit
set_option linter.unusedVariables false

theorem caughtBd_panicking (B : Nat) (q : Nat) (x y : Int) (w : World) (hq : w.cell? ⟨q, 0, none⟩ = some (.int .i64 y)) (hzq : w.frozen? ⟨q, 0, none⟩ = false) (hBq : B ≤ q) :
    CallsD Tryz.prog 180 #[.pointer (some ⟨q, 0, none⟩)] (.panicking [perr x]) w fun e u' w' =>
      e = .returned (.tuple #[]) ∧ u' = .panicking [{ perr x with recovered := true }] ∧ w' = w.setCell ⟨q, 0, none⟩ (.int .i64 x) ∧ w'.cell? ⟨q, 0, none⟩ = some (.int .i64 x) ∧ Below B w w' := by
  have hta : ∀ W, (Instr.typeAssert (.iface 41 (.int .i64 x)) 20 41 false).run Tryz.prog W = .ok (.int .i64 x) W := fun _ => by kernel_rfl
  refine callsD_of_wpS Tryz.func180 rfl fun c₀ cs hu => ?_
  apply wpS_seq
  apply wpS_region
  simp [wpOpsS, go_sem, recoverD, hu, Tryz.ntmps180, Exit.thenS]
  apply wpS_seq
  apply wpS_region
  simp [wpOpsS, go_sem, recoverD, Exit.thenS]
  refine wpS_cond (t := true) (by simp [Act.eval, Array.replicate]) ?_
  simp only [if_true]
  refine wpS_of_wp ?_
  simp [Array.replicate]
  go_wp2
  simp [bodyPostS, results, Tryz.results180]
  exact ⟨World.cell?_setCell_same' _ _ _ (by rw [hq]; rfl), (Below.refl B w).setCell (p := ⟨q, 0, none⟩) hBq _⟩

theorem caughtBd_idle (q : Addr) (w : World) :
    CallsD Tryz.prog 180 #[.pointer (some q)] .returning w fun e u' w' => e = .returned (.tuple #[]) ∧ u' = .returning ∧ w' = w := by
  refine callsD_of_wpS Tryz.func180 rfl fun c₀ cs hu => ?_
  apply wpS_seq
  apply wpS_region
  simp [wpOpsS, go_sem, recoverD, hu, Tryz.ntmps180, Exit.thenS]
  apply wpS_seq
  apply wpS_region
  simp [wpOpsS, go_sem, recoverD, hu, Exit.thenS]
  refine wpS_cond (t := false) (by simp [Act.eval, Array.replicate]) ?_
  simp only [Bool.false_eq_true, if_false]
  refine wpS_of_wp (wp_skip ?_)
  cases c₀
  simp_all [bodyPostS, results, Tryz.results180]

/-- What a call answers that recovers: a budget and an error. -/
def DoneBd (c : Int) (n : Bd) (w : World) (e : Ending) (w' : World) : Prop := ∃ v, e = .returned (.tuple #[v, .int .i64 c]) ∧ BudRB w.heap.size w' v (if c = 0 then n else Bd.zero) ∧ Kept w w'

set_option maxRecDepth 100000 in
set_option maxHeartbeats 3200000 in
theorem closureBd (C : Addr) (s : List UInt8) (n : Bd) (c : Int) (w : World) (h1 : w.cell? C = some (.string (bytes s))) (hP : ∀ W, Kept w W → Calls Tryz.prog 150 #[.string (bytes s)] W (BudRes c n W)) :
    Calls Tryz.prog 149 #[.pointer (some C)] w (BudRes c n w) := by
  obtain ⟨Z, hZ⟩ : ∃ Z, w.alloc (.cells #[.string ⟨#[]⟩, .slice none 0 0, .int .i64 0] 70) = Z := ⟨_, rfl⟩
  have hk : Kept w Z := by rw [← hZ]; exact kept_alloc _ _
  have hzs : Z.heap.size = w.heap.size + 1 := by rw [← hZ]; simp
  have hcc := cell_later hk h1
  have HP := Lib.hid (hP Z hk)
  have HK := Lib.hid hk
  have HQ := Lib.hid (show CellsN w.heap.size [.string ⟨#[]⟩, .slice none 0 0, .int .i64 0] Z from freshN w (.string ⟨#[]⟩) [.slice none 0 0, .int .i64 0] 70 Z (by rw [hZ]; exact Kept.refl _))
  have HZS := Lib.hid hzs
  clear h1 hk hP hzs
  go_enter Tryz.func149, Tryz.ntmps149
  go_wp2_with fail
  try rw [hZ]
  refine HP.out.mono ?_
  rintro e w2 ⟨g0, g1, k⟩
  have KK := Lib.hid k
  have HQ2 := Lib.hid (HQ.out.kept k)
  by_cases hx : c = 0
  · obtain ⟨v, rfl, hn⟩ := g0 hx
    have HX := Lib.hid hx
    have HN := Lib.hid hn
    obtain ⟨b1, n1, d1, rfl, -⟩ := hn
    clear g0 g1 k hx hZ
    obtain ⟨z0, hz0⟩ : ∃ z, n.name = z := ⟨_, rfl⟩
    obtain ⟨z2, hz2⟩ : ∃ z, n.floor = z := ⟨_, rfl⟩
    unfold BudV at HN ⊢
    rw [hz0, hz2] at HN
    rw [hz0, hz2]
    have P := Lib.hid (putN (vs := [.string z0, .slice b1 n1 d1, .int .i64 z2]) HQ2.out rfl)
    have y0 := HQ2.out.at_ 0 _ rfl
    have y1 := HQ2.out.at_ 1 _ rfl
    have y2 := HQ2.out.at_ 2 _ rfl
    have x0 := HQ2.out.free 0
    have x1 := HQ2.out.free 1
    have x2 := HQ2.out.free 2
    clear hz0 hz2
    go_wp2
    obtain ⟨WE, hWE⟩ : ∃ W, w2.setCells w.heap.size 0 [.string z0, .slice b1 n1 d1, .int .i64 z2] = W := ⟨_, rfl⟩
    have hWE2 : (((w2.setCell ⟨w.heap.size, 0, none⟩ (.string z0)).setCell ⟨w.heap.size, 1, none⟩ (.slice b1 n1 d1)).setCell ⟨w.heap.size, 2, none⟩ (.int .i64 z2)) = WE := hWE
    rw [hWE] at P
    rw [hWE2]
    clear hWE hWE2 y0 x0 y1 x1 y2 x2
    obtain ⟨PC, hsz, hbl, hkp⟩ := P.out
    refine bodyPost_ret (by simp [results, Tryz.results149, go_sem, PC.at_ 0 _ rfl, PC.at_ 1 _ rfl, PC.at_ 2 _ rfl]; try rfl) rfl ?_
    exact ⟨fun _ => ⟨_, rfl, (HN.out.far hsz (fun b hb => hbl b (by have := HZS.out; omega))).less (by have := HZS.out; omega)⟩, fun h => absurd HX.out h, hkp _ _ (Nat.le_refl _) (HK.out.trans KK.out)⟩
  · obtain rfl := g1 hx
    have HX := Lib.hid hx
    clear g0 g1 k hx hZ
    go_wp2
    exact ⟨rfl, BudRes.bad HX.out (HK.out.trans KK.out)⟩
set_option maxRecDepth 100000 in
set_option maxHeartbeats 3200000 in
theorem caughtBd_any (C : Addr) (n : Bd) (c : Int) (w : World)
    (hk : ∀ W, Kept w W → Calls Tryz.prog 149 #[.pointer (some C)] W (BudRes c n W)) :
    Calls Tryz.prog 148 #[.func (.func 149) #[] #[.pointer (some C)]] w (DoneBd c n w) := by
  have hmf : ∀ (fn : Fn) (first cap : Array Value) (w : World), (Instr.makeFunc fn first cap).run Tryz.prog w = .ok (.func fn first cap) w := fun _ _ _ _ => rfl
  obtain ⟨Z, hZ⟩ : ∃ Z, (w.alloc (.cells #[.string ⟨#[]⟩, .slice none 0 0, .int .i64 0] 70)).alloc (.cells #[.int .i64 0] 41) = Z := ⟨_, rfl⟩
  have hkz : Kept w Z := by rw [← hZ]; exact kept_two _ _ _
  have hzs : Z.heap.size = w.heap.size + 2 := by rw [← hZ]; simp
  have HK := Lib.hid hkz
  have HQ := Lib.hid (show CellsN w.heap.size [.string ⟨#[]⟩, .slice none 0 0, .int .i64 0] Z from freshN w (.string ⟨#[]⟩) [.slice none 0 0, .int .i64 0] 70 Z (by rw [← hZ]; exact kept_alloc _ _))
  have HZE := Lib.hid (show CellsN (w.heap.size + 1) [.int .i64 0] Z by
    have := freshN (w.alloc (.cells #[.string ⟨#[]⟩, .slice none 0 0, .int .i64 0] 70)) (.int .i64 0) [] 41 Z (by rw [hZ]; exact Kept.refl _)
    rw [World.size_alloc] at this
    exact this)
  have HZS := Lib.hid hzs
  have HKC := Lib.hid (hk Z hkz)
  clear hk hkz hzs
  go_enter_defers Tryz.func148, Tryz.ntmps148
  go_wp2_with fail
  try rw [hZ]
  refine HKC.out.mono ?_
  rintro e1 w1 ⟨h0, h1, hb⟩
  have KK := Lib.hid hb
  have HQ1 := Lib.hid (HQ.out.kept hb)
  have HE1 := Lib.hid (HZE.out.kept hb)
  have hws : w.heap.size + 1 < w1.heap.size := by have := hb.size; have := HZS.out; omega
  have ze := HE1.out.at_ 0 _ rfl
  have zf := HE1.out.free 0
  by_cases hx : c = 0
  · subst hx
    obtain ⟨v, rfl, hn⟩ := h0 rfl
    have HN := Lib.hid hn
    obtain ⟨b1, n1, d1, rfl, -⟩ := hn
    clear h0 h1 hb hZ
    obtain ⟨z0, hz0⟩ : ∃ z, n.name = z := ⟨_, rfl⟩
    obtain ⟨z2, hz2⟩ : ∃ z, n.floor = z := ⟨_, rfl⟩
    unfold BudV at HN ⊢
    rw [hz0, hz2] at HN
    rw [hz0, hz2]
    have P := Lib.hid (putN (vs := [.string z0, .slice b1 n1 d1, .int .i64 z2]) HQ1.out rfl)
    have y0 := HQ1.out.at_ 0 _ rfl
    have y1 := HQ1.out.at_ 1 _ rfl
    have y2 := HQ1.out.at_ 2 _ rfl
    have x0 := HQ1.out.free 0
    have x1 := HQ1.out.free 1
    have x2 := HQ1.out.free 2
    clear hz0 hz2
    go_wp2_with fail
    obtain ⟨WE, hWE⟩ : ∃ W, w1.setCells w.heap.size 0 [.string z0, .slice b1 n1 d1, .int .i64 z2] = W := ⟨_, rfl⟩
    have hWE2 : (((w1.setCell ⟨w.heap.size, 0, none⟩ (.string z0)).setCell ⟨w.heap.size, 1, none⟩ (.slice b1 n1 d1)).setCell ⟨w.heap.size, 2, none⟩ (.int .i64 z2)) = WE := hWE
    rw [hWE] at P
    rw [hWE2]
    clear hWE hWE2 y0 x0 y1 x1 y2 x2
    obtain ⟨PC, hsz, hbl, hkp⟩ := P.out
    have ez : CellsN (w.heap.size + 1) [.int .i64 0] WE := HE1.out.block (hbl _ (by omega))
    have hb2 : ∀ b, b ≠ w.heap.size + 1 → (WE.setCell ⟨w.heap.size + 1, 0, none⟩ (.int .i64 0)).heap[b]? = WE.heap[b]? := fun b hb => Below.heap_setCell WE ⟨w.heap.size + 1, 0, none⟩ _ b hb
    have FE := Lib.hid (ez.set (j := 0) (u := .int .i64 0) (by simp))
    have FQ := Lib.hid (PC.block (hb2 w.heap.size (by omega)))
    have KF := Lib.hid (show Kept w (WE.setCell ⟨w.heap.size + 1, 0, none⟩ (.int .i64 0)) from (hkp _ _ (Nat.le_refl _) (HK.out.trans KK.out)).setCell (p := ⟨w.heap.size + 1, 0, none⟩) (Nat.le_succ _) _)
    have NF := Lib.hid ((HN.out.far (w' := WE.setCell ⟨w.heap.size + 1, 0, none⟩ (.int .i64 0)) (by simp [World.setCell, hsz]) (fun b hb => (hb2 b (by have := HZS.out; omega)).trans (hbl b (by have := HZS.out; omega)))).less (B' := w.heap.size) (by have := HZS.out; omega))
    obtain ⟨WF, hWF⟩ : ∃ W, WE.setCell ⟨w.heap.size + 1, 0, none⟩ (.int .i64 0) = W := ⟨_, rfl⟩
    rw [hWF] at FE FQ KF NF ⊢
    have fe := FE.out.at_ 0 _ rfl
    clear hWF hb2 ez P hbl hkp PC ze zf
    refine leaves_cons (f := 180) (args := #[.pointer (some ⟨w.heap.size + 1, 0, none⟩)]) (by simp) (by simp [go_sem]) ?_
    refine (caughtBd_idle ⟨w.heap.size + 1, 0, none⟩ _).mono ?_
    rintro e u' w'' ⟨rfl, rfl, rfl⟩
    simp [Leaves, settle, results, Tryz.results148, go_sem, fe, FQ.out.at_ 0 _ rfl, FQ.out.at_ 1 _ rfl, FQ.out.at_ 2 _ rfl]
    exact ⟨_, rfl, by rw [if_pos rfl]; exact NF.out, KF.out⟩
  · obtain rfl := h1 hx
    have HX := Lib.hid hx
    have KW := Lib.hid (HK.out.trans KK.out)
    clear h0 h1 hb hZ hx
    go_wp2_with fail
    refine leaves_cons (f := 180) (args := #[.pointer (some ⟨w.heap.size + 1, 0, none⟩)]) (by simp) (by simp [go_sem]) ?_
    refine (caughtBd_panicking w.heap.size (w.heap.size + 1) c 0 _ ze zf (by omega)).mono ?_
    rintro e u' w'' ⟨rfl, rfl, rfl, q2, q3⟩
    have hb2 : (w1.setCell ⟨w.heap.size + 1, 0, none⟩ (.int .i64 c)).heap[w.heap.size]? = w1.heap[w.heap.size]? := Below.heap_setCell w1 ⟨w.heap.size + 1, 0, none⟩ _ w.heap.size (by simp)
    have FQ := Lib.hid (HQ1.out.block hb2)
    have KF := Lib.hid (show Kept w _ from Below.trans KW.out q3)
    obtain ⟨WF, hWF⟩ : ∃ W, w1.setCell ⟨w.heap.size + 1, 0, none⟩ (.int .i64 c) = W := ⟨_, rfl⟩
    rw [hWF] at q2 FQ KF ⊢
    clear hWF hb2 q3 ze zf
    simp [Leaves, settle, results, Tryz.results148, go_sem, q2, FQ.out.at_ 0 _ rfl, FQ.out.at_ 1 _ rfl, FQ.out.at_ 2 _ rfl]
    exact ⟨_, rfl, by rw [if_neg HX.out]; exact zero_readsB _ _, KF.out⟩
set_option maxRecDepth 100000 in
set_option maxHeartbeats 3200000 in
theorem parseBd_any (s : List UInt8) (n : Bd) (c : Int) (w : World) (hP : ∀ W, Kept w W → Calls Tryz.prog 150 #[.string (bytes s)] W (BudRes c n W)) :
    Calls Tryz.prog 96 #[.string (bytes s)] w (DoneBd c n w) := by
  have hmf : ∀ (fn : Fn) (first cap : Array Value) (w : World), (Instr.makeFunc fn first cap).run Tryz.prog w = .ok (.func fn first cap) w := fun _ _ _ _ => rfl
  obtain ⟨Z, hZ⟩ : ∃ Z, (w.alloc (.cells #[.string (bytes s)] 9)).alloc (.cells #[.string ⟨#[]⟩, .slice none 0 0, .int .i64 0] 70) = Z := ⟨_, rfl⟩
  have hkz : Kept w Z := by rw [← hZ]; exact kept_two _ _ _
  have hzs : Z.heap.size = w.heap.size + 2 := by rw [← hZ]; simp
  have hzc : Z.cell? ⟨w.heap.size, 0, none⟩ = some (.string (bytes s)) := (freshN w (.string (bytes s)) [] 9 Z (by rw [← hZ]; exact kept_alloc _ _)).at_ 0 _ rfl
  have HK := Lib.hid hkz
  have HQ := Lib.hid (show CellsN (w.heap.size + 1) [.string ⟨#[]⟩, .slice none 0 0, .int .i64 0] Z by
    have := freshN (w.alloc (.cells #[.string (bytes s)] 9)) (.string ⟨#[]⟩) [.slice none 0 0, .int .i64 0] 70 Z (by rw [hZ]; exact Kept.refl _)
    rw [World.size_alloc] at this
    exact this)
  have HZS := Lib.hid hzs
  have HC := Lib.hid (caughtBd_any ⟨w.heap.size, 0, none⟩ n c Z (fun W k => closureBd ⟨w.heap.size, 0, none⟩ s n c W (cell_later k hzc) (fun W' k' => hP W' (hkz.trans (k.trans k')))))
  obtain ⟨m, hm⟩ : ∃ m, (if c = 0 then n else Bd.zero) = m := ⟨_, rfl⟩
  unfold DoneBd at HC ⊢
  rw [hm] at HC
  rw [hm]
  clear hP hzc hkz hzs hm
  go_enter Tryz.func96, Tryz.ntmps96
  go_wp2_with fail
  try rw [hZ]
  refine HC.out.mono ?_
  rintro e w1 ⟨v, rfl, hn, k⟩
  have KK := Lib.hid k
  have HN := Lib.hid hn
  have HQ1 := Lib.hid (HQ.out.kept k)
  obtain ⟨b1, n1, d1, rfl, -⟩ := hn
  clear k hZ
  obtain ⟨z0, hz0⟩ : ∃ z, m.name = z := ⟨_, rfl⟩
  obtain ⟨z2, hz2⟩ : ∃ z, m.floor = z := ⟨_, rfl⟩
  unfold BudV at HN ⊢
  rw [hz0, hz2] at HN
  rw [hz0, hz2]
  have P := Lib.hid (putN (vs := [.string z0, .slice b1 n1 d1, .int .i64 z2]) HQ1.out rfl)
  have y0 := HQ1.out.at_ 0 _ rfl
  have y1 := HQ1.out.at_ 1 _ rfl
  have y2 := HQ1.out.at_ 2 _ rfl
  have x0 := HQ1.out.free 0
  have x1 := HQ1.out.free 1
  have x2 := HQ1.out.free 2
  clear hz0 hz2
  go_wp2
  obtain ⟨WE, hWE⟩ : ∃ W, w1.setCells (w.heap.size + 1) 0 [.string z0, .slice b1 n1 d1, .int .i64 z2] = W := ⟨_, rfl⟩
  have hWE2 : (((w1.setCell ⟨(w.heap.size + 1), 0, none⟩ (.string z0)).setCell ⟨(w.heap.size + 1), 1, none⟩ (.slice b1 n1 d1)).setCell ⟨(w.heap.size + 1), 2, none⟩ (.int .i64 z2)) = WE := hWE
  rw [hWE] at P
  rw [hWE2]
  clear hWE hWE2 y0 x0 y1 x1 y2 x2
  obtain ⟨PC, hsz, hbl, hkp⟩ := P.out
  refine bodyPost_ret (by simp [results, Tryz.results96, go_sem, PC.at_ 0 _ rfl, PC.at_ 1 _ rfl, PC.at_ 2 _ rfl]; try rfl) rfl ?_
  exact ⟨_, rfl, (HN.out.far hsz (fun b hb => hbl b (by have := HZS.out; omega))).less (by have := HZS.out; omega), hkp _ _ (Nat.le_succ _) (HK.out.trans KK.out)⟩

end Go.Proofs.YtflllkpnkcmegaaGreatDoor

/- Rows of budgets: whether they may stand so. -/
namespace Go.Proofs.YtflllkpnkcmegaaGreatDoor
open Go.RowKit
set_option linter.unusedVariables false

def chkFromBd : Option ByteArray → List Bd → Int
  | _, [] => 0
  | prev, n :: t => if chkBud n ≠ 0 then chkBud n else if Vec.behindB prev n.name = true then 13 else chkFromBd (some n.name) t
def chkAllBd (l : List Bd) : Int := if 8 < l.length then 4 else chkFromBd none l
def prevBd (l : List Bd) (k : Nat) : Option ByteArray := if k = 0 then none else (l[k - 1]?).map Bd.name
theorem prevBd_zero {l : List Bd} {k : Nat} (h : k = 0) (s : ByteArray) : Vec.behindB (prevBd l k) s = false := by unfold prevBd; rw [if_pos h]; rfl
theorem prevBd_some {l : List Bd} {k : Nat} {n : Bd} (h : ¬ k = 0) (hn : l[k - 1]? = some n) (s : ByteArray) : Vec.behindB (prevBd l k) s = leS s n.name := by unfold prevBd; rw [if_neg h, hn]; rfl
theorem prevBd_succ {l : List Bd} {k : Nat} {n : Bd} (hn : l[k]? = some n) : prevBd l (k + 1) = some n.name := by unfold prevBd; rw [if_neg (by omega), Nat.add_sub_cancel, hn]; rfl
theorem chkBd_bad {p : Option ByteArray} {n : Bd} {t : List Bd} (h : chkBud n ≠ 0) : chkFromBd p (n :: t) = chkBud n := by rw [chkFromBd, if_pos h]
theorem chkBd_order {p : Option ByteArray} {n : Bd} {t : List Bd} (h : chkBud n = 0) (b : Vec.behindB p n.name = true) : chkFromBd p (n :: t) = 13 := by rw [chkFromBd, if_neg (by rw [h]; decide), if_pos b]
theorem chkBd_next {p : Option ByteArray} {n : Bd} {t : List Bd} (h : chkBud n = 0) (b : Vec.behindB p n.name = false) : chkFromBd p (n :: t) = chkFromBd (some n.name) t := by rw [chkFromBd, if_neg (by rw [h]; decide), if_neg (by rw [b]; decide)]

theorem nameOfB_any (n : Bd) (v1 : Value) (w : World) : Calls Tryz.prog 101 #[BudV n v1] w fun e w' => e = .returned (.string n.name) ∧ Kept w w' := by
  unfold BudV
  go_enter Tryz.func101, Tryz.ntmps101
  go_wp2
  go_ret
  exact ⟨rfl, kept_alloc _ _⟩
set_option maxRecDepth 100000 in
set_option maxHeartbeats 3200000 in
theorem rowsCheckB_any (a : Option Addr) (len cap : Nat) (l : List Bd) (w : World) (hr : BudsAt w a len l) :
    Calls Tryz.prog 100 #[.slice a len cap, .int .i64 8, .func (.func 101) #[] #[], .func (.func 97) #[] #[]] w (Say (.int .i64 (chkAllBd l)) w) := by
  have hl := hr.1
  have hm := hr.2.1
  unfold maxLen at hm
  by_cases h32 : 8 < len
  · have HV := Lib.hid (show chkAllBd l = 4 by unfold chkAllBd; rw [if_pos (by omega)])
    clear hr hl
    go_enter Tryz.func100, Tryz.ntmps100
    go_wp2
    go_ret
    exact ⟨ret_i64 HV.out.symm, Kept.refl _⟩
  · have HV := Lib.hid (show chkAllBd l = chkFromBd none l by unfold chkAllBd; rw [if_neg (by omega)])
    have h32' : len ≤ 8 := by omega
    by_cases h0 : len = 0
    · subst h0
      have HE := Lib.hid (show chkAllBd l = 0 by rw [HV.out, List.eq_nil_of_length_eq_zero hl]; rfl)
      clear hr hl h32
      go_enter Tryz.func100, Tryz.ntmps100
      go_wp2
      refine wp_loop_rounds 1 ?_
      rw [rounds_succ]
      go_wp2
      go_ret
      exact ⟨ret_i64 HE.out.symm, Kept.refl _⟩
    · obtain ⟨b, off, rfl⟩ := hr.form.resolve_left h0
      have HR := Lib.hid hr
      have HL := Lib.hid hl
      clear hr hl h0 h32
      go_enter Tryz.func100, Tryz.ntmps100
      go_wp2
      go_loopw [18] (fun i wr => ∃ k : Nat, k ≤ len ∧ i = .int .i64 k ∧ chkFromBd (prevBd l k) (l.drop k) = chkFromBd none l ∧ Kept w wr) (fun i _ => len - (intOf i).toNat)
      case atStart => exact ⟨0, Nat.zero_le _, rfl, rfl, Kept.refl _⟩
      case round =>
        obtain ⟨k, hk, rfl, hrest, hK⟩ := hrel
        have HS := Lib.hid (HV.out.trans hrest.symm)
        have HT := Lib.hid hrest
        have HK := Lib.hid hK
        by_cases hlt : k < len
        · obtain ⟨n, a1, m1, c1, hn, hd, hb, p0, p1, p2, hat⟩ := (HR.out.kept hK).at_ hlt
          have HAT := Lib.hid hat
          have HD := Lib.hid hd
          have HNX := Lib.hid (prevBd_succ hn)
          have HCK := Lib.hid (fun W (kk : Kept wr W) => checkB_any n (.slice a1 m1 c1) W (HAT.out.kept kk))
          have HNA := Lib.hid (fun W => nameOfB_any n (.slice a1 m1 c1) W)
          unfold BudV at HCK HNA
          obtain ⟨ck, hck⟩ : ∃ x, chkBud n = x := ⟨_, rfl⟩
          have HCN := Lib.hid hck
          rw [hck] at HCK
          have hkk : (k : Int) < (len : Int) := by omega
          clear hrest hK hat hd hck
          by_cases z1 : ck = 0
          · subst z1
            by_cases h0 : k = 0
            · have hd0 : decide (0 < k) = false := by subst h0; decide
              have HP := Lib.hid (prevBd_zero (l := l) h0 n.name)
              clear h0
              go_wp2_with fail
              refine (HCK.out _ (kept_alloc _ _)).mono ?_
              rintro e w1 ⟨rfl, kk⟩
              have KW := Lib.hid (Kept.trans (kept_alloc _ _) kk)
              have HBX := Lib.hid (fun W k => freshN wr (.string n.name) [.slice a1 m1 c1, .int .i64 n.floor] 70 W (Kept.trans kk k))
              have y0 := (HBX.out w1 (Kept.refl _)).at_ 0 _ rfl
              have y1 := (HBX.out w1 (Kept.refl _)).at_ 1 _ rfl
              have y2 := (HBX.out w1 (Kept.refl _)).at_ 2 _ rfl
              clear kk
              go_wp2
              go_quiet (fail)
              go_wp2
              go_roundw
              case rel => exact ⟨k + 1, by omega, by go_num, (show chkFromBd (prevBd l (k + 1)) (l.drop (k + 1)) = chkFromBd none l by rw [← HT.out, HD.out, chkBd_next HCN.out HP.out, HNX.out]), HK.out.trans (KW.out.trans (Kept.drewN _ _))⟩
              case measure => simp [intOf]; omega
            · have hd0 : decide (0 < k) = true := by simp; omega
              obtain ⟨q, hqk⟩ : ∃ q, k = q + 1 := ⟨k - 1, by omega⟩
              have g1 : (k : Int) - 1 = (q : Int) := by omega
              have gw : IntKind.i64.wrap (q : Int) = (q : Int) := by rw [IntKind.wrap_i64]; omega
              have g2 : (q : Int) < (len : Int) := by omega
              obtain ⟨n9, b1, h1, d1, hn9, -, hb9, q0, q1, q2, -⟩ := (HR.out.kept HK.out).at_ (show q < len by omega)
              have HQK := Lib.hid hqk
              have hqk1 : k - 1 = q := by omega
              have HP := Lib.hid (prevBd_some (l := l) h0 (show l[k - 1]? = some n9 by rw [hqk1]; exact hn9) n.name)
              clear hqk hqk1
              have HNB := Lib.hid (fun W => nameOfB_any n9 (.slice b1 h1 d1) W)
              unfold BudV at HNB
              clear h0 hn9
              by_cases n3 : leS n.name n9.name = true
              · have n3' : (Op.bytesLess n.name.toList n9.name.toList || n.name.toList == n9.name.toList) = true := n3
                have N3 := Lib.hid n3
                clear n3
                go_wp2_with fail
                refine (HCK.out _ (kept_alloc _ _)).mono ?_
                rintro e w1 ⟨rfl, kk⟩
                have KW := Lib.hid (Kept.trans (kept_alloc _ _) kk)
                have HBX := Lib.hid (fun W k => freshN wr (.string n.name) [.slice a1 m1 c1, .int .i64 n.floor] 70 W (Kept.trans kk k))
                have y0 := (HBX.out w1 (Kept.refl _)).at_ 0 _ rfl
                have y1 := (HBX.out w1 (Kept.refl _)).at_ 1 _ rfl
                have y2 := (HBX.out w1 (Kept.refl _)).at_ 2 _ rfl
                have HO := Lib.hid (show ∀ W, Kept w1 W → (W.cell? ⟨wr.heap.size, 0, none⟩ = some (.string n.name) ∧ W.cell? ⟨wr.heap.size, 1, none⟩ = some (.slice a1 m1 c1) ∧ W.cell? ⟨wr.heap.size, 2, none⟩ = some (.int .i64 n.floor)) ∧ (W.cell? ⟨b, off + q * 3, none⟩ = some (.string n9.name) ∧ W.cell? ⟨b, off + q * 3 + 1, none⟩ = some (.slice b1 h1 d1) ∧ W.cell? ⟨b, off + q * 3 + 2, none⟩ = some (.int .i64 n9.floor)) from fun W k => ⟨⟨(HBX.out W k).at_ 0 _ rfl, (HBX.out W k).at_ 1 _ rfl, (HBX.out W k).at_ 2 _ rfl⟩, ⟨cell_later (KW.out.trans k) q0, cell_later (KW.out.trans k) q1, cell_later (KW.out.trans k) q2⟩⟩)
                clear kk q0 q1 q2
                go_wp2
                go_region_held3 (fun W => (W.cell? ⟨wr.heap.size, 0, none⟩ = some (.string n.name) ∧ W.cell? ⟨wr.heap.size, 1, none⟩ = some (.slice a1 m1 c1) ∧ W.cell? ⟨wr.heap.size, 2, none⟩ = some (.int .i64 n.floor)) ∧ (W.cell? ⟨b, off + q * 3, none⟩ = some (.string n9.name) ∧ W.cell? ⟨b, off + q * 3 + 1, none⟩ = some (.slice b1 h1 d1) ∧ W.cell? ⟨b, off + q * 3 + 2, none⟩ = some (.int .i64 n9.floor)))
                  (first | exact HO.out _ (Kept.drew _) | exact HO.out _ J1.out | exact HO.out _ J2.out)
                  (first | (go_at_call 101; refine (HNA.out _).mono ?_; rintro e1 w2 ⟨rfl, k1⟩; have J1 := Lib.hid ((Kept.drew _).trans k1); clear k1)
                         | (go_at_call 101; refine (HNB.out _).mono ?_; rintro e2 w3 ⟨rfl, k1⟩; have J2 := Lib.hid (J1.out.trans k1); clear k1))
                go_wp2
                go_ret
                exact ⟨ret_i64 (show (13 : Int) = chkAllBd l by rw [HS.out, HD.out, chkBd_order HCN.out (HP.out.trans N3.out)]), HK.out.trans (KW.out.trans J2.out)⟩
              · have n3 : leS n.name n9.name = false := by simpa using n3
                have n3' : (Op.bytesLess n.name.toList n9.name.toList || n.name.toList == n9.name.toList) = false := n3
                have N3 := Lib.hid n3
                clear n3
                go_wp2_with fail
                refine (HCK.out _ (kept_alloc _ _)).mono ?_
                rintro e w1 ⟨rfl, kk⟩
                have KW := Lib.hid (Kept.trans (kept_alloc _ _) kk)
                have HBX := Lib.hid (fun W k => freshN wr (.string n.name) [.slice a1 m1 c1, .int .i64 n.floor] 70 W (Kept.trans kk k))
                have y0 := (HBX.out w1 (Kept.refl _)).at_ 0 _ rfl
                have y1 := (HBX.out w1 (Kept.refl _)).at_ 1 _ rfl
                have y2 := (HBX.out w1 (Kept.refl _)).at_ 2 _ rfl
                have HO := Lib.hid (show ∀ W, Kept w1 W → (W.cell? ⟨wr.heap.size, 0, none⟩ = some (.string n.name) ∧ W.cell? ⟨wr.heap.size, 1, none⟩ = some (.slice a1 m1 c1) ∧ W.cell? ⟨wr.heap.size, 2, none⟩ = some (.int .i64 n.floor)) ∧ (W.cell? ⟨b, off + q * 3, none⟩ = some (.string n9.name) ∧ W.cell? ⟨b, off + q * 3 + 1, none⟩ = some (.slice b1 h1 d1) ∧ W.cell? ⟨b, off + q * 3 + 2, none⟩ = some (.int .i64 n9.floor)) from fun W k => ⟨⟨(HBX.out W k).at_ 0 _ rfl, (HBX.out W k).at_ 1 _ rfl, (HBX.out W k).at_ 2 _ rfl⟩, ⟨cell_later (KW.out.trans k) q0, cell_later (KW.out.trans k) q1, cell_later (KW.out.trans k) q2⟩⟩)
                clear kk q0 q1 q2
                go_wp2
                go_region_held3 (fun W => (W.cell? ⟨wr.heap.size, 0, none⟩ = some (.string n.name) ∧ W.cell? ⟨wr.heap.size, 1, none⟩ = some (.slice a1 m1 c1) ∧ W.cell? ⟨wr.heap.size, 2, none⟩ = some (.int .i64 n.floor)) ∧ (W.cell? ⟨b, off + q * 3, none⟩ = some (.string n9.name) ∧ W.cell? ⟨b, off + q * 3 + 1, none⟩ = some (.slice b1 h1 d1) ∧ W.cell? ⟨b, off + q * 3 + 2, none⟩ = some (.int .i64 n9.floor)))
                  (first | exact HO.out _ (Kept.drew _) | exact HO.out _ J1.out | exact HO.out _ J2.out)
                  (first | (go_at_call 101; refine (HNA.out _).mono ?_; rintro e1 w2 ⟨rfl, k1⟩; have J1 := Lib.hid ((Kept.drew _).trans k1); clear k1)
                         | (go_at_call 101; refine (HNB.out _).mono ?_; rintro e2 w3 ⟨rfl, k1⟩; have J2 := Lib.hid (J1.out.trans k1); clear k1))
                go_wp2
                go_roundw
                case rel => exact ⟨k + 1, by omega, by go_num, (show chkFromBd (prevBd l (k + 1)) (l.drop (k + 1)) = chkFromBd none l by rw [← HT.out, HD.out, chkBd_next HCN.out (HP.out.trans N3.out), HNX.out]), HK.out.trans (KW.out.trans J2.out)⟩
                case measure => simp [intOf]; omega
          · have z1' : (ck != 0) = true := by simpa using z1
            have HB := Lib.hid (show chkAllBd l = ck by rw [HS.out, HD.out, chkBd_bad (by rw [HCN.out]; exact z1), HCN.out])
            clear z1
            go_wp2_with fail
            refine (HCK.out _ (kept_alloc _ _)).mono ?_
            rintro e w1 ⟨rfl, kk⟩
            have KW := Lib.hid (Kept.trans (kept_alloc _ _) kk)
            have HBX := Lib.hid (fun W k => freshN wr (.string n.name) [.slice a1 m1 c1, .int .i64 n.floor] 70 W (Kept.trans kk k))
            have y0 := (HBX.out w1 (Kept.refl _)).at_ 0 _ rfl
            have y1 := (HBX.out w1 (Kept.refl _)).at_ 1 _ rfl
            have y2 := (HBX.out w1 (Kept.refl _)).at_ 2 _ rfl
            clear kk
            go_wp2
            go_ret
            exact ⟨ret_i64 HB.out.symm, HK.out.trans KW.out⟩
        · have HE := Lib.hid (show chkAllBd l = 0 by rw [HS.out, List.drop_of_length_le (by rw [HL.out]; omega)]; rfl)
          clear hrest hK
          go_wp2
          go_ret
          exact ⟨ret_i64 HE.out.symm, HK.out⟩
theorem checkAllB_any (a : Option Addr) (len cap : Nat) (l : List Bd) (w : World) (hr : BudsAt w a len l) :
    Calls Tryz.prog 31 #[.slice a len cap] w (Say (.int .i64 (chkAllBd l)) w) := by
  have H := Lib.hid (rowsCheckB_any a len cap l w hr)
  clear hr
  go_enter Tryz.func31, Tryz.ntmps31
  go_wp2_with fail
  refine H.out.mono ?_
  rintro e w1 ⟨rfl, k⟩
  have K := Lib.hid k
  clear k
  go_wp2
  go_ret
  exact ⟨rfl, K.out⟩
theorem checkAllBR {v : Value} {l : List Bd} {c : Int} {w : World} (h : BudsR w v l) (hc : chkAllBd l = c) : Calls Tryz.prog 31 #[v] w (Say (.int .i64 c) w) := by
  subst hc
  obtain ⟨a, cap, rfl, _, _, hr⟩ := h
  exact checkAllB_any a _ cap l w hr

end Go.Proofs.YtflllkpnkcmegaaGreatDoor

/- Whether a pod may go. -/
namespace Go.Proofs.YtflllkpnkcmegaaGreatDoor
open Go.RowKit
set_option linter.unusedVariables false

/-- The first budget that forbids it. -/
def forB (bs : List Bd) (l : List Pd) (p : Pd) : Option Bd := bs.find? fun b => covB b p && decide ((cntB b l : Int) ≤ b.floor)
def alwB (bs : List Bd) (l : List Pd) (x : ByteArray) : ByteArray × Bool := match findP l x with
  | none => (ByteArray.empty, true)
  | some p => match forB bs l p with
    | none => (ByteArray.empty, true)
    | some b => (b.name, false)
theorem alw_none {bs : List Bd} {l : List Pd} {x : ByteArray} (h : findP l x = none) : alwB bs l x = (ByteArray.empty, true) := by unfold alwB; rw [h]
theorem alw_free {bs : List Bd} {l : List Pd} {x : ByteArray} {p : Pd} (h : findP l x = some p) (g : forB bs l p = none) : alwB bs l x = (ByteArray.empty, true) := by unfold alwB; rw [h]; simp only; rw [g]
theorem alw_hit {bs : List Bd} {l : List Pd} {x : ByteArray} {p : Pd} {b : Bd} (h : findP l x = some p) (g : forB bs l p = some b) : alwB bs l x = (b.name, false) := by unfold alwB; rw [h]; simp only; rw [g]
theorem ret_alw {x y : ByteArray} {b c : Bool} (h : (x, b) = (y, c)) : Ending.returned (.tuple #[.string x, .bool b]) = .returned (.tuple #[.string y, .bool c]) := by obtain ⟨rfl, rfl⟩ := Prod.mk.inj h; rfl
theorem for_hit {b : Bd} {t : List Bd} {l : List Pd} {p : Pd} (h : covB b p = true) (g : (cntB b l : Int) ≤ b.floor) : forB (b :: t) l p = some b := by unfold forB; rw [List.find?_cons_of_pos (by rw [h]; simpa using g)]
theorem for_cov {b : Bd} {t : List Bd} {l : List Pd} {p : Pd} (h : covB b p = false) : forB (b :: t) l p = forB t l p := by unfold forB; rw [List.find?_cons_of_neg (by rw [h]; simp)]
theorem for_cnt {b : Bd} {t : List Bd} {l : List Pd} {p : Pd} (h : ¬ (cntB b l : Int) ≤ b.floor) : forB (b :: t) l p = forB t l p := by unfold forB; rw [List.find?_cons_of_neg (by simp; intro _; omega)]
theorem find_sp (a : Option Addr) (len cap : Nat) (l : List Pd) (x : ByteArray) (w : World) (hr : PodsAt w a len l) (hlow : ∀ n ∈ l, LowPd n) :
    Calls Tryz.prog 25 #[.slice a len cap, .string x] w fun e w' => ∃ (p : Pd) (q : Bool) (e1 : Option Addr) (f1 g1 : Nat) (e2 : Option Addr) (f2 g2 : Nat) (e3 : Option Addr) (f3 g3 : Nat) (e4 : Option Addr) (f4 g4 : Nat), e = .returned (.tuple #[.agg #[.string p.name, .string p.owner, .int .i64 p.prio, .slice e1 f1 g1, .slice e2 f2 g2, .slice e3 f3 g3, .slice e4 f4 g4, .string p.key, .int .i64 p.most, .string p.node, .bool p.hold], .bool q]) ∧ (findP l x).isSome = q ∧ (findP l x).getD Pd.zero = p ∧ PodAt w' (.slice e1 f1 g1) (.slice e2 f2 g2) (.slice e3 f3 g3) (.slice e4 f4 g4) p ∧ Kept w w' := by
  refine (findP_any a len cap l x w hr hlow).mono ?_
  rintro e w' ⟨v, rfl, hn, k⟩
  obtain ⟨v1, v2, v3, v4, rfl, h⟩ := hn
  obtain ⟨b1, n1, d1, b2, n2, d2, b3, n3, d3, b4, n4, d4, rfl, rfl, rfl, rfl⟩ := h.spelt
  exact ⟨_, _, _, _, _, _, _, _, _, _, _, _, _, _, rfl, rfl, rfl, h, k⟩
set_option maxRecDepth 100000 in
set_option maxHeartbeats 8000000 in
theorem alw_any (a a9 : Option Addr) (len cap len9 cap9 : Nat) (bs : List Bd) (l : List Pd) (x : ByteArray) (w : World) (hb : BudsAt w a len bs) (hr : PodsAt w a9 len9 l) (hlow : ∀ n ∈ l, LowPd n) :
    Calls Tryz.prog 36 #[.slice a len cap, .slice a9 len9 cap9, .string x] w fun e w' => e = .returned (.tuple #[.string (alwB bs l x).1, .bool (alwB bs l x).2]) ∧ Kept w w' := by
  have hl := hb.1
  have hm := hb.2.1
  unfold maxLen at hm
  have HFD := Lib.hid (find_sp a9 len9 cap9 l x w hr hlow)
  have HR := Lib.hid hb
  have HP := Lib.hid hr
  have HL := Lib.hid hl
  obtain ⟨y, hy⟩ : ∃ y, alwB bs l x = y := ⟨_, rfl⟩
  have HY := Lib.hid hy
  rw [hy]
  obtain ⟨y1, y2⟩ := y
  dsimp only
  clear hb hr hl hy hlow
  go_enter Tryz.func36, Tryz.ntmps36
  go_wp2_with fail
  refine HFD.out.mono ?_
  rintro e w1 ⟨p, q, e1, f1, g1, e2, f2, g2, e3, f3, g3, e4, f4, g4, rfl, hq, hp, hat, k⟩
  have K1 := Lib.hid k
  have HQ := Lib.hid hq
  have HPP := Lib.hid hp
  obtain ⟨W1, hW1⟩ : ∃ W, w1.alloc (.cells #[.string p.name, .string p.owner, .int .i64 p.prio, .slice e1 f1 g1, .slice e2 f2 g2, .slice e3 f3 g3, .slice e4 f4 g4, .string p.key, .int .i64 p.most, .string p.node, .bool p.hold] 30) = W := ⟨_, rfl⟩
  have hk1 : Kept w1 W1 := by rw [← hW1]; exact kept_alloc _ _
  have HAT := Lib.hid (hat.kept hk1)
  have KW1 := Lib.hid (k.trans hk1)
  have HPC := Lib.hid (show ∀ W, Kept W1 W → W.cell? ⟨w1.heap.size, 0, none⟩ = some (.string p.name) ∧ W.cell? ⟨w1.heap.size, 1, none⟩ = some (.string p.owner) ∧ W.cell? ⟨w1.heap.size, 2, none⟩ = some (.int .i64 p.prio) ∧ W.cell? ⟨w1.heap.size, 3, none⟩ = some (.slice e1 f1 g1) ∧ W.cell? ⟨w1.heap.size, 4, none⟩ = some (.slice e2 f2 g2) ∧ W.cell? ⟨w1.heap.size, 5, none⟩ = some (.slice e3 f3 g3) ∧ W.cell? ⟨w1.heap.size, 6, none⟩ = some (.slice e4 f4 g4) ∧ W.cell? ⟨w1.heap.size, 7, none⟩ = some (.string p.key) ∧ W.cell? ⟨w1.heap.size, 8, none⟩ = some (.int .i64 p.most) ∧ W.cell? ⟨w1.heap.size, 9, none⟩ = some (.string p.node) ∧ W.cell? ⟨w1.heap.size, 10, none⟩ = some (.bool p.hold) from fun W kk => by
    have c := freshN w1 (.string p.name) [.string p.owner, .int .i64 p.prio, .slice e1 f1 g1, .slice e2 f2 g2, .slice e3 f3 g3, .slice e4 f4 g4, .string p.key, .int .i64 p.most, .string p.node, .bool p.hold] 30 W (by rw [hW1]; exact kk)
    exact ⟨c.at_ 0 _ rfl, c.at_ 1 _ rfl, c.at_ 2 _ rfl, c.at_ 3 _ rfl, c.at_ 4 _ rfl, c.at_ 5 _ rfl, c.at_ 6 _ rfl, c.at_ 7 _ rfl, c.at_ 8 _ rfl, c.at_ 9 _ rfl, c.at_ 10 _ rfl⟩)
  clear hq hp hat k hk1
  cases q with
  | false =>
    have HF := Lib.hid (show findP l x = none by have := HQ.out; cases h : findP l x with | none => rfl | some z => rw [h] at this; cases this)
    have HE := Lib.hid ((alw_none HF.out).symm.trans HY.out)
    go_wp2
    try rw [hW1]
    go_ret2
    exact ⟨ret_alw HE.out, KW1.out⟩
  | true =>
    have HF := Lib.hid (show findP l x = some p by have := HQ.out; have h2 := HPP.out; cases h : findP l x with | none => rw [h] at this; cases this | some z => rw [h] at h2; exact congrArg some h2)
    by_cases h0 : len = 0
    · subst h0
      have HE := Lib.hid ((alw_free HF.out (show forB bs l p = none by rw [List.eq_nil_of_length_eq_zero HL.out]; rfl)).symm.trans HY.out)
      go_wp2
      try rw [hW1]
      refine wp_loop_rounds 1 ?_
      rw [rounds_succ]
      go_wp2
      go_ret2
      exact ⟨ret_alw HE.out, KW1.out⟩
    · obtain ⟨b, off, rfl⟩ := HR.out.form.resolve_left h0
      go_wp2
      try rw [hW1]
      clear h0 hW1
      go_loopw [22] (fun i wr => ∃ k : Nat, k ≤ len ∧ i = .int .i64 k ∧ forB (bs.drop k) l p = forB bs l p ∧ Kept W1 wr) (fun i _ => len - (intOf i).toNat)
      case atStart => exact ⟨0, Nat.zero_le _, rfl, rfl, Kept.refl _⟩
      case round =>
        obtain ⟨k, hk, rfl, hrest, hK⟩ := hrel
        have HRS := Lib.hid hrest
        have HK := Lib.hid hK
        by_cases hlt : k < len
        · obtain ⟨n, a1, m1, c1, hn, hd, hb, p0, p1, p2, hat⟩ := (HR.out.kept (KW1.out.trans hK)).at_ hlt
          have HN := Lib.hid hn
          have HD := Lib.hid hd
          have HCT := Lib.hid (fun W (kk : Kept wr W) => countB_any n a1 m1 c1 a9 len9 cap9 l W (hat.kept kk) (HP.out.kept (KW1.out.trans (hK.trans kk))))
          have HCV := Lib.hid (fun W (kk : Kept wr W) => covB_any n (.slice a1 m1 c1) p (.slice e1 f1 g1) (.slice e2 f2 g2) (.slice e3 f3 g3) (.slice e4 f4 g4) W (hat.kept kk) (HAT.out.kept (hK.trans kk)))
          unfold BudV at HCT HCV
          unfold PodV at HCV
          obtain ⟨ct, hct⟩ : ∃ c, cntB n l = c := ⟨_, rfl⟩
          obtain ⟨cv, hcv⟩ : ∃ c, covB n p = c := ⟨_, rfl⟩
          have HC := Lib.hid hct
          have HV := Lib.hid hcv
          rw [hct] at HCT
          rw [hcv] at HCV
          have hk1 : (k : Int) < (len : Int) := by omega
          obtain ⟨W2, hW2⟩ : ∃ W, wr.alloc (.cells #[.string n.name, .slice a1 m1 c1, .int .i64 n.floor] 70) = W := ⟨_, rfl⟩
          have HKA := Lib.hid (show Kept wr W2 by rw [← hW2]; exact kept_alloc _ _)
          have HS := Lib.hid (show ∀ W, Kept W2 W → W.cell? ⟨wr.heap.size, 0, none⟩ = some (.string n.name) ∧ W.cell? ⟨wr.heap.size, 1, none⟩ = some (.slice a1 m1 c1) ∧ W.cell? ⟨wr.heap.size, 2, none⟩ = some (.int .i64 n.floor) ∧ W.cell? ⟨w1.heap.size, 0, none⟩ = some (.string p.name) ∧ W.cell? ⟨w1.heap.size, 1, none⟩ = some (.string p.owner) ∧ W.cell? ⟨w1.heap.size, 2, none⟩ = some (.int .i64 p.prio) ∧ W.cell? ⟨w1.heap.size, 3, none⟩ = some (.slice e1 f1 g1) ∧ W.cell? ⟨w1.heap.size, 4, none⟩ = some (.slice e2 f2 g2) ∧ W.cell? ⟨w1.heap.size, 5, none⟩ = some (.slice e3 f3 g3) ∧ W.cell? ⟨w1.heap.size, 6, none⟩ = some (.slice e4 f4 g4) ∧ W.cell? ⟨w1.heap.size, 7, none⟩ = some (.string p.key) ∧ W.cell? ⟨w1.heap.size, 8, none⟩ = some (.int .i64 p.most) ∧ W.cell? ⟨w1.heap.size, 9, none⟩ = some (.string p.node) ∧ W.cell? ⟨w1.heap.size, 10, none⟩ = some (.bool p.hold) from fun W kk => by
            have c := freshN wr (.string n.name) [.slice a1 m1 c1, .int .i64 n.floor] 70 W (by rw [hW2]; exact kk)
            exact ⟨c.at_ 0 _ rfl, c.at_ 1 _ rfl, c.at_ 2 _ rfl, HPC.out _ (hK.trans (HKA.out.trans kk))⟩)
          clear hrest hK hn hd hat hct hcv
          cases cv with
          | true =>
            by_cases z : (ct : Int) ≤ n.floor
            · have HE := Lib.hid ((alw_hit HF.out (show forB bs l p = some n by rw [← HRS.out, HD.out]; exact for_hit HV.out (by rw [HC.out]; exact z))).symm.trans HY.out)
              go_wp2
              try rw [hW2]
              clear hW2
              clear p0 p1 p2
              obtain ⟨o0, o1, o2, o3, o4, o5, o6, o7, o8, o9, o10, o11, o12, o13⟩ := HS.out _ (Kept.refl _)
              refine wp_region_held_drew (S := fun W => W.cell? ⟨wr.heap.size, 0, none⟩ = some (.string n.name) ∧ W.cell? ⟨wr.heap.size, 1, none⟩ = some (.slice a1 m1 c1) ∧ W.cell? ⟨wr.heap.size, 2, none⟩ = some (.int .i64 n.floor) ∧ W.cell? ⟨w1.heap.size, 0, none⟩ = some (.string p.name) ∧ W.cell? ⟨w1.heap.size, 1, none⟩ = some (.string p.owner) ∧ W.cell? ⟨w1.heap.size, 2, none⟩ = some (.int .i64 p.prio) ∧ W.cell? ⟨w1.heap.size, 3, none⟩ = some (.slice e1 f1 g1) ∧ W.cell? ⟨w1.heap.size, 4, none⟩ = some (.slice e2 f2 g2) ∧ W.cell? ⟨w1.heap.size, 5, none⟩ = some (.slice e3 f3 g3) ∧ W.cell? ⟨w1.heap.size, 6, none⟩ = some (.slice e4 f4 g4) ∧ W.cell? ⟨w1.heap.size, 7, none⟩ = some (.string p.key) ∧ W.cell? ⟨w1.heap.size, 8, none⟩ = some (.int .i64 p.most) ∧ W.cell? ⟨w1.heap.size, 9, none⟩ = some (.string p.node) ∧ W.cell? ⟨w1.heap.size, 10, none⟩ = some (.bool p.hold)) (by kernel_rfl) (HS.out _ (Kept.drew _)) (fun hHeld => ?_)
              clear o0 o1 o2 o3 o4 o5 o6 o7 o8 o9 o10 o11 o12 o13
              refine wpAnyH_take (i := 0) (v := ?_) (by rw [List.getElem?_toArray]; exact rfl) (by kernel_rfl) (by kernel_rfl) (by kernel_rfl) (by exact fun _ _ _ h => h) (Or.inl ⟨by rfl, (by intro W hSw; obtain ⟨o0, o1, o2, o3, o4, o5, o6, o7, o8, o9, o10, o11, o12, o13⟩ := hSw; go_simp <;> with_reducible rfl)⟩) (by assumption) ?_
              try simp only [Act.put, List.setIfInBounds_toArray, List.set_cons_zero, List.set_cons_succ]
              refine wpAnyH_take (i := 1) (v := ?_) (by rw [List.getElem?_toArray]; exact rfl) (by kernel_rfl) (by kernel_rfl) (by kernel_rfl) (by exact fun _ _ _ h => h) (Or.inl ⟨by rfl, (by intro W hSw; obtain ⟨o0, o1, o2, o3, o4, o5, o6, o7, o8, o9, o10, o11, o12, o13⟩ := hSw; go_simp <;> with_reducible rfl)⟩) (by assumption) ?_
              try simp only [Act.put, List.setIfInBounds_toArray, List.set_cons_zero, List.set_cons_succ]
              refine wpAnyH_ready (rs := [2]) (by kernel_rfl) (by simp) (AllReadyH.cons (by rw [List.getElem?_toArray]; exact rfl) (fun K9 hK9 => ?_) AllReadyH.nil)
              go_simp
              refine (HCV.out _ (HKA.out.trans (Kept.drew _))).mono ?_
              rintro e1 w2 ⟨rfl, kk⟩
              have J1 := Lib.hid ((Kept.drew _).trans kk)
              clear kk
              refine hK9.out _ _ (HS.out _ J1.out) (fun hHeld1 => ?_)
              clear hK9 K9
              try simp only [Act.put, List.setIfInBounds_toArray, List.set_cons_zero, List.set_cons_succ]
              refine wpAnyH_take (i := 3) (v := ?_) (by rw [List.getElem?_toArray]; exact rfl) (by kernel_rfl) (by kernel_rfl) (by kernel_rfl) (by exact fun _ _ _ h => h) (Or.inl ⟨by rfl, (by intro W hSw; obtain ⟨o0, o1, o2, o3, o4, o5, o6, o7, o8, o9, o10, o11, o12, o13⟩ := hSw; go_simp <;> with_reducible rfl)⟩) (by assumption) ?_
              try simp only [Act.put, List.setIfInBounds_toArray, List.set_cons_zero, List.set_cons_succ]
              refine wpAnyH_take (i := 4) (v := ?_) (by rw [List.getElem?_toArray]; exact rfl) (by kernel_rfl) (by kernel_rfl) (by kernel_rfl) (by exact fun _ _ _ h => h) (Or.inl ⟨by rfl, (by intro W hSw; obtain ⟨o0, o1, o2, o3, o4, o5, o6, o7, o8, o9, o10, o11, o12, o13⟩ := hSw; go_simp <;> with_reducible rfl)⟩) (by assumption) ?_
              try simp only [Act.put, List.setIfInBounds_toArray, List.set_cons_zero, List.set_cons_succ]
              refine wpAnyH_take (i := 5) (v := ?_) (by rw [List.getElem?_toArray]; exact rfl) (by kernel_rfl) (by kernel_rfl) (by kernel_rfl) (by exact fun _ _ _ h => h) (Or.inl ⟨by rfl, (by intro W hSw; obtain ⟨o0, o1, o2, o3, o4, o5, o6, o7, o8, o9, o10, o11, o12, o13⟩ := hSw; go_simp <;> with_reducible rfl)⟩) (by assumption) ?_
              try simp only [Act.put, List.setIfInBounds_toArray, List.set_cons_zero, List.set_cons_succ]
              refine wpAnyH_take (i := 7) (v := ?_) (by rw [List.getElem?_toArray]; exact rfl) (by kernel_rfl) (by kernel_rfl) (by kernel_rfl) (by exact fun _ _ _ h => h) (Or.inl ⟨by rfl, (by intro W hSw; obtain ⟨o0, o1, o2, o3, o4, o5, o6, o7, o8, o9, o10, o11, o12, o13⟩ := hSw; go_simp <;> with_reducible rfl)⟩) (by assumption) ?_
              try simp only [Act.put, List.setIfInBounds_toArray, List.set_cons_zero, List.set_cons_succ]
              refine wpAnyH_take (i := 8) (v := ?_) (by rw [List.getElem?_toArray]; exact rfl) (by kernel_rfl) (by kernel_rfl) (by kernel_rfl) (by exact fun _ _ _ h => h) (Or.inl ⟨by rfl, (by intro W hSw; obtain ⟨o0, o1, o2, o3, o4, o5, o6, o7, o8, o9, o10, o11, o12, o13⟩ := hSw; go_simp <;> with_reducible rfl)⟩) (by assumption) ?_
              try simp only [Act.put, List.setIfInBounds_toArray, List.set_cons_zero, List.set_cons_succ]
              refine wpAnyH_ready (rs := [6]) (by kernel_rfl) (by simp) (AllReadyH.cons (by rw [List.getElem?_toArray]; exact rfl) (fun K9 hK9 => ?_) AllReadyH.nil)
              go_simp
              refine (HCT.out _ (HKA.out.trans J1.out)).mono ?_
              rintro e2 w3 ⟨rfl, kk⟩
              have J2 := Lib.hid ((J1.out).trans kk)
              clear kk
              refine hK9.out _ _ (HS.out _ J2.out) (fun hHeld2 => ?_)
              clear hK9 K9
              try simp only [Act.put, List.setIfInBounds_toArray, List.set_cons_zero, List.set_cons_succ]
              refine wpAnyH_take (i := 9) (v := ?_) (by rw [List.getElem?_toArray]; exact rfl) (by kernel_rfl) (by kernel_rfl) (by kernel_rfl) (by exact fun _ _ _ h => h) (Or.inl ⟨by rfl, (by intro W hSw; obtain ⟨o0, o1, o2, o3, o4, o5, o6, o7, o8, o9, o10, o11, o12, o13⟩ := hSw; go_simp <;> with_reducible rfl)⟩) (by assumption) ?_
              try simp only [Act.put, List.setIfInBounds_toArray, List.set_cons_zero, List.set_cons_succ]
              refine wpAnyH_take (i := 10) (v := ?_) (by rw [List.getElem?_toArray]; exact rfl) (by kernel_rfl) (by kernel_rfl) (by kernel_rfl) (by exact fun _ _ _ h => h) (Or.inl ⟨by rfl, (by intro W hSw; obtain ⟨o0, o1, o2, o3, o4, o5, o6, o7, o8, o9, o10, o11, o12, o13⟩ := hSw; go_simp <;> with_reducible rfl)⟩) (by assumption) ?_
              try simp only [Act.put, List.setIfInBounds_toArray, List.set_cons_zero, List.set_cons_succ]
              refine wpAnyH_done (by kernel_rfl) ?_ _
              obtain ⟨o0, o1, o2, o3, o4, o5, o6, o7, o8, o9, o10, o11, o12, o13⟩ := HS.out _ J2.out
              go_wp2
              go_ret2
              exact ⟨ret_alw HE.out, KW1.out.trans (HK.out.trans (HKA.out.trans J2.out))⟩
            · have HE := Lib.hid (show forB (bs.drop (k + 1)) l p = forB bs l p by rw [← HRS.out, HD.out]; exact (for_cnt (by rw [HC.out]; exact z)).symm)
              have z1 : n.floor < (ct : Int) := by omega
              clear z
              go_wp2
              try rw [hW2]
              clear hW2
              clear p0 p1 p2
              obtain ⟨o0, o1, o2, o3, o4, o5, o6, o7, o8, o9, o10, o11, o12, o13⟩ := HS.out _ (Kept.refl _)
              refine wp_region_held_drew (S := fun W => W.cell? ⟨wr.heap.size, 0, none⟩ = some (.string n.name) ∧ W.cell? ⟨wr.heap.size, 1, none⟩ = some (.slice a1 m1 c1) ∧ W.cell? ⟨wr.heap.size, 2, none⟩ = some (.int .i64 n.floor) ∧ W.cell? ⟨w1.heap.size, 0, none⟩ = some (.string p.name) ∧ W.cell? ⟨w1.heap.size, 1, none⟩ = some (.string p.owner) ∧ W.cell? ⟨w1.heap.size, 2, none⟩ = some (.int .i64 p.prio) ∧ W.cell? ⟨w1.heap.size, 3, none⟩ = some (.slice e1 f1 g1) ∧ W.cell? ⟨w1.heap.size, 4, none⟩ = some (.slice e2 f2 g2) ∧ W.cell? ⟨w1.heap.size, 5, none⟩ = some (.slice e3 f3 g3) ∧ W.cell? ⟨w1.heap.size, 6, none⟩ = some (.slice e4 f4 g4) ∧ W.cell? ⟨w1.heap.size, 7, none⟩ = some (.string p.key) ∧ W.cell? ⟨w1.heap.size, 8, none⟩ = some (.int .i64 p.most) ∧ W.cell? ⟨w1.heap.size, 9, none⟩ = some (.string p.node) ∧ W.cell? ⟨w1.heap.size, 10, none⟩ = some (.bool p.hold)) (by kernel_rfl) (HS.out _ (Kept.drew _)) (fun hHeld => ?_)
              clear o0 o1 o2 o3 o4 o5 o6 o7 o8 o9 o10 o11 o12 o13
              refine wpAnyH_take (i := 0) (v := ?_) (by rw [List.getElem?_toArray]; exact rfl) (by kernel_rfl) (by kernel_rfl) (by kernel_rfl) (by exact fun _ _ _ h => h) (Or.inl ⟨by rfl, (by intro W hSw; obtain ⟨o0, o1, o2, o3, o4, o5, o6, o7, o8, o9, o10, o11, o12, o13⟩ := hSw; go_simp <;> with_reducible rfl)⟩) (by assumption) ?_
              try simp only [Act.put, List.setIfInBounds_toArray, List.set_cons_zero, List.set_cons_succ]
              refine wpAnyH_take (i := 1) (v := ?_) (by rw [List.getElem?_toArray]; exact rfl) (by kernel_rfl) (by kernel_rfl) (by kernel_rfl) (by exact fun _ _ _ h => h) (Or.inl ⟨by rfl, (by intro W hSw; obtain ⟨o0, o1, o2, o3, o4, o5, o6, o7, o8, o9, o10, o11, o12, o13⟩ := hSw; go_simp <;> with_reducible rfl)⟩) (by assumption) ?_
              try simp only [Act.put, List.setIfInBounds_toArray, List.set_cons_zero, List.set_cons_succ]
              refine wpAnyH_ready (rs := [2]) (by kernel_rfl) (by simp) (AllReadyH.cons (by rw [List.getElem?_toArray]; exact rfl) (fun K9 hK9 => ?_) AllReadyH.nil)
              go_simp
              refine (HCV.out _ (HKA.out.trans (Kept.drew _))).mono ?_
              rintro e1 w2 ⟨rfl, kk⟩
              have J1 := Lib.hid ((Kept.drew _).trans kk)
              clear kk
              refine hK9.out _ _ (HS.out _ J1.out) (fun hHeld1 => ?_)
              clear hK9 K9
              try simp only [Act.put, List.setIfInBounds_toArray, List.set_cons_zero, List.set_cons_succ]
              refine wpAnyH_take (i := 3) (v := ?_) (by rw [List.getElem?_toArray]; exact rfl) (by kernel_rfl) (by kernel_rfl) (by kernel_rfl) (by exact fun _ _ _ h => h) (Or.inl ⟨by rfl, (by intro W hSw; obtain ⟨o0, o1, o2, o3, o4, o5, o6, o7, o8, o9, o10, o11, o12, o13⟩ := hSw; go_simp <;> with_reducible rfl)⟩) (by assumption) ?_
              try simp only [Act.put, List.setIfInBounds_toArray, List.set_cons_zero, List.set_cons_succ]
              refine wpAnyH_take (i := 4) (v := ?_) (by rw [List.getElem?_toArray]; exact rfl) (by kernel_rfl) (by kernel_rfl) (by kernel_rfl) (by exact fun _ _ _ h => h) (Or.inl ⟨by rfl, (by intro W hSw; obtain ⟨o0, o1, o2, o3, o4, o5, o6, o7, o8, o9, o10, o11, o12, o13⟩ := hSw; go_simp <;> with_reducible rfl)⟩) (by assumption) ?_
              try simp only [Act.put, List.setIfInBounds_toArray, List.set_cons_zero, List.set_cons_succ]
              refine wpAnyH_take (i := 5) (v := ?_) (by rw [List.getElem?_toArray]; exact rfl) (by kernel_rfl) (by kernel_rfl) (by kernel_rfl) (by exact fun _ _ _ h => h) (Or.inl ⟨by rfl, (by intro W hSw; obtain ⟨o0, o1, o2, o3, o4, o5, o6, o7, o8, o9, o10, o11, o12, o13⟩ := hSw; go_simp <;> with_reducible rfl)⟩) (by assumption) ?_
              try simp only [Act.put, List.setIfInBounds_toArray, List.set_cons_zero, List.set_cons_succ]
              refine wpAnyH_take (i := 7) (v := ?_) (by rw [List.getElem?_toArray]; exact rfl) (by kernel_rfl) (by kernel_rfl) (by kernel_rfl) (by exact fun _ _ _ h => h) (Or.inl ⟨by rfl, (by intro W hSw; obtain ⟨o0, o1, o2, o3, o4, o5, o6, o7, o8, o9, o10, o11, o12, o13⟩ := hSw; go_simp <;> with_reducible rfl)⟩) (by assumption) ?_
              try simp only [Act.put, List.setIfInBounds_toArray, List.set_cons_zero, List.set_cons_succ]
              refine wpAnyH_take (i := 8) (v := ?_) (by rw [List.getElem?_toArray]; exact rfl) (by kernel_rfl) (by kernel_rfl) (by kernel_rfl) (by exact fun _ _ _ h => h) (Or.inl ⟨by rfl, (by intro W hSw; obtain ⟨o0, o1, o2, o3, o4, o5, o6, o7, o8, o9, o10, o11, o12, o13⟩ := hSw; go_simp <;> with_reducible rfl)⟩) (by assumption) ?_
              try simp only [Act.put, List.setIfInBounds_toArray, List.set_cons_zero, List.set_cons_succ]
              refine wpAnyH_ready (rs := [6]) (by kernel_rfl) (by simp) (AllReadyH.cons (by rw [List.getElem?_toArray]; exact rfl) (fun K9 hK9 => ?_) AllReadyH.nil)
              go_simp
              refine (HCT.out _ (HKA.out.trans J1.out)).mono ?_
              rintro e2 w3 ⟨rfl, kk⟩
              have J2 := Lib.hid ((J1.out).trans kk)
              clear kk
              refine hK9.out _ _ (HS.out _ J2.out) (fun hHeld2 => ?_)
              clear hK9 K9
              try simp only [Act.put, List.setIfInBounds_toArray, List.set_cons_zero, List.set_cons_succ]
              refine wpAnyH_take (i := 9) (v := ?_) (by rw [List.getElem?_toArray]; exact rfl) (by kernel_rfl) (by kernel_rfl) (by kernel_rfl) (by exact fun _ _ _ h => h) (Or.inl ⟨by rfl, (by intro W hSw; obtain ⟨o0, o1, o2, o3, o4, o5, o6, o7, o8, o9, o10, o11, o12, o13⟩ := hSw; go_simp <;> with_reducible rfl)⟩) (by assumption) ?_
              try simp only [Act.put, List.setIfInBounds_toArray, List.set_cons_zero, List.set_cons_succ]
              refine wpAnyH_take (i := 10) (v := ?_) (by rw [List.getElem?_toArray]; exact rfl) (by kernel_rfl) (by kernel_rfl) (by kernel_rfl) (by exact fun _ _ _ h => h) (Or.inl ⟨by rfl, (by intro W hSw; obtain ⟨o0, o1, o2, o3, o4, o5, o6, o7, o8, o9, o10, o11, o12, o13⟩ := hSw; go_simp <;> with_reducible rfl)⟩) (by assumption) ?_
              try simp only [Act.put, List.setIfInBounds_toArray, List.set_cons_zero, List.set_cons_succ]
              refine wpAnyH_done (by kernel_rfl) ?_ _
              obtain ⟨o0, o1, o2, o3, o4, o5, o6, o7, o8, o9, o10, o11, o12, o13⟩ := HS.out _ J2.out
              go_wp2
              go_roundw
              case rel => exact ⟨k + 1, by omega, by go_num, HE.out, HK.out.trans (HKA.out.trans J2.out)⟩
              case measure => simp [intOf]; omega
          | false =>
            have HE := Lib.hid (show forB (bs.drop (k + 1)) l p = forB bs l p by rw [← HRS.out, HD.out]; exact (for_cov HV.out).symm)
            go_wp2
            try rw [hW2]
            clear hW2
            clear p0 p1 p2
            obtain ⟨o0, o1, o2, o3, o4, o5, o6, o7, o8, o9, o10, o11, o12, o13⟩ := HS.out _ (Kept.refl _)
            refine wp_region_held_drew (S := fun W => W.cell? ⟨wr.heap.size, 0, none⟩ = some (.string n.name) ∧ W.cell? ⟨wr.heap.size, 1, none⟩ = some (.slice a1 m1 c1) ∧ W.cell? ⟨wr.heap.size, 2, none⟩ = some (.int .i64 n.floor) ∧ W.cell? ⟨w1.heap.size, 0, none⟩ = some (.string p.name) ∧ W.cell? ⟨w1.heap.size, 1, none⟩ = some (.string p.owner) ∧ W.cell? ⟨w1.heap.size, 2, none⟩ = some (.int .i64 p.prio) ∧ W.cell? ⟨w1.heap.size, 3, none⟩ = some (.slice e1 f1 g1) ∧ W.cell? ⟨w1.heap.size, 4, none⟩ = some (.slice e2 f2 g2) ∧ W.cell? ⟨w1.heap.size, 5, none⟩ = some (.slice e3 f3 g3) ∧ W.cell? ⟨w1.heap.size, 6, none⟩ = some (.slice e4 f4 g4) ∧ W.cell? ⟨w1.heap.size, 7, none⟩ = some (.string p.key) ∧ W.cell? ⟨w1.heap.size, 8, none⟩ = some (.int .i64 p.most) ∧ W.cell? ⟨w1.heap.size, 9, none⟩ = some (.string p.node) ∧ W.cell? ⟨w1.heap.size, 10, none⟩ = some (.bool p.hold)) (by kernel_rfl) (HS.out _ (Kept.drew _)) (fun hHeld => ?_)
            clear o0 o1 o2 o3 o4 o5 o6 o7 o8 o9 o10 o11 o12 o13
            refine wpAnyH_take (i := 0) (v := ?_) (by rw [List.getElem?_toArray]; exact rfl) (by kernel_rfl) (by kernel_rfl) (by kernel_rfl) (by exact fun _ _ _ h => h) (Or.inl ⟨by rfl, (by intro W hSw; obtain ⟨o0, o1, o2, o3, o4, o5, o6, o7, o8, o9, o10, o11, o12, o13⟩ := hSw; go_simp <;> with_reducible rfl)⟩) (by assumption) ?_
            try simp only [Act.put, List.setIfInBounds_toArray, List.set_cons_zero, List.set_cons_succ]
            refine wpAnyH_take (i := 1) (v := ?_) (by rw [List.getElem?_toArray]; exact rfl) (by kernel_rfl) (by kernel_rfl) (by kernel_rfl) (by exact fun _ _ _ h => h) (Or.inl ⟨by rfl, (by intro W hSw; obtain ⟨o0, o1, o2, o3, o4, o5, o6, o7, o8, o9, o10, o11, o12, o13⟩ := hSw; go_simp <;> with_reducible rfl)⟩) (by assumption) ?_
            try simp only [Act.put, List.setIfInBounds_toArray, List.set_cons_zero, List.set_cons_succ]
            refine wpAnyH_ready (rs := [2]) (by kernel_rfl) (by simp) (AllReadyH.cons (by rw [List.getElem?_toArray]; exact rfl) (fun K9 hK9 => ?_) AllReadyH.nil)
            go_simp
            refine (HCV.out _ (HKA.out.trans (Kept.drew _))).mono ?_
            rintro e1 w2 ⟨rfl, kk⟩
            have J1 := Lib.hid ((Kept.drew _).trans kk)
            clear kk
            refine hK9.out _ _ (HS.out _ J1.out) (fun hHeld1 => ?_)
            clear hK9 K9
            try simp only [Act.put, List.setIfInBounds_toArray, List.set_cons_zero, List.set_cons_succ]
            refine wpAnyH_take (i := 3) (v := ?_) (by rw [List.getElem?_toArray]; exact rfl) (by kernel_rfl) (by kernel_rfl) (by kernel_rfl) (by exact fun _ _ _ h => h) (Or.inl ⟨by rfl, (by intro W hSw; obtain ⟨o0, o1, o2, o3, o4, o5, o6, o7, o8, o9, o10, o11, o12, o13⟩ := hSw; go_simp <;> with_reducible rfl)⟩) (by assumption) ?_
            try simp only [Act.put, List.setIfInBounds_toArray, List.set_cons_zero, List.set_cons_succ]
            refine wpAnyH_take (i := 4) (v := undef) (by rw [List.getElem?_toArray]; exact rfl) (by kernel_rfl) (by kernel_rfl) (by kernel_rfl) (by exact fun _ _ _ h => h) (Or.inr ⟨by rfl, rfl⟩) (by assumption) ?_
            try simp only [Act.put, List.setIfInBounds_toArray, List.set_cons_zero, List.set_cons_succ]
            refine wpAnyH_take (i := 5) (v := undef) (by rw [List.getElem?_toArray]; exact rfl) (by kernel_rfl) (by kernel_rfl) (by kernel_rfl) (by exact fun _ _ _ h => h) (Or.inr ⟨by rfl, rfl⟩) (by assumption) ?_
            try simp only [Act.put, List.setIfInBounds_toArray, List.set_cons_zero, List.set_cons_succ]
            refine wpAnyH_take (i := 6) (v := undef) (by rw [List.getElem?_toArray]; exact rfl) (by kernel_rfl) (by kernel_rfl) (by kernel_rfl) (by exact fun _ _ _ h => h) (Or.inr ⟨by rfl, rfl⟩) (by assumption) ?_
            try simp only [Act.put, List.setIfInBounds_toArray, List.set_cons_zero, List.set_cons_succ]
            refine wpAnyH_take (i := 7) (v := undef) (by rw [List.getElem?_toArray]; exact rfl) (by kernel_rfl) (by kernel_rfl) (by kernel_rfl) (by exact fun _ _ _ h => h) (Or.inr ⟨by rfl, rfl⟩) (by assumption) ?_
            try simp only [Act.put, List.setIfInBounds_toArray, List.set_cons_zero, List.set_cons_succ]
            refine wpAnyH_take (i := 8) (v := undef) (by rw [List.getElem?_toArray]; exact rfl) (by kernel_rfl) (by kernel_rfl) (by kernel_rfl) (by exact fun _ _ _ h => h) (Or.inr ⟨by rfl, rfl⟩) (by assumption) ?_
            try simp only [Act.put, List.setIfInBounds_toArray, List.set_cons_zero, List.set_cons_succ]
            refine wpAnyH_take (i := 9) (v := undef) (by rw [List.getElem?_toArray]; exact rfl) (by kernel_rfl) (by kernel_rfl) (by kernel_rfl) (by exact fun _ _ _ h => h) (Or.inr ⟨by rfl, rfl⟩) (by assumption) ?_
            try simp only [Act.put, List.setIfInBounds_toArray, List.set_cons_zero, List.set_cons_succ]
            refine wpAnyH_take (i := 10) (v := ?_) (by rw [List.getElem?_toArray]; exact rfl) (by kernel_rfl) (by kernel_rfl) (by kernel_rfl) (by exact fun _ _ _ h => h) (Or.inl ⟨by rfl, (by intro W hSw; obtain ⟨o0, o1, o2, o3, o4, o5, o6, o7, o8, o9, o10, o11, o12, o13⟩ := hSw; go_simp <;> with_reducible rfl)⟩) (by assumption) ?_
            try simp only [Act.put, List.setIfInBounds_toArray, List.set_cons_zero, List.set_cons_succ]
            refine wpAnyH_done (by kernel_rfl) ?_ _
            all_goals
              go_wp2
              go_roundw
              case rel => exact ⟨k + 1, by omega, by go_num, HE.out, HK.out.trans (HKA.out.trans J1.out)⟩
              case measure => simp [intOf]; omega
        · have HE := Lib.hid ((alw_free HF.out (show forB bs l p = none by rw [← hrest, List.drop_of_length_le (by rw [HL.out]; omega)]; rfl)).symm.trans HY.out)
          clear hrest hK
          go_wp2
          go_ret2
          exact ⟨ret_alw HE.out, KW1.out.trans HK.out⟩
end Go.Proofs.YtflllkpnkcmegaaGreatDoor

/- The budgets that the laws know, reckoned. -/
namespace Go.Proofs.YtflllkpnkcmegaaGreatDoor.Bk
open Go.RowKit
set_option linter.unusedVariables false

def bWeb : ByteArray := ⟨#[119, 101, 98]⟩
def bApp : ByteArray := ⟨#[97, 112, 112]⟩
def bA : ByteArray := ⟨#[97]⟩
def bB : ByteArray := ⟨#[98]⟩
def bC : ByteArray := ⟨#[99]⟩
def bD : ByteArray := ⟨#[100]⟩
def bN : ByteArray := ⟨#[110]⟩
abbrev bE : ByteArray := ByteArray.empty
def kT : ByteArray := ⟨#[119, 101, 98, 32, 97, 112, 112, 58, 119, 101, 98, 32, 49]⟩
abbrev sw : TL := [(1, bApp, bWeb)]
abbrev lw : PL := [(bApp, bWeb)]
abbrev kb (m : Int) : Bd := ⟨bWeb, sw, m⟩
abbrev pa : Pd := ⟨bA, bE, 0, [], lw, [], [], bE, 0, bN, false⟩
abbrev pb : Pd := ⟨bB, bE, 0, [], lw, [], [], bE, 0, bN, false⟩
abbrev pc : Pd := ⟨bC, bE, 0, [], lw, [], [], bE, 0, bE, false⟩
abbrev pd : Pd := ⟨bD, bE, -1, [], lw, [], [], bE, 0, bN, true⟩
abbrev four : List Pd := [pa, pb, pc, pd]
theorem m_web : isName bWeb = true := by decide
theorem m_app : isName bApp = true := by decide
theorem o_n : isNo bN = false := by rw [Pk.no_list]; rfl
theorem o_e : isNo bE = true := by rw [Pk.no_list]; rfl
theorem chk_s : chkL sw = 0 := by simp [chkL, chkLF, chkT, m_web, m_app]
theorem text_s : textL sw = ⟨#[97, 112, 112, 58, 119, 101, 98]⟩ := by
  unfold textL
  rw [if_neg (by simp)]
  apply Go.WideShapes.bytes_inj
  simp [joinB, Lib.join, List.intercalate, termB, bApp, bWeb, ByteArray.data_append]
theorem i_1 : Lib.itoa 1 = [49] := by simp [Lib.itoa, Lib.decDigits]
theorem text_b : textBd (kb 1) = kT := by
  show bWeb ++ ⟨#[32]⟩ ++ textL sw ++ ⟨#[32]⟩ ++ bytes (Lib.itoa 1) = kT
  rw [text_s, i_1]
  apply Go.WideShapes.bytes_inj
  simp [bWeb, kT, bytes, ByteArray.data_append]
theorem few_b : fewBd (kb 1) = true := by decide
theorem parts1 : partsAt 32 [119, 101, 98, 32, 97, 112, 112, 58, 119, 101, 98, 32, 49] = [[119, 101, 98], [97, 112, 112, 58, 119, 101, 98], [49]] := by rfl
theorem parts2 : (partsAt 32 [119, 101, 98, 32, 97, 112, 112, 58, 119, 101, 98]).length ≠ 3 := by decide
theorem parts3 : partsAt 32 [119, 101, 98, 32, 97, 112, 112, 58, 119, 101, 98, 32, 49, 50, 57] = [[119, 101, 98], [97, 112, 112, 58, 119, 101, 98], [49, 50, 57]] := by rfl
theorem par_s : parsedT [97, 112, 112, 58, 119, 101, 98] = (0, sw) := by
  have h := selText_told chk_s
  rw [text_s] at h
  exact h
theorem says1 : SaysB [119, 101, 98, 32, 97, 112, 112, 58, 119, 101, 98, 32, 49] (kb 1) := ⟨_, _, _, parts1, rfl, par_s, by decide⟩
theorem says3 : SaysB [119, 101, 98, 32, 97, 112, 112, 58, 119, 101, 98, 32, 49, 50, 57] (kb 129) := ⟨_, _, _, parts3, rfl, par_s, by decide⟩
theorem chk_b (m : Int) (h : 0 ≤ m) (g : m ≤ 128) : chkBud (kb m) = 0 := by
  show orL [chkBName bWeb, chkL sw, chkFloor m] = 0
  rw [chk_s, show chkBName bWeb = 0 by unfold chkBName; rw [if_pos m_web], show chkFloor m = 0 by unfold chkFloor; rw [if_neg (by omega)]]; rfl
theorem chk_129 : chkBud (kb 129) = 1 := by
  show orL [chkBName bWeb, chkL sw, chkFloor 129] = 1
  rw [chk_s, show chkBName bWeb = 0 by unfold chkBName; rw [if_pos m_web]]; decide
theorem e_ab : eqS bA bC = false := by rw [Pk.eq_list]; rfl
theorem e_bc : eqS bB bC = false := by rw [Pk.eq_list]; rfl
theorem m_w : matchT sw lw = true := by
  rw [match_cons, holdsT_eq, if_pos rfl]
  unfold hasS getT
  rw [getS_cons, if_pos (eqS_self _)]
  simp only [Option.isSome_some, Option.getD_some, Bool.true_and]
  rw [eqS_self]; rfl
theorem cov_a (m : Int) : covB (kb m) pa = true := by show (!isNo bN && (!false && matchT sw lw)) = true; rw [o_n, m_w]; rfl
theorem cov_b (m : Int) : covB (kb m) pb = true := by show (!isNo bN && (!false && matchT sw lw)) = true; rw [o_n, m_w]; rfl
theorem cov_c (m : Int) : covB (kb m) pc = false := by show (!isNo bE && (!false && matchT sw lw)) = false; rw [o_e]; rfl
theorem cov_d (m : Int) : covB (kb m) pd = false := by show (!isNo bN && (!true && matchT sw lw)) = false; rw [o_n]; rfl
theorem cnt4 (m : Int) : cntB (kb m) four = 2 := by
  rw [cntB, if_pos (cov_a m), cntB, if_pos (cov_b m), cntB, if_neg (by rw [cov_c m]; decide), cntB, if_neg (by rw [cov_d m]; decide)]; rfl
theorem find_a : findP four bA = some pa := by unfold findP; rw [List.find?_cons, show eqS pa.name bA = true from eqS_self _]
theorem find_c : findP four bC = some pc := by unfold findP; rw [List.find?_cons, show eqS pa.name bC = false from e_ab, List.find?_cons, show eqS pb.name bC = false from e_bc, List.find?_cons, show eqS pc.name bC = true from eqS_self _]
theorem alw1 : alwB [kb 1] four bA = (bE, true) := alw_free find_a (by rw [for_cnt (by rw [cnt4]; decide)]; rfl)
theorem alw2 : alwB [kb 1, kb 2] four bA = (bWeb, false) := alw_hit (b := kb 2) find_a (by rw [for_cnt (by rw [cnt4]; decide)]; exact for_hit (cov_a 2) (by rw [cnt4]; decide))
theorem alw3 : alwB [kb 2] four bC = (bE, true) := alw_free find_c (by rw [for_cov (cov_c 2)]; rfl)
theorem brk3 : brkB [kb 1, kb 2, kb 3] four = [bWeb] := by
  unfold brkB
  rw [List.filter_cons_of_neg (by rw [cnt4]; decide), List.filter_cons_of_neg (by rw [cnt4]; decide), List.filter_cons_of_pos (by rw [cnt4]; decide)]; rfl
theorem all2 : chkAllBd [kb 1, kb 1] = 13 := by
  unfold chkAllBd
  rw [if_neg (by simp), chkBd_next (chk_b 1 (by decide) (by decide)) (show Vec.behindB none bWeb = false from rfl), chkBd_order (chk_b 1 (by decide) (by decide)) (show Vec.behindB (some bWeb) bWeb = true by show leS bWeb bWeb = true; unfold leS; rw [eqS_self]; simp)]
theorem lows : ∀ n ∈ four, LowPd n := by
  intro n hn
  simp only [List.mem_cons, List.not_mem_nil, or_false] at hn
  rcases hn with rfl | rfl | rfl | rfl <;> exact ⟨by decide, by decide, by decide, by decide⟩

end Go.Proofs.YtflllkpnkcmegaaGreatDoor.Bk

/- The budgets that the laws know: known. -/
namespace Go.Proofs.YtflllkpnkcmegaaGreatDoor.Bk
open Go.RowKit
set_option linter.unusedVariables false

theorem parse_kB {s : List UInt8} {n : Bd} {c : Int} {x0 : ByteArray} {x2 : Int} {l1 : TL} {w : World} (hP : ∀ W, Kept w W → Calls Tryz.prog 150 #[.string (bytes s)] W (BudRes c n W)) (hm : (if c = 0 then n else Bd.zero) = ⟨x0, l1, x2⟩) :
    Calls Tryz.prog 96 #[.string (bytes s)] w fun e w' => ∃ b1 n1 d1, e = .returned (.tuple #[.agg #[.string x0, .slice b1 n1 d1, .int .i64 x2], .int .i64 c]) ∧ BudAt w' (.slice b1 n1 d1) ⟨x0, l1, x2⟩ ∧ Kept w w' := by
  refine (parseBd_any s n c w hP).mono ?_
  rintro e w' ⟨v, rfl, hn, k⟩
  rw [hm] at hn
  obtain ⟨b1, n1, d1, rfl, h, -⟩ := hn
  exact ⟨_, _, _, rfl, h, k⟩
theorem alw_k {a a9 : Option Addr} {len cap len9 cap9 : Nat} {bs : List Bd} {l : List Pd} {x y : ByteArray} {c : Bool} {w : World} (hb : BudsAt w a len bs) (hr : PodsAt w a9 len9 l) (hlow : ∀ n ∈ l, LowPd n) (hx : alwB bs l x = (y, c)) :
    Calls Tryz.prog 36 #[.slice a len cap, .slice a9 len9 cap9, .string x] w fun e w' => e = .returned (.tuple #[.string y, .bool c]) ∧ Kept w w' := by
  have := alw_any a a9 len cap len9 cap9 bs l x w hb hr hlow
  rw [hx] at this
  exact this
theorem count_k {v : Value} {a9 : Option Addr} {len9 cap9 c : Nat} {b : Bd} {l : List Pd} {w : World} (h : BudR w v b) (hr : PodsAt w a9 len9 l) (hc : cntB b l = c) : Calls Tryz.prog 32 #[v, .slice a9 len9 cap9] w (Say (.int .i64 (c : Int)) w) := by
  subst hc
  obtain ⟨v1, rfl, h⟩ := h
  obtain ⟨b1, n1, d1, rfl⟩ := h.spelt
  exact countB_any b b1 n1 d1 a9 _ cap9 l w h hr
theorem brk_k {a a9 : Option Addr} {len cap len9 cap9 : Nat} {bs : List Bd} {l : List Pd} {x : List ByteArray} {w : World} (hb : BudsAt w a len bs) (hr : PodsAt w a9 len9 l) (hn : len ≤ 1000) (hx : brkB bs l = x) :
    Calls Tryz.prog 39 #[.slice a len cap, .slice a9 len9 cap9] w fun e w' => ∃ a m c, e = .returned (.slice a m c) ∧ Reads StrLay w' (.slice a m c) x ∧ Kept w w' := by
  subst hx
  refine (brk_any a a9 len cap len9 cap9 bs l w hb hr hn).mono ?_
  rintro e w' ⟨v, rfl, ho, k⟩
  obtain ⟨a, c, rfl, h⟩ := ho.reads
  exact ⟨a, _, c, rfl, ⟨a, c, rfl, h⟩, k⟩
theorem lit_str (w : World) (x : ByteArray) (T : TypeId) (hx : x.size ≤ maxLen) (B : Nat) (hB : B = w.heap.size) : Reads StrLay (w.alloc (.cells #[.string x] T)) (.slice (some ⟨B, 0, none⟩) 1 1) [x] := by
  subst hB
  have hh := w.alloc_heap_new (.cells #[.string x] T)
  refine ⟨_, 1, rfl, Nat.le_refl _, by decide, rfl, (by decide : 1 ≤ maxLen), fun z hz => ?_, .inr ⟨w.heap.size, 0, rfl, by simp, fun i z j u hi hj => ?_⟩⟩
  · have : z = x := by simpa using hz
    subst this; exact hx
  · match i, hi with
    | 0, hi =>
      have hz : x = z := by simpa using hi
      subst hz
      match j, hj with
      | 0, hj => have : Value.string x = u := by simpa [StrLay] using hj
                 subst this; rw [Lib.cell_of_heap hh]; rfl
      | j + 1, hj => simp [StrLay] at hj
    | i + 1, hi => simp at hi
theorem four_at {w : World} {B : Nat} {T : TypeId} {x1 x2 x3 x4 xn xe : ByteArray} {l : PL} {a : Option Addr} {m c : Nat} (h : Reads PairLay w (.slice a m c) l) (s1 : x1.size ≤ maxLen) (s2 : x2.size ≤ maxLen) (s3 : x3.size ≤ maxLen) (s4 : x4.size ≤ maxLen) (sn : xn.size ≤ maxLen) (se : xe.size ≤ maxLen) (hB : B = w.heap.size) :
    PodsAt (w.alloc (.cells #[.string x1, .string xe, .int .i64 0, .slice none 0 0, .slice a m c, .slice none 0 0, .slice none 0 0, .string xe, .int .i64 0, .string xn, .bool false, .string x2, .string xe, .int .i64 0, .slice none 0 0, .slice a m c, .slice none 0 0, .slice none 0 0, .string xe, .int .i64 0, .string xn, .bool false, .string x3, .string xe, .int .i64 0, .slice none 0 0, .slice a m c, .slice none 0 0, .slice none 0 0, .string xe, .int .i64 0, .string xe, .bool false, .string x4, .string xe, .int .i64 (-1), .slice none 0 0, .slice a m c, .slice none 0 0, .slice none 0 0, .string xe, .int .i64 0, .string xn, .bool true] T)) (some ⟨B, 0, none⟩) 4 [⟨x1, xe, 0, [], l, [], [], xe, 0, xn, false⟩, ⟨x2, xe, 0, [], l, [], [], xe, 0, xn, false⟩, ⟨x3, xe, 0, [], l, [], [], xe, 0, xe, false⟩, ⟨x4, xe, -1, [], l, [], [], xe, 0, xn, true⟩] := by
  subst hB
  have hh := w.alloc_heap_new (.cells #[.string x1, .string xe, .int .i64 0, .slice none 0 0, .slice a m c, .slice none 0 0, .slice none 0 0, .string xe, .int .i64 0, .string xn, .bool false, .string x2, .string xe, .int .i64 0, .slice none 0 0, .slice a m c, .slice none 0 0, .slice none 0 0, .string xe, .int .i64 0, .string xn, .bool false, .string x3, .string xe, .int .i64 0, .slice none 0 0, .slice a m c, .slice none 0 0, .slice none 0 0, .string xe, .int .i64 0, .string xe, .bool false, .string x4, .string xe, .int .i64 (-1), .slice none 0 0, .slice a m c, .slice none 0 0, .slice none 0 0, .string xe, .int .i64 0, .string xn, .bool true] T)
  have h' := h.kept (kept_alloc w (.cells #[.string x1, .string xe, .int .i64 0, .slice none 0 0, .slice a m c, .slice none 0 0, .slice none 0 0, .string xe, .int .i64 0, .string xn, .bool false, .string x2, .string xe, .int .i64 0, .slice none 0 0, .slice a m c, .slice none 0 0, .slice none 0 0, .string xe, .int .i64 0, .string xn, .bool false, .string x3, .string xe, .int .i64 0, .slice none 0 0, .slice a m c, .slice none 0 0, .slice none 0 0, .string xe, .int .i64 0, .string xe, .bool false, .string x4, .string xe, .int .i64 (-1), .slice none 0 0, .slice a m c, .slice none 0 0, .slice none 0 0, .string xe, .int .i64 0, .string xn, .bool true] T))
  refine ⟨rfl, by decide, .inr ⟨_, 0, rfl, by simp, fun i z hi => ?_⟩⟩
  match i, hi with
  | 0, hi =>
    simp at hi; subst hi
    exact ⟨_, _, _, _, by rw [Lib.cell_of_heap hh]; rfl, by rw [Lib.cell_of_heap hh]; rfl, by rw [Lib.cell_of_heap hh]; rfl, by rw [Lib.cell_of_heap hh]; rfl, by rw [Lib.cell_of_heap hh]; rfl, by rw [Lib.cell_of_heap hh]; rfl, by rw [Lib.cell_of_heap hh]; rfl, by rw [Lib.cell_of_heap hh]; rfl, by rw [Lib.cell_of_heap hh]; rfl, by rw [Lib.cell_of_heap hh]; rfl, by rw [Lib.cell_of_heap hh]; rfl, ⟨s1, se, se, sn, by dsimp only; omega, by dsimp only; omega, Vec.Reads.nil _, h', Reads.nil _, Reads.nil _⟩⟩
  | 1, hi =>
    simp at hi; subst hi
    exact ⟨_, _, _, _, by rw [Lib.cell_of_heap hh]; rfl, by rw [Lib.cell_of_heap hh]; rfl, by rw [Lib.cell_of_heap hh]; rfl, by rw [Lib.cell_of_heap hh]; rfl, by rw [Lib.cell_of_heap hh]; rfl, by rw [Lib.cell_of_heap hh]; rfl, by rw [Lib.cell_of_heap hh]; rfl, by rw [Lib.cell_of_heap hh]; rfl, by rw [Lib.cell_of_heap hh]; rfl, by rw [Lib.cell_of_heap hh]; rfl, by rw [Lib.cell_of_heap hh]; rfl, ⟨s2, se, se, sn, by dsimp only; omega, by dsimp only; omega, Vec.Reads.nil _, h', Reads.nil _, Reads.nil _⟩⟩
  | 2, hi =>
    simp at hi; subst hi
    exact ⟨_, _, _, _, by rw [Lib.cell_of_heap hh]; rfl, by rw [Lib.cell_of_heap hh]; rfl, by rw [Lib.cell_of_heap hh]; rfl, by rw [Lib.cell_of_heap hh]; rfl, by rw [Lib.cell_of_heap hh]; rfl, by rw [Lib.cell_of_heap hh]; rfl, by rw [Lib.cell_of_heap hh]; rfl, by rw [Lib.cell_of_heap hh]; rfl, by rw [Lib.cell_of_heap hh]; rfl, by rw [Lib.cell_of_heap hh]; rfl, by rw [Lib.cell_of_heap hh]; rfl, ⟨s3, se, se, se, by dsimp only; omega, by dsimp only; omega, Vec.Reads.nil _, h', Reads.nil _, Reads.nil _⟩⟩
  | 3, hi =>
    simp at hi; subst hi
    exact ⟨_, _, _, _, by rw [Lib.cell_of_heap hh]; rfl, by rw [Lib.cell_of_heap hh]; rfl, by rw [Lib.cell_of_heap hh]; rfl, by rw [Lib.cell_of_heap hh]; rfl, by rw [Lib.cell_of_heap hh]; rfl, by rw [Lib.cell_of_heap hh]; rfl, by rw [Lib.cell_of_heap hh]; rfl, by rw [Lib.cell_of_heap hh]; rfl, by rw [Lib.cell_of_heap hh]; rfl, by rw [Lib.cell_of_heap hh]; rfl, by rw [Lib.cell_of_heap hh]; rfl, ⟨s4, se, se, sn, by dsimp only; omega, by dsimp only; omega, Vec.Reads.nil _, h', Reads.nil _, Reads.nil _⟩⟩
  | i + 4, hi => simp at hi
theorem buds1_at {w : World} {B : Nat} {T : TypeId} {x0 : ByteArray} {l0 : TL} {f0 : Int} {a0 : Option Addr} {m0 c0 : Nat} (h0 : BudAt w (.slice a0 m0 c0) ⟨x0, l0, f0⟩) (hB : B = w.heap.size) :
    BudsAt (w.alloc (.cells #[.string x0, .slice a0 m0 c0, .int .i64 f0] T)) (some ⟨B, 0, none⟩) 1 [⟨x0, l0, f0⟩] := by
  subst hB
  have hh := w.alloc_heap_new (.cells #[.string x0, .slice a0 m0 c0, .int .i64 f0] T)
  refine ⟨rfl, by decide, .inr ⟨_, 0, rfl, by simp, fun i z hi => ?_⟩⟩
  match i, hi with
  | 0, hi =>
    simp at hi; subst hi
    exact ⟨_, by rw [Lib.cell_of_heap hh]; rfl, by rw [Lib.cell_of_heap hh]; rfl, by rw [Lib.cell_of_heap hh]; rfl, h0.kept (kept_alloc _ _)⟩
  | i + 1, hi => simp at hi
theorem buds2_at {w : World} {B : Nat} {T : TypeId} {x0 x1 : ByteArray} {l0 l1 : TL} {f0 f1 : Int} {a0 a1 : Option Addr} {m0 c0 m1 c1 : Nat} (h0 : BudAt w (.slice a0 m0 c0) ⟨x0, l0, f0⟩) (h1 : BudAt w (.slice a1 m1 c1) ⟨x1, l1, f1⟩) (hB : B = w.heap.size) :
    BudsAt (w.alloc (.cells #[.string x0, .slice a0 m0 c0, .int .i64 f0, .string x1, .slice a1 m1 c1, .int .i64 f1] T)) (some ⟨B, 0, none⟩) 2 [⟨x0, l0, f0⟩, ⟨x1, l1, f1⟩] := by
  subst hB
  have hh := w.alloc_heap_new (.cells #[.string x0, .slice a0 m0 c0, .int .i64 f0, .string x1, .slice a1 m1 c1, .int .i64 f1] T)
  refine ⟨rfl, by decide, .inr ⟨_, 0, rfl, by simp, fun i z hi => ?_⟩⟩
  match i, hi with
  | 0, hi =>
    simp at hi; subst hi
    exact ⟨_, by rw [Lib.cell_of_heap hh]; rfl, by rw [Lib.cell_of_heap hh]; rfl, by rw [Lib.cell_of_heap hh]; rfl, h0.kept (kept_alloc _ _)⟩
  | 1, hi =>
    simp at hi; subst hi
    exact ⟨_, by rw [Lib.cell_of_heap hh]; rfl, by rw [Lib.cell_of_heap hh]; rfl, by rw [Lib.cell_of_heap hh]; rfl, h1.kept (kept_alloc _ _)⟩
  | i + 2, hi => simp at hi
theorem buds3_at {w : World} {B : Nat} {T : TypeId} {x0 x1 x2 : ByteArray} {l0 l1 l2 : TL} {f0 f1 f2 : Int} {a0 a1 a2 : Option Addr} {m0 c0 m1 c1 m2 c2 : Nat} (h0 : BudAt w (.slice a0 m0 c0) ⟨x0, l0, f0⟩) (h1 : BudAt w (.slice a1 m1 c1) ⟨x1, l1, f1⟩) (h2 : BudAt w (.slice a2 m2 c2) ⟨x2, l2, f2⟩) (hB : B = w.heap.size) :
    BudsAt (w.alloc (.cells #[.string x0, .slice a0 m0 c0, .int .i64 f0, .string x1, .slice a1 m1 c1, .int .i64 f1, .string x2, .slice a2 m2 c2, .int .i64 f2] T)) (some ⟨B, 0, none⟩) 3 [⟨x0, l0, f0⟩, ⟨x1, l1, f1⟩, ⟨x2, l2, f2⟩] := by
  subst hB
  have hh := w.alloc_heap_new (.cells #[.string x0, .slice a0 m0 c0, .int .i64 f0, .string x1, .slice a1 m1 c1, .int .i64 f1, .string x2, .slice a2 m2 c2, .int .i64 f2] T)
  refine ⟨rfl, by decide, .inr ⟨_, 0, rfl, by simp, fun i z hi => ?_⟩⟩
  match i, hi with
  | 0, hi =>
    simp at hi; subst hi
    exact ⟨_, by rw [Lib.cell_of_heap hh]; rfl, by rw [Lib.cell_of_heap hh]; rfl, by rw [Lib.cell_of_heap hh]; rfl, h0.kept (kept_alloc _ _)⟩
  | 1, hi =>
    simp at hi; subst hi
    exact ⟨_, by rw [Lib.cell_of_heap hh]; rfl, by rw [Lib.cell_of_heap hh]; rfl, by rw [Lib.cell_of_heap hh]; rfl, h1.kept (kept_alloc _ _)⟩
  | 2, hi =>
    simp at hi; subst hi
    exact ⟨_, by rw [Lib.cell_of_heap hh]; rfl, by rw [Lib.cell_of_heap hh]; rfl, by rw [Lib.cell_of_heap hh]; rfl, h2.kept (kept_alloc _ _)⟩
  | i + 3, hi => simp at hi
set_option maxRecDepth 100000 in
set_option maxHeartbeats 16000000 in
theorem known_any (w0 : World) (hE : EnvP w0) :
    Calls Tryz.prog 27 #[] w0 fun e w' => e = .returned (.bool true) ∧ Kept w0 w' := by
  have HE := Lib.hid hE
  have q1 : (kT.toList == [119, 101, 98, 32, 97, 112, 112, 58, 119, 101, 98, 32, 49]) = true := by rw [Lib.toList_data]; rfl
  have q2 : (bWeb.toList == [119, 101, 98]) = true := by rw [Lib.toList_data]; rfl
  have K := Lib.hid (Kept.refl w0)
  clear hE
  go_enter Tryz.func27, Tryz.ntmps27
  go_wp2_with fail
  refine (parse_kB (fun W k => parsedBd_any _ _ _ W ((HE.out.kept K.out).kept k) (by decide) says1 (chk_b 1 (by decide) (by decide))) (show _ = (⟨bWeb, sw, 1⟩ : Bd) from rfl)).mono ?_
  rintro e w1 ⟨a1, m1, c1, rfl, h, k⟩
  have K := Lib.hid (K.out.trans (k))
  have N1 := Lib.hid h
  clear k h
  go_upto_region 2 with fail
  have k9 := kept_alloc w1 (.cells #[.string bWeb, .slice a1 m1 c1, .int .i64 1] 70)
  have CC := Lib.hid (freshN w1 (.string bWeb) [.slice a1 m1 c1, .int .i64 1] 70 _ (Kept.refl _))
  obtain ⟨qv1, hq⟩ : ∃ z, w1.heap.size = z := ⟨_, rfl⟩
  obtain ⟨v1, hv⟩ : ∃ W, w1.alloc (.cells #[.string bWeb, .slice a1 m1 c1, .int .i64 1] 70) = W := ⟨_, rfl⟩
  rw [hv] at CC k9
  try rw [hv]
  rw [hq] at CC 
  try rw [hq]
  clear hv hq
  have K := Lib.hid (K.out.trans (k9))
  have N1 := Lib.hid (N1.out.kept (k9))
  have C1 := CC
  clear CC
  clear k9
  go_wp2_with fail
  refine (parse_kB (fun W k => parsedBd_words _ W ((HE.out.kept K.out).kept k) (by decide) parts2) (show _ = (⟨bE, [], 0⟩ : Bd) from rfl)).mono ?_
  rintro e w2 ⟨a2, m2, c2, rfl, h, k⟩
  have K := Lib.hid (K.out.trans (k))
  have N1 := Lib.hid (N1.out.kept (k))
  have C1 := Lib.hid (CellsN.kept C1.out (k))
  clear k h
  go_upto_region 3 with fail
  have k9 := kept_alloc w2 (.cells #[.string bE, .slice a2 m2 c2, .int .i64 0] 70)
  obtain ⟨qv2, hq⟩ : ∃ z, w2.heap.size = z := ⟨_, rfl⟩
  obtain ⟨v2, hv⟩ : ∃ W, w2.alloc (.cells #[.string bE, .slice a2 m2 c2, .int .i64 0] 70) = W := ⟨_, rfl⟩
  rw [hv] at k9
  try rw [hv]
  skip
  try rw [hq]
  clear hv hq
  have K := Lib.hid (K.out.trans (k9))
  have N1 := Lib.hid (N1.out.kept (k9))
  have C1 := Lib.hid (CellsN.kept C1.out (k9))
  clear k9
  go_wp2_with fail
  refine (parse_kB (fun W k => parsedBd_any _ _ _ W ((HE.out.kept K.out).kept k) (by decide) says3 chk_129) (show _ = (⟨bE, [], 0⟩ : Bd) from rfl)).mono ?_
  rintro e w3 ⟨a3, m3, c3, rfl, h, k⟩
  have K := Lib.hid (K.out.trans (k))
  have N1 := Lib.hid (N1.out.kept (k))
  have C1 := Lib.hid (CellsN.kept C1.out (k))
  clear k h
  go_upto_region 4 with fail
  have k9 := kept_alloc w3 (.cells #[.string bE, .slice a3 m3 c3, .int .i64 0] 70)
  obtain ⟨qv3, hq⟩ : ∃ z, w3.heap.size = z := ⟨_, rfl⟩
  obtain ⟨v3, hv⟩ : ∃ W, w3.alloc (.cells #[.string bE, .slice a3 m3 c3, .int .i64 0] 70) = W := ⟨_, rfl⟩
  rw [hv] at k9
  try rw [hv]
  skip
  try rw [hq]
  clear hv hq
  have K := Lib.hid (K.out.trans (k9))
  have N1 := Lib.hid (N1.out.kept (k9))
  have C1 := Lib.hid (CellsN.kept C1.out (k9))
  clear k9
  go_upto_region 5 with fail
  have k9 := kept_alloc v3 (.cells #[.string ⟨#[97, 112, 112]⟩, .string ⟨#[119, 101, 98]⟩] 87)
  obtain ⟨qv4, hq⟩ : ∃ z, v3.heap.size = z := ⟨_, rfl⟩
  have R9 := lit_pair v3 ⟨#[97, 112, 112]⟩ ⟨#[119, 101, 98]⟩ 87 (by decide) (by decide)
  obtain ⟨v4, hv⟩ : ∃ W, v3.alloc (.cells #[.string ⟨#[97, 112, 112]⟩, .string ⟨#[119, 101, 98]⟩] 87) = W := ⟨_, rfl⟩
  rw [hv] at R9 k9
  try rw [hv]
  rw [hq] at R9
  try rw [hq]
  clear hv hq
  have K := Lib.hid (K.out.trans (k9))
  have N1 := Lib.hid (N1.out.kept (k9))
  have C1 := Lib.hid (CellsN.kept C1.out (k9))
  clear k9
  have RL := Lib.hid (show Reads PairLay v4 (.slice (some ⟨qv4, 0, none⟩) 1 1) lw from R9)
  clear R9
  go_upto_region 6 with fail
  have k9 := kept_alloc v4 (.cells #[.string ⟨#[97]⟩, .string ⟨#[]⟩, .int .i64 0, .slice none 0 0, .slice (some ⟨qv4, 0, none⟩) 1 1, .slice none 0 0, .slice none 0 0, .string ⟨#[]⟩, .int .i64 0, .string ⟨#[110]⟩, .bool false, .string ⟨#[98]⟩, .string ⟨#[]⟩, .int .i64 0, .slice none 0 0, .slice (some ⟨qv4, 0, none⟩) 1 1, .slice none 0 0, .slice none 0 0, .string ⟨#[]⟩, .int .i64 0, .string ⟨#[110]⟩, .bool false, .string ⟨#[99]⟩, .string ⟨#[]⟩, .int .i64 0, .slice none 0 0, .slice (some ⟨qv4, 0, none⟩) 1 1, .slice none 0 0, .slice none 0 0, .string ⟨#[]⟩, .int .i64 0, .string ⟨#[]⟩, .bool false, .string ⟨#[100]⟩, .string ⟨#[]⟩, .int .i64 (-1), .slice none 0 0, .slice (some ⟨qv4, 0, none⟩) 1 1, .slice none 0 0, .slice none 0 0, .string ⟨#[]⟩, .int .i64 0, .string ⟨#[110]⟩, .bool true] 30)
  obtain ⟨qv5, hq⟩ : ∃ z, v4.heap.size = z := ⟨_, rfl⟩
  have R9 := four_at (B := v4.heap.size) (T := 30) (x1 := ⟨#[97]⟩) (x2 := ⟨#[98]⟩) (x3 := ⟨#[99]⟩) (x4 := ⟨#[100]⟩) (xn := ⟨#[110]⟩) (xe := ⟨#[]⟩) RL.out (by decide) (by decide) (by decide) (by decide) (by decide) (by decide) rfl
  obtain ⟨v5, hv⟩ : ∃ W, v4.alloc (.cells #[.string ⟨#[97]⟩, .string ⟨#[]⟩, .int .i64 0, .slice none 0 0, .slice (some ⟨qv4, 0, none⟩) 1 1, .slice none 0 0, .slice none 0 0, .string ⟨#[]⟩, .int .i64 0, .string ⟨#[110]⟩, .bool false, .string ⟨#[98]⟩, .string ⟨#[]⟩, .int .i64 0, .slice none 0 0, .slice (some ⟨qv4, 0, none⟩) 1 1, .slice none 0 0, .slice none 0 0, .string ⟨#[]⟩, .int .i64 0, .string ⟨#[110]⟩, .bool false, .string ⟨#[99]⟩, .string ⟨#[]⟩, .int .i64 0, .slice none 0 0, .slice (some ⟨qv4, 0, none⟩) 1 1, .slice none 0 0, .slice none 0 0, .string ⟨#[]⟩, .int .i64 0, .string ⟨#[]⟩, .bool false, .string ⟨#[100]⟩, .string ⟨#[]⟩, .int .i64 (-1), .slice none 0 0, .slice (some ⟨qv4, 0, none⟩) 1 1, .slice none 0 0, .slice none 0 0, .string ⟨#[]⟩, .int .i64 0, .string ⟨#[110]⟩, .bool true] 30) = W := ⟨_, rfl⟩
  rw [hv] at R9 k9
  try rw [hv]
  rw [hq] at R9
  try rw [hq]
  clear hv hq
  have K := Lib.hid (K.out.trans (k9))
  have N1 := Lib.hid (N1.out.kept (k9))
  have C1 := Lib.hid (CellsN.kept C1.out (k9))
  have RL := Lib.hid (RL.out.kept (k9))
  clear k9
  have RP := Lib.hid (show PodsAt v5 (some ⟨qv5, 0, none⟩) 4 four from R9)
  clear R9
  have yC10 := C1.out.at_ 0 _ rfl
  have yC11 := C1.out.at_ 1 _ rfl
  have yC12 := C1.out.at_ 2 _ rfl
  go_wp2_with fail
  clear yC10 yC11 yC12
  refine (alw_k (buds1_at N1.out rfl) (RP.out.kept (kept_alloc _ _)) lows alw1).mono ?_
  rintro e w6 ⟨rfl, k⟩
  have k := (kept_alloc _ _).trans k
  have K := Lib.hid (K.out.trans (k))
  have N1 := Lib.hid (N1.out.kept (k))
  have C1 := Lib.hid (CellsN.kept C1.out (k))
  have RL := Lib.hid (RL.out.kept (k))
  have RP := Lib.hid (RP.out.kept (k))
  clear k
  have yC10 := C1.out.at_ 0 _ rfl
  have yC11 := C1.out.at_ 1 _ rfl
  have yC12 := C1.out.at_ 2 _ rfl
  go_upto_region 8 with fail
  clear yC10 yC11 yC12
  have k9 := kept_alloc w6 (.cells #[.string bWeb, .slice a1 m1 c1, .int .i64 1] 70)
  have CC := Lib.hid (freshN w6 (.string bWeb) [.slice a1 m1 c1, .int .i64 1] 70 _ (Kept.refl _))
  obtain ⟨qv8, hq⟩ : ∃ z, w6.heap.size = z := ⟨_, rfl⟩
  obtain ⟨u8, hv⟩ : ∃ W, w6.alloc (.cells #[.string bWeb, .slice a1 m1 c1, .int .i64 1] 70) = W := ⟨_, rfl⟩
  rw [hv] at CC k9
  try rw [hv]
  rw [hq] at CC
  try rw [hq]
  have hle : w6.heap.size ≤ qv8 := Nat.le_of_eq hq
  clear hv hq
  have y2 := CC.out.at_ 2 _ rfl
  have x2 := CC.out.free 2
  go_upto_region 9 with fail
  clear y2 x2
  have CC := Lib.hid (show CellsN qv8 [.string bWeb, .slice a1 m1 c1, .int .i64 2] (u8.setCell ⟨qv8, 2, none⟩ (.int .i64 2)) from CC.out.set (j := 2) (by simp))
  have k9 := kept_cell k9 (a := ⟨qv8, 2, none⟩) hle (.int .i64 2)
  obtain ⟨v8, hv⟩ : ∃ W, u8.setCell ⟨qv8, 2, none⟩ (.int .i64 2) = W := ⟨_, rfl⟩
  rw [hv] at CC k9
  try rw [hv]
  clear hv hle
  have K := Lib.hid (K.out.trans (k9))
  have N1 := Lib.hid (N1.out.kept (k9))
  have C1 := Lib.hid (CellsN.kept C1.out (k9))
  have RL := Lib.hid (RL.out.kept (k9))
  have RP := Lib.hid (RP.out.kept (k9))
  have C2 := CC
  have N2 := Lib.hid (show BudAt v8 (.slice a1 m1 c1) ⟨bWeb, sw, 2⟩ from ⟨N1.out.name, by decide, N1.out.sel⟩)
  clear CC k9
  have yC10 := C1.out.at_ 0 _ rfl
  have yC11 := C1.out.at_ 1 _ rfl
  have yC12 := C1.out.at_ 2 _ rfl
  have yC20 := C2.out.at_ 0 _ rfl
  have yC21 := C2.out.at_ 1 _ rfl
  have yC22 := C2.out.at_ 2 _ rfl
  go_wp2_with fail
  clear yC10 yC11 yC12 yC20 yC21 yC22
  refine (alw_k (buds2_at N1.out N2.out rfl) (RP.out.kept (kept_alloc _ _)) lows alw2).mono ?_
  rintro e w9 ⟨rfl, k⟩
  have k := (kept_alloc _ _).trans k
  have K := Lib.hid (K.out.trans (k))
  have N1 := Lib.hid (N1.out.kept (k))
  have C1 := Lib.hid (CellsN.kept C1.out (k))
  have RL := Lib.hid (RL.out.kept (k))
  have RP := Lib.hid (RP.out.kept (k))
  have C2 := Lib.hid (CellsN.kept C2.out (k))
  have N2 := Lib.hid (N2.out.kept (k))
  clear k
  have yC20 := C2.out.at_ 0 _ rfl
  have yC21 := C2.out.at_ 1 _ rfl
  have yC22 := C2.out.at_ 2 _ rfl
  go_wp2_with fail
  clear yC20 yC21 yC22
  refine (alw_k (buds1_at N2.out rfl) (RP.out.kept (kept_alloc _ _)) lows alw3).mono ?_
  rintro e w10 ⟨rfl, k⟩
  have k := (kept_alloc _ _).trans k
  have K := Lib.hid (K.out.trans (k))
  have N1 := Lib.hid (N1.out.kept (k))
  have C1 := Lib.hid (CellsN.kept C1.out (k))
  have RL := Lib.hid (RL.out.kept (k))
  have RP := Lib.hid (RP.out.kept (k))
  have C2 := Lib.hid (CellsN.kept C2.out (k))
  have N2 := Lib.hid (N2.out.kept (k))
  clear k
  have yC10 := C1.out.at_ 0 _ rfl
  have yC11 := C1.out.at_ 1 _ rfl
  have yC12 := C1.out.at_ 2 _ rfl
  go_upto_region 12 with fail
  clear yC10 yC11 yC12
  have k9 := kept_alloc w10 (.cells #[.string bWeb, .slice a1 m1 c1, .int .i64 1] 70)
  have CC := Lib.hid (freshN w10 (.string bWeb) [.slice a1 m1 c1, .int .i64 1] 70 _ (Kept.refl _))
  obtain ⟨qv12, hq⟩ : ∃ z, w10.heap.size = z := ⟨_, rfl⟩
  obtain ⟨u12, hv⟩ : ∃ W, w10.alloc (.cells #[.string bWeb, .slice a1 m1 c1, .int .i64 1] 70) = W := ⟨_, rfl⟩
  rw [hv] at CC k9
  try rw [hv]
  rw [hq] at CC
  try rw [hq]
  have hle : w10.heap.size ≤ qv12 := Nat.le_of_eq hq
  clear hv hq
  have y2 := CC.out.at_ 2 _ rfl
  have x2 := CC.out.free 2
  go_upto_region 13 with fail
  clear y2 x2
  have CC := Lib.hid (show CellsN qv12 [.string bWeb, .slice a1 m1 c1, .int .i64 3] (u12.setCell ⟨qv12, 2, none⟩ (.int .i64 3)) from CC.out.set (j := 2) (by simp))
  have k9 := kept_cell k9 (a := ⟨qv12, 2, none⟩) hle (.int .i64 3)
  obtain ⟨v12, hv⟩ : ∃ W, u12.setCell ⟨qv12, 2, none⟩ (.int .i64 3) = W := ⟨_, rfl⟩
  rw [hv] at CC k9
  try rw [hv]
  clear hv hle
  have K := Lib.hid (K.out.trans (k9))
  have N1 := Lib.hid (N1.out.kept (k9))
  have C1 := Lib.hid (CellsN.kept C1.out (k9))
  have RL := Lib.hid (RL.out.kept (k9))
  have RP := Lib.hid (RP.out.kept (k9))
  have C2 := Lib.hid (CellsN.kept C2.out (k9))
  have N2 := Lib.hid (N2.out.kept (k9))
  have C3 := CC
  have N3 := Lib.hid (show BudAt v12 (.slice a1 m1 c1) ⟨bWeb, sw, 3⟩ from ⟨N1.out.name, by decide, N1.out.sel⟩)
  clear CC k9
  have yC10 := C1.out.at_ 0 _ rfl
  have yC11 := C1.out.at_ 1 _ rfl
  have yC12 := C1.out.at_ 2 _ rfl
  go_wp2_with fail
  clear yC10 yC11 yC12
  refine (textBdR (HE.out.kept K.out).toEnvT (⟨_, rfl, N1.out⟩ : BudR _ (.agg #[.string bWeb, .slice a1 m1 c1, .int .i64 1]) (kb 1)) few_b text_b).mono ?_
  rintro e w13 ⟨rfl, k⟩
  have K := Lib.hid (K.out.trans (k))
  have N1 := Lib.hid (N1.out.kept (k))
  have C1 := Lib.hid (CellsN.kept C1.out (k))
  have RL := Lib.hid (RL.out.kept (k))
  have RP := Lib.hid (RP.out.kept (k))
  have C2 := Lib.hid (CellsN.kept C2.out (k))
  have N2 := Lib.hid (N2.out.kept (k))
  have C3 := Lib.hid (CellsN.kept C3.out (k))
  have N3 := Lib.hid (N3.out.kept (k))
  clear k
  have yC10 := C1.out.at_ 0 _ rfl
  have yC11 := C1.out.at_ 1 _ rfl
  have yC12 := C1.out.at_ 2 _ rfl
  go_wp2_with fail
  clear yC10 yC11 yC12
  refine (count_k (⟨_, rfl, N1.out⟩ : BudR _ (.agg #[.string bWeb, .slice a1 m1 c1, .int .i64 1]) (kb 1)) RP.out (cnt4 1)).mono ?_
  rintro e w14 ⟨rfl, k⟩
  have K := Lib.hid (K.out.trans (k))
  have N1 := Lib.hid (N1.out.kept (k))
  have C1 := Lib.hid (CellsN.kept C1.out (k))
  have RL := Lib.hid (RL.out.kept (k))
  have RP := Lib.hid (RP.out.kept (k))
  have C2 := Lib.hid (CellsN.kept C2.out (k))
  have N2 := Lib.hid (N2.out.kept (k))
  have C3 := Lib.hid (CellsN.kept C3.out (k))
  have N3 := Lib.hid (N3.out.kept (k))
  clear k
  have yC10 := C1.out.at_ 0 _ rfl
  have yC11 := C1.out.at_ 1 _ rfl
  have yC12 := C1.out.at_ 2 _ rfl
  have yC20 := C2.out.at_ 0 _ rfl
  have yC21 := C2.out.at_ 1 _ rfl
  have yC22 := C2.out.at_ 2 _ rfl
  have yC30 := C3.out.at_ 0 _ rfl
  have yC31 := C3.out.at_ 1 _ rfl
  have yC32 := C3.out.at_ 2 _ rfl
  go_wp2_with fail
  clear yC10 yC11 yC12 yC20 yC21 yC22 yC30 yC31 yC32
  refine (brk_k (buds3_at N1.out N2.out N3.out rfl) (RP.out.kept (kept_alloc _ _)) (by decide) brk3).mono ?_
  rintro e w15 ⟨ab, mb, cb, rfl, rb, k⟩
  have k := (kept_alloc _ _).trans k
  have K := Lib.hid (K.out.trans (k))
  have N1 := Lib.hid (N1.out.kept (k))
  have C1 := Lib.hid (CellsN.kept C1.out (k))
  have RL := Lib.hid (RL.out.kept (k))
  have RP := Lib.hid (RP.out.kept (k))
  have C2 := Lib.hid (CellsN.kept C2.out (k))
  have N2 := Lib.hid (N2.out.kept (k))
  have C3 := Lib.hid (CellsN.kept C3.out (k))
  have N3 := Lib.hid (N3.out.kept (k))
  clear k
  have RB := Lib.hid rb
  clear rb
  go_wp2_with fail
  refine (namesR (RB.out.kept (kept_alloc _ _)) (lit_str _ bWeb _ (by decide) _ rfl)).mono ?_
  rintro e w16 ⟨rfl, k⟩
  have k := (kept_alloc _ _).trans k
  have K := Lib.hid (K.out.trans (k))
  have N1 := Lib.hid (N1.out.kept (k))
  have C1 := Lib.hid (CellsN.kept C1.out (k))
  have RL := Lib.hid (RL.out.kept (k))
  have RP := Lib.hid (RP.out.kept (k))
  have C2 := Lib.hid (CellsN.kept C2.out (k))
  have N2 := Lib.hid (N2.out.kept (k))
  have C3 := Lib.hid (CellsN.kept C3.out (k))
  have N3 := Lib.hid (N3.out.kept (k))
  clear k RB
  have yC10 := C1.out.at_ 0 _ rfl
  have yC11 := C1.out.at_ 1 _ rfl
  have yC12 := C1.out.at_ 2 _ rfl
  go_wp2_with fail
  clear yC10 yC11 yC12
  refine (checkBR (⟨_, rfl, N1.out⟩ : BudR _ (.agg #[.string bWeb, .slice a1 m1 c1, .int .i64 1]) (kb 1)) (chk_b 1 (by decide) (by decide))).mono ?_
  rintro e w17 ⟨rfl, k⟩
  have K := Lib.hid (K.out.trans (k))
  have N1 := Lib.hid (N1.out.kept (k))
  have C1 := Lib.hid (CellsN.kept C1.out (k))
  have RL := Lib.hid (RL.out.kept (k))
  have RP := Lib.hid (RP.out.kept (k))
  have C2 := Lib.hid (CellsN.kept C2.out (k))
  have N2 := Lib.hid (N2.out.kept (k))
  have C3 := Lib.hid (CellsN.kept C3.out (k))
  have N3 := Lib.hid (N3.out.kept (k))
  clear k
  have yC10 := C1.out.at_ 0 _ rfl
  have yC11 := C1.out.at_ 1 _ rfl
  have yC12 := C1.out.at_ 2 _ rfl
  go_wp2_with fail
  clear yC10 yC11 yC12
  refine (checkAllBR ⟨_, 2, rfl, Nat.le_refl _, by decide, buds2_at N1.out N1.out rfl⟩ all2).mono ?_
  rintro e w18 ⟨rfl, k⟩
  have K := Lib.hid (K.out.trans ((kept_alloc _ _).trans k))
  clear k
  go_wp2
  go_ret
  exact ⟨rfl, K.out⟩

end Go.Proofs.YtflllkpnkcmegaaGreatDoor.Bk
