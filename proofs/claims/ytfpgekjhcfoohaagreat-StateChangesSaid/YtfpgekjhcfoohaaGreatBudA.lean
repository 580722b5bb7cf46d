/- Package by package: contracts of the functions that the laws call. -/
import Derived.Test.YtfpgekjhcfoohaaGreatShort
import Derived.Test.YtfpgekjhcfoohaaGreatPodClone
import Derived.Test.YtfpgekjhcfoohaaGreatPodWords
import Derived.Test.YtfpgekjhcfoohaaGreatBase
import Derived.Test.YtfpgekjhcfoohaaGreatPodP
import Derived.Test.YtfpgekjhcfoohaaGreatNodParsed
import Derived.Test.YtfpgekjhcfoohaaGreatPodParsed
import Derived.Deep.RegionHeld3
import Derived.Handy
import Derived.Deep.CutRange
import Derived.Laws.ResultCell
import Derived.Test.YtfpgekjhcfoohaaGreatNodB
/- Budgets: how they are held, whether they may be. -/
set_option linter.unusedVariables false
namespace Go.Proofs.YtfpgekjhcfoohaaGreat
open Go.RowKit
structure Bd where
 name : ByteArray
 sel : TL
 floor : Int
def Bd.zero : Bd := ⟨ByteArray.empty, [], 0⟩
abbrev BudV (n : Bd) (v1 : Value) : Value := .agg #[.string n.name, v1, .int .i64 n.floor]
structure BudAt (w : World) (v1 : Value) (n : Bd) : Prop where
 name : n.name.size ≤ maxLen
 floor : -9223372036854775808 ≤ n.floor ∧ n.floor ≤ 9223372036854775807
 sel : Reads TermLay w v1 n.sel
theorem BudAt.kept {w w' : World} {v1 : Value} {n : Bd} (h : BudAt w v1 n) (k : Kept w w') : BudAt w' v1 n := ⟨h.name, h.floor, h.sel.kept k⟩
def BudR (w : World) (v : Value) (n : Bd) : Prop := ∃ v1, v = BudV n v1 ∧ BudAt w v1 n
theorem BudR.kept {w w' : World} {v : Value} {n : Bd} (h : BudR w v n) (k : Kept w w') : BudR w' v n := by
 obtain ⟨v1, e, h⟩ := h
 exact ⟨v1, e, h.kept k⟩
def BudRB (B : Nat) (w : World) (v : Value) (n : Bd) : Prop := ∃ b1 n1 d1, v = BudV n (.slice b1 n1 d1) ∧ BudAt w (.slice b1 n1 d1) n ∧ Behind B b1
theorem BudRB.toR {B : Nat} {w : World} {v : Value} {n : Bd} (h : BudRB B w v n) : BudR w v n := by
 obtain ⟨b1, n1, d1, e, h, -⟩ := h; exact ⟨_, e, h⟩
theorem BudAt.far {B : Nat} {w w' : World} {n : Bd} {b1 : Option Addr} {n1 d1 : Nat} (h : BudAt w (.slice b1 n1 d1) n) (hs : w'.heap.size = w.heap.size) (hb : ∀ b, B ≤ b → w'.heap[b]? = w.heap[b]?) (g1 : Behind B b1) : BudAt w' (.slice b1 n1 d1) n :=
 ⟨h.name, h.floor, h.sel.far hs (fun b o s e => hb b (g1 b o s e))⟩
theorem BudRB.far {B : Nat} {w w' : World} {v : Value} {n : Bd} (h : BudRB B w v n) (hs : w'.heap.size = w.heap.size) (hb : ∀ b, B ≤ b → w'.heap[b]? = w.heap[b]?) : BudRB B w' v n := by
 obtain ⟨b1, n1, d1, e, h, g1⟩ := h
 exact ⟨b1, n1, d1, e, h.far hs hb g1, g1⟩
theorem BudRB.less {B B' : Nat} {w : World} {v : Value} {n : Bd} (h : BudRB B w v n) (hb : B' ≤ B) : BudRB B' w v n := by
 obtain ⟨b1, n1, d1, e, h, g1⟩ := h
 exact ⟨b1, n1, d1, e, h, g1.less hb⟩
theorem BudRB.kept {B : Nat} {w w' : World} {v : Value} {n : Bd} (h : BudRB B w v n) (k : Kept w w') : BudRB B w' v n := by
 obtain ⟨b1, n1, d1, e, h, g1⟩ := h
 exact ⟨b1, n1, d1, e, h.kept k, g1⟩
theorem BudAt.spelt {w : World} {v1 : Value} {n : Bd} (h : BudAt w v1 n) : ∃ b1 n1 d1, v1 = .slice b1 n1 d1 := by
 obtain ⟨a, c, e, -⟩ := h.sel
 exact ⟨_, _, _, e⟩
def chkBName (x : ByteArray) : Int := if isName x = true then 0 else 3
def chkFloor (m : Int) : Int := if m < 0 ∨ 128 < m then 1 else 0
def chkBud (n : Bd) : Int := orL [chkBName n.name, chkL n.sel, chkFloor n.floor]
theorem checkBName_any (x : ByteArray) (w : World) (hx : x.size ≤ maxLen) :
 Calls Tryz.prog 175 #[.string x] w fun e w' => e = .returned (.int .i64 (chkBName x)) ∧ w = w' := by
 obtain ⟨q, hq⟩ : ∃ q, isName x = q := ⟨_, rfl⟩
 have HV := lH (show chkBName x = if q = true then 0 else 3 by unfold chkBName; rw [hq])
 have HR := lH hq
 have HX := lH hx
 clear hq hx
 cases q <;>
 (go_enter Tryz.func175, Tryz.ntmps175
  go_wp2_with fail
  refine (Vec.nameR HX.out HR.out).mono ?_
  rintro e w' ⟨rfl, rfl⟩
  go_wp2
  go_ret
  exact ⟨ret_i64 HV.out.symm, rfl⟩)
theorem checkFloor_any (m : Int) (w : World) :
 Calls Tryz.prog 176 #[.int .i64 m] w fun e w' => e = .returned (.int .i64 (chkFloor m)) ∧ w = w' := by
 by_cases z : m < 0
 · have HW := lH (show chkFloor m = 1 by unfold chkFloor; rw [if_pos (.inl z)])
   go_enter Tryz.func176, Tryz.ntmps176
   go_wp2
   go_ret
   exact ⟨ret_i64 HW.out.symm, rfl⟩
 · by_cases y : 128 < m
   · have HW := lH (show chkFloor m = 1 by unfold chkFloor; rw [if_pos (.inr y)])
     have z' : 0 ≤ m := by omega
     clear z
     go_enter Tryz.func176, Tryz.ntmps176
     go_wp2
     go_ret
     exact ⟨ret_i64 HW.out.symm, rfl⟩
   · have HW := lH (show chkFloor m = 0 by unfold chkFloor; rw [if_neg (by omega)])
     have z' : 0 ≤ m := by omega
     have y' : m ≤ 128 := by omega
     clear z y
     go_enter Tryz.func176, Tryz.ntmps176
     go_wp2
     go_ret
     exact ⟨ret_i64 HW.out.symm, rfl⟩
theorem three_cells (W : World) (x1 x2 x3 : Int) (T : TypeId) (i : Nat) (x : Int) (hi : ([x1, x2, x3] : List Int)[i]? = some x) :
 (W.alloc (.cells #[.int .i64 x1, .int .i64 x2, .int .i64 x3] T)).cell? ⟨W.heap.size, i, none⟩ = some (.int .i64 x) := by
 refine (freshN W (.int .i64 x1) [.int .i64 x2, .int .i64 x3] T _ (Kept.refl _)).at_ i _ ?_
 match i, hi with
 | 0, h => simpa using h
 | 1, h => simpa using h
 | 2, h => simpa using h
 | j + 3, h => simp at h
set_option maxRecDepth 100000 in
set_option maxHeartbeats 4000000 in
theorem checkB_any (n : Bd) (v1 : Value) (w : World) (h : BudAt w v1 n) :
 Calls Tryz.prog 153 #[BudV n v1] w (Say (.int .i64 (chkBud n)) w) := by
 obtain ⟨W0, hW0⟩ : ∃ W0, w.alloc (.cells #[.string n.name, v1, .int .i64 n.floor] 89) = W0 := ⟨_, rfl⟩
 have hk0 : Kept w W0 := by rw [← hW0]; exact kept_alloc _ _
 have HC := lH (show ∀ W, Kept W0 W → W.cell? ⟨w.heap.size, 0, none⟩ = some (.string n.name) ∧ W.cell? ⟨w.heap.size, 1, none⟩ = some (v1) ∧ W.cell? ⟨w.heap.size, 2, none⟩ = some (.int .i64 n.floor) from fun W k => by
  have c := freshN w (.string n.name) [v1, .int .i64 n.floor] 89 W (by rw [hW0]; exact k)
  exact ⟨c.at_ 0 _ rfl, c.at_ 1 _ rfl, c.at_ 2 _ rfl⟩)
 have E1 := lH (fun W => checkBName_any n.name W h.name)
 have E5 := lH (fun W (k : Kept W0 W) => checkSelR (h.sel.kept (hk0.trans k)) rfl)
 have E7 := lH (fun W => checkFloor_any n.floor W)
 have HK0 := lH hk0
 obtain ⟨x1, hx1⟩ : ∃ x, chkBName n.name = x := ⟨_, rfl⟩
 rw [hx1] at E1
 obtain ⟨x2, hx2⟩ : ∃ x, chkL n.sel = x := ⟨_, rfl⟩
 rw [hx2] at E5
 obtain ⟨x3, hx3⟩ : ∃ x, chkFloor n.floor = x := ⟨_, rfl⟩
 rw [hx3] at E7
 have HV := lH (show chkBud n = orL [x1, x2, x3] by unfold chkBud; rw [hx1, hx2, hx3])
 have ORC := lH (fun W => three_cells W x1 x2 x3 53)
 clear hx1 hx2 hx3 h hk0
 obtain ⟨c0, c1, c2⟩ := HC.out _ (Kept.refl _)
 unfold BudV
 go_enter Tryz.func153, Tryz.ntmps153
 go_wp2
 try rw [hW0]
 clear hW0
 go_region_held3 (fun W => W.cell? ⟨w.heap.size, 0, none⟩ = some (.string n.name) ∧ W.cell? ⟨w.heap.size, 1, none⟩ = some (v1) ∧ W.cell? ⟨w.heap.size, 2, none⟩ = some (.int .i64 n.floor))
  (first | exact HC.out _ (Kept.drew _) | exact HC.out _ K5.out | exact HC.out _ (K5.out.trans (kept_alloc _ _)))
  (first | (go_at_call 175; refine (E1.out _).mono ?_; rintro e1 w1 ⟨rfl, rfl⟩)
         | (go_at_call 63; refine (E5.out _ (Kept.drew _)).mono ?_; rintro e5 w5 ⟨rfl, k5⟩; have K5 := lH ((Kept.drew _).trans k5); clear k5)
         | (go_at_call 176; refine (E7.out _).mono ?_; rintro e7 w7 ⟨rfl, rfl⟩)
         | (go_at_call 58; refine (orE_any _ 3 [x1, x2, x3] _ rfl (by decide) (ORC.out _)).mono ?_; rintro e9 w9 ⟨rfl, rfl⟩))
 go_wp2
 go_ret
 exact ⟨ret_i64 HV.out.symm, HK0.out.trans (K5.out.trans (kept_alloc _ _))⟩
def BudsAt (w : World) (a : Option Addr) (len : Nat) (l : List Bd) : Prop :=
 l.length = len ∧ len ≤ maxLen ∧ (len = 0 ∨ ∃ b off, a = some ⟨b, off, none⟩ ∧ b < w.heap.size ∧ ∀ i n, l[i]? = some n → ∃ v1,
  w.cell? ⟨b, off + i * 3, none⟩ = some (.string n.name) ∧ w.cell? ⟨b, off + i * 3 + 1, none⟩ = some (v1) ∧ w.cell? ⟨b, off + i * 3 + 2, none⟩ = some (.int .i64 n.floor) ∧ BudAt w v1 n)
theorem BudsAt.kept {w w' : World} {a : Option Addr} {len : Nat} {l : List Bd} (h : BudsAt w a len l) (k : Kept w w') : BudsAt w' a len l := by
 obtain ⟨h0, h1, h2⟩ := h
 refine ⟨h0, h1, h2.imp id ?_⟩
 rintro ⟨b, off, rfl, hb, hc⟩
 refine ⟨b, off, rfl, Nat.lt_of_lt_of_le hb k.size, fun i n hi => ?_⟩
 obtain ⟨v1, p0, p1, p2, hn⟩ := hc i n hi
 exact ⟨v1, cell_later k p0, cell_later k p1, cell_later k p2, hn.kept k⟩
theorem BudsAt.form {w : World} {a : Option Addr} {len : Nat} {l : List Bd} (h : BudsAt w a len l) : len = 0 ∨ ∃ b off, a = some ⟨b, off, none⟩ := by
 obtain ⟨_, _, h2⟩ := h
 exact h2.imp id fun ⟨b, off, e, _⟩ => ⟨b, off, e⟩
theorem BudsAt.at_ {w : World} {b off len : Nat} {l : List Bd} {k : Nat} (h : BudsAt w (some ⟨b, off, none⟩) len l) (hk : k < len) : ∃ n a1 m1 c1, l[k]? = some n ∧ l.drop k = n :: l.drop (k + 1) ∧ b < w.heap.size ∧
 w.cell? ⟨b, off + k * 3, none⟩ = some (.string n.name) ∧ w.cell? ⟨b, off + k * 3 + 1, none⟩ = some (.slice a1 m1 c1) ∧ w.cell? ⟨b, off + k * 3 + 2, none⟩ = some (.int .i64 n.floor) ∧ BudAt w (.slice a1 m1 c1) n := by
 obtain ⟨h0, _, h3⟩ := h
 have hkl : k < l.length := by omega
 rcases h3 with h3 | ⟨b', off', e, hb, hc⟩
 · omega
 · injection e with e; injection e with e1 e2 e3; subst e1; subst e2
   have he : l[k]? = some l[k] := List.getElem?_eq_getElem hkl
   obtain ⟨v1, r⟩ := hc k _ he
   obtain ⟨a1, m1, c1, rfl⟩ := BudAt.spelt r.2.2.2
   exact ⟨l[k], a1, m1, c1, he, List.drop_eq_getElem_cons hkl, hb, r⟩
def BudsR (w : World) (v : Value) (l : List Bd) : Prop := ∃ a cap, v = .slice a l.length cap ∧ l.length ≤ cap ∧ cap ≤ maxLen ∧ BudsAt w a l.length l
theorem BudsR.kept {w w' : World} {v : Value} {l : List Bd} (h : BudsR w v l) (k : Kept w w') : BudsR w' v l := by
 obtain ⟨a, cap, e, h1, h2, h3⟩ := h
 exact ⟨a, cap, e, h1, h2, h3.kept k⟩
open Go.RowKit
open Go.RowKit
def fewBd (n : Bd) : Bool := decide (n.name.size ≤ 50) && fewL n.sel
open Go.RowKit
def BudRes (c : Int) (n : Bd) (w : World) (e : Ending) (w' : World) : Prop := (c = 0 → ∃ v, e = .returned v ∧ BudRB w.heap.size w' v n) ∧ (c ≠ 0 → e = .panicked [perr c]) ∧ Kept w w'
theorem BudRes.bad {c : Int} {n : Bd} {w w' : World} (hc : c ≠ 0) (hb : Kept w w') : BudRes c n w (.panicked [perr c]) w' := ⟨fun g => absurd g hc, fun _ => rfl, hb⟩
theorem three_past {W : World} {q p : Nat} {c0 c1 c2 u0 u1 u2 : Value} (h : (W).cell? ⟨q, 0, none⟩ = some (c0) ∧ (W).cell? ⟨q, 1, none⟩ = some (c1) ∧ (W).cell? ⟨q, 2, none⟩ = some (c2)) (hne : q ≠ p) :
 ((((W.setCell ⟨p, 0, none⟩ u0).setCell ⟨p, 1, none⟩ u1).setCell ⟨p, 2, none⟩ u2)).cell? ⟨q, 0, none⟩ = some (c0) ∧ ((((W.setCell ⟨p, 0, none⟩ u0).setCell ⟨p, 1, none⟩ u1).setCell ⟨p, 2, none⟩ u2)).cell? ⟨q, 1, none⟩ = some (c1) ∧ ((((W.setCell ⟨p, 0, none⟩ u0).setCell ⟨p, 1, none⟩ u1).setCell ⟨p, 2, none⟩ u2)).cell? ⟨q, 2, none⟩ = some (c2) := by
 have e : (W.setCells p 0 [u0, u1, u2]).heap[q]? = W.heap[q]? := setCells_block p _ 0 W q hne
 have c : ∀ j, ((((W.setCell ⟨p, 0, none⟩ u0).setCell ⟨p, 1, none⟩ u1).setCell ⟨p, 2, none⟩ u2)).cell? ⟨q, j, none⟩ = W.cell? ⟨q, j, none⟩ := fun j => World.cell?_of_block (a := ⟨q, j, none⟩) e
 simp only [c]
 exact h
open Go.RowKit
def chkFromBd : Option ByteArray → List Bd → Int
 | _, [] => 0
 | prev, n :: t => if chkBud n ≠ 0 then chkBud n else if Vec.behindB prev n.name = true then 13 else chkFromBd (some n.name) t
def chkAllBd (l : List Bd) : Int := if 8 < l.length then 4 else chkFromBd none l
def prevBd (l : List Bd) (k : Nat) : Option ByteArray := if k = 0 then none else (l[k - 1]?).map Bd.name
theorem prevBd_zero {l : List Bd} {k : Nat} (h : k = 0) (s : ByteArray) : Vec.behindB (prevBd l k) s = false := by unfold prevBd; rw [if_pos h]; rfl
theorem prevBd_some {l : List Bd} {k : Nat} {n : Bd} (h : ¬ k = 0) (hn : l[k - 1]? = some n) (s : ByteArray) : Vec.behindB (prevBd l k) s = leS s n.name := by unfold prevBd; rw [if_neg h, hn]; rfl
theorem prevBd_succ {l : List Bd} {k : Nat} {n : Bd} (hn : l[k]? = some n) : prevBd l (k + 1) = some n.name := by unfold prevBd; rw [if_neg (by omega), Nat.add_sub_cancel, hn]; rfl
theorem chkBd_bad {p : Option ByteArray} {n : Bd} {t : List Bd} (h : chkBud n ≠ 0) : chkFromBd p (n :: t) = chkBud n := by rw [chkFromBd, if_pos h]
theorem chkBd_order {p : Option ByteArray} {n : Bd} {t : List Bd} (h : chkBud n = 0) (b : Vec.behindB p n.name = true) : chkFromBd p (n :: t) = 13 := by rw [chkFromBd, if_neg (by rw [h]; decide), if_pos b]
theorem chkBd_next {p : Option ByteArray} {n : Bd} {t : List Bd} (h : chkBud n = 0) (b : Vec.behindB p n.name = false) : chkFromBd p (n :: t) = chkFromBd (some n.name) t := by rw [chkFromBd, if_neg (by rw [h]; decide), if_neg (by rw [b]; decide)]
theorem nameOfB_any (n : Bd) (v1 : Value) (w : World) : Calls Tryz.prog 152 #[BudV n v1] w fun e w' => e = .returned (.string n.name) ∧ Kept w w' := by
 unfold BudV
 go_enter Tryz.func152, Tryz.ntmps152
 go_wp2
 go_ret
 exact ⟨rfl, kept_alloc _ _⟩
set_option maxRecDepth 100000 in
set_option maxHeartbeats 3200000 in
theorem rowsCheckB_any (a : Option Addr) (len cap : Nat) (l : List Bd) (w : World) (hr : BudsAt w a len l) :
 Calls Tryz.prog 151 #[.slice a len cap, .int .i64 8, .func (.func 152) #[] #[], .func (.func 153) #[] #[]] w (Say (.int .i64 (chkAllBd l)) w) := by
 have hl := hr.1
 have hm := hr.2.1
 unfold maxLen at hm
 by_cases h32 : 8 < len
 · have HV := lH (show chkAllBd l = 4 by unfold chkAllBd; rw [if_pos (by omega)])
   clear hr hl
   go_enter Tryz.func151, Tryz.ntmps151
   go_wp2
   go_ret
   exact ⟨ret_i64 HV.out.symm, Kept.refl _⟩
 · have HV := lH (show chkAllBd l = chkFromBd none l by unfold chkAllBd; rw [if_neg (by omega)])
   have h32' : len ≤ 8 := by omega
   by_cases h0 : len = 0
   · subst h0
     have HE := lH (show chkAllBd l = 0 by rw [HV.out, List.eq_nil_of_length_eq_zero hl]; rfl)
     clear hr hl h32
     go_enter Tryz.func151, Tryz.ntmps151
     go_wp2
     refine wp_loop_rounds 1 ?_
     rw [rounds_succ]
     go_wp2
     go_ret
     exact ⟨ret_i64 HE.out.symm, Kept.refl _⟩
   · obtain ⟨b, off, rfl⟩ := hr.form.resolve_left h0
     have HR := lH hr
     have HL := lH hl
     clear hr hl h0 h32
     go_enter Tryz.func151, Tryz.ntmps151
     go_wp2
     go_loopw [18] (fun i wr => ∃ k : Nat, k ≤ len ∧ i = .int .i64 k ∧ chkFromBd (prevBd l k) (l.drop k) = chkFromBd none l ∧ Kept w wr) (fun i _ => len - (intOf i).toNat)
     case atStart => exact ⟨0, Nat.zero_le _, rfl, rfl, Kept.refl _⟩
     case round =>
      obtain ⟨k, hk, rfl, hrest, hK⟩ := hrel
      have HS := lH (HV.out.trans hrest.symm)
      have HT := lH hrest
      have HK := lH hK
      by_cases hlt : k < len
      · obtain ⟨n, a1, m1, c1, hn, hd, hb, p0, p1, p2, hat⟩ := (HR.out.kept hK).at_ hlt
        have HAT := lH hat
        have HD := lH hd
        have HNX := lH (prevBd_succ hn)
        have HCK := lH (fun W (kk : Kept wr W) => checkB_any n (.slice a1 m1 c1) W (HAT.out.kept kk))
        have HNA := lH (fun W => nameOfB_any n (.slice a1 m1 c1) W)
        unfold BudV at HCK HNA
        obtain ⟨ck, hck⟩ : ∃ x, chkBud n = x := ⟨_, rfl⟩
        have HCN := lH hck
        rw [hck] at HCK
        have hkk : (k : Int) < (len : Int) := by omega
        clear hrest hK hat hd hck
        by_cases z1 : ck = 0
        · subst z1
          by_cases h0 : k = 0
          · have hd0 : decide (0 < k) = false := by subst h0; decide
            have HP := lH (prevBd_zero (l := l) h0 n.name)
            clear h0
            go_wp2_with fail
            refine (HCK.out _ (kept_alloc _ _)).mono ?_
            rintro e w1 ⟨rfl, kk⟩
            have KW := lH (Kept.trans (kept_alloc _ _) kk)
            have HBX := lH (fun W k => freshN wr (.string n.name) [.slice a1 m1 c1, .int .i64 n.floor] 89 W (Kept.trans kk k))
            have y0 := (HBX.out w1 (Kept.refl _)).at_ 0 _ rfl
            have y1 := (HBX.out w1 (Kept.refl _)).at_ 1 _ rfl
            have y2 := (HBX.out w1 (Kept.refl _)).at_ 2 _ rfl
            clear kk
            go_wp2
            go_quiet (fail)
            go_wp2
            go_roundw
            case rel => exact ⟨k + 1, by omega, by go_num, (show chkFromBd (prevBd l (k + 1)) (l.drop (k + 1)) = chkFromBd none l by rw [← HT.out, HD.out, chkBd_next HCN.out HP.out, HNX.out]), HK.out.trans (KW.out.trans (Kept.drewN _ _))⟩
            case measure => simp [intOf]; omega
          · have hd0 : decide (0 < k) = true := by simp; omega
            obtain ⟨q, hqk⟩ : ∃ q, k = q + 1 := ⟨k - 1, by omega⟩
            have g1 : (k : Int) - 1 = (q : Int) := by omega
            have gw : IntKind.i64.wrap (q : Int) = (q : Int) := by rw [IntKind.wrap_i64]; omega
            have g2 : (q : Int) < (len : Int) := by omega
            obtain ⟨n9, b1, h1, d1, hn9, -, hb9, q0, q1, q2, -⟩ := (HR.out.kept HK.out).at_ (show q < len by omega)
            have HQK := lH hqk
            have hqk1 : k - 1 = q := by omega
            have HP := lH (prevBd_some (l := l) h0 (show l[k - 1]? = some n9 by rw [hqk1]; exact hn9) n.name)
            clear hqk hqk1
            have HNB := lH (fun W => nameOfB_any n9 (.slice b1 h1 d1) W)
            unfold BudV at HNB
            clear h0 hn9
            by_cases n3 : leS n.name n9.name = true
            · have n3' : (Op.bytesLess n.name.toList n9.name.toList || n.name.toList == n9.name.toList) = true := n3
              have N3 := lH n3
              clear n3
              go_wp2_with fail
              refine (HCK.out _ (kept_alloc _ _)).mono ?_
              rintro e w1 ⟨rfl, kk⟩
              have KW := lH (Kept.trans (kept_alloc _ _) kk)
              have HBX := lH (fun W k => freshN wr (.string n.name) [.slice a1 m1 c1, .int .i64 n.floor] 89 W (Kept.trans kk k))
              have y0 := (HBX.out w1 (Kept.refl _)).at_ 0 _ rfl
              have y1 := (HBX.out w1 (Kept.refl _)).at_ 1 _ rfl
              have y2 := (HBX.out w1 (Kept.refl _)).at_ 2 _ rfl
              have HO := lH (show ∀ W, Kept w1 W → (W.cell? ⟨wr.heap.size, 0, none⟩ = some (.string n.name) ∧ W.cell? ⟨wr.heap.size, 1, none⟩ = some (.slice a1 m1 c1) ∧ W.cell? ⟨wr.heap.size, 2, none⟩ = some (.int .i64 n.floor)) ∧ (W.cell? ⟨b, off + q * 3, none⟩ = some (.string n9.name) ∧ W.cell? ⟨b, off + q * 3 + 1, none⟩ = some (.slice b1 h1 d1) ∧ W.cell? ⟨b, off + q * 3 + 2, none⟩ = some (.int .i64 n9.floor)) from fun W k => ⟨⟨(HBX.out W k).at_ 0 _ rfl, (HBX.out W k).at_ 1 _ rfl, (HBX.out W k).at_ 2 _ rfl⟩, ⟨cell_later (KW.out.trans k) q0, cell_later (KW.out.trans k) q1, cell_later (KW.out.trans k) q2⟩⟩)
              clear kk q0 q1 q2
              go_wp2
              go_region_held3 (fun W => (W.cell? ⟨wr.heap.size, 0, none⟩ = some (.string n.name) ∧ W.cell? ⟨wr.heap.size, 1, none⟩ = some (.slice a1 m1 c1) ∧ W.cell? ⟨wr.heap.size, 2, none⟩ = some (.int .i64 n.floor)) ∧ (W.cell? ⟨b, off + q * 3, none⟩ = some (.string n9.name) ∧ W.cell? ⟨b, off + q * 3 + 1, none⟩ = some (.slice b1 h1 d1) ∧ W.cell? ⟨b, off + q * 3 + 2, none⟩ = some (.int .i64 n9.floor)))
               (first | exact HO.out _ (Kept.drew _) | exact HO.out _ J1.out | exact HO.out _ J2.out)
               (first | (go_at_call 152; refine (HNA.out _).mono ?_; rintro e1 w2 ⟨rfl, k1⟩; have J1 := lH ((Kept.drew _).trans k1); clear k1)
                      | (go_at_call 152; refine (HNB.out _).mono ?_; rintro e2 w3 ⟨rfl, k1⟩; have J2 := lH (J1.out.trans k1); clear k1))
              go_wp2
              go_ret
              exact ⟨ret_i64 (show (13 : Int) = chkAllBd l by rw [HS.out, HD.out, chkBd_order HCN.out (HP.out.trans N3.out)]), HK.out.trans (KW.out.trans J2.out)⟩
            · have n3 : leS n.name n9.name = false := by simpa using n3
              have n3' : (Op.bytesLess n.name.toList n9.name.toList || n.name.toList == n9.name.toList) = false := n3
              have N3 := lH n3
              clear n3
              go_wp2_with fail
              refine (HCK.out _ (kept_alloc _ _)).mono ?_
              rintro e w1 ⟨rfl, kk⟩
              have KW := lH (Kept.trans (kept_alloc _ _) kk)
              have HBX := lH (fun W k => freshN wr (.string n.name) [.slice a1 m1 c1, .int .i64 n.floor] 89 W (Kept.trans kk k))
              have y0 := (HBX.out w1 (Kept.refl _)).at_ 0 _ rfl
              have y1 := (HBX.out w1 (Kept.refl _)).at_ 1 _ rfl
              have y2 := (HBX.out w1 (Kept.refl _)).at_ 2 _ rfl
              have HO := lH (show ∀ W, Kept w1 W → (W.cell? ⟨wr.heap.size, 0, none⟩ = some (.string n.name) ∧ W.cell? ⟨wr.heap.size, 1, none⟩ = some (.slice a1 m1 c1) ∧ W.cell? ⟨wr.heap.size, 2, none⟩ = some (.int .i64 n.floor)) ∧ (W.cell? ⟨b, off + q * 3, none⟩ = some (.string n9.name) ∧ W.cell? ⟨b, off + q * 3 + 1, none⟩ = some (.slice b1 h1 d1) ∧ W.cell? ⟨b, off + q * 3 + 2, none⟩ = some (.int .i64 n9.floor)) from fun W k => ⟨⟨(HBX.out W k).at_ 0 _ rfl, (HBX.out W k).at_ 1 _ rfl, (HBX.out W k).at_ 2 _ rfl⟩, ⟨cell_later (KW.out.trans k) q0, cell_later (KW.out.trans k) q1, cell_later (KW.out.trans k) q2⟩⟩)
              clear kk q0 q1 q2
              go_wp2
              go_region_held3 (fun W => (W.cell? ⟨wr.heap.size, 0, none⟩ = some (.string n.name) ∧ W.cell? ⟨wr.heap.size, 1, none⟩ = some (.slice a1 m1 c1) ∧ W.cell? ⟨wr.heap.size, 2, none⟩ = some (.int .i64 n.floor)) ∧ (W.cell? ⟨b, off + q * 3, none⟩ = some (.string n9.name) ∧ W.cell? ⟨b, off + q * 3 + 1, none⟩ = some (.slice b1 h1 d1) ∧ W.cell? ⟨b, off + q * 3 + 2, none⟩ = some (.int .i64 n9.floor)))
               (first | exact HO.out _ (Kept.drew _) | exact HO.out _ J1.out | exact HO.out _ J2.out)
               (first | (go_at_call 152; refine (HNA.out _).mono ?_; rintro e1 w2 ⟨rfl, k1⟩; have J1 := lH ((Kept.drew _).trans k1); clear k1)
                      | (go_at_call 152; refine (HNB.out _).mono ?_; rintro e2 w3 ⟨rfl, k1⟩; have J2 := lH (J1.out.trans k1); clear k1))
              go_wp2
              go_roundw
              case rel => exact ⟨k + 1, by omega, by go_num, (show chkFromBd (prevBd l (k + 1)) (l.drop (k + 1)) = chkFromBd none l by rw [← HT.out, HD.out, chkBd_next HCN.out (HP.out.trans N3.out), HNX.out]), HK.out.trans (KW.out.trans J2.out)⟩
              case measure => simp [intOf]; omega
        · have z1' : (ck != 0) = true := by simpa using z1
          have HB := lH (show chkAllBd l = ck by rw [HS.out, HD.out, chkBd_bad (by rw [HCN.out]; exact z1), HCN.out])
          clear z1
          go_wp2_with fail
          refine (HCK.out _ (kept_alloc _ _)).mono ?_
          rintro e w1 ⟨rfl, kk⟩
          have KW := lH (Kept.trans (kept_alloc _ _) kk)
          have HBX := lH (fun W k => freshN wr (.string n.name) [.slice a1 m1 c1, .int .i64 n.floor] 89 W (Kept.trans kk k))
          have y0 := (HBX.out w1 (Kept.refl _)).at_ 0 _ rfl
          have y1 := (HBX.out w1 (Kept.refl _)).at_ 1 _ rfl
          have y2 := (HBX.out w1 (Kept.refl _)).at_ 2 _ rfl
          clear kk
          go_wp2
          go_ret
          exact ⟨ret_i64 HB.out.symm, HK.out.trans KW.out⟩
      · have HE := lH (show chkAllBd l = 0 by rw [HS.out, List.drop_of_length_le (by rw [HL.out]; omega)]; rfl)
        clear hrest hK
        go_wp2
        go_ret
        exact ⟨ret_i64 HE.out.symm, HK.out⟩
theorem checkAllB_any (a : Option Addr) (len cap : Nat) (l : List Bd) (w : World) (hr : BudsAt w a len l) :
 Calls Tryz.prog 116 #[.slice a len cap] w (Say (.int .i64 (chkAllBd l)) w) := by
 have H := lH (rowsCheckB_any a len cap l w hr)
 clear hr
 go_enter Tryz.func116, Tryz.ntmps116
 go_wp2_with fail
 refine H.out.mono ?_
 rintro e w1 ⟨rfl, k⟩
 have K := lH k
 clear k
 go_wp2
 go_ret
 exact ⟨rfl, K.out⟩
end Go.Proofs.YtfpgekjhcfoohaaGreat
