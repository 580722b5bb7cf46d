/- Package by package: contracts of the functions that the laws call. -/
import Derived.Test.YtfpgekjhcfoohaaGreatShort
import Derived.Test.YtfpgekjhcfoohaaGreatBase
import Derived.Deep.RegionHeld3
import Derived.Recover
import Derived.Defers
import Derived.Laws.Pointers
import Derived.StillTailTactics
import Derived.RegionTactic
import Derived.ChangeAlike
/- Rows of a key, a value and a mark: taints and tolerations alike. -/
set_option linter.unusedVariables false
namespace Go.Proofs.YtfpgekjhcfoohaaGreat
open Go.RowKit
abbrev NT := ByteArray × ByteArray × Bool
abbrev NL := List NT
abbrev NV (x y : ByteArray) (b : Bool) : Value := .agg #[.string x, .string y, .bool b]
theorem one_ssb (x y : ByteArray) (b : Bool) (u : Value) (h : u ∈ [Value.string x, Value.string y, Value.bool b]) : u.oneCell' = true := by
 have e : u = Value.string x ∨ u = Value.string y ∨ u = Value.bool b := by simpa using h
 rcases e with e | e | e <;> rw [e] <;> rfl
def TaLay : Lay NT := { m := 3, cs := fun x => [.string x.1, .string x.2.1, .bool x.2.2], fine := fun x => x.1.size ≤ maxLen ∧ x.2.1.size ≤ maxLen, len := fun _ => rfl, one := fun x => one_ssb x.1 x.2.1 x.2.2, pos := by decide }
theorem RowAt.tri {w : World} {b off len : Nat} {l : NL} {k : Nat} (h : RowAt TaLay w (some ⟨b, off, none⟩) len l) (hk : k < len) :
 ∃ (x y : ByteArray) (m : Bool), l[k]? = some (x, y, m) ∧ l.drop k = (x, y, m) :: l.drop (k + 1) ∧ b < w.heap.size ∧ x.size ≤ maxLen ∧ y.size ≤ maxLen ∧
  w.cell? ⟨b, off + k * 3, none⟩ = some (.string x) ∧ w.cell? ⟨b, off + k * 3 + 1, none⟩ = some (.string y) ∧ w.cell? ⟨b, off + k * 3 + 2, none⟩ = some (.bool m) := by
 obtain ⟨⟨x, y, m⟩, h1, h2, h3, h4, h5⟩ := h.cells hk
 exact ⟨x, y, m, h1, h2, h3, h4.1, h4.2, h5 0 _ rfl, h5 1 _ rfl, h5 2 _ rfl⟩
def twinN (t z : NT) : Bool := eqS z.1 t.1 && eqS z.2.1 t.2.1
def chkAF : NL → NL → Int
 | _, [] => 0
 | pre, x :: t => if (isName x.1 && isName x.2.1) = false then 3 else if pre.any (twinN x) = true then 6 else chkAF (pre ++ [x]) t
def chkA (l : NL) : Int := if 8 < l.length then 4 else chkAF [] l
theorem chkA_name {pre : NL} {x : NT} {t : NL} (n : (isName x.1 && isName x.2.1) = false) : chkAF pre (x :: t) = 3 := by rw [chkAF, if_pos n]
theorem chkA_twice {pre : NL} {x : NT} {t : NL} (n1 : isName x.1 = true) (n2 : isName x.2.1 = true) (b : pre.any (twinN x) = true) : chkAF pre (x :: t) = 6 := by
 rw [chkAF, if_neg (by rw [n1, n2]; decide), if_pos b]
theorem chkA_next {pre : NL} {x : NT} {t : NL} (n1 : isName x.1 = true) (n2 : isName x.2.1 = true) (b : pre.any (twinN x) = false) : chkAF pre (x :: t) = chkAF (pre ++ [x]) t := by
 rw [chkAF, if_neg (by rw [n1, n2]; decide), if_neg (by rw [b]; decide)]
def isNo (s : ByteArray) : Bool := eqS s ByteArray.empty
def namedN (x : NT) : Bool := (isNo x.1 || isName x.1) && (if x.2.2 = true then isNo x.2.1 else isName x.2.1)
def chkO (l : NL) : Int := if 8 < l.length then 4 else if l.all namedN = true then 0 else 3
theorem no_iff {s : ByteArray} : isNo s = (s.toList == ([] : List UInt8)) := by
 unfold isNo eqS; rw [show ByteArray.empty.toList = ([] : List UInt8) from by rw [Lib.toList_data]; rfl]
open Go.RowKit Go.Sort
def TriAt (w : World) (c : Nat) (t : NT) : Prop := w.cell? ⟨c, 0, none⟩ = some (.string t.1) ∧ w.cell? ⟨c, 1, none⟩ = some (.string t.2.1) ∧ w.cell? ⟨c, 2, none⟩ = some (.bool t.2.2)
theorem TriAt.kept {w w' : World} {c : Nat} {t : NT} (h : TriAt w c t) (k : Kept w w') : TriAt w' c t := ⟨cell_later k h.1, cell_later k h.2.1, cell_later k h.2.2⟩
theorem TriAt.new (w : World) (x y : ByteArray) (m : Bool) (T : TypeId) : TriAt (w.alloc (.cells #[.string x, .string y, .bool m] T)) w.heap.size (x, y, m) := by
 have hh := w.alloc_heap_new (.cells #[.string x, .string y, .bool m] T)
 exact ⟨by rw [Lib.cell_of_heap hh]; rfl, by rw [Lib.cell_of_heap hh]; rfl, by rw [Lib.cell_of_heap hh]; rfl⟩
theorem twin_any (c : Nat) (t : NT) (x y : ByteArray) (m : Bool) (w : World) (h : TriAt w c t) :
 Calls Tryz.prog 186 #[NV x y m, .pointer (some ⟨c, 0, none⟩)] w fun e w' => e = .returned (.bool (twinN t (x, y, m))) ∧ Grw w w' := by
 obtain ⟨t1, t2, t3⟩ := t
 obtain ⟨h1, h2, h3⟩ := h
 dsimp only at h1 h2 h3
 have g1 := cell_later (kept_alloc w (.cells #[.string x, .string y, .bool m] 158)) h1
 have g2 := cell_later (kept_alloc w (.cells #[.string x, .string y, .bool m] 158)) h2
 have g3 := cell_later (kept_alloc w (.cells #[.string x, .string y, .bool m] 158)) h3
 obtain ⟨q1, hq1⟩ : ∃ q, (x.toList == t1.toList) = q := ⟨_, rfl⟩
 obtain ⟨q2, hq2⟩ : ∃ q, (y.toList == t2.toList) = q := ⟨_, rfl⟩
 have HV := lH (show twinN (t1, t2, t3) (x, y, m) = (q1 && q2) by unfold twinN eqS; rw [hq1, hq2])
 cases q1 <;> cases q2 <;>
 (go_enter Tryz.func186, Tryz.ntmps186
  go_wp2
  go_ret
  exact ⟨ret_bool HV.out.symm, Grw.alloc _ _⟩)
set_option maxHeartbeats 800000 in
theorem indexA_any (a : Option Addr) (len cap : Nat) (l : NL) (c : Nat) (t : NT) (w : World) (hr : RowAt TaLay w a len l) (ht : TriAt w c t) :
 Calls Tryz.prog 187 #[.slice a len cap, .func (.func 186) #[] #[.pointer (some ⟨c, 0, none⟩)]] w fun e w' => ∃ i : Int, e = .returned (.int .i64 i) ∧ decide (0 ≤ i) = l.any (twinN t) ∧ Grw w w' := by
 have hl := hr.1
 have hm := hr.2.1
 unfold maxLen at hm
 rcases hr.form with h0 | ⟨b, off, rfl⟩
 · subst h0
   have HE := lH (show l.any (twinN t) = false by rw [List.eq_nil_of_length_eq_zero hl]; rfl)
   clear hr hl ht
   go_enter Tryz.func187, Tryz.ntmps187
   go_wp2
   refine wp_loop_rounds 1 ?_
   rw [rounds_succ]
   go_wp2
   go_ret
   exact ⟨-1, rfl, HE.out.symm, Grw.refl _⟩
 · have HR := lH hr
   have HL := lH hl
   have HT := lH ht
   clear hr hl ht
   go_enter Tryz.func187, Tryz.ntmps187
   go_wp2
   go_loopw [8] (fun i wr => ∃ k : Nat, k ≤ len ∧ i = .int .i64 k ∧ (l.drop k).any (twinN t) = l.any (twinN t) ∧ Grw w wr) (fun i _ => len - (intOf i).toNat)
   case atStart => exact ⟨0, Nat.zero_le _, rfl, rfl, Grw.refl _⟩
   case round =>
    obtain ⟨k, hk, rfl, hrest, hG⟩ := hrel
    have hK := hG.kept
    have HG := lH hG
    by_cases hlt : k < len
    · obtain ⟨x, y, m, hx, hd, hb, hz, hz2, c1, c2, c3⟩ := (HR.out.kept hK).tri hlt
      have HK := lH hK
      have HS := lH (hrest.symm.trans ((congrArg (fun z => z.any (twinN t)) hd).trans (List.any_cons)))
      obtain ⟨q, hq⟩ : ∃ q, twinN t (x, y, m) = q := ⟨_, rfl⟩
      rw [hq] at HS
      have HQ := lH hq
      have HC := lH (HT.out.kept hK)
      clear hK hrest hx hd hG hq
      cases q with
      | true =>
       go_wp2_with (go_at_call 186; refine (twin_any c t x y m _ HC.out).mono ?_; rw [HQ.out]; rintro e w1 ⟨rfl, k1⟩; have K1 := lH k1; clear k1)
       go_ret
       exact ⟨(k : Int), rfl, by rw [HS.out]; simp, HG.out.trans K1.out⟩
      | false =>
       go_wp2_with (go_at_call 186; refine (twin_any c t x y m _ HC.out).mono ?_; rw [HQ.out]; rintro e w1 ⟨rfl, k1⟩; have K1 := lH k1; clear k1)
       go_roundw
       case rel => exact ⟨k + 1, by omega, by go_num, (HS.out.trans (Bool.false_or _)).symm, HG.out.trans K1.out⟩
       case measure => simp [intOf]; omega
    · have HS := lH (hrest.symm.trans (congrArg (fun z => z.any (twinN t)) (drop_end (by rw [HL.out]; exact hlt))))
      clear hK hrest hG
      go_wp2
      go_ret
      exact ⟨-1, rfl, by rw [HS.out]; rfl, HG.out⟩
theorem containsA_any (a : Option Addr) (len cap : Nat) (l : NL) (c : Nat) (t : NT) (w : World) (hr : RowAt TaLay w a len l) (ht : TriAt w c t) :
 Calls Tryz.prog 185 #[.slice a len cap, .func (.func 186) #[] #[.pointer (some ⟨c, 0, none⟩)]] w fun e w' => e = .returned (.bool (l.any (twinN t))) ∧ Grw w w' := by
 have HI := lH (indexA_any a len cap l c t w hr ht)
 clear hr ht
 go_enter Tryz.func185, Tryz.ntmps185
 go_wp2_with fail
 refine HI.out.mono ?_
 rintro e w1 ⟨i, rfl, hi, k1⟩
 have K1 := lH k1
 have HB := lH hi
 clear hi k1
 go_wp2
 go_ret
 exact ⟨ret_bool HB.out, K1.out⟩
theorem ahead_any (a : Option Addr) (len cap : Nat) (l : NL) (t1 t2 : ByteArray) (t3 : Bool) (w : World) (hr : RowAt TaLay w a len l) :
 Calls Tryz.prog 184 #[.slice a len cap, NV t1 t2 t3] w fun e w' => e = .returned (.bool (l.any (twinN (t1, t2, t3)))) ∧ Grw w w' := by
 have hmf : ∀ (fn : Fn) (first cap : Array Value) (w : World), (Instr.makeFunc fn first cap).run Tryz.prog w = .ok (.func fn first cap) w := fun _ _ _ _ => rfl
 have HI := lH (containsA_any a len cap l w.heap.size (t1, t2, t3) (w.alloc (.cells #[.string t1, .string t2, .bool t3] 158)) (hr.kept (kept_alloc _ _)) (TriAt.new w t1 t2 t3 _))
 clear hr
 go_enter Tryz.func184, Tryz.ntmps184
 go_wp2_with fail
 refine HI.out.mono ?_
 rintro e w1 ⟨rfl, k1⟩
 have K1 := lH k1
 clear k1
 go_wp2
 go_ret
 exact ⟨rfl, (Grw.alloc _ _).trans K1.out⟩
open Go.RowKit
open Go.RowKit
open Go.RowKit
open Go.RowKit
open Go.RowKit Go.Sort
set_option maxHeartbeats 1600000 in
theorem named_any (x y : ByteArray) (m : Bool) (w : World) (hx : x.size ≤ maxLen) (hy : y.size ≤ maxLen) :
 Calls Tryz.prog 130 #[NV x y m] w fun e w' => e = .returned (.bool (namedN (x, y, m))) ∧ Kept w w' := by
 obtain ⟨q0, hq0⟩ : ∃ q, (x.toList == ([] : List UInt8)) = q := ⟨_, rfl⟩
 obtain ⟨q2, hq2⟩ : ∃ q, (y.toList == ([] : List UInt8)) = q := ⟨_, rfl⟩
 obtain ⟨n1, hn1⟩ : ∃ q, isName x = q := ⟨_, rfl⟩
 obtain ⟨n2, hn2⟩ : ∃ q, isName y = q := ⟨_, rfl⟩
 have HV := lH (show namedN (x, y, m) = ((q0 || n1) && (if m = true then q2 else n2)) by unfold namedN; rw [no_iff, no_iff, hq0, hq2, hn1, hn2])
 cases q0 <;> cases n1 <;> cases m <;> cases q2 <;> cases n2 <;>
 (go_enter Tryz.func130, Tryz.ntmps130
  go_wp2_with (go_at_call 125; refine (name_any _ _ (by assumption)).mono ?_; rintro e w' ⟨rfl, rfl⟩)
  go_ret
  exact ⟨ret_bool HV.out.symm, kept_alloc _ _⟩)
theorem all_named {x : NT} {t : NL} : (x :: t).all namedN = (namedN x && t.all namedN) := rfl
set_option maxHeartbeats 800000 in
theorem checkO_any (a : Option Addr) (len cap : Nat) (l : NL) (w : World) (hr : RowAt TaLay w a len l) :
 Calls Tryz.prog 64 #[.slice a len cap] w fun e w' => e = .returned (.int .i64 (chkO l)) ∧ Kept w w' := by
 have hl := hr.1
 have hm := hr.2.1
 unfold maxLen at hm
 by_cases h8 : len ≤ 8
 · have HV := lH (show chkO l = if l.all namedN = true then 0 else 3 by unfold chkO; rw [if_neg (by omega)])
   rcases hr.form with h0 | ⟨b, off, rfl⟩
   · subst h0
     have HE := lH (show chkO l = 0 by rw [HV.out]; rw [List.eq_nil_of_length_eq_zero hl]; rfl)
     clear hr hl
     go_enter Tryz.func64, Tryz.ntmps64
     go_wp2
     refine wp_loop_rounds 1 ?_
     rw [rounds_succ]
     go_wp2
     go_ret
     exact ⟨ret_i64 HE.out.symm, Kept.refl _⟩
   · have HR := lH hr
     have HL := lH hl
     clear hr hl
     go_enter Tryz.func64, Tryz.ntmps64
     go_wp2
     go_loopw [10] (fun i wr => ∃ k : Nat, k ≤ len ∧ i = .int .i64 k ∧ (l.drop k).all namedN = l.all namedN ∧ Kept w wr) (fun i _ => len - (intOf i).toNat)
     case atStart => exact ⟨0, Nat.zero_le _, rfl, rfl, Kept.refl _⟩
     case round =>
      obtain ⟨k, hk, rfl, hrest, hK⟩ := hrel
      by_cases hlt : k < len
      · obtain ⟨x, y, m, hx, hd, hb, hz, hz2, c1, c2, c3⟩ := (HR.out.kept hK).tri hlt
        have HK := lH hK
        obtain ⟨q, hq⟩ : ∃ q, namedN (x, y, m) = q := ⟨_, rfl⟩
        have HS := lH (hrest.symm.trans ((congrArg (fun z => z.all namedN) hd).trans (all_named.trans (by rw [hq]))))
        have HC := lH (fun W => named_any x y m W hz hz2)
        rw [hq] at HC
        clear hK hrest hx hd hq
        cases q with
        | true =>
         go_wp2_with (go_at_call 130; refine (HC.out _).mono ?_; rintro e w1 ⟨rfl, k1⟩; have K1 := lH k1; clear k1)
         go_roundw
         case rel => exact ⟨k + 1, by omega, by go_num, (HS.out.trans (Bool.true_and _)).symm, HK.out.trans ((kept_alloc _ _).trans K1.out)⟩
         case measure => simp [intOf]; omega
        | false =>
         have HF := lH (show chkO l = 3 by rw [HV.out, HS.out]; rfl)
         go_wp2_with (go_at_call 130; refine (HC.out _).mono ?_; rintro e w1 ⟨rfl, k1⟩; have K1 := lH k1; clear k1)
         go_ret
         exact ⟨ret_i64 HF.out.symm, HK.out.trans ((kept_alloc _ _).trans K1.out)⟩
      · have HK := lH hK
        have HS := lH (hrest.symm.trans (congrArg (fun z => z.all namedN) (drop_end (by rw [HL.out]; exact hlt))))
        have HF := lH (show chkO l = 0 by rw [HV.out, HS.out]; rfl)
        clear hK hrest
        go_wp2
        go_ret
        exact ⟨ret_i64 HF.out.symm, HK.out⟩
 · have HV := lH (show chkO l = 4 by unfold chkO; rw [if_pos (by omega)])
   have h9 : 8 < len := by omega
   clear h8 hr hl
   go_enter Tryz.func64, Tryz.ntmps64
   go_wp2
   go_ret
   exact ⟨ret_i64 HV.out.symm, Kept.refl _⟩
theorem RowAt.front {α : Type} {L : Lay α} {w : World} {a : Option Addr} {len : Nat} {l : List α} (h : RowAt L w a len l) {k : Nat} (hk : k ≤ len) : RowAt L w a k (l.take k) := by
 obtain ⟨h0, h1, h2, h3⟩ := h
 refine ⟨by rw [List.length_take]; omega, by omega, fun x hx => h2 x (List.mem_of_mem_take hx), ?_⟩
 rcases h3 with h3 | ⟨b, off, e, hb, hc⟩
 · exact .inl (by omega)
 · refine .inr ⟨b, off, e, hb, fun i x j u hi hj => ?_⟩
   rw [List.getElem?_take] at hi
   split at hi
   · exact hc i x j u hi hj
   · cases hi
set_option maxHeartbeats 1600000 in
theorem checkA_any (a : Option Addr) (len cap : Nat) (l : NL) (w : World) (hr : RowAt TaLay w a len l) (hc : len ≤ cap) :
 Calls Tryz.prog 174 #[.slice a len cap] w fun e w' => e = .returned (.int .i64 (chkA l)) ∧ Kept w w' := by
 have hl := hr.1
 have hm := hr.2.1
 unfold maxLen at hm
 by_cases h8 : len ≤ 8
 · have HV := lH (show chkA l = chkAF [] l by unfold chkA; rw [if_neg (by omega)])
   rcases hr.form with h0 | ⟨b, off, rfl⟩
   · subst h0
     have HE := lH (show chkA l = 0 by rw [HV.out]; rw [List.eq_nil_of_length_eq_zero hl]; rfl)
     clear hr hl
     go_enter Tryz.func174, Tryz.ntmps174
     go_wp2
     refine wp_loop_rounds 1 ?_
     rw [rounds_succ]
     go_wp2
     go_ret
     exact ⟨ret_i64 HE.out.symm, Kept.refl _⟩
   · have HR := lH hr
     have HL := lH hl
     clear hr hl
     go_enter Tryz.func174, Tryz.ntmps174
     go_wp2
     go_loopw [10] (fun i wr => ∃ k : Nat, k ≤ len ∧ i = .int .i64 k ∧ chkAF (l.take k) (l.drop k) = chkAF [] l ∧ Kept w wr) (fun i _ => len - (intOf i).toNat)
     case atStart => exact ⟨0, Nat.zero_le _, rfl, rfl, Kept.refl _⟩
     case round =>
      obtain ⟨k, hk, rfl, hrest, hK⟩ := hrel
      by_cases hlt : k < len
      · obtain ⟨x, y, m, hx, hd, hb, hz, hz2, c1, c2, c3⟩ := (HR.out.kept hK).tri hlt
        have HX := lH hx
        have HK := lH hK
        have HT := lH (hrest.symm.trans (congrArg (chkAF (l.take k)) hd))
        have HS := lH (HV.out.trans HT.out)
        have HROW := lH ((HR.out.kept hK).front hk)
        clear hK hrest hx hd
        by_cases n1 : isName x = true
        · by_cases n2 : isName y = true
          · have N1 := lH n1
            have N2 := lH n2
            obtain ⟨q, hq⟩ : ∃ q, (l.take k).any (twinN (x, y, m)) = q := ⟨_, rfl⟩
            have HQ := lH hq
            have tn := TriAt.new wr x y m 158
            have l1 : ∀ (n : Nat) (os : Array Obj), (grow ((wr.alloc (.cells #[.string x, .string y, .bool m] 158)).drewN n) os).cell? ⟨wr.heap.size, 0, none⟩ = some (.string x) := fun n os => cell_later (kept_grow _ n os) tn.1
            have l2 : ∀ (n : Nat) (os : Array Obj), (grow ((wr.alloc (.cells #[.string x, .string y, .bool m] 158)).drewN n) os).cell? ⟨wr.heap.size, 1, none⟩ = some (.string y) := fun n os => cell_later (kept_grow _ n os) tn.2.1
            have l3 : ∀ (n : Nat) (os : Array Obj), (grow ((wr.alloc (.cells #[.string x, .string y, .bool m] 158)).drewN n) os).cell? ⟨wr.heap.size, 2, none⟩ = some (.bool m) := fun n os => cell_later (kept_grow _ n os) tn.2.2
            have cz : ∀ (n : Nat) (os : Array Obj), Calls Tryz.prog 184 #[.slice (some ⟨b, off, none⟩) k cap, NV x y m] (grow ((wr.alloc (.cells #[.string x, .string y, .bool m] 158)).drewN n) os) fun e w'' => e = .returned (.bool q) ∧ ∃ q' os', w'' = grow ((grow ((wr.alloc (.cells #[.string x, .string y, .bool m] 158)).drewN n) os).drewN q') os' := fun n os => by
             rw [← hq]
             exact ahead_any (some ⟨b, off, none⟩) k cap (l.take k) x y m _ ((HROW.out.kept (kept_alloc _ _)).kept (kept_grow _ n os))
            have r1 : (k : Int) ≤ (cap : Int) := by omega
            have r2 : k ≤ cap := by omega
            have mixed : Tryz.prog.follows Departure.mixedOrders = true := by kernel_rfl
            clear tn hq
            cases q with
            | true =>
             go_wp2_with (go_at_call 125; refine (name_any _ _ (by assumption)).mono ?_; rintro e w' ⟨rfl, rfl⟩)
             go_quiet_grown (first | (go_at_call 184; refine Calls.grown_of (cz _ _)))
             go_wp2
             go_ret
             exact ⟨ret_i64 (HS.out.trans (chkA_twice N1.out N2.out HQ.out)).symm, HK.out.trans ((kept_alloc _ _).trans (kept_grow _ _ _))⟩
            | false =>
             go_wp2_with (go_at_call 125; refine (name_any _ _ (by assumption)).mono ?_; rintro e w' ⟨rfl, rfl⟩)
             go_quiet_grown (first | (go_at_call 184; refine Calls.grown_of (cz _ _)))
             go_wp2
             go_roundw
             case rel => exact ⟨k + 1, by omega, by go_num, by rw [take_snoc HX.out]; exact (chkA_next N1.out N2.out HQ.out).symm.trans HT.out.symm, HK.out.trans ((kept_alloc _ _).trans (kept_grow _ _ _))⟩
             case measure => simp [intOf]; omega
          · have n2 : isName y = false := by simpa using n2
            have N := lH (show (isName x && isName y) = false by rw [n2, Bool.and_false])
            go_wp2_with (go_at_call 125; refine (name_any _ _ (by assumption)).mono ?_; rintro e w' ⟨rfl, rfl⟩)
            go_ret
            exact ⟨ret_i64 (HS.out.trans (chkA_name N.out)).symm, HK.out.trans (kept_alloc _ _)⟩
        · have n1 : isName x = false := by simpa using n1
          have N := lH (show (isName x && isName y) = false by rw [n1, Bool.false_and])
          go_wp2_with (go_at_call 125; refine (name_any x _ hz).mono ?_; rintro e w' ⟨rfl, rfl⟩)
          go_ret
          exact ⟨ret_i64 (HS.out.trans (chkA_name N.out)).symm, HK.out.trans (kept_alloc _ _)⟩
      · have HK := lH hK
        have HS := lH ((HV.out.trans hrest.symm).trans (congrArg (chkAF (l.take k)) (drop_end (by rw [HL.out]; exact hlt))))
        clear hK hrest
        go_wp2
        go_ret
        exact ⟨ret_i64 (HS.out.trans rfl).symm, HK.out⟩
 · have HV := lH (show chkA l = 4 by unfold chkA; rw [if_pos (by omega)])
   have h9 : 8 < len := by omega
   clear h8 hr hl
   go_enter Tryz.func174, Tryz.ntmps174
   go_wp2
   go_ret
   exact ⟨ret_i64 HV.out.symm, Kept.refl _⟩
open Go.RowKit Go.Shelf
attribute [local go_sem] Oper.semAt_some
end Go.Proofs.YtfpgekjhcfoohaaGreat
/- parsed, at 47: every part's form, then the check. -/
namespace Go.Proofs.YtfpgekjhcfoohaaGreat
open Go.RowKit Go.Shelf
attribute [local go_sem] Oper.semAt_some
end Go.Proofs.YtfpgekjhcfoohaaGreat
/- parseA: the closure, the recovery, the face. -/
namespace Go.Proofs.YtfpgekjhcfoohaaGreat
open Go.RowKit
open Go.RowKit
open Go.RowKit Go.Sort
open Go.RowKit
theorem checkAR {v : Value} {l : NL} {c : Int} {w : World} (h : Reads TaLay w v l) (hc : chkA l = c) :
 Calls Tryz.prog 174 #[v] w (Say (.int .i64 c) w) := by
 obtain ⟨a, cap, rfl, hcap, _, hr⟩ := h
 exact (checkA_any a _ cap l w hr hcap).mono fun e w' ⟨he, k⟩ => ⟨by rw [he, hc], k⟩
theorem checkOR {v : Value} {l : NL} {c : Int} {w : World} (h : Reads TaLay w v l) (hc : chkO l = c) :
 Calls Tryz.prog 64 #[v] w (Say (.int .i64 c) w) := by
 obtain ⟨a, cap, rfl, _, _, hr⟩ := h
 exact (checkO_any a _ cap l w hr).mono fun e w' ⟨he, k⟩ => ⟨by rw [he, hc], k⟩
open Go.RowKit
def few3 (x : NT) : Bool := decide (x.1.size ≤ 50) && decide (x.2.1.size ≤ 50)
def fewN (l : NL) : Bool := decide (l.length ≤ 20) && l.all few3
set_option maxHeartbeats 800000 in
theorem fewA_any (a : Option Addr) (len cap : Nat) (l : NL) (w : World) (hr : RowAt TaLay w a len l) :
 Calls Tryz.prog 96 #[.slice a len cap] w fun e w' => e = .returned (.bool (fewN l)) ∧ w = w' := by
 have hl := hr.1
 have hm := hr.2.1
 unfold maxLen at hm
 by_cases h20 : len ≤ 20
 · have HV := lH (show fewN l = l.all few3 by unfold fewN; rw [decide_eq_true (by omega)]; rfl)
   rcases hr.form with h0 | ⟨b, off, rfl⟩
   · subst h0
     have HE := lH (show fewN l = true by rw [HV.out, List.eq_nil_of_length_eq_zero hl]; rfl)
     clear hr hl
     go_enter Tryz.func96, Tryz.ntmps96
     go_wp2
     refine wp_loop_rounds 1 ?_
     rw [rounds_succ]
     go_wp2
     go_ret
     exact ⟨ret_bool HE.out.symm, rfl⟩
   · have HR := lH hr
     have HL := lH hl
     clear hr hl
     go_enter Tryz.func96, Tryz.ntmps96
     go_wp2
     go_loop [3] (fun i => ∃ k : Nat, k ≤ len ∧ i = .int .i64 k ∧ (l.drop k).all few3 = l.all few3) (fun i => len - (intOf i).toNat)
     case atStart => exact ⟨0, Nat.zero_le _, rfl, rfl⟩
     case round =>
      obtain ⟨k, hk, rfl, hrest⟩ := hrel
      by_cases hlt : k < len
      · obtain ⟨x, y, m, hx, hd, hb, hz, hz2, c1, c2, c3⟩ := HR.out.tri hlt
        have HT := lH (hrest.symm.trans ((congrArg (fun z => z.all few3) hd).trans (all_cons _ _ _)))
        clear hrest hx hd
        unfold maxLen at hz hz2
        by_cases e : x.size ≤ 50
        · by_cases e2 : y.size ≤ 50
          · have E := lH (show few3 (x, y, m) = true by unfold few3; rw [decide_eq_true e, decide_eq_true e2]; rfl)
            go_wp2
            go_round
            case rel => exact ⟨k + 1, by omega, by go_num, (HT.out.trans (by rw [E.out]; exact Bool.true_and _)).symm⟩
            case measure => simp [intOf]; omega
          · have E := lH (show few3 (x, y, m) = false by unfold few3; rw [decide_eq_false e2]; exact Bool.and_false _)
            have e2' : 50 < y.size := by omega
            clear e2
            go_wp2
            go_ret
            exact ⟨ret_bool (HV.out.trans (HT.out.trans (by rw [E.out]; exact Bool.false_and _))).symm, rfl⟩
        · have E := lH (show few3 (x, y, m) = false by unfold few3; rw [decide_eq_false e]; exact Bool.false_and _)
          have e' : 50 < x.size := by omega
          clear e
          go_wp2
          go_ret
          exact ⟨ret_bool (HV.out.trans (HT.out.trans (by rw [E.out]; exact Bool.false_and _))).symm, rfl⟩
      · have HS := lH ((HV.out.trans hrest.symm).trans (congrArg (fun z => z.all few3) (drop_end (by rw [HL.out]; exact hlt))))
        clear hrest
        go_wp2
        go_ret
        exact ⟨ret_bool (HS.out.trans rfl).symm, rfl⟩
 · have HV := lH (show fewN l = false by unfold fewN; rw [decide_eq_false (by omega)]; rfl)
   have h9 : 20 < len := by omega
   clear h20 hr hl
   go_enter Tryz.func96, Tryz.ntmps96
   go_wp2
   go_ret
   exact ⟨ret_bool HV.out.symm, rfl⟩
set_option maxHeartbeats 800000 in
theorem fewO_any (a : Option Addr) (len cap : Nat) (l : NL) (w : World) (hr : RowAt TaLay w a len l) :
 Calls Tryz.prog 57 #[.slice a len cap] w fun e w' => e = .returned (.bool (fewN l)) ∧ w = w' := by
 have hl := hr.1
 have hm := hr.2.1
 unfold maxLen at hm
 by_cases h20 : len ≤ 20
 · have HV := lH (show fewN l = l.all few3 by unfold fewN; rw [decide_eq_true (by omega)]; rfl)
   rcases hr.form with h0 | ⟨b, off, rfl⟩
   · subst h0
     have HE := lH (show fewN l = true by rw [HV.out, List.eq_nil_of_length_eq_zero hl]; rfl)
     clear hr hl
     go_enter Tryz.func57, Tryz.ntmps57
     go_wp2
     refine wp_loop_rounds 1 ?_
     rw [rounds_succ]
     go_wp2
     go_ret
     exact ⟨ret_bool HE.out.symm, rfl⟩
   · have HR := lH hr
     have HL := lH hl
     clear hr hl
     go_enter Tryz.func57, Tryz.ntmps57
     go_wp2
     go_loop [3] (fun i => ∃ k : Nat, k ≤ len ∧ i = .int .i64 k ∧ (l.drop k).all few3 = l.all few3) (fun i => len - (intOf i).toNat)
     case atStart => exact ⟨0, Nat.zero_le _, rfl, rfl⟩
     case round =>
      obtain ⟨k, hk, rfl, hrest⟩ := hrel
      by_cases hlt : k < len
      · obtain ⟨x, y, m, hx, hd, hb, hz, hz2, c1, c2, c3⟩ := HR.out.tri hlt
        have HT := lH (hrest.symm.trans ((congrArg (fun z => z.all few3) hd).trans (all_cons _ _ _)))
        clear hrest hx hd
        unfold maxLen at hz hz2
        by_cases e : x.size ≤ 50
        · by_cases e2 : y.size ≤ 50
          · have E := lH (show few3 (x, y, m) = true by unfold few3; rw [decide_eq_true e, decide_eq_true e2]; rfl)
            go_wp2
            go_round
            case rel => exact ⟨k + 1, by omega, by go_num, (HT.out.trans (by rw [E.out]; exact Bool.true_and _)).symm⟩
            case measure => simp [intOf]; omega
          · have E := lH (show few3 (x, y, m) = false by unfold few3; rw [decide_eq_false e2]; exact Bool.and_false _)
            have e2' : 50 < y.size := by omega
            clear e2
            go_wp2
            go_ret
            exact ⟨ret_bool (HV.out.trans (HT.out.trans (by rw [E.out]; exact Bool.false_and _))).symm, rfl⟩
        · have E := lH (show few3 (x, y, m) = false by unfold few3; rw [decide_eq_false e]; exact Bool.false_and _)
          have e' : 50 < x.size := by omega
          clear e
          go_wp2
          go_ret
          exact ⟨ret_bool (HV.out.trans (HT.out.trans (by rw [E.out]; exact Bool.false_and _))).symm, rfl⟩
      · have HS := lH ((HV.out.trans hrest.symm).trans (congrArg (fun z => z.all few3) (drop_end (by rw [HL.out]; exact hlt))))
        clear hrest
        go_wp2
        go_ret
        exact ⟨ret_bool (HS.out.trans rfl).symm, rfl⟩
 · have HV := lH (show fewN l = false by unfold fewN; rw [decide_eq_false (by omega)]; rfl)
   have h9 : 20 < len := by omega
   clear h20 hr hl
   go_enter Tryz.func57, Tryz.ntmps57
   go_wp2
   go_ret
   exact ⟨ret_bool HV.out.symm, rfl⟩
theorem fewAR {v : Value} {l : NL} {w : World} (h : Reads TaLay w v l) : Calls Tryz.prog 96 #[v] w fun e w' => e = .returned (.bool (fewN l)) ∧ w = w' := by
 obtain ⟨a, cap, rfl, _, _, hr⟩ := h
 exact fewA_any a _ cap l w hr
theorem fewOR {v : Value} {l : NL} {w : World} (h : Reads TaLay w v l) : Calls Tryz.prog 57 #[v] w fun e w' => e = .returned (.bool (fewN l)) ∧ w = w' := by
 obtain ⟨a, cap, rfl, _, _, hr⟩ := h
 exact fewO_any a _ cap l w hr
theorem few_mid {s : NL} (h : fewN s = true) : s.length ≤ 20 ∧ ∀ x ∈ s, x.1.size ≤ 50 ∧ x.2.1.size ≤ 50 := by
 unfold fewN at h
 simp only [Bool.and_eq_true, decide_eq_true_eq, List.all_eq_true] at h
 refine ⟨h.1, fun x hx => ?_⟩
 have := h.2 x hx
 unfold few3 at this
 simpa using this
open Go.RowKit
theorem refInfoA : (Tryz.prog.info? 200).map (fun i => (i.zero, i.size, i.bytes)) = some (some (.agg #[.string ByteArray.empty, .string ByteArray.empty, .bool false]), 3, 40) := by kernel_rfl
set_option maxRecDepth 100000 in
set_option maxHeartbeats 1600000 in
theorem ofA_own (a : Option Addr) (len cap : Nat) (l : NL) (w : World) (hr : RowAt TaLay w a len l) (hlen : len ≤ 1000000) :
 Calls Tryz.prog 145 #[.slice a len cap] w (fun e w' => ∃ x, e = .returned x ∧ Own TaLay 200 w' w.heap.size x l ∧ Kept w w') := by
 have hl := hr.1
 obtain ⟨i0, hi, hz0, hz1, hz2'⟩ := info_parts refInfoA
 rcases hr.form with h0 | ⟨b, off, rfl⟩
 · subst h0
   have hl0 : l = [] := List.eq_nil_of_length_eq_zero hl
   subst hl0
   clear hr hl hi hz0 hz1 hz2'
   go_enter Tryz.func145, Tryz.ntmps145
   go_wp2
   refine wp_loop_rounds 1 ?_
   rw [rounds_succ]
   go_wp2
   go_ret
   exact ⟨_, rfl, Own.nil _ _ _, Kept.refl _⟩
 · have HR := lH hr
   have HL := lH hl
   clear hr hl
   go_enter Tryz.func145, Tryz.ntmps145
   go_wp2
   go_loopw [3, 4] (fun v i wr => ∃ k : Nat, k ≤ len ∧ i = .int .i64 k ∧ Own TaLay 200 wr w.heap.size v (l.take k) ∧ Below w.heap.size w wr) (fun _ i _ => len - (intOf i).toNat)
   case atStart => exact ⟨0, Nat.zero_le _, rfl, Own.nil _ _ _, Below.refl _ _⟩
   case round =>
    obtain ⟨k, hk, rfl, ho, hB⟩ := hrel
    have HO := lH ho
    have HB := lH hB
    have HT := lH (show (l.take k).length = k by rw [List.length_take, HL.out]; omega)
    have HOWN := lH (show wr.ownsRow w.heap.size 200 3 u3 k (rowCells TaLay (l.take k)) by have := HO.out.1; rw [HT.out] at this; exact this)
    by_cases hlt : k < len
    · obtain ⟨x, y, m, hx, hd, hb, hz, hz2, c0, c1, c2⟩ := (HR.out.kept hB).tri hlt
      have HX := lH hx
      have hbw : b < w.heap.size := by obtain ⟨z, _, _, h, _⟩ := HR.out.cells hlt; exact h
      have hbase : w.heap.size ≤ wr.heap.size := hB.size
      have HNE := lH (show u3.ownBlock ≠ some b by
       intro e
       have := (HOWN.out.lt b e).1
       omega)
      have HBASE := lH (show w.heap.size ≤ (wr.alloc (.cells #[.string x, .string y, .bool m] 200)).drew.heap.size by simp; omega)
      have HBD := lH (show Below w.heap.size w ((wr.alloc (.cells #[.string x, .string y, .bool m] 200)).drew) from HB.out.trans (Below.mono ((kept_alloc wr _).trans (Kept.drewN _ 1)) hbase))
      have hk1 : (k : Int) < (len : Int) := by omega
      have HFK := lH (show TaLay.fine (x, y, m) from ⟨hz, hz2⟩)
      clear ho hB hx hd hz hz2
      go_wp2_with fail
      go_region_held3 (fun W => W.cell? ⟨b, off + k * 3, none⟩ = some (.string x) ∧ W.cell? ⟨b, off + k * 3 + 1, none⟩ = some (.string y) ∧ W.cell? ⟨b, off + k * 3 + 2, none⟩ = some (.bool m))
       (first
         | go_keep
         | (go_split_ands
            refine ⟨?_, ?_, ?_⟩
            · (refine (hgrow.cell_far ⟨b, off + k * 3, none⟩ (by simp; omega) (Ne.symm HNE.out)).trans ?_; assumption)
            · (refine (hgrow.cell_far ⟨b, off + k * 3 + 1, none⟩ (by simp; omega) (Ne.symm HNE.out)).trans ?_; assumption)
            · (refine (hgrow.cell_far ⟨b, off + k * 3 + 2, none⟩ (by simp; omega) (Ne.symm HNE.out)).trans ?_; assumption)))
       ((refine step_append_lies _ (by rfl) _ _ _ (by rfl) w.heap.size 200 i0 _ 3 40 Tryz.underlying92 hi hz0 hz1 hz2' rfl (by decide) u3 k (rowCells TaLay (l.take k)) (by rfl) ((HOWN.out.alloc _).drew)
          ⟨wr.heap.size, 0, none⟩ 1 1 [.string x, .string y, .bool m] (by rfl) (by rfl) (World.news_of_block (cs := #[.string x, .string y, .bool m]) (t := 200) (fr := (0, 0)) (heap_alloc_new wr _)) (one_ssb x y m)
          (by decide) (by unfold maxLen; omega) (by omega) (by simp; omega) (wr.heap.size + 1) (by simp) ?_; intro gg cap1 w1 hown1 hgrow hat hlt1))
      all_goals
       go_wp2
       go_roundw
       case rel => exact ⟨k + 1, by omega, by go_num, by rw [take_snoc HX.out]; exact Own.snoc hown1 (by rw [HT.out]) HO.out.2 HFK.out, HBD.out.grown hgrow HBASE.out (fun j hj => (HOWN.out.lt j hj).1)⟩
       case measure => simp [intOf]; omega
    · have HK := lH (show l.take k = l by rw [List.take_of_length_le (by rw [HL.out]; omega)])
      clear ho hB
      go_wp2
      go_ret
      exact ⟨_, rfl, by have h := HO.out; rw [HK.out] at h; exact h, HB.out⟩
theorem refInfoO : (Tryz.prog.info? 195).map (fun i => (i.zero, i.size, i.bytes)) = some (some (.agg #[.string ByteArray.empty, .string ByteArray.empty, .bool false]), 3, 40) := by kernel_rfl
set_option maxRecDepth 100000 in
set_option maxHeartbeats 1600000 in
theorem ofO_own (a : Option Addr) (len cap : Nat) (l : NL) (w : World) (hr : RowAt TaLay w a len l) (hlen : len ≤ 1000000) :
 Calls Tryz.prog 85 #[.slice a len cap] w (fun e w' => ∃ x, e = .returned x ∧ Own TaLay 195 w' w.heap.size x l ∧ Kept w w') := by
 have hl := hr.1
 obtain ⟨i0, hi, hz0, hz1, hz2'⟩ := info_parts refInfoO
 rcases hr.form with h0 | ⟨b, off, rfl⟩
 · subst h0
   have hl0 : l = [] := List.eq_nil_of_length_eq_zero hl
   subst hl0
   clear hr hl hi hz0 hz1 hz2'
   go_enter Tryz.func85, Tryz.ntmps85
   go_wp2
   refine wp_loop_rounds 1 ?_
   rw [rounds_succ]
   go_wp2
   go_ret
   exact ⟨_, rfl, Own.nil _ _ _, Kept.refl _⟩
 · have HR := lH hr
   have HL := lH hl
   clear hr hl
   go_enter Tryz.func85, Tryz.ntmps85
   go_wp2
   go_loopw [3, 4] (fun v i wr => ∃ k : Nat, k ≤ len ∧ i = .int .i64 k ∧ Own TaLay 195 wr w.heap.size v (l.take k) ∧ Below w.heap.size w wr) (fun _ i _ => len - (intOf i).toNat)
   case atStart => exact ⟨0, Nat.zero_le _, rfl, Own.nil _ _ _, Below.refl _ _⟩
   case round =>
    obtain ⟨k, hk, rfl, ho, hB⟩ := hrel
    have HO := lH ho
    have HB := lH hB
    have HT := lH (show (l.take k).length = k by rw [List.length_take, HL.out]; omega)
    have HOWN := lH (show wr.ownsRow w.heap.size 195 3 u3 k (rowCells TaLay (l.take k)) by have := HO.out.1; rw [HT.out] at this; exact this)
    by_cases hlt : k < len
    · obtain ⟨x, y, m, hx, hd, hb, hz, hz2, c0, c1, c2⟩ := (HR.out.kept hB).tri hlt
      have HX := lH hx
      have hbw : b < w.heap.size := by obtain ⟨z, _, _, h, _⟩ := HR.out.cells hlt; exact h
      have hbase : w.heap.size ≤ wr.heap.size := hB.size
      have HNE := lH (show u3.ownBlock ≠ some b by
       intro e
       have := (HOWN.out.lt b e).1
       omega)
      have HBASE := lH (show w.heap.size ≤ (wr.alloc (.cells #[.string x, .string y, .bool m] 195)).drew.heap.size by simp; omega)
      have HBD := lH (show Below w.heap.size w ((wr.alloc (.cells #[.string x, .string y, .bool m] 195)).drew) from HB.out.trans (Below.mono ((kept_alloc wr _).trans (Kept.drewN _ 1)) hbase))
      have hk1 : (k : Int) < (len : Int) := by omega
      have HFK := lH (show TaLay.fine (x, y, m) from ⟨hz, hz2⟩)
      clear ho hB hx hd hz hz2
      go_wp2_with fail
      go_region_held3 (fun W => W.cell? ⟨b, off + k * 3, none⟩ = some (.string x) ∧ W.cell? ⟨b, off + k * 3 + 1, none⟩ = some (.string y) ∧ W.cell? ⟨b, off + k * 3 + 2, none⟩ = some (.bool m))
       (first
         | go_keep
         | (go_split_ands
            refine ⟨?_, ?_, ?_⟩
            · (refine (hgrow.cell_far ⟨b, off + k * 3, none⟩ (by simp; omega) (Ne.symm HNE.out)).trans ?_; assumption)
            · (refine (hgrow.cell_far ⟨b, off + k * 3 + 1, none⟩ (by simp; omega) (Ne.symm HNE.out)).trans ?_; assumption)
            · (refine (hgrow.cell_far ⟨b, off + k * 3 + 2, none⟩ (by simp; omega) (Ne.symm HNE.out)).trans ?_; assumption)))
       ((refine step_append_lies _ (by rfl) _ _ _ (by rfl) w.heap.size 195 i0 _ 3 40 Tryz.underlying67 hi hz0 hz1 hz2' rfl (by decide) u3 k (rowCells TaLay (l.take k)) (by rfl) ((HOWN.out.alloc _).drew)
          ⟨wr.heap.size, 0, none⟩ 1 1 [.string x, .string y, .bool m] (by rfl) (by rfl) (World.news_of_block (cs := #[.string x, .string y, .bool m]) (t := 195) (fr := (0, 0)) (heap_alloc_new wr _)) (one_ssb x y m)
          (by decide) (by unfold maxLen; omega) (by omega) (by simp; omega) (wr.heap.size + 1) (by simp) ?_; intro gg cap1 w1 hown1 hgrow hat hlt1))
      all_goals
       go_wp2
       go_roundw
       case rel => exact ⟨k + 1, by omega, by go_num, by rw [take_snoc HX.out]; exact Own.snoc hown1 (by rw [HT.out]) HO.out.2 HFK.out, HBD.out.grown hgrow HBASE.out (fun j hj => (HOWN.out.lt j hj).1)⟩
       case measure => simp [intOf]; omega
    · have HK := lH (show l.take k = l by rw [List.take_of_length_le (by rw [HL.out]; omega)])
      clear ho hB
      go_wp2
      go_ret
      exact ⟨_, rfl, by have h := HO.out; rw [HK.out] at h; exact h, HB.out⟩
open Go.RowKit Go.Sort
set_option maxHeartbeats 3200000 in
theorem refCheckO_any (a : Option Addr) (len cap : Nat) (l : NL) (w : World) (hr : RowAt TaLay w a len l) :
 Calls Tryz.prog 81 #[.slice a len cap] w fun e w' => e = .returned (.int .i64 (chkO l)) ∧ Kept w w' := by
 have hl := hr.1
 have hm := hr.2.1
 unfold maxLen at hm
 by_cases h8 : len ≤ 8
 · have HV := lH (show chkO l = if l.all namedN = true then 0 else 3 by unfold chkO; rw [if_neg (by omega)])
   rcases hr.form with h0 | ⟨b, off, rfl⟩
   · subst h0
     have HE := lH (show chkO l = 0 by rw [HV.out]; rw [List.eq_nil_of_length_eq_zero hl]; rfl)
     clear hr hl
     go_enter Tryz.func81, Tryz.ntmps81
     go_wp2
     refine wp_loop_rounds 1 ?_
     rw [rounds_succ]
     go_wp2
     go_ret
     exact ⟨ret_i64 HE.out.symm, Kept.refl _⟩
   · have HR := lH hr
     have HL := lH hl
     clear hr hl
     go_enter Tryz.func81, Tryz.ntmps81
     go_wp2
     go_loopw [3] (fun i wr => ∃ k : Nat, k ≤ len ∧ i = .int .i64 k ∧ (l.drop k).all namedN = l.all namedN ∧ Kept w wr) (fun i _ => len - (intOf i).toNat)
     case atStart => exact ⟨0, Nat.zero_le _, rfl, rfl, Kept.refl _⟩
     case round =>
      obtain ⟨k, hk, rfl, hrest, hK⟩ := hrel
      by_cases hlt : k < len
      · obtain ⟨x, y, m, hx, hd, hb, hz, hz2, c1, c2, c3⟩ := (HR.out.kept hK).tri hlt
        have HK := lH hK
        have HS := lH (hrest.symm.trans ((congrArg (fun z => z.all namedN) hd).trans all_named))
        obtain ⟨q0, hq0⟩ : ∃ q, (x.toList == ([] : List UInt8)) = q := ⟨_, rfl⟩
        obtain ⟨q2, hq2⟩ : ∃ q, (y.toList == ([] : List UInt8)) = q := ⟨_, rfl⟩
        obtain ⟨n1, hn1⟩ : ∃ q, isName x = q := ⟨_, rfl⟩
        obtain ⟨n2, hn2⟩ : ∃ q, isName y = q := ⟨_, rfl⟩
        have HN := lH (show namedN (x, y, m) = ((q0 || n1) && (if m = true then q2 else n2)) by unfold namedN; rw [no_iff, no_iff, hq0, hq2, hn1, hn2])
        clear hK hrest hx hd
        cases q0 with
        | true =>
         cases m with
         | true =>
          cases q2 with
          | true =>
           have HQ := lH (show namedN (x, y, true) = true by rw [HN.out]; rfl)
           go_wp2_with (go_at_call 77; refine (refName_any _ _ (by assumption)).mono ?_; rintro e w' ⟨rfl, rfl⟩)
           go_roundw
           case rel => exact ⟨k + 1, by omega, by go_num, (HS.out.trans (by rw [HQ.out]; exact Bool.true_and _)).symm, HK.out.trans (kept_alloc _ _)⟩
           case measure => simp [intOf]; omega
          | false =>
           have HQ := lH (show chkO l = 3 by rw [HV.out, HS.out, HN.out]; rfl)
           go_wp2_with (go_at_call 77; refine (refName_any _ _ (by assumption)).mono ?_; rintro e w' ⟨rfl, rfl⟩)
           go_ret
           exact ⟨ret_i64 HQ.out.symm, HK.out.trans (kept_alloc _ _)⟩
         | false =>
          cases n2 with
          | true =>
           have HQ := lH (show namedN (x, y, false) = true by rw [HN.out]; rfl)
           go_wp2_with (go_at_call 77; refine (refName_any _ _ (by assumption)).mono ?_; rintro e w' ⟨rfl, rfl⟩)
           go_roundw
           case rel => exact ⟨k + 1, by omega, by go_num, (HS.out.trans (by rw [HQ.out]; exact Bool.true_and _)).symm, HK.out.trans (kept_alloc _ _)⟩
           case measure => simp [intOf]; omega
          | false =>
           have HQ := lH (show chkO l = 3 by rw [HV.out, HS.out, HN.out]; rfl)
           go_wp2_with (go_at_call 77; refine (refName_any _ _ (by assumption)).mono ?_; rintro e w' ⟨rfl, rfl⟩)
           go_ret
           exact ⟨ret_i64 HQ.out.symm, HK.out.trans (kept_alloc _ _)⟩
        | false =>
         cases n1 with
         | true =>
          cases m with
          | true =>
           cases q2 with
           | true =>
            have HQ := lH (show namedN (x, y, true) = true by rw [HN.out]; rfl)
            go_wp2_with (go_at_call 77; refine (refName_any _ _ (by assumption)).mono ?_; rintro e w' ⟨rfl, rfl⟩)
            go_roundw
            case rel => exact ⟨k + 1, by omega, by go_num, (HS.out.trans (by rw [HQ.out]; exact Bool.true_and _)).symm, HK.out.trans (kept_alloc _ _)⟩
            case measure => simp [intOf]; omega
           | false =>
            have HQ := lH (show chkO l = 3 by rw [HV.out, HS.out, HN.out]; rfl)
            go_wp2_with (go_at_call 77; refine (refName_any _ _ (by assumption)).mono ?_; rintro e w' ⟨rfl, rfl⟩)
            go_ret
            exact ⟨ret_i64 HQ.out.symm, HK.out.trans (kept_alloc _ _)⟩
          | false =>
           cases n2 with
           | true =>
            have HQ := lH (show namedN (x, y, false) = true by rw [HN.out]; rfl)
            go_wp2_with (go_at_call 77; refine (refName_any _ _ (by assumption)).mono ?_; rintro e w' ⟨rfl, rfl⟩)
            go_roundw
            case rel => exact ⟨k + 1, by omega, by go_num, (HS.out.trans (by rw [HQ.out]; exact Bool.true_and _)).symm, HK.out.trans (kept_alloc _ _)⟩
            case measure => simp [intOf]; omega
           | false =>
            have HQ := lH (show chkO l = 3 by rw [HV.out, HS.out, HN.out]; rfl)
            go_wp2_with (go_at_call 77; refine (refName_any _ _ (by assumption)).mono ?_; rintro e w' ⟨rfl, rfl⟩)
            go_ret
            exact ⟨ret_i64 HQ.out.symm, HK.out.trans (kept_alloc _ _)⟩
         | false =>
          have HQ := lH (show chkO l = 3 by rw [HV.out, HS.out, HN.out]; rfl)
          go_wp2_with (go_at_call 77; refine (refName_any _ _ (by assumption)).mono ?_; rintro e w' ⟨rfl, rfl⟩)
          go_ret
          exact ⟨ret_i64 HQ.out.symm, HK.out.trans (kept_alloc _ _)⟩
      · have HK := lH hK
        have HS := lH (hrest.symm.trans (congrArg (fun z => z.all namedN) (drop_end (by rw [HL.out]; exact hlt))))
        have HF := lH (show chkO l = 0 by rw [HV.out, HS.out]; rfl)
        clear hK hrest
        go_wp2
        go_ret
        exact ⟨ret_i64 HF.out.symm, HK.out⟩
 · have HV := lH (show chkO l = 4 by unfold chkO; rw [if_pos (by omega)])
   have h9 : 8 < len := by omega
   clear h8 hr hl
   go_enter Tryz.func81, Tryz.ntmps81
   go_wp2
   go_ret
   exact ⟨ret_i64 HV.out.symm, Kept.refl _⟩
theorem twin_found {l : NL} {k j : Nat} {t z : NT} (hj : j < k) (hz : l[j]? = some z) (h : twinN t z = true) : (l.take k).any (twinN t) = true := by
 rw [List.any_eq_true]
 refine ⟨z, List.mem_of_getElem? (i := j) ?_, h⟩
 rw [List.getElem?_take, if_pos hj]; exact hz
theorem twin_next {l : NL} {j : Nat} {t z : NT} (hz : l[j]? = some z) (h : (l.take j).any (twinN t) = false) (g : twinN t z = false) : (l.take (j + 1)).any (twinN t) = false := by
 rw [take_snoc hz, List.any_append, h]
 simp [g]
set_option maxHeartbeats 3200000 in
theorem refCheckA_any (a : Option Addr) (len cap : Nat) (l : NL) (w : World) (hr : RowAt TaLay w a len l) :
 Calls Tryz.prog 177 #[.slice a len cap] w fun e w' => e = .returned (.int .i64 (chkA l)) ∧ Kept w w' := by
 have hl := hr.1
 have hm := hr.2.1
 unfold maxLen at hm
 by_cases h8 : len ≤ 8
 · have HV := lH (show chkA l = chkAF [] l by unfold chkA; rw [if_neg (by omega)])
   rcases hr.form with h0 | ⟨b, off, rfl⟩
   · subst h0
     have HE := lH (show chkA l = 0 by rw [HV.out]; rw [List.eq_nil_of_length_eq_zero hl]; rfl)
     clear hr hl
     go_enter Tryz.func177, Tryz.ntmps177
     go_wp2
     refine wp_loop_rounds 1 ?_
     rw [rounds_succ]
     go_wp2
     go_ret
     exact ⟨ret_i64 HE.out.symm, Kept.refl _⟩
   · have HR := lH hr
     have HL := lH hl
     clear hr hl
     go_enter Tryz.func177, Tryz.ntmps177
     go_wp2
     go_loopw [3] (fun i wr => ∃ k : Nat, k ≤ len ∧ i = .int .i64 k ∧ chkAF (l.take k) (l.drop k) = chkAF [] l ∧ Kept w wr) (fun i _ => len - (intOf i).toNat)
     case atStart => exact ⟨0, Nat.zero_le _, rfl, rfl, Kept.refl _⟩
     case round =>
      obtain ⟨k, hk, rfl, hrest, hK⟩ := hrel
      by_cases hlt : k < len
      · obtain ⟨x, y, m, hx, hd, hb, hz, hz2, c1, c2, c3⟩ := (HR.out.kept hK).tri hlt
        have HX := lH hx
        have HK := lH hK
        have HT := lH (hrest.symm.trans (congrArg (chkAF (l.take k)) hd))
        have HS := lH (HV.out.trans HT.out)
        clear hK hrest hx hd
        by_cases n1 : isName x = true
        · by_cases n2 : isName y = true
          · have N1 := lH n1
            have N2 := lH n2
            go_wp2_with (go_at_call 77; refine (refName_any _ _ (by assumption)).mono ?_; rintro e w' ⟨rfl, rfl⟩)
            go_loopw [4] (fun i wr2 => ∃ j : Nat, j ≤ k ∧ i = .int .i64 j ∧ (l.take j).any (twinN (x, y, m)) = false ∧ Kept w wr2) (fun i _ => k - (intOf i).toNat)
            case atStart => exact ⟨0, Nat.zero_le _, rfl, rfl, HK.out⟩
            case round =>
             obtain ⟨j, hj, rfl, hnone, hK2⟩ := hrel
             have HK2 := lH hK2
             have HNO := lH hnone
             by_cases hjk : j < k
             · obtain ⟨x', y', m', hx', _, hb', _, _, d1, d2, d3⟩ := (HR.out.kept hK2).tri (show j < len by omega)
               obtain ⟨x9, y9, m9, hx9, _, _, _, _, e1, e2, e3⟩ := (HR.out.kept hK2).tri hlt
               obtain ⟨rfl, rfl, rfl⟩ : x = x9 ∧ y = y9 ∧ m = m9 := by rw [HX.out] at hx9; simpa using hx9
               have HX' := lH hx'
               obtain ⟨q1, hq1⟩ : ∃ q, (x'.toList == x.toList) = q := ⟨_, rfl⟩
               obtain ⟨q2, hq2⟩ : ∃ q, (y'.toList == y.toList) = q := ⟨_, rfl⟩
               have HTW := lH (show twinN (x, y, m) (x', y', m') = (q1 && q2) by unfold twinN eqS; rw [hq1, hq2])
               have hjl : (j : Int) < (len : Int) := by omega
               clear hx9 hx' hnone hK2
               cases q1 with
               | true =>
                cases q2 with
                | true =>
                 go_wp2_with fail
                 go_quiet (fail)
                 go_wp2
                 go_ret
                 exact ⟨ret_i64 (HS.out.trans (chkA_twice N1.out N2.out (twin_found hjk HX'.out HTW.out))).symm, HK2.out.trans (Kept.drewN _ _)⟩
                | false =>
                 go_wp2_with fail
                 go_quiet (fail)
                 go_wp2
                 go_roundw
                 case rel => exact ⟨j + 1, by omega, by go_num, twin_next HX'.out HNO.out HTW.out, HK2.out.trans (Kept.drewN _ _)⟩
                 case measure => simp [intOf]; omega
               | false =>
                go_wp2_with fail
                go_quiet (fail)
                go_wp2
                go_roundw
                case rel => exact ⟨j + 1, by omega, by go_num, twin_next HX'.out HNO.out HTW.out, HK2.out.trans (Kept.drewN _ _)⟩
                case measure => simp [intOf]; omega
             · obtain rfl : j = k := by omega
               clear hnone hK2
               go_wp2
               go_roundw
               case rel => exact ⟨j + 1, by omega, by go_num, by rw [take_snoc HX.out]; exact (chkA_next N1.out N2.out HNO.out).symm.trans HT.out.symm, HK2.out⟩
               case measure => simp [intOf]; omega
          · have n2 : isName y = false := by simpa using n2
            have N := lH (show (isName x && isName y) = false by rw [n2, Bool.and_false])
            go_wp2_with (go_at_call 77; refine (refName_any _ _ (by assumption)).mono ?_; rintro e w' ⟨rfl, rfl⟩)
            go_ret
            exact ⟨ret_i64 (HS.out.trans (chkA_name N.out)).symm, HK.out⟩
        · have n1 : isName x = false := by simpa using n1
          have N := lH (show (isName x && isName y) = false by rw [n1, Bool.false_and])
          go_wp2_with (go_at_call 77; refine (refName_any _ _ (by assumption)).mono ?_; rintro e w' ⟨rfl, rfl⟩)
          go_ret
          exact ⟨ret_i64 (HS.out.trans (chkA_name N.out)).symm, HK.out⟩
      · have HK := lH hK
        have HS := lH ((HV.out.trans hrest.symm).trans (congrArg (chkAF (l.take k)) (drop_end (by rw [HL.out]; exact hlt))))
        clear hK hrest
        go_wp2
        go_ret
        exact ⟨ret_i64 (HS.out.trans rfl).symm, HK.out⟩
 · have HV := lH (show chkA l = 4 by unfold chkA; rw [if_pos (by omega)])
   have h9 : 8 < len := by omega
   clear h8 hr hl
   go_enter Tryz.func177, Tryz.ntmps177
   go_wp2
   go_ret
   exact ⟨ret_i64 HV.out.symm, Kept.refl _⟩
theorem refCheckAR {v : Value} {l : NL} {c : Int} {w : World} (h : Reads TaLay w v l) (hc : chkA l = c) : Calls Tryz.prog 177 #[v] w (Say (.int .i64 c) w) := by
 obtain ⟨a, cap, rfl, _, _, hr⟩ := h
 exact (refCheckA_any a _ cap l w hr).mono fun e w' ⟨he, k⟩ => ⟨by rw [he, hc], k⟩
theorem refCheckOR {v : Value} {l : NL} {c : Int} {w : World} (h : Reads TaLay w v l) (hc : chkO l = c) : Calls Tryz.prog 81 #[v] w (Say (.int .i64 c) w) := by
 obtain ⟨a, cap, rfl, _, _, hr⟩ := h
 exact (refCheckO_any a _ cap l w hr).mono fun e w' ⟨he, k⟩ => ⟨by rw [he, hc], k⟩
open Go.RowKit
open Go.RowKit
open Go.RowKit
open Go.RowKit
open Go.ChangeShapes Go.WideShapes Go.ChangeAt Go.RowKit Go.Deep
theorem cellsB : Tryz.prog.cellsOf 4 = 1 := by kernel_rfl
theorem cellsA : Tryz.prog.cellsOf 158 = 3 := by kernel_rfl
set_option maxRecDepth 100000 in
theorem triA_of_trod {H : Type} {enc : TypeId × Value → H} {w : World} {base fuel : Nat} {sp : Nat → Bool} {held : Bool} {cs : List Value} {x : DataW H × List MemPlace} (h : DataW.trod enc Tryz.prog w base sp held fuel 158 cs = some x) :
 ∃ a : NT, cs = TaLay.cs a ∧ TaLay.fine a := by
 obtain ⟨ys, m, -, -, hlen, hyl, hf⟩ := DataW.trod_struct Tryz.underlying158 h
 rw [cellsA] at hlen
 match cs, hlen with
 | [c0, c1, c2], _ =>
  have h0 : DataW.trod enc Tryz.prog w base sp held m 9 (([c0, c1, c2].drop 0).take (Tryz.prog.cellsOf 9)) = ys[0]? := hf 0 _ rfl
  have h1 : DataW.trod enc Tryz.prog w base sp held m 9 (([c0, c1, c2].drop 1).take (Tryz.prog.cellsOf 9)) = ys[1]? := hf 1 _ rfl
  have h2 : DataW.trod enc Tryz.prog w base sp held m 4 (([c0, c1, c2].drop 2).take (Tryz.prog.cellsOf 4)) = ys[2]? := hf 2 _ rfl
  rw [cellsS] at h0 h1
  rw [cellsB] at h2
  obtain ⟨y0, e0⟩ : ∃ y, ys[0]? = some y := ⟨_, List.getElem?_eq_getElem (by rw [hyl]; decide)⟩
  obtain ⟨y1, e1⟩ : ∃ y, ys[1]? = some y := ⟨_, List.getElem?_eq_getElem (by rw [hyl]; decide)⟩
  obtain ⟨y2, e2⟩ : ∃ y, ys[2]? = some y := ⟨_, List.getElem?_eq_getElem (by rw [hyl]; decide)⟩
  rw [e0] at h0
  rw [e1] at h1
  rw [e2] at h2
  obtain ⟨s, q0, -, hs⟩ := DataW.trod_string Tryz.underlying9 h0
  obtain ⟨t, q1, -, ht⟩ := DataW.trod_string Tryz.underlying9 h1
  obtain ⟨b, q2, -⟩ := DataW.trod_bool Tryz.underlying4 h2
  simp only [List.drop_zero, List.take_succ_cons, List.take_zero, List.cons.injEq, and_true, List.drop_succ_cons] at q0 q1 q2
  subst q0; subst q1; subst q2
  exact ⟨(s, t, b), rfl, hs, ht⟩
theorem rowA_of_trod {H : Type} {enc : TypeId × Value → H} {w : World} {base fuel : Nat} {sp : Nat → Bool} {held : Bool} {v : Value} {x : DataW H × List MemPlace} (h : DataW.trod enc Tryz.prog w base sp held fuel 41 [v] = some x) : ∃ l, Reads TaLay w v l :=
 reads_of_trod TaLay Tryz.underlying41 cellsA (fun _ _ _ h => triA_of_trod h) h
theorem cellsO : Tryz.prog.cellsOf 137 = 3 := by kernel_rfl
set_option maxRecDepth 100000 in
theorem triO_of_trod {H : Type} {enc : TypeId × Value → H} {w : World} {base fuel : Nat} {sp : Nat → Bool} {held : Bool} {cs : List Value} {x : DataW H × List MemPlace} (h : DataW.trod enc Tryz.prog w base sp held fuel 137 cs = some x) :
 ∃ a : NT, cs = TaLay.cs a ∧ TaLay.fine a := by
 obtain ⟨ys, m, -, -, hlen, hyl, hf⟩ := DataW.trod_struct Tryz.underlying137 h
 rw [cellsO] at hlen
 match cs, hlen with
 | [c0, c1, c2], _ =>
  have h0 : DataW.trod enc Tryz.prog w base sp held m 9 (([c0, c1, c2].drop 0).take (Tryz.prog.cellsOf 9)) = ys[0]? := hf 0 _ rfl
  have h1 : DataW.trod enc Tryz.prog w base sp held m 9 (([c0, c1, c2].drop 1).take (Tryz.prog.cellsOf 9)) = ys[1]? := hf 1 _ rfl
  have h2 : DataW.trod enc Tryz.prog w base sp held m 4 (([c0, c1, c2].drop 2).take (Tryz.prog.cellsOf 4)) = ys[2]? := hf 2 _ rfl
  rw [cellsS] at h0 h1
  rw [cellsB] at h2
  obtain ⟨y0, e0⟩ : ∃ y, ys[0]? = some y := ⟨_, List.getElem?_eq_getElem (by rw [hyl]; decide)⟩
  obtain ⟨y1, e1⟩ : ∃ y, ys[1]? = some y := ⟨_, List.getElem?_eq_getElem (by rw [hyl]; decide)⟩
  obtain ⟨y2, e2⟩ : ∃ y, ys[2]? = some y := ⟨_, List.getElem?_eq_getElem (by rw [hyl]; decide)⟩
  rw [e0] at h0
  rw [e1] at h1
  rw [e2] at h2
  obtain ⟨s, q0, -, hs⟩ := DataW.trod_string Tryz.underlying9 h0
  obtain ⟨t, q1, -, ht⟩ := DataW.trod_string Tryz.underlying9 h1
  obtain ⟨b, q2, -⟩ := DataW.trod_bool Tryz.underlying4 h2
  simp only [List.drop_zero, List.take_succ_cons, List.take_zero, List.cons.injEq, and_true, List.drop_succ_cons] at q0 q1 q2
  subst q0; subst q1; subst q2
  exact ⟨(s, t, b), rfl, hs, ht⟩
theorem rowO_of_trod {H : Type} {enc : TypeId × Value → H} {w : World} {base fuel : Nat} {sp : Nat → Bool} {held : Bool} {v : Value} {x : DataW H × List MemPlace} (h : DataW.trod enc Tryz.prog w base sp held fuel 47 [v] = some x) : ∃ l, Reads TaLay w v l :=
 reads_of_trod TaLay Tryz.underlying47 cellsO (fun _ _ _ h => triO_of_trod h) h
end Go.Proofs.YtfpgekjhcfoohaaGreat
