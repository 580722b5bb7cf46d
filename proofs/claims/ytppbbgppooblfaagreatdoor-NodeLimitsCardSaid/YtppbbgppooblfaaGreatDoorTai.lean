/- Package by package: contracts of the functions that the laws call. -/
import Derived.Test.YtppbbgppooblfaaGreatDoorBase
import Derived.Deep.RegionHeld3
import Derived.Recover
import Derived.Defers
import Derived.Laws.Pointers
import Derived.StillTailTactics
import Derived.RegionTactic
import Derived.ChangeAlike

/- Rows of a key, a value and a mark: taints and tolerations alike. -/
namespace Go.Proofs.YtppbbgppooblfaaGreatDoor
open Go.RowKit
set_option linter.unusedVariables false

abbrev NT := ByteArray × ByteArray × Bool
abbrev NL := List NT
abbrev NV (x y : ByteArray) (b : Bool) : Value := .agg #[.string x, .string y, .bool b]
theorem one_ssb (x y : ByteArray) (b : Bool) (u : Value) (h : u ∈ [Value.string x, Value.string y, Value.bool b]) : u.oneCell' = true := by
  have e : u = Value.string x ∨ u = Value.string y ∨ u = Value.bool b := by simpa using h
  rcases e with e | e | e <;> rw [e] <;> rfl
def TaLay : Lay NT := { m := 3, cs := fun x => [.string x.1, .string x.2.1, .bool x.2.2], fine := fun x => x.1.size ≤ maxLen ∧ x.2.1.size ≤ maxLen, len := fun _ => rfl, one := fun x => one_ssb x.1 x.2.1 x.2.2, pos := by decide }

theorem RowAt.tri {w : World} {b off len : Nat} {l : NL} {k : Nat} (h : RowAt TaLay w (some ⟨b, off, none⟩) len l) (hk : k < len) :
    ∃ (x y : ByteArray) (m : Bool), l[k]? = some (x, y, m) ∧ l.drop k = (x, y, m) :: l.drop (k + 1) ∧ b < w.heap.size ∧ x.size ≤ maxLen ∧ y.size ≤ maxLen ∧
      w.cell? ⟨b, off + k * 3, none⟩ = some (.string x) ∧ w.cell? ⟨b, off + k * 3 + 1, none⟩ = some (.string y) ∧ w.cell? ⟨b, off + k * 3 + 2, none⟩ = some (.bool m) := by
  obtain ⟨⟨x, y, m⟩, h1, h2, h3, h4, h5⟩ := h.cells hk
  exact ⟨x, y, m, h1, h2, h3, h4.1, h4.2, h5 0 _ rfl, h5 1 _ rfl, h5 2 _ rfl⟩

/-- Whether a key and a value are there ahead. -/
def twinN (t z : NT) : Bool := eqS z.1 t.1 && eqS z.2.1 t.2.1
/-- What is wrong with taints. -/
def chkAF : NL → NL → Int
  | _, [] => 0
  | pre, x :: t => if (isName x.1 && isName x.2.1) = false then 3 else if pre.any (twinN x) = true then 6 else chkAF (pre ++ [x]) t
def chkA (l : NL) : Int := if 8 < l.length then 4 else chkAF [] l
theorem chkA_name {pre : NL} {x : NT} {t : NL} (n : (isName x.1 && isName x.2.1) = false) : chkAF pre (x :: t) = 3 := by rw [chkAF, if_pos n]
theorem chkA_twice {pre : NL} {x : NT} {t : NL} (n1 : isName x.1 = true) (n2 : isName x.2.1 = true) (b : pre.any (twinN x) = true) : chkAF pre (x :: t) = 6 := by
  rw [chkAF, if_neg (by rw [n1, n2]; decide), if_pos b]
theorem chkA_next {pre : NL} {x : NT} {t : NL} (n1 : isName x.1 = true) (n2 : isName x.2.1 = true) (b : pre.any (twinN x) = false) : chkAF pre (x :: t) = chkAF (pre ++ [x]) t := by
  rw [chkAF, if_neg (by rw [n1, n2]; decide), if_neg (by rw [b]; decide)]

end Go.Proofs.YtppbbgppooblfaaGreatDoor

/- Whether a pair is there ahead; what is borne. -/
namespace Go.Proofs.YtppbbgppooblfaaGreatDoor
open Go.RowKit Go.Sort
set_option linter.unusedVariables false

/-- A key, a value and a mark lie at c. -/
def TriAt (w : World) (c : Nat) (t : NT) : Prop := w.cell? ⟨c, 0, none⟩ = some (.string t.1) ∧ w.cell? ⟨c, 1, none⟩ = some (.string t.2.1) ∧ w.cell? ⟨c, 2, none⟩ = some (.bool t.2.2)
theorem TriAt.kept {w w' : World} {c : Nat} {t : NT} (h : TriAt w c t) (k : Kept w w') : TriAt w' c t := ⟨cell_later k h.1, cell_later k h.2.1, cell_later k h.2.2⟩
theorem TriAt.new (w : World) (x y : ByteArray) (m : Bool) (T : TypeId) : TriAt (w.alloc (.cells #[.string x, .string y, .bool m] T)) w.heap.size (x, y, m) := by
  have hh := w.alloc_heap_new (.cells #[.string x, .string y, .bool m] T)
  exact ⟨by rw [Lib.cell_of_heap hh]; rfl, by rw [Lib.cell_of_heap hh]; rfl, by rw [Lib.cell_of_heap hh]; rfl⟩

theorem twin_any (c : Nat) (t : NT) (x y : ByteArray) (m : Bool) (w : World) (h : TriAt w c t) :
    Calls Tryz.prog 239 #[NV x y m, .pointer (some ⟨c, 0, none⟩)] w fun e w' => e = .returned (.bool (twinN t (x, y, m))) ∧ Grw w w' := by
  obtain ⟨t1, t2, t3⟩ := t
  obtain ⟨h1, h2, h3⟩ := h
  dsimp only at h1 h2 h3
  have g1 := cell_later (kept_alloc w (.cells #[.string x, .string y, .bool m] 160)) h1
  have g2 := cell_later (kept_alloc w (.cells #[.string x, .string y, .bool m] 160)) h2
  have g3 := cell_later (kept_alloc w (.cells #[.string x, .string y, .bool m] 160)) h3
  obtain ⟨q1, hq1⟩ : ∃ q, (x.toList == t1.toList) = q := ⟨_, rfl⟩
  obtain ⟨q2, hq2⟩ : ∃ q, (y.toList == t2.toList) = q := ⟨_, rfl⟩
  have HV := Lib.hid (show twinN (t1, t2, t3) (x, y, m) = (q1 && q2) by unfold twinN eqS; rw [hq1, hq2])
  cases q1 <;> cases q2 <;>
  (go_enter Tryz.func239, Tryz.ntmps239
   go_wp2
   go_ret
   exact ⟨ret_bool HV.out.symm, Grw.alloc _ _⟩)

set_option maxHeartbeats 800000 in
theorem indexA_any (a : Option Addr) (len cap : Nat) (l : NL) (c : Nat) (t : NT) (w : World) (hr : RowAt TaLay w a len l) (ht : TriAt w c t) :
    Calls Tryz.prog 273 #[.slice a len cap, .func (.func 239) #[] #[.pointer (some ⟨c, 0, none⟩)]] w fun e w' => ∃ i : Int, e = .returned (.int .i64 i) ∧ decide (0 ≤ i) = l.any (twinN t) ∧ Grw w w' := by
  have hl := hr.1
  have hm := hr.2.1
  unfold maxLen at hm
  rcases hr.form with h0 | ⟨b, off, rfl⟩
  · subst h0
    have HE := Lib.hid (show l.any (twinN t) = false by rw [List.eq_nil_of_length_eq_zero hl]; rfl)
    clear hr hl ht
    go_enter Tryz.func273, Tryz.ntmps273
    go_wp2
    refine wp_loop_rounds 1 ?_
    rw [rounds_succ]
    go_wp2
    go_ret
    exact ⟨-1, rfl, HE.out.symm, Grw.refl _⟩
  · have HR := Lib.hid hr
    have HL := Lib.hid hl
    have HT := Lib.hid ht
    clear hr hl ht
    go_enter Tryz.func273, Tryz.ntmps273
    go_wp2
    go_loopw [8] (fun i wr => ∃ k : Nat, k ≤ len ∧ i = .int .i64 k ∧ (l.drop k).any (twinN t) = l.any (twinN t) ∧ Grw w wr) (fun i _ => len - (intOf i).toNat)
    case atStart => exact ⟨0, Nat.zero_le _, rfl, rfl, Grw.refl _⟩
    case round =>
      obtain ⟨k, hk, rfl, hrest, hG⟩ := hrel
      have hK := hG.kept
      have HG := Lib.hid hG
      by_cases hlt : k < len
      · obtain ⟨x, y, m, hx, hd, hb, hz, hz2, c1, c2, c3⟩ := (HR.out.kept hK).tri hlt
        have HK := Lib.hid hK
        have HS := Lib.hid (hrest.symm.trans ((congrArg (fun z => z.any (twinN t)) hd).trans (List.any_cons)))
        obtain ⟨q, hq⟩ : ∃ q, twinN t (x, y, m) = q := ⟨_, rfl⟩
        rw [hq] at HS
        have HQ := Lib.hid hq
        have HC := Lib.hid (HT.out.kept hK)
        clear hK hrest hx hd hG hq
        cases q with
        | true =>
          go_wp2_with (go_at_call 239; refine (twin_any c t x y m _ HC.out).mono ?_; rw [HQ.out]; rintro e w1 ⟨rfl, k1⟩; have K1 := Lib.hid k1; clear k1)
          go_ret
          exact ⟨(k : Int), rfl, by rw [HS.out]; simp, HG.out.trans K1.out⟩
        | false =>
          go_wp2_with (go_at_call 239; refine (twin_any c t x y m _ HC.out).mono ?_; rw [HQ.out]; rintro e w1 ⟨rfl, k1⟩; have K1 := Lib.hid k1; clear k1)
          go_roundw
          case rel => exact ⟨k + 1, by omega, by go_num, (HS.out.trans (Bool.false_or _)).symm, HG.out.trans K1.out⟩
          case measure => simp [intOf]; omega
      · have HS := Lib.hid (hrest.symm.trans (congrArg (fun z => z.any (twinN t)) (drop_end (by rw [HL.out]; exact hlt))))
        clear hK hrest hG
        go_wp2
        go_ret
        exact ⟨-1, rfl, by rw [HS.out]; rfl, HG.out⟩

theorem containsA_any (a : Option Addr) (len cap : Nat) (l : NL) (c : Nat) (t : NT) (w : World) (hr : RowAt TaLay w a len l) (ht : TriAt w c t) :
    Calls Tryz.prog 238 #[.slice a len cap, .func (.func 239) #[] #[.pointer (some ⟨c, 0, none⟩)]] w fun e w' => e = .returned (.bool (l.any (twinN t))) ∧ Grw w w' := by
  have HI := Lib.hid (indexA_any a len cap l c t w hr ht)
  clear hr ht
  go_enter Tryz.func238, Tryz.ntmps238
  go_wp2_with fail
  refine HI.out.mono ?_
  rintro e w1 ⟨i, rfl, hi, k1⟩
  have K1 := Lib.hid k1
  have HB := Lib.hid hi
  clear hi k1
  go_wp2
  go_ret
  exact ⟨ret_bool HB.out, K1.out⟩

theorem ahead_any (a : Option Addr) (len cap : Nat) (l : NL) (t1 t2 : ByteArray) (t3 : Bool) (w : World) (hr : RowAt TaLay w a len l) :
    Calls Tryz.prog 182 #[.slice a len cap, NV t1 t2 t3] w fun e w' => e = .returned (.bool (l.any (twinN (t1, t2, t3)))) ∧ Grw w w' := by
  have hmf : ∀ (fn : Fn) (first cap : Array Value) (w : World), (Instr.makeFunc fn first cap).run Tryz.prog w = .ok (.func fn first cap) w := fun _ _ _ _ => rfl
  have HI := Lib.hid (containsA_any a len cap l w.heap.size (t1, t2, t3) (w.alloc (.cells #[.string t1, .string t2, .bool t3] 160)) (hr.kept (kept_alloc _ _)) (TriAt.new w t1 t2 t3 _))
  clear hr
  go_enter Tryz.func182, Tryz.ntmps182
  go_wp2_with fail
  refine HI.out.mono ?_
  rintro e w1 ⟨rfl, k1⟩
  have K1 := Lib.hid k1
  clear k1
  go_wp2
  go_ret
  exact ⟨rfl, (Grw.alloc _ _).trans K1.out⟩

end Go.Proofs.YtppbbgppooblfaaGreatDoor

/- A taint, a toleration in words. -/
namespace Go.Proofs.YtppbbgppooblfaaGreatDoor
open Go.RowKit
set_option linter.unusedVariables false

def taintB (x : NT) : ByteArray := if x.2.2 = true then x.1 ++ ⟨#[58]⟩ ++ x.2.1 ++ ⟨#[33]⟩ else x.1 ++ ⟨#[58]⟩ ++ x.2.1
theorem taintB_size {x : NT} (h1 : x.1.size ≤ 900000) (h2 : x.2.1.size ≤ 900000) : (taintB x).size ≤ 2000001 := by
  have e1 : (⟨#[58]⟩ : ByteArray).size = 1 := rfl
  have e2 : (⟨#[33]⟩ : ByteArray).size = 1 := rfl
  unfold taintB
  split
  · rw [ByteArray.size_append, ByteArray.size_append, ByteArray.size_append]; omega
  · rw [ByteArray.size_append, ByteArray.size_append]; omega
theorem taintText_any (x y : ByteArray) (m : Bool) (w : World) (hx : x.size ≤ 900000) (hy : y.size ≤ 900000) :
    Calls Tryz.prog 196 #[NV x y m] w fun e w' => e = .returned (.string (taintB (x, y, m))) ∧ Kept w w' := by
  cases m
  · go_enter Tryz.func196, Tryz.ntmps196
    go_wp2
    go_ret
    exact ⟨rfl, kept_alloc _ _⟩
  · go_enter Tryz.func196, Tryz.ntmps196
    go_wp2
    go_ret
    exact ⟨rfl, kept_alloc _ _⟩

end Go.Proofs.YtppbbgppooblfaaGreatDoor

/- Taints, tolerations joined: Text. -/
namespace Go.Proofs.YtppbbgppooblfaaGreatDoor
open Go.RowKit
set_option linter.unusedVariables false

def textA (l : NL) : ByteArray := if l = [] then ⟨#[45]⟩ else joinB (l.map taintB)

set_option maxHeartbeats 1600000 in
theorem joinA_any (a : Option Addr) (len cap : Nat) (l : NL) (w : World) (hr : RowAt TaLay w a len l) (hf : ∀ x ∈ l, x.1.size ≤ 900000 ∧ x.2.1.size ≤ 900000) (hn : len ≤ 1000000) :
    Calls Tryz.prog 195 #[.slice a len cap, .func (.func 196) #[] #[]] w fun e w' => e = .returned (.string (textA l)) ∧ Kept w w' := by
  have hl := hr.1
  rcases hr.form with h0 | ⟨b, off, rfl⟩
  · subst h0
    have HE := Lib.hid (show textA l = ⟨#[45]⟩ by unfold textA; rw [if_pos (List.eq_nil_of_length_eq_zero hl)])
    clear hr hl hf
    go_enter Tryz.func195, Tryz.ntmps195
    go_wp2
    go_ret
    exact ⟨ret_str HE.out.symm, Kept.refl _⟩
  · by_cases h0 : len = 0
    · subst h0
      have HE := Lib.hid (show textA l = ⟨#[45]⟩ by unfold textA; rw [if_pos (List.eq_nil_of_length_eq_zero hl)])
      clear hr hl hf
      go_enter Tryz.func195, Tryz.ntmps195
      go_wp2
      go_ret
      exact ⟨ret_str HE.out.symm, Kept.refl _⟩
    · have h0' : ((len : Int) == 0) = false := by
        have : (len : Int) ≠ 0 := by omega
        simpa using this
      have HE := Lib.hid (show textA l = joinB (l.map taintB) by unfold textA; rw [if_neg (by intro e; rw [e] at hl; simp at hl; omega)])
      have HR := Lib.hid hr
      have HL := Lib.hid hl
      have HF := Lib.hid hf
      have HN := Lib.hid h0
      obtain ⟨i0, hi, hz0, hz1, hz2⟩ := info_parts strInfo
      have hib : i0.bytes * len ≤ 281474976710656 := by rw [hz2]; omega
      have hlm : len ≤ maxLen := by unfold maxLen; omega
      clear hr hl hf h0
      go_enter Tryz.func195, Tryz.ntmps195
      go_wp2_with (refine wpList_make_full _ rfl (.tmp 12) (.tmp 12) _ rfl w.heap.size 9 i0 _ 1 Tryz.underlying134 hi hz0 hz1 .i64 .i64 len len len rfl rfl rfl rfl hib hlm (Nat.le_refl _) ?_; intro w1 own1 grow1; rw [made_strings, ← fills_zero (l.map taintB)] at own1; have O1 := Lib.hid own1; have K1 := Lib.hid (show Kept w w1 from (Below.refl _ w).grown grow1 (Nat.le_refl _) (fun k hk => by cases hk)); have hp1 := (own1.lt w.heap.size rfl).2; clear own1 grow1)
      go_loopw [16] (fun i wr => ∃ k : Nat, k ≤ len ∧ i = .int .i64 k ∧ wr.ownsRow w.heap.size 9 1 (.slice (some ⟨w.heap.size, 0, none⟩) len len) len (fills (l.map taintB) len k) ∧ Kept w wr) (fun i _ => len - (intOf i).toNat)
      case atStart => exact ⟨0, Nat.zero_le _, rfl, O1.out, K1.out⟩
      case round =>
        obtain ⟨k, hk, rfl, hown, hK⟩ := hrel
        by_cases hlt : k < len
        · obtain ⟨x, y, m, hx, hd, hb, hz, hz2, c1, c2, c3⟩ := (HR.out.kept hK).tri hlt
          clear hz hz2
          have hz := show x.size ≤ 900000 from (HF.out _ (List.mem_of_getElem? hx)).1
          have hz2 := show y.size ≤ 900000 from (HF.out _ (List.mem_of_getElem? hx)).2
          have HX := Lib.hid (show (l.map taintB)[k]? = some (taintB (x, y, m)) by rw [List.getElem?_map, hx]; rfl)
          have HK := Lib.hid hK
          have HO := Lib.hid hown
          clear hK hx hd hown
          go_wp2_with (go_at_call 196; refine (taintText_any x y m _ hz hz2).mono ?_; rintro e w2 ⟨rfl, k2⟩; have K2 := Lib.hid k2; have O2 := Lib.hid (ownsRow_kept HO.out ((kept_alloc wr _).trans k2)); clear k2; have z2 := O2.out.frozenAt k; have q2 := row_at O2.out (fills_at (by rw [List.length_map]; exact HL.out) hlt))
          go_roundw
          case rel =>
            refine ⟨k + 1, by omega, by go_num, ?_, ?_⟩
            · have := (O2.out.stored k (.string (taintB (x, y, m)))).1
              rw [fills_set (by rw [List.length_map]; exact HL.out) HX.out] at this
              exact this
            · exact Below.setCell (HK.out.trans ((kept_alloc _ _).trans K2.out)) (p := ⟨w.heap.size, k, none⟩) (Nat.le_refl _) _
          case measure => simp [intOf]; omega
        · have HK := Lib.hid hK
          obtain rfl : k = len := by omega
          have hfull := hown
          rw [fills_all (by rw [List.length_map]; exact HL.out)] at hfull
          have HC := Lib.hid hfull
          have HK2 := Lib.hid ((hown.lt w.heap.size rfl).2)
          clear hK hown hfull
          have hml : (l.map taintB).length = k := by rw [List.length_map]; exact HL.out
          have hjl := joins_le (l.map taintB) 2000001 (by
            intro z hz
            obtain ⟨x, hx, rfl⟩ := List.mem_map.1 hz
            exact taintB_size (HF.out x hx).1 (HF.out x hx).2)
          rw [hml] at hjl
          have hpl : w.heap.size < wr.heap.size := HK2.out
          have J := Tryz.strings_Join w.heap.size 0 k (l.map taintB) ⟨#[44]⟩ wr (row_cells HC.out) hpl (by rw [hml]; omega) (by rw [hml]; exact Nat.le_refl _) (Nat.le_trans hjl (by omega))
          rw [hml] at J
          have HJ := Lib.hid J
          clear J hjl hml hpl
          go_wp2_with (go_at_call 192; refine HJ.out.mono ?_; rintro e w2 ⟨rfl, k2⟩; have K2 := Lib.hid (show Kept wr w2 from k2); clear k2)
          go_ret
          exact ⟨ret_str (HE.out.trans (by unfold joinB; rw [List.map_map])).symm, HK.out.trans K2.out⟩

/-- textA: in words. -/
theorem textA_any (a : Option Addr) (len cap : Nat) (l : NL) (w : World) (hr : RowAt TaLay w a len l) (hf : ∀ x ∈ l, x.1.size ≤ 900000 ∧ x.2.1.size ≤ 900000) (hn : len ≤ 1000000) :
    Calls Tryz.prog 122 #[.slice a len cap] w fun e w' => e = .returned (.string (textA l)) ∧ Kept w w' := by
  have HJ := Lib.hid (joinA_any a len cap l w hr hf hn)
  clear hr hf hn
  go_enter Tryz.func122, Tryz.ntmps122
  go_wp2_with (go_at_call 195; refine HJ.out.mono ?_; rintro e w2 ⟨rfl, k2⟩)
  go_ret
  exact ⟨rfl, k2⟩


end Go.Proofs.YtppbbgppooblfaaGreatDoor

/- Taints, tolerations joined: TolText. -/
namespace Go.Proofs.YtppbbgppooblfaaGreatDoor
open Go.RowKit
set_option linter.unusedVariables false

end Go.Proofs.YtppbbgppooblfaaGreatDoor

/- A part's form: a taint, a toleration. -/
namespace Go.Proofs.YtppbbgppooblfaaGreatDoor
open Go.RowKit
set_option linter.unusedVariables false

theorem cutSuffix_any (p : List UInt8) (w : World) (hp : p.length ≤ 1000000) :
    Calls Tryz.prog 278 #[.string (bytes p), .string ⟨#[33]⟩] w fun e w' => e = .returned (.tuple #[.string (bytes (Lib.trimSuffix p [33])), .bool (Lib.hasSuffix p [33])]) ∧ w' = w :=
  Tryz.strings_CutSuffix (bytes p) ⟨#[33]⟩ w (by rw [bytes_size]; omega)

/-- A taint's part. -/
def readA (p : List UInt8) : NT := (bytes (Lib.cut (Lib.trimSuffix p [33]) [58]).1, bytes (Lib.cut (Lib.trimSuffix p [33]) [58]).2.1, Lib.hasSuffix p [33])
def readABad (p : List UInt8) : Bool := decide (Lib.countByte p 58 ≠ 1)
theorem readA_ok (p : List UInt8) (w : World) (hE : Env w) (hp : p.length ≤ 1000000) (h : readABad p = false) :
    Calls Tryz.prog 248 #[.string (bytes p)] w fun e w' => e = .returned (NV (readA p).1 (readA p).2.1 (readA p).2.2) ∧ Kept w w' := by
  have HE := Lib.hid hE
  have h1 : Lib.countByte p 58 = 1 := by unfold readABad at h; simpa using h
  have HN := Lib.hid (fun W => count_any 58 p W)
  rw [h1] at HN
  obtain ⟨s, hs⟩ : ∃ s, Lib.trimSuffix p [33] = s := ⟨_, rfl⟩
  have hsl : s.length ≤ 1000000 := by rw [← hs]; have := Lib.trimSuffix_le p [33]; omega
  obtain ⟨q, hq⟩ : ∃ q, Lib.hasSuffix p [33] = q := ⟨_, rfl⟩
  have HS := Lib.hid (fun W => cutSuffix_any p W hp)
  rw [hs, hq] at HS
  have HV := Lib.hid (show readA p = (bytes (Lib.cut s [58]).1, bytes (Lib.cut s [58]).2.1, q) by unfold readA; rw [hs, hq])
  have HC := Lib.hid (fun W (hW : Env W) => cut_any 58 s W hW hsl)
  clear hE h h1 hs hq
  rw [HV.out]
  go_enter Tryz.func248, Tryz.ntmps248
  go_wp2_with (first | (go_at_call 277; refine (HN.out _).mono ?_; rintro e w' ⟨rfl, rfl⟩) | (go_at_call 278; refine (HS.out _).mono ?_; rintro e w' ⟨rfl, rfl⟩) | (go_at_call 235; refine (HC.out _ (HE.out.kept (kept_alloc _ _))).mono ?_; rintro e w' ⟨rfl, n, rfl⟩))
  (try simp only [Exit.inBlock, Exit.then])
  refine bodyPost_ret (v := NV (bytes (Lib.cut s [58]).1) (bytes (Lib.cut s [58]).2.1) q) (by simp [results, Tryz.results248, go_sem]) rfl ?_
  exact ⟨rfl, kept_cell (kept_cell (kept_cell ((kept_alloc _ _).trans (Kept.drewN _ _)) (Nat.le_refl _) _) (Nat.le_refl _) _) (Nat.le_refl _) _⟩

theorem readA_bad (p : List UInt8) (w : World) (hE : Env w) (hp : p.length ≤ 1000000) (h : readABad p = true) :
    Calls Tryz.prog 248 #[.string (bytes p)] w fun e w' => e = .panicked [perr 2] ∧ Kept w w' := by
  have h1 : Lib.countByte p 58 ≠ 1 := by unfold readABad at h; simpa using h
  obtain ⟨A, eA⟩ : ∃ A, Lib.countByte p 58 = A := ⟨_, rfl⟩
  have HN := Lib.hid (fun W => count_any 58 p W)
  rw [eA] at HN h1
  have h2 : ((A : Int) != 1) = true := by
    have : (A : Int) ≠ 1 := by omega
    simpa using this
  clear hE h h1
  go_enter Tryz.func248, Tryz.ntmps248
  go_wp2_with (go_at_call 277; refine (HN.out _).mono ?_; rintro e w' ⟨rfl, rfl⟩)
  first | exact ⟨rfl, rfl, Kept.refl _⟩ | exact ⟨rfl, rfl, kept_alloc _ _⟩

end Go.Proofs.YtppbbgppooblfaaGreatDoor

/- Whether taints, tolerations may be. -/
namespace Go.Proofs.YtppbbgppooblfaaGreatDoor
open Go.RowKit Go.Sort
set_option linter.unusedVariables false

theorem RowAt.front {α : Type} {L : Lay α} {w : World} {a : Option Addr} {len : Nat} {l : List α} (h : RowAt L w a len l) {k : Nat} (hk : k ≤ len) : RowAt L w a k (l.take k) := by
  obtain ⟨h0, h1, h2, h3⟩ := h
  refine ⟨by rw [List.length_take]; omega, by omega, fun x hx => h2 x (List.mem_of_mem_take hx), ?_⟩
  rcases h3 with h3 | ⟨b, off, e, hb, hc⟩
  · exact .inl (by omega)
  · refine .inr ⟨b, off, e, hb, fun i x j u hi hj => ?_⟩
    rw [List.getElem?_take] at hi
    split at hi
    · exact hc i x j u hi hj
    · cases hi

set_option maxHeartbeats 1600000 in
theorem checkA_any (a : Option Addr) (len cap : Nat) (l : NL) (w : World) (hr : RowAt TaLay w a len l) (hc : len ≤ cap) :
    Calls Tryz.prog 112 #[.slice a len cap] w fun e w' => e = .returned (.int .i64 (chkA l)) ∧ Kept w w' := by
  have hl := hr.1
  have hm := hr.2.1
  unfold maxLen at hm
  by_cases h8 : len ≤ 8
  · have HV := Lib.hid (show chkA l = chkAF [] l by unfold chkA; rw [if_neg (by omega)])
    rcases hr.form with h0 | ⟨b, off, rfl⟩
    · subst h0
      have HE := Lib.hid (show chkA l = 0 by rw [HV.out]; rw [List.eq_nil_of_length_eq_zero hl]; rfl)
      clear hr hl
      go_enter Tryz.func112, Tryz.ntmps112
      go_wp2
      refine wp_loop_rounds 1 ?_
      rw [rounds_succ]
      go_wp2
      go_ret
      exact ⟨ret_i64 HE.out.symm, Kept.refl _⟩
    · have HR := Lib.hid hr
      have HL := Lib.hid hl
      clear hr hl
      go_enter Tryz.func112, Tryz.ntmps112
      go_wp2
      go_loopw [10] (fun i wr => ∃ k : Nat, k ≤ len ∧ i = .int .i64 k ∧ chkAF (l.take k) (l.drop k) = chkAF [] l ∧ Kept w wr) (fun i _ => len - (intOf i).toNat)
      case atStart => exact ⟨0, Nat.zero_le _, rfl, rfl, Kept.refl _⟩
      case round =>
        obtain ⟨k, hk, rfl, hrest, hK⟩ := hrel
        by_cases hlt : k < len
        · obtain ⟨x, y, m, hx, hd, hb, hz, hz2, c1, c2, c3⟩ := (HR.out.kept hK).tri hlt
          have HX := Lib.hid hx
          have HK := Lib.hid hK
          have HT := Lib.hid (hrest.symm.trans (congrArg (chkAF (l.take k)) hd))
          have HS := Lib.hid (HV.out.trans HT.out)
          have HROW := Lib.hid ((HR.out.kept hK).front hk)
          clear hK hrest hx hd
          by_cases n1 : isName x = true
          · by_cases n2 : isName y = true
            · have N1 := Lib.hid n1
              have N2 := Lib.hid n2
              obtain ⟨q, hq⟩ : ∃ q, (l.take k).any (twinN (x, y, m)) = q := ⟨_, rfl⟩
              have HQ := Lib.hid hq
              have tn := TriAt.new wr x y m 160
              have l1 : ∀ (n : Nat) (os : Array Obj), (grow ((wr.alloc (.cells #[.string x, .string y, .bool m] 160)).drewN n) os).cell? ⟨wr.heap.size, 0, none⟩ = some (.string x) := fun n os => cell_later (kept_grow _ n os) tn.1
              have l2 : ∀ (n : Nat) (os : Array Obj), (grow ((wr.alloc (.cells #[.string x, .string y, .bool m] 160)).drewN n) os).cell? ⟨wr.heap.size, 1, none⟩ = some (.string y) := fun n os => cell_later (kept_grow _ n os) tn.2.1
              have l3 : ∀ (n : Nat) (os : Array Obj), (grow ((wr.alloc (.cells #[.string x, .string y, .bool m] 160)).drewN n) os).cell? ⟨wr.heap.size, 2, none⟩ = some (.bool m) := fun n os => cell_later (kept_grow _ n os) tn.2.2
              have cz : ∀ (n : Nat) (os : Array Obj), Calls Tryz.prog 182 #[.slice (some ⟨b, off, none⟩) k cap, NV x y m] (grow ((wr.alloc (.cells #[.string x, .string y, .bool m] 160)).drewN n) os) fun e w'' => e = .returned (.bool q) ∧ ∃ q' os', w'' = grow ((grow ((wr.alloc (.cells #[.string x, .string y, .bool m] 160)).drewN n) os).drewN q') os' := fun n os => by
                rw [← hq]
                exact ahead_any (some ⟨b, off, none⟩) k cap (l.take k) x y m _ ((HROW.out.kept (kept_alloc _ _)).kept (kept_grow _ n os))
              have r1 : (k : Int) ≤ (cap : Int) := by omega
              have r2 : k ≤ cap := by omega
              have mixed : Tryz.prog.follows Departure.mixedOrders = true := by kernel_rfl
              clear tn hq
              cases q with
              | true =>
                go_wp2_with (go_at_call 36; refine (name_any _ _ (by assumption)).mono ?_; rintro e w' ⟨rfl, rfl⟩)
                go_quiet_grown (first | (go_at_call 182; refine Calls.grown_of (cz _ _)))
                go_wp2
                go_ret
                exact ⟨ret_i64 (HS.out.trans (chkA_twice N1.out N2.out HQ.out)).symm, HK.out.trans ((kept_alloc _ _).trans (kept_grow _ _ _))⟩
              | false =>
                go_wp2_with (go_at_call 36; refine (name_any _ _ (by assumption)).mono ?_; rintro e w' ⟨rfl, rfl⟩)
                go_quiet_grown (first | (go_at_call 182; refine Calls.grown_of (cz _ _)))
                go_wp2
                go_roundw
                case rel => exact ⟨k + 1, by omega, by go_num, by rw [take_snoc HX.out]; exact (chkA_next N1.out N2.out HQ.out).symm.trans HT.out.symm, HK.out.trans ((kept_alloc _ _).trans (kept_grow _ _ _))⟩
                case measure => simp [intOf]; omega
            · have n2 : isName y = false := by simpa using n2
              have N := Lib.hid (show (isName x && isName y) = false by rw [n2, Bool.and_false])
              go_wp2_with (go_at_call 36; refine (name_any _ _ (by assumption)).mono ?_; rintro e w' ⟨rfl, rfl⟩)
              go_ret
              exact ⟨ret_i64 (HS.out.trans (chkA_name N.out)).symm, HK.out.trans (kept_alloc _ _)⟩
          · have n1 : isName x = false := by simpa using n1
            have N := Lib.hid (show (isName x && isName y) = false by rw [n1, Bool.false_and])
            go_wp2_with (go_at_call 36; refine (name_any x _ hz).mono ?_; rintro e w' ⟨rfl, rfl⟩)
            go_ret
            exact ⟨ret_i64 (HS.out.trans (chkA_name N.out)).symm, HK.out.trans (kept_alloc _ _)⟩
        · have HK := Lib.hid hK
          have HS := Lib.hid ((HV.out.trans hrest.symm).trans (congrArg (chkAF (l.take k)) (drop_end (by rw [HL.out]; exact hlt))))
          clear hK hrest
          go_wp2
          go_ret
          exact ⟨ret_i64 (HS.out.trans rfl).symm, HK.out⟩
  · have HV := Lib.hid (show chkA l = 4 by unfold chkA; rw [if_pos (by omega)])
    have h9 : 8 < len := by omega
    clear h8 hr hl
    go_enter Tryz.func112, Tryz.ntmps112
    go_wp2
    go_ret
    exact ⟨ret_i64 HV.out.symm, Kept.refl _⟩

end Go.Proofs.YtppbbgppooblfaaGreatDoor

/- parsed, at 51: every part's form, then the check. -/
namespace Go.Proofs.YtppbbgppooblfaaGreatDoor
open Go.RowKit Go.Shelf
set_option linter.unusedVariables false
attribute [local go_sem] Oper.semAt_some

theorem infoA : (Tryz.prog.info? 160).map (fun i => (i.zero, i.size, i.bytes)) = some (some (.agg #[.string ByteArray.empty, .string ByteArray.empty, .bool false]), 3, 40) := by kernel_rfl

theorem readA_fine {p : List UInt8} (h : p.length ≤ 1000000) : TaLay.fine (readA p) := by
  have h0 := Lib.trimSuffix_le p [33]
  have h1 := (cut_le (Lib.trimSuffix p [33]) [58]).1
  have h2 := (cut_le (Lib.trimSuffix p [33]) [58]).2
  unfold readA
  refine ⟨?_, ?_⟩
  · show (bytes _).size ≤ maxLen
    rw [bytes_size]; unfold maxLen; omega
  · show (bytes _).size ≤ maxLen
    rw [bytes_size]; unfold maxLen; omega

def parsedA (s : List UInt8) := parsedG readABad readA chkA s

theorem parsedA_dash (w : World) :
    Calls Tryz.prog 247 #[.string (bytes [45]), .func (.func 248) #[] #[], .func (.func 112) #[] #[]] w (RowRes TaLay 160 (parsedA [45]) w.heap.size w) := by
  have e : ((bytes [45]).toList == [45]) = true := by rw [bytes_toList]; rfl
  go_enter Tryz.func247, Tryz.ntmps247
  go_wp2
  go_ret
  exact RowRes.good rfl (Own.nil _ _ _) (kept_alloc _ _)

set_option maxRecDepth 100000 in
set_option maxHeartbeats 1600000 in
theorem parsedA_any (s : List UInt8) (w : World) (hE : Env w) (hs : s.length ≤ 1000000) (hd : s ≠ [45]) :
    Calls Tryz.prog 247 #[.string (bytes s), .func (.func 248) #[] #[], .func (.func 112) #[] #[]] w (RowRes TaLay 160 (parsedA s) w.heap.size w) := by
  have hdash : ((bytes s).toList == [45]) = false := by rw [bytes_toList]; simpa using hd
  have HD0 := Lib.hid hd
  clear hd
  refine calls_of_wpAt (n := 6) Tryz.func247 rfl ?_
  simp only [Tryz.ntmps247, List.size_toArray, List.length_cons, List.length_nil, Nat.reduceAdd, Nat.reduceSub, Array.replicate_succ, Array.replicate_zero, List.push_toArray, List.append_toArray, List.nil_append, List.cons_append]
  refine wpAt_seq (wpAt_of (n := 6) ?_)
  gi_wp2
  refine wpAt_seq (wpAt_of (n := 6) ?_)
  gi_wp2
  refine wpAt_seq (wpAt_of (n := 6) ?_)
  gi_wp2
  obtain ⟨V0, hV0⟩ : ∃ V0, (w.alloc (.cells #[.func (.func 248) #[] #[]] 304)).alloc (.cells #[.slice none 0 0] 51) = V0 := ⟨_, rfl⟩
  have HV0S := Lib.hid (show V0.heap.size = w.heap.size + 2 by rw [← hV0]; simp)
  have HV0K := Lib.hid (show Kept w V0 by rw [← hV0]; exact kept_two _ _ _)
  have HV0C := Lib.hid (show V0.cell? ⟨w.heap.size + 1, 0, none⟩ = some (.slice none 0 0) ∧ V0.frozen? ⟨w.heap.size + 1, 0, none⟩ = false ∧ V0.cell? ⟨w.heap.size, 0, none⟩ = some (.func (.func 248) #[] #[]) by
    rw [← hV0]; exact two_cells w _ _ _ _)
  rw [hV0]
  clear hV0
  have HE := Lib.hid hE
  have HPL := Lib.hid (fun p (h : p ∈ partsOf s) => Nat.le_trans (part_len s p h) hs)
  have hcl : (bytes s).size ≤ 281474976710656 := by rw [bytes_size]; omega
  clear hE
  refine wpAt_seq (wpAt_seq (wpAt_of (n := 6) ?_))
  gi_wp2_with (first | (refine ⟨trivial, ?_⟩; gi_at_call 185; refine (callsIn_wide.2 (clone_any _ _ hcl)).mono ?_; rintro e w1 ⟨rfl, k1⟩; have K1 := Lib.hid k1; clear k1) | (refine ⟨trivial, ?_⟩; gi_at_call 178; refine (callsIn_wide.2 (splitseq_any s _)).mono ?_; rintro e w2 ⟨rfl, rfl⟩))
  refine wpAt_block ?_
  obtain ⟨m, hm⟩ : ∃ m, w1.heap.size = m := ⟨_, rfl⟩
  have bc := boxes_cells w1 s
  have bsz := boxes_size w1 s
  rw [hm] at bc bsz ⊢
  have HM := Lib.hid hm
  have hwm : w.heap.size + 2 ≤ m := by rw [← hm, ← HV0S.out]; exact K1.out.size
  have HWM := Lib.hid hwm
  have HB0 := Lib.hid (show Below w.heap.size w (boxes w1 s) from HV0K.out.trans (K1.out.trans (boxes_kept w1 s)))
  have HK0 := Lib.hid (show Kept V0 (boxes w1 s) from K1.out.trans (boxes_kept w1 s))
  have HC0 := Lib.hid (show (boxes w1 s).cell? ⟨w.heap.size + 1, 0, none⟩ = some (.slice none 0 0) ∧ (boxes w1 s).frozen? ⟨w.heap.size + 1, 0, none⟩ = false ∧ (boxes w1 s).cell? ⟨w.heap.size, 0, none⟩ = some (.func (.func 248) #[] #[]) from
    ⟨cell_later HK0.out HV0C.out.1, (HK0.out.frozen (p := ⟨w.heap.size + 1, 0, none⟩) (by rw [HV0S.out]; exact Nat.lt_succ_self _)).trans HV0C.out.2.1, cell_later HK0.out HV0C.out.2.2⟩)
  clear hm
  refine wpAt_split (n := 6) Tryz.func247 (by decide) (m + 1) m (m + 2) rfl s hs (by omega) (by omega) (by omega) (by omega) (by omega) bc.1 bc.2.1 bc.2.2.1 bc.2.2.2
    (fun k W' => Below w.heap.size w W' ∧ (∀ p ∈ (partsOf s).take k, readABad p = false) ∧ W'.cell? ⟨w.heap.size, 0, none⟩ = some (.func (.func 248) #[] #[]) ∧ VBox TaLay 160 (m + 5) (w.heap.size + 1) (accG readA (partsOf s) k) W')
    (fun c W' => c = [perr 2] ∧ Below w.heap.size w W' ∧ (partsOf s).any readABad = true)
    (fun k W1 W2 h st => ⟨Below.st h.1 st (by omega) (by omega), h.2.1, st_cell h.2.2.1 st (by omega) (by omega), h.2.2.2.st st (by omega) (by omega) (by omega)⟩) (fun k W' h => HE.out.kept h.1) ⟨HB0.out, by simp, HC0.out.2.2, ⟨_, HC0.out.1, HC0.out.2.1, Own.nil _ _ _⟩⟩
    (fun x => { tmps := #[.string (bytes s), .func (.func 248) #[] #[], .func (.func 112) #[] #[], undef, .pointer (some ⟨w.heap.size, 0, none⟩), undef, .slice none 0 0, .pointer (some ⟨w.heap.size + 1, 0, none⟩), .string x, undef, .string (bytes s), .bool false, .string (bytes s), .string (bytes s),
        .func (.func 267) #[] #[.pointer (some ⟨m + 1, 0, none⟩), .pointer (some ⟨m, 0, none⟩), .pointer (some ⟨m + 2, 0, none⟩)], .string x,
        undef, undef, undef, undef, undef, undef, undef, undef, undef, undef, undef, undef, undef, undef, undef], defers := [] }) ?assign ?body ?done ?panic
  case assign =>
    intro l x W' K hK
    gi_wp2
    exact hK
  case panic =>
    rintro c W' ⟨rfl, hB', hbad⟩ hk'
    have HV := Lib.hid (show parsedA s = (2, []) by unfold parsedA parsedG; rw [if_neg HD0.out, if_pos hbad])
    refine ⟨by simp, .inl ⟨_, _, rfl, run_takeDeferred hk', ?_⟩⟩
    exact RowRes.bad (by rw [HV.out]) (by decide) (below_put hB' (by omega))
  case body =>
    rintro l k p W' hp ⟨hB', hd', hfc, v, hvc', hvf', hvo⟩ hlt'
    have hmem : p ∈ partsOf s := List.mem_of_getElem? hp
    have HMEM := Lib.hid hmem
    have hpl := HPL.out p hmem
    have HE' := Lib.hid (HE.out.kept hB')
    have HB' := Lib.hid hB'
    have HD' := Lib.hid hd'
    have HP := Lib.hid hp
    have hvb : w.heap.size + 1 < W'.heap.size := by rw [bsz] at hlt'; omega
    have HLT := Lib.hid (show m + 5 ≤ W'.heap.size by rw [bsz] at hlt'; omega)
    have HHD : Hid ((boxes w1 s).heap.size = m + 3) := Lib.hid bsz
    by_cases hgood : readABad p = false
    · have HGOOD := Lib.hid hgood
      obtain ⟨x, y, bb, hxy⟩ : ∃ x y bb, readA p = (x, y, bb) := ⟨_, _, _, rfl⟩
      have HXY := Lib.hid hxy
      have HCALL := Lib.hid (readA_ok p W' HE'.out hpl hgood)
      rw [hxy] at HCALL
      obtain ⟨av, cv, rfl, q1, q2, q3⟩ := hvo.at_
      obtain ⟨n, hn⟩ : ∃ n, (accG readA (partsOf s) k).length = n := ⟨_, rfl⟩
      rw [hn] at hvo hvc'
      have HVO := Lib.hid hvo
      have HFC0 := Lib.hid hfc
      have HN := Lib.hid hn
      have hn9 : n ≤ 9 := by
        have := accG_len (f := readA) (show k ≤ (partsOf s).length from Nat.le_of_lt (List.getElem?_eq_some_iff.1 hp).1)
        omega
      clear bc bsz hB' hd' hp hmem hlt' q3 hvo hn q1 q2 hgood hxy
      gi_wp2_with (refine ⟨trivial, ?_⟩; gi_at_call 248; refine (CallsIn.inRound l (callsIn_wide.2 HCALL.out)).mono ?_; rintro e W1 ⟨rfl, k1⟩; have K1' := Lib.hid k1; have hvc1 := cell_later k1 hvc'; have hvf1 := (k1.frozen (p := ⟨w.heap.size + 1, 0, none⟩) hvb).trans hvf'; have hm1 : w.heap.size + 1 < W1.heap.size := Nat.lt_of_lt_of_le hvb k1.size; clear k1 hvc' hvf' hfc; refine Hid.out ?_)
      refine Lib.hid ?_
      by_cases h8 : n ≤ 8
      · obtain ⟨i0, hi, hz0, hz1, hz2⟩ := info_parts infoA
        gi_wp2_with (gi_at_builtin; go_must (refine wpListIn_append_own _ rfl (.tmp 22) (.tmp 24) _ rfl (m + 5) 160 i0 _ 3 40 Tryz.underlying51 hi hz0 hz1 hz2 rfl (by decide) _ n (rowCells TaLay (accG readA (partsOf s) k)) rfl (((HVO.out.kept K1'.out).kept (kept_two W1 (.cells #[.string x, .string y, .bool bb] 160) (.cells #[.string x, .string y, .bool bb] 160))).row HN.out) ⟨W1.heap.size + 1, 0, none⟩ 1 1 [.string x, .string y, .bool bb] rfl rfl (news3 _ _ (.string x) (.string y) (.bool bb) _) (one_ssb x y bb) (by unfold maxLen; omega) (by omega) (by rw [World.size_alloc, World.size_alloc]; have := HLT.out; have := K1'.out.size; omega) ?_); intro v' w2 hown' hgrow _; refine Hid.out ?_)
        refine Lib.hid ?_
        obtain ⟨g', cap', rfl⟩ := ownsRow_succ hown'
        have KA := Lib.hid (show Kept W' ((W1.alloc (.cells #[.string x, .string y, .bool bb] 160)).alloc (.cells #[.string x, .string y, .bool bb] 160)) from K1'.out.trans (kept_two W1 _ _))
        have hrow : ∀ r, (Value.slice av n cv).ownBlock = some r → m + 5 ≤ r := fun r hr => (HVO.out.1.lt r hr).1
        have hbl : ∀ b, b < m + 5 → w2.heap[b]? = W'.heap[b]? := fun b hb => (hgrow.block b (Nat.lt_of_lt_of_le hb (Nat.le_trans HLT.out KA.out.size)) (fun e => by have := hrow b e.symm; omega)).trans (KA.out.block b (Nat.lt_of_lt_of_le hb HLT.out))
        have HBL := Lib.hid hbl
        have hvc2 : w2.cell? ⟨w.heap.size + 1, 0, none⟩ = some (.slice av n cv) := (World.cell?_of_block (a := ⟨w.heap.size + 1, 0, none⟩) (hgrow.block (w.heap.size + 1) (by simp; omega) (fun e => by have := hrow _ e.symm; omega))).trans (cell_later (kept_two W1 _ _) hvc1)
        have hvf2 : w2.frozen? ⟨w.heap.size + 1, 0, none⟩ = false := (World.frozen?_of_block (a := ⟨w.heap.size + 1, 0, none⟩) (hgrow.block (w.heap.size + 1) (by simp; omega) (fun e => by have := hrow _ e.symm; omega))).trans (((kept_two W1 _ _).frozen (p := ⟨w.heap.size + 1, 0, none⟩) hm1).trans hvf1)
        have HOWN := Lib.hid hown'
        have HGS := Lib.hid (show Below w.heap.size w w2 from ⟨hgrow.os.trans (KA.out.os.trans HB'.out.os), hgrow.tape.trans (KA.out.tape.trans HB'.out.tape), hgrow.output.trans (KA.out.output.trans HB'.out.output), Nat.le_trans HB'.out.size (Nat.le_trans KA.out.size hgrow.size), fun b hb => (HBL.out b (by omega)).trans (HB'.out.block b hb)⟩)
        have HFC := Lib.hid (show w2.cell? ⟨w.heap.size, 0, none⟩ = some (.func (.func 248) #[] #[]) from (World.cell?_of_block (a := ⟨w.heap.size, 0, none⟩) (HBL.out w.heap.size (by omega))).trans HFC0.out)
        clear hvc1 hvf1 hown' hgrow hrow hbl hi hz0 hz1 hz2
        gi_wp2
        refine ⟨fun b hb => ?_, HGS.out.setCell (p := ⟨w.heap.size + 1, 0, none⟩) (by show w.heap.size ≤ w.heap.size + 1; omega) _, next_good HD'.out HP.out HGOOD.out, ?_, ⟨_, World.cell?_setCell_same' _ _ _ (by rw [hvc2]; rfl), by rw [World.frozen?_setCell]; exact hvf2, ?_⟩⟩
        · have hbm : b < m + 5 ∧ b ≠ w.heap.size + 1 := by have := HHD.out; rcases hb with h | h | h | h | h <;> omega
          exact (Below.heap_setCell w2 ⟨w.heap.size + 1, 0, none⟩ _ b hbm.2).trans (HBL.out b hbm.1)
        · rw [World.cell?_setCell_other _ _ _ _ (by intro e; injection e with e; omega)]; exact HFC.out
        · have hl : (accG readA (partsOf s) (k + 1)).length = n + 1 := by rw [accG_next HP.out (by rw [HN.out]; exact h8), List.length_append, HN.out]; rfl
          have ho : Own TaLay 160 w2 (m + 5) (.slice (some ⟨g', 0, none⟩) (n + 1) cap') (accG readA (partsOf s) (k + 1)) := by
            refine ⟨?_, ?_⟩
            · rw [hl, accG_next HP.out (by rw [HN.out]; exact h8), rowCells_append, HXY.out]; exact HOWN.out
            · rw [accG_next HP.out (by rw [HN.out]; exact h8)]
              intro z hz
              rcases List.mem_append.1 hz with g | g
              · exact HVO.out.2 z g
              · have : z = readA p := by simpa using g
                rw [this]; exact readA_fine hpl
          exact ho.setCell_below (a := ⟨w.heap.size + 1, 0, none⟩) (by show w.heap.size + 1 < m + 5; omega) _
      · have HFULL := Lib.hid (accG_full (f := readA) HP.out (by rw [HN.out]; exact h8))
        have h9 : 8 < n := by omega
        have HQ1 := Lib.hid (cell_later (kept_alloc W1 (.cells #[.string x, .string y, .bool bb] 160)) hvc1)
        have HQ2 := Lib.hid (((kept_alloc W1 (.cells #[.string x, .string y, .bool bb] 160)).frozen (p := ⟨w.heap.size + 1, 0, none⟩) hm1).trans hvf1)
        have HFC := Lib.hid (show (W1.alloc (.cells #[.string x, .string y, .bool bb] 160)).cell? ⟨w.heap.size, 0, none⟩ = some (.func (.func 248) #[] #[]) from cell_later (K1'.out.trans (kept_alloc W1 _)) HFC0.out)
        clear h8
        gi_wp2
        refine ⟨fun b hb => ?_, HB'.out.trans (Below.mono (Kept.trans K1'.out (kept_alloc W1 _)) HB'.out.size), next_good HD'.out HP.out HGOOD.out, HFC.out, ⟨.slice av n cv, HQ1.out, HQ2.out, ?_⟩⟩
        · have hbm : b < m + 5 := by have := HHD.out; rcases hb with h | h | h | h | h <;> omega
          exact (Kept.trans K1'.out (kept_alloc W1 _)).block b (Nat.lt_of_lt_of_le hbm HLT.out)
        · rw [HFULL.out]; exact HVO.out.kept (Kept.trans K1'.out (kept_alloc W1 _))
    · have HBAD := Lib.hid (show readABad p = true by simpa using hgood)
      clear bc bsz hB' hd' hp hmem hlt' hvo hvc' hvf' hgood
      gi_wp2_with (refine ⟨trivial, ?_⟩; gi_at_call 248; refine (CallsIn.inRound l (callsIn_wide.2 (readA_bad p _ HE'.out hpl HBAD.out))).mono ?_; rintro e W1 ⟨rfl, k1⟩; have K1' := Lib.hid k1; clear k1)
      refine ⟨rfl, fun b hb => ?_, rfl, HB'.out.trans (Below.mono K1'.out HB'.out.size), ?_⟩
      · have hbm : b < m + 5 := by have := HHD.out; rcases hb with h | h | h | h | h <;> omega
        exact K1'.out.block b (Nat.lt_of_lt_of_le hbm HLT.out)
      · rw [List.any_eq_true]
        exact ⟨p, HMEM.out, HBAD.out⟩
  case done =>
    rintro W' ⟨hB', hd', hfc, v, hvc', hvf', hvo⟩ hk'
    have hany : (partsOf s).any readABad = false := by
      rw [List.any_eq_false]
      intro p hp
      rw [hd' p (by simpa using hp)]; decide
    have hacc : accG readA (partsOf s) (partsOf s).length = ((partsOf s).map readA).take 9 := by unfold accG; rw [List.take_length]
    rw [hacc] at hvo
    obtain ⟨R, hR⟩ : ∃ R, ((partsOf s).map readA).take 9 = R := ⟨_, rfl⟩
    have HV := Lib.hid (show parsedA s = if chkA R ≠ 0 then (chkA R, []) else (0, R) by unfold parsedA parsedG; rw [if_neg HD0.out, if_neg (by rw [hany]; decide), hR])
    rw [hR] at hvo
    obtain ⟨av, cv, rfl, q1, q2, q3⟩ := hvo.at_
    have HVO := Lib.hid hvo
    have HCHK := Lib.hid (fun W (k : Kept W' W) => checkA_any av R.length cv R W (q3.kept k) q1)
    have HDD := Lib.hid hk'
    have HB' := Lib.hid hB'
    have HLT := Lib.hid (show m + 3 < W'.heap.size by have := (Array.getElem?_eq_some_iff.1 hk').1; rw [bsz] at this; exact this)
    have HBS := Lib.hid bsz
    have hvb : w.heap.size + 1 < W'.heap.size := by have := HLT.out; omega
    clear bc bsz hB' hd' hk' hvo q3 q1 q2 hR hacc hany hfc
    refine wpAt_of (n := 6) (wpIn_wide.2 ?_)
    have KD := Lib.hid (Kept.drew W')
    have f1 := cell_later KD.out hvc'
    by_cases hc : chkA R = 0
    · have HC := Lib.hid hc
      have HCW := Lib.hid (HCHK.out _ KD.out)
      rw [hc] at HCW
      clear hc
      go_wp2
      go_region_held3 (fun W => W.cell? ⟨w.heap.size + 1, 0, none⟩ = some (.slice av R.length cv) ∧ Kept W' W)
        (first | exact ⟨f1, KD.out⟩ | exact ⟨cell_later K1.out f1, KD.out.trans K1.out⟩)
        (first | (go_at_call 112; refine HCW.out.mono ?_; rintro e1 W1 ⟨rfl, k1⟩; have K1 := Lib.hid k1; clear k1) | (go_at_call 189; refine (soundA_ok _ _).mono ?_; rintro e2 w2 ⟨rfl, rfl⟩))
      go_wp2
      have K1' := Lib.hid (KD.out.trans K1.out)
      have e1 : W1.heap[(boxes w1 s).heap.size]? = some (.deferred (some [])) := (K1'.out.block _ (by rw [HBS.out]; exact HLT.out)).trans HDD.out
      refine ⟨by simp, .inl ⟨_, _, rfl, run_takeDeferred e1, ?_⟩⟩
      refine ⟨_, results_tmp rfl _ _ _, ?_⟩
      refine RowRes.good (by rw [HV.out, if_neg (by rw [HC.out]; decide)]) (by rw [HV.out, if_neg (by rw [HC.out]; decide)]; exact ((HVO.out.kept K1'.out).put (by rw [HBS.out]; omega) _).base_le (by omega)) ?_
      exact below_put (HB'.out.trans (Below.mono K1'.out HB'.out.size)) (by rw [HBS.out]; omega)
    · have HC := Lib.hid hc
      have HCW := Lib.hid (HCHK.out _ KD.out)
      clear hc
      go_wp2
      refine Code.wp_mono (Q := fun e a W => match e with | .panic c => c = [perr (chkA R)] ∧ Kept W' W ∧ a.defers = [{ target := .collected (boxes w1 s).heap.size, args := #[] }] | _ => False) ?post ?_
      case post =>
        intro e a' W1 h
        cases e <;> try exact h.elim
        obtain ⟨rfl, hk, hd⟩ := h
        obtain ⟨tm, df⟩ := a'
        dsimp only at hd
        subst hd
        have e1 : W1.heap[(boxes w1 s).heap.size]? = some (.deferred (some [])) := (hk.block _ (by rw [HBS.out]; exact HLT.out)).trans HDD.out
        refine ⟨by simp, .inl ⟨_, _, rfl, run_takeDeferred e1, ?_⟩⟩
        exact RowRes.bad (by rw [HV.out, if_pos HC.out]) HC.out (below_put (HB'.out.trans (Below.mono hk HB'.out.size)) (by rw [HBS.out]; omega))
      refine wp_region_held_drew (S := fun W => W.cell? ⟨w.heap.size + 1, 0, none⟩ = some (.slice av R.length cv) ∧ Kept W' W) (by kernel_rfl) ⟨f1, KD.out⟩ (fun hHeld => ?_)
      refine wpAnyH_take (i := 0) (v := ?_) rfl (by kernel_rfl) (by kernel_rfl) (by kernel_rfl) (fun _ _ _ h => h) (Or.inl ⟨by rfl, (by intro w hSw; obtain ⟨s1, _⟩ := hSw; go_simp <;> with_reducible rfl)⟩) (by assumption) ?_
      try simp only [Act.put, List.setIfInBounds_toArray, List.set_cons_zero, List.set_cons_succ]
      refine wpAnyH_take (i := 1) (v := ?_) rfl (by kernel_rfl) (by kernel_rfl) (by kernel_rfl) (fun _ _ _ h => h) (Or.inl ⟨by rfl, (by intro w hSw; obtain ⟨s1, _⟩ := hSw; go_simp <;> with_reducible rfl)⟩) (by assumption) ?_
      try simp only [Act.put, List.setIfInBounds_toArray, List.set_cons_zero, List.set_cons_succ]
      refine wpAnyH_take (i := 2) (v := ?_) rfl (by kernel_rfl) (by kernel_rfl) (by kernel_rfl) (fun _ _ _ h => h) (Or.inl ⟨by rfl, (by intro w hSw; obtain ⟨s1, _⟩ := hSw; go_simp <;> with_reducible rfl)⟩) (by assumption) ?_
      try simp only [Act.put, List.setIfInBounds_toArray, List.set_cons_zero, List.set_cons_succ]
      refine wpAnyH_ready (rs := [3]) (by kernel_rfl) (by simp) (AllReadyH.cons rfl (fun K hK => ?_) AllReadyH.nil)
      go_simp
      refine HCW.out.mono ?_
      rintro e1 W1 ⟨rfl, k1⟩
      have K1 := Lib.hid k1
      refine hK.out _ _ ⟨cell_later k1 f1, KD.out.trans k1⟩ (fun hHeld2 => ?_)
      clear hK K k1
      try simp only [Act.put, List.setIfInBounds_toArray, List.set_cons_zero, List.set_cons_succ]
      refine wpAnyH_ready (rs := [4]) (by kernel_rfl) (by simp) (AllReadyH.cons rfl (fun K hK => ?_) AllReadyH.nil)
      go_simp
      refine (soundA_bad _ _ _ HC.out).mono ?_
      rintro e2 w2 ⟨rfl, rfl⟩
      first | exact ⟨rfl, KD.out.trans K1.out⟩ | exact ⟨rfl, rfl, KD.out.trans K1.out, rfl⟩ | exact ⟨rfl, KD.out.trans K1.out, rfl⟩

end Go.Proofs.YtppbbgppooblfaaGreatDoor

/- parsed, at 86: every part's form, then the check. -/
namespace Go.Proofs.YtppbbgppooblfaaGreatDoor
open Go.RowKit Go.Shelf
set_option linter.unusedVariables false
attribute [local go_sem] Oper.semAt_some

end Go.Proofs.YtppbbgppooblfaaGreatDoor

/- parseA: the closure, the recovery, the face. -/
namespace Go.Proofs.YtppbbgppooblfaaGreatDoor
open Go.RowKit
set_option linter.unusedVariables false

theorem caughtA_panicking (B : Nat) (q : Nat) (x y : Int) (w : World) (hq : w.cell? ⟨q, 0, none⟩ = some (.int .i64 y)) (hzq : w.frozen? ⟨q, 0, none⟩ = false) (hBq : B ≤ q) :
    CallsD Tryz.prog 276 #[.pointer (some ⟨q, 0, none⟩)] (.panicking [perr x]) w fun e u' w' =>
      e = .returned (.tuple #[]) ∧ u' = .panicking [{ perr x with recovered := true }] ∧ w'.cell? ⟨q, 0, none⟩ = some (.int .i64 x) ∧ Below B w w' := by
  have hta : ∀ W, (Instr.typeAssert (.iface 28 (.int .i64 x)) 20 28 false).run Tryz.prog W = .ok (.int .i64 x) W := fun _ => by kernel_rfl
  refine callsD_of_wpS Tryz.func276 rfl fun c₀ cs hu => ?_
  apply wpS_seq
  apply wpS_region
  simp [wpOpsS, go_sem, recoverD, hu, Tryz.ntmps276, Exit.thenS]
  apply wpS_seq
  apply wpS_region
  simp [wpOpsS, go_sem, recoverD, Exit.thenS]
  refine wpS_cond (t := true) (by simp [Act.eval, Array.replicate]) ?_
  simp only [if_true]
  refine wpS_of_wp ?_
  simp [Array.replicate]
  go_wp2
  simp [bodyPostS, results, Tryz.results276]
  exact ⟨World.cell?_setCell_same' _ _ _ (by rw [hq]; rfl), (Below.refl B w).setCell (p := ⟨q, 0, none⟩) hBq _⟩

theorem caughtA_idle (q : Addr) (w : World) :
    CallsD Tryz.prog 276 #[.pointer (some q)] .returning w fun e u' w' => e = .returned (.tuple #[]) ∧ u' = .returning ∧ w' = w := by
  refine callsD_of_wpS Tryz.func276 rfl fun c₀ cs hu => ?_
  apply wpS_seq
  apply wpS_region
  simp [wpOpsS, go_sem, recoverD, hu, Tryz.ntmps276, Exit.thenS]
  apply wpS_seq
  apply wpS_region
  simp [wpOpsS, go_sem, recoverD, hu, Exit.thenS]
  refine wpS_cond (t := false) (by simp [Act.eval, Array.replicate]) ?_
  simp only [Bool.false_eq_true, if_false]
  refine wpS_of_wp (wp_skip ?_)
  cases c₀
  simp_all [bodyPostS, results, Tryz.results276]

/-- What a call answers that recovers: a row and an error. -/
def DoneA (r : Int × NL) (w : World) (e : Ending) (w' : World) : Prop :=
  ∃ v, e = .returned (.tuple #[v, .int .i64 r.1]) ∧ Own TaLay 160 w' w.heap.size v r.2 ∧ Kept w w'

set_option maxHeartbeats 800000 in
theorem caughtA_any (C : Addr) (r : Int × NL) (w : World) (hr : r.1 ≠ 0 → r.2 = [])
    (hk : ∀ W, Kept w W → Calls Tryz.prog 246 #[.pointer (some C)] W (RowRes TaLay 160 r W.heap.size W)) :
    Calls Tryz.prog 245 #[.func (.func 246) #[] #[.pointer (some C)]] w (DoneA r w) := by
  have hmf : ∀ (fn : Fn) (first cap : Array Value) (w : World), (Instr.makeFunc fn first cap).run Tryz.prog w = .ok (.func fn first cap) w := fun _ _ _ _ => rfl
  have HK := Lib.hid hk
  have HR := Lib.hid hr
  clear hk hr
  obtain ⟨r1, r2⟩ := r
  go_enter_defers Tryz.func245, Tryz.ntmps245
  go_wp2_with fail
  refine (HK.out _ (kept_alloc _ _)).mono ?_
  rintro e1 w1 ⟨h0, h1, hb⟩
  have k1 := hb.size
  simp only [World.size_alloc] at k1
  have c2 := (hb.cell (p := ⟨w.heap.size, 0, none⟩) (by simp))
  have z2 := (hb.frozen (p := ⟨w.heap.size, 0, none⟩) (by simp))
  have e2' : w1.cell? ⟨w.heap.size, 0, none⟩ = some (.int .i64 0) := by rw [c2]; go_simp
  have y2 : w1.frozen? ⟨w.heap.size, 0, none⟩ = false := by rw [z2]; go_simp
  clear c2 z2
  have KB := Lib.hid (show Below w.heap.size w w1 from (kept_alloc w _).trans hb)
  by_cases hx : r1 = 0
  · subst hx
    obtain ⟨v, rfl, ho⟩ := h0 rfl
    have HO := Lib.hid ho
    obtain ⟨av, cv, rfl, _, _, _⟩ := ho.at_
    have hsz := World.size_alloc w (.cells #[.int .i64 0] 28)
    clear h0 h1 hb ho
    go_wp2_with fail
    refine leaves_cons (f := 276) (args := #[.pointer (some ⟨w.heap.size, 0, none⟩)]) (by simp) (by simp [go_sem]) ?_
    refine (caughtA_idle ⟨w.heap.size, 0, none⟩ _).mono ?_
    rintro e u' w'' ⟨rfl, rfl, rfl⟩
    simp [Leaves, settle, results, Tryz.results245, go_sem, e2']
    exact ⟨_, rfl, (HO.out.setCell_below (a := ⟨w.heap.size, 0, none⟩) (by simp) _).base_le (by simp), (KB.out.setCell (p := ⟨w.heap.size, 0, none⟩) (Nat.le_refl _) _)⟩
  · obtain rfl := h1 hx
    obtain rfl := HR.out hx
    clear h0 h1 hb
    go_wp2_with fail
    refine leaves_cons (f := 276) (args := #[.pointer (some ⟨w.heap.size, 0, none⟩)]) (by simp) (by simp [go_sem]) ?_
    refine (caughtA_panicking w.heap.size w.heap.size r1 0 _ e2' y2 (by omega)).mono ?_
    rintro e u' w'' ⟨rfl, rfl, q2, q3⟩
    simp [Leaves, settle, results, Tryz.results245, go_sem, q2]
    exact ⟨_, rfl, Own.nil _ _ _, KB.out.trans q3⟩

theorem parsedA_all (s : List UInt8) (w : World) (hE : Env w) (hs : s.length ≤ 1000000) :
    Calls Tryz.prog 247 #[.string (bytes s), .func (.func 248) #[] #[], .func (.func 112) #[] #[]] w (RowRes TaLay 160 (parsedA s) w.heap.size w) := by
  by_cases h : s = [45]
  · subst h; exact parsedA_dash w
  · exact parsedA_any s w hE hs h

theorem closureA (C : Addr) (s : List UInt8) (w : World) (h1 : w.cell? C = some (.string (bytes s))) (hE : Env w) (hs : s.length ≤ 1000000) :
    Calls Tryz.prog 246 #[.pointer (some C)] w (RowRes TaLay 160 (parsedA s) w.heap.size w) := by
  have HE := Lib.hid hE
  clear hE
  go_enter Tryz.func246, Tryz.ntmps246
  go_wp2_with fail
  refine (parsedA_all s _ HE.out hs).mono ?_
  rintro e w' ⟨g0, g1, k⟩
  by_cases hx : (parsedA s).1 = 0
  · obtain ⟨v, rfl, ho⟩ := g0 hx
    have HX := Lib.hid hx
    have HO := Lib.hid ho
    have HK := Lib.hid k
    clear g0 g1 hx ho k
    go_wp2
    go_ret
    exact RowRes.good HX.out HO.out HK.out
  · obtain rfl := g1 hx
    have HX := Lib.hid hx
    have HK := Lib.hid k
    clear g0 g1 hx k
    go_wp2
    exact ⟨rfl, RowRes.bad rfl HX.out HK.out⟩

set_option maxHeartbeats 800000 in
theorem parseA_any (s : List UInt8) (w : World) (hE : Env w) (hs : s.length ≤ 1000000) :
    Calls Tryz.prog 190 #[.string (bytes s)] w (DoneA (parsedA s) w) := by
  have hmf : ∀ (fn : Fn) (first cap : Array Value) (w : World), (Instr.makeFunc fn first cap).run Tryz.prog w = .ok (.func fn first cap) w := fun _ _ _ _ => rfl
  have hC : ∀ W, Kept (w.alloc (.cells #[.string (bytes s)] 9)) W → Calls Tryz.prog 246 #[.pointer (some ⟨w.heap.size, 0, none⟩)] W (RowRes TaLay 160 (parsedA s) W.heap.size W) := by
    intro W k
    have c1 := k.cell (p := ⟨w.heap.size, 0, none⟩) (by simp)
    exact closureA ⟨w.heap.size, 0, none⟩ s W (by rw [c1]; go_simp) (hE.kept ((kept_alloc w _).trans k)) hs
  have HC := Lib.hid hC
  clear hC hE hs
  go_enter Tryz.func190, Tryz.ntmps190
  go_wp2_with fail
  refine (caughtA_any ⟨w.heap.size, 0, none⟩ (parsedA s) _ parsedG_none HC.out).mono ?_
  rintro e w' ⟨v, rfl, ho, k⟩
  have HO := Lib.hid ho
  have HK := Lib.hid k
  clear ho k
  go_wp2
  go_ret2
  exact ⟨v, rfl, HO.out.base_le (by simp), (kept_alloc w _).trans HK.out⟩

end Go.Proofs.YtppbbgppooblfaaGreatDoor

/- parseO: the closure, the recovery, the face. -/
namespace Go.Proofs.YtppbbgppooblfaaGreatDoor
open Go.RowKit
set_option linter.unusedVariables false

end Go.Proofs.YtppbbgppooblfaaGreatDoor

/- The worst taint; how many soft ones are not borne. -/
namespace Go.Proofs.YtppbbgppooblfaaGreatDoor
open Go.RowKit Go.Sort
set_option linter.unusedVariables false

end Go.Proofs.YtppbbgppooblfaaGreatDoor

/- Each call of package taint, asked of values that read so. -/
namespace Go.Proofs.YtppbbgppooblfaaGreatDoor
open Go.RowKit
set_option linter.unusedVariables false

theorem checkAR {v : Value} {l : NL} {c : Int} {w : World} (h : Reads TaLay w v l) (hc : chkA l = c) :
    Calls Tryz.prog 112 #[v] w (Say (.int .i64 c) w) := by
  obtain ⟨a, cap, rfl, hcap, _, hr⟩ := h
  exact (checkA_any a _ cap l w hr hcap).mono fun e w' ⟨he, k⟩ => ⟨by rw [he, hc], k⟩
theorem textAR {v : Value} {l : NL} {t : ByteArray} {w : World} (h : Reads TaLay w v l) (hf : ∀ x ∈ l, x.1.size ≤ 900000 ∧ x.2.1.size ≤ 900000) (hn : l.length ≤ 1000000) (ht : textA l = t) :
    Calls Tryz.prog 122 #[v] w (Say (.string t) w) := by
  obtain ⟨a, cap, rfl, _, _, hr⟩ := h
  exact (textA_any a _ cap l w hr hf hn).mono fun e w' ⟨he, k⟩ => ⟨by rw [he, ht], k⟩
end Go.Proofs.YtppbbgppooblfaaGreatDoor

/- Whether taints, tolerations are short. -/
namespace Go.Proofs.YtppbbgppooblfaaGreatDoor
open Go.RowKit
set_option linter.unusedVariables false

end Go.Proofs.YtppbbgppooblfaaGreatDoor

/- As the reference has them: Of, OfTols. -/
namespace Go.Proofs.YtppbbgppooblfaaGreatDoor
open Go.RowKit
set_option linter.unusedVariables false

end Go.Proofs.YtppbbgppooblfaaGreatDoor

/- The reference's checks of taints, of tolerations. -/
namespace Go.Proofs.YtppbbgppooblfaaGreatDoor
open Go.RowKit Go.Sort
set_option linter.unusedVariables false

end Go.Proofs.YtppbbgppooblfaaGreatDoor

/- The reference's TaintText. -/
namespace Go.Proofs.YtppbbgppooblfaaGreatDoor
open Go.RowKit
set_option linter.unusedVariables false

end Go.Proofs.YtppbbgppooblfaaGreatDoor

/- A taint's, a toleration's part: how it is parted. -/
namespace Go.Proofs.YtppbbgppooblfaaGreatDoor
open Go.RowKit
set_option linter.unusedVariables false

end Go.Proofs.YtppbbgppooblfaaGreatDoor

/- The reference's ParseTaints. -/
namespace Go.Proofs.YtppbbgppooblfaaGreatDoor
open Go.RowKit
set_option linter.unusedVariables false

end Go.Proofs.YtppbbgppooblfaaGreatDoor

/- What is told is parsed just so, and what is parsed is told just so. -/
namespace Go.Proofs.YtppbbgppooblfaaGreatDoor
open Go.RowKit
set_option linter.unusedVariables false

end Go.Proofs.YtppbbgppooblfaaGreatDoor

/- What a law of taints is told: its arguments. -/
namespace Go.Proofs.YtppbbgppooblfaaGreatDoor
open Go.ChangeShapes Go.WideShapes Go.ChangeAt Go.RowKit Go.Deep
set_option linter.unusedVariables false

end Go.Proofs.YtppbbgppooblfaaGreatDoor
