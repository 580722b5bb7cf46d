/- Package by package: contracts of the functions that the laws call. -/
import Derived.Test.YtflllkpnkcmegaaGreatDoorBase
import Derived.Deep.RegionHeld3
import Derived.Recover
import Derived.Defers
import Derived.Laws.Pointers
import Derived.StillTailTactics
import Derived.RegionTactic
import Derived.ChangeAlike

/- Rows of a key, a value and a mark: taints and tolerations alike. -/
namespace Go.Proofs.YtflllkpnkcmegaaGreatDoor
open Go.RowKit
set_option linter.unusedVariables false

abbrev NT := ByteArray × ByteArray × Bool
abbrev NL := List NT
abbrev NV (x y : ByteArray) (b : Bool) : Value := .agg #[.string x, .string y, .bool b]
theorem one_ssb (x y : ByteArray) (b : Bool) (u : Value) (h : u ∈ [Value.string x, Value.string y, Value.bool b]) : u.oneCell' = true := by
  have e : u = Value.string x ∨ u = Value.string y ∨ u = Value.bool b := by simpa using h
  rcases e with e | e | e <;> rw [e] <;> rfl
def TaLay : Lay NT := { m := 3, cs := fun x => [.string x.1, .string x.2.1, .bool x.2.2], fine := fun x => x.1.size ≤ maxLen ∧ x.2.1.size ≤ maxLen, len := fun _ => rfl, one := fun x => one_ssb x.1 x.2.1 x.2.2, pos := by decide }

theorem RowAt.tri {w : World} {b off len : Nat} {l : NL} {k : Nat} (h : RowAt TaLay w (some ⟨b, off, none⟩) len l) (hk : k < len) :
    ∃ (x y : ByteArray) (m : Bool), l[k]? = some (x, y, m) ∧ l.drop k = (x, y, m) :: l.drop (k + 1) ∧ b < w.heap.size ∧ x.size ≤ maxLen ∧ y.size ≤ maxLen ∧
      w.cell? ⟨b, off + k * 3, none⟩ = some (.string x) ∧ w.cell? ⟨b, off + k * 3 + 1, none⟩ = some (.string y) ∧ w.cell? ⟨b, off + k * 3 + 2, none⟩ = some (.bool m) := by
  obtain ⟨⟨x, y, m⟩, h1, h2, h3, h4, h5⟩ := h.cells hk
  exact ⟨x, y, m, h1, h2, h3, h4.1, h4.2, h5 0 _ rfl, h5 1 _ rfl, h5 2 _ rfl⟩

/-- What is wrong with tolerations. -/
def isNo (s : ByteArray) : Bool := eqS s ByteArray.empty
def namedN (x : NT) : Bool := (isNo x.1 || isName x.1) && (if x.2.2 = true then isNo x.2.1 else isName x.2.1)
def chkO (l : NL) : Int := if 8 < l.length then 4 else if l.all namedN = true then 0 else 3

theorem no_iff {s : ByteArray} : isNo s = (s.toList == ([] : List UInt8)) := by
  unfold isNo eqS; rw [show ByteArray.empty.toList = ([] : List UInt8) from by rw [Lib.toList_data]; rfl]

end Go.Proofs.YtflllkpnkcmegaaGreatDoor

/- Whether a pair is there ahead; what is borne. -/
namespace Go.Proofs.YtflllkpnkcmegaaGreatDoor
open Go.RowKit Go.Sort
set_option linter.unusedVariables false

/-- A key, a value and a mark lie at c. -/
def TriAt (w : World) (c : Nat) (t : NT) : Prop := w.cell? ⟨c, 0, none⟩ = some (.string t.1) ∧ w.cell? ⟨c, 1, none⟩ = some (.string t.2.1) ∧ w.cell? ⟨c, 2, none⟩ = some (.bool t.2.2)
theorem TriAt.kept {w w' : World} {c : Nat} {t : NT} (h : TriAt w c t) (k : Kept w w') : TriAt w' c t := ⟨cell_later k h.1, cell_later k h.2.1, cell_later k h.2.2⟩
end Go.Proofs.YtflllkpnkcmegaaGreatDoor

/- A taint, a toleration in words. -/
namespace Go.Proofs.YtflllkpnkcmegaaGreatDoor
open Go.RowKit
set_option linter.unusedVariables false

def starB (x : ByteArray) : ByteArray := if isNo x = true then ⟨#[42]⟩ else x
def tolB (x : NT) : ByteArray := if x.2.2 = true then starB x.1 else starB x.1 ++ ⟨#[58]⟩ ++ x.2.1
theorem starB_size {x : ByteArray} (h : x.size ≤ 900000) : (starB x).size ≤ 900000 := by
  unfold starB
  split
  · exact (by decide : (⟨#[42]⟩ : ByteArray).size ≤ 900000)
  · exact h
theorem tolB_size {x : NT} (h1 : x.1.size ≤ 900000) (h2 : x.2.1.size ≤ 900000) : (tolB x).size ≤ 2000001 := by
  have e1 : (⟨#[58]⟩ : ByteArray).size = 1 := rfl
  have := starB_size h1
  unfold tolB
  split
  · omega
  · rw [ByteArray.size_append, ByteArray.size_append]; omega

theorem tolText_any (x y : ByteArray) (m : Bool) (w : World) (hx : x.size ≤ 900000) (hy : y.size ≤ 900000) :
    Calls Tryz.prog 140 #[NV x y m] w fun e w' => e = .returned (.string (tolB (x, y, m))) ∧ Kept w w' := by
  obtain ⟨q, hq⟩ : ∃ q, (x.toList == ([] : List UInt8)) = q := ⟨_, rfl⟩
  have HV := Lib.hid (show tolB (x, y, m) = if m = true then (if q = true then ⟨#[42]⟩ else x) else (if q = true then ⟨#[42]⟩ else x) ++ ⟨#[58]⟩ ++ y by
    unfold tolB starB; rw [no_iff, hq])
  cases m <;> cases q <;>
  (go_enter Tryz.func140, Tryz.ntmps140
   go_wp2
   go_ret
   exact ⟨ret_str HV.out.symm, kept_alloc _ _⟩)

end Go.Proofs.YtflllkpnkcmegaaGreatDoor

/- Taints, tolerations joined: Text. -/
namespace Go.Proofs.YtflllkpnkcmegaaGreatDoor
open Go.RowKit
set_option linter.unusedVariables false

end Go.Proofs.YtflllkpnkcmegaaGreatDoor

/- Taints, tolerations joined: TolText. -/
namespace Go.Proofs.YtflllkpnkcmegaaGreatDoor
open Go.RowKit
set_option linter.unusedVariables false

def textO (l : NL) : ByteArray := if l = [] then ⟨#[45]⟩ else joinB (l.map tolB)

set_option maxHeartbeats 1600000 in
theorem joinO_any (a : Option Addr) (len cap : Nat) (l : NL) (w : World) (hr : RowAt TaLay w a len l) (hf : ∀ x ∈ l, x.1.size ≤ 900000 ∧ x.2.1.size ≤ 900000) (hn : len ≤ 1000000) :
    Calls Tryz.prog 139 #[.slice a len cap, .func (.func 140) #[] #[]] w fun e w' => e = .returned (.string (textO l)) ∧ Kept w w' := by
  have hl := hr.1
  rcases hr.form with h0 | ⟨b, off, rfl⟩
  · subst h0
    have HE := Lib.hid (show textO l = ⟨#[45]⟩ by unfold textO; rw [if_pos (List.eq_nil_of_length_eq_zero hl)])
    clear hr hl hf
    go_enter Tryz.func139, Tryz.ntmps139
    go_wp2
    go_ret
    exact ⟨ret_str HE.out.symm, Kept.refl _⟩
  · by_cases h0 : len = 0
    · subst h0
      have HE := Lib.hid (show textO l = ⟨#[45]⟩ by unfold textO; rw [if_pos (List.eq_nil_of_length_eq_zero hl)])
      clear hr hl hf
      go_enter Tryz.func139, Tryz.ntmps139
      go_wp2
      go_ret
      exact ⟨ret_str HE.out.symm, Kept.refl _⟩
    · have h0' : ((len : Int) == 0) = false := by
        have : (len : Int) ≠ 0 := by omega
        simpa using this
      have HE := Lib.hid (show textO l = joinB (l.map tolB) by unfold textO; rw [if_neg (by intro e; rw [e] at hl; simp at hl; omega)])
      have HR := Lib.hid hr
      have HL := Lib.hid hl
      have HF := Lib.hid hf
      have HN := Lib.hid h0
      obtain ⟨i0, hi, hz0, hz1, hz2⟩ := info_parts strInfo
      have hib : i0.bytes * len ≤ 281474976710656 := by rw [hz2]; omega
      have hlm : len ≤ maxLen := by unfold maxLen; omega
      clear hr hl hf h0
      go_enter Tryz.func139, Tryz.ntmps139
      go_wp2_with (refine wpList_make_full _ rfl (.tmp 12) (.tmp 12) _ rfl w.heap.size 9 i0 _ 1 Tryz.underlying80 hi hz0 hz1 .i64 .i64 len len len rfl rfl rfl rfl hib hlm (Nat.le_refl _) ?_; intro w1 own1 grow1; rw [made_strings, ← fills_zero (l.map tolB)] at own1; have O1 := Lib.hid own1; have K1 := Lib.hid (show Kept w w1 from (Below.refl _ w).grown grow1 (Nat.le_refl _) (fun k hk => by cases hk)); have hp1 := (own1.lt w.heap.size rfl).2; clear own1 grow1)
      go_loopw [16] (fun i wr => ∃ k : Nat, k ≤ len ∧ i = .int .i64 k ∧ wr.ownsRow w.heap.size 9 1 (.slice (some ⟨w.heap.size, 0, none⟩) len len) len (fills (l.map tolB) len k) ∧ Kept w wr) (fun i _ => len - (intOf i).toNat)
      case atStart => exact ⟨0, Nat.zero_le _, rfl, O1.out, K1.out⟩
      case round =>
        obtain ⟨k, hk, rfl, hown, hK⟩ := hrel
        by_cases hlt : k < len
        · obtain ⟨x, y, m, hx, hd, hb, hz, hz2, c1, c2, c3⟩ := (HR.out.kept hK).tri hlt
          clear hz hz2
          have hz := show x.size ≤ 900000 from (HF.out _ (List.mem_of_getElem? hx)).1
          have hz2 := show y.size ≤ 900000 from (HF.out _ (List.mem_of_getElem? hx)).2
          have HX := Lib.hid (show (l.map tolB)[k]? = some (tolB (x, y, m)) by rw [List.getElem?_map, hx]; rfl)
          have HK := Lib.hid hK
          have HO := Lib.hid hown
          clear hK hx hd hown
          go_wp2_with (go_at_call 140; refine (tolText_any x y m _ hz hz2).mono ?_; rintro e w2 ⟨rfl, k2⟩; have K2 := Lib.hid k2; have O2 := Lib.hid (ownsRow_kept HO.out ((kept_alloc wr _).trans k2)); clear k2; have z2 := O2.out.frozenAt k; have q2 := row_at O2.out (fills_at (by rw [List.length_map]; exact HL.out) hlt))
          go_roundw
          case rel =>
            refine ⟨k + 1, by omega, by go_num, ?_, ?_⟩
            · have := (O2.out.stored k (.string (tolB (x, y, m)))).1
              rw [fills_set (by rw [List.length_map]; exact HL.out) HX.out] at this
              exact this
            · exact Below.setCell (HK.out.trans ((kept_alloc _ _).trans K2.out)) (p := ⟨w.heap.size, k, none⟩) (Nat.le_refl _) _
          case measure => simp [intOf]; omega
        · have HK := Lib.hid hK
          obtain rfl : k = len := by omega
          have hfull := hown
          rw [fills_all (by rw [List.length_map]; exact HL.out)] at hfull
          have HC := Lib.hid hfull
          have HK2 := Lib.hid ((hown.lt w.heap.size rfl).2)
          clear hK hown hfull
          have hml : (l.map tolB).length = k := by rw [List.length_map]; exact HL.out
          have hjl := joins_le (l.map tolB) 2000001 (by
            intro z hz
            obtain ⟨x, hx, rfl⟩ := List.mem_map.1 hz
            exact tolB_size (HF.out x hx).1 (HF.out x hx).2)
          rw [hml] at hjl
          have hpl : w.heap.size < wr.heap.size := HK2.out
          have J := Tryz.strings_Join w.heap.size 0 k (l.map tolB) ⟨#[44]⟩ wr (row_cells HC.out) hpl (by rw [hml]; omega) (by rw [hml]; exact Nat.le_refl _) (Nat.le_trans hjl (by omega))
          rw [hml] at J
          have HJ := Lib.hid J
          clear J hjl hml hpl
          go_wp2_with (go_at_call 130; refine HJ.out.mono ?_; rintro e w2 ⟨rfl, k2⟩; have K2 := Lib.hid (show Kept wr w2 from k2); clear k2)
          go_ret
          exact ⟨ret_str (HE.out.trans (by unfold joinB; rw [List.map_map])).symm, HK.out.trans K2.out⟩

/-- textO: in words. -/
theorem textO_any (a : Option Addr) (len cap : Nat) (l : NL) (w : World) (hr : RowAt TaLay w a len l) (hf : ∀ x ∈ l, x.1.size ≤ 900000 ∧ x.2.1.size ≤ 900000) (hn : len ≤ 1000000) :
    Calls Tryz.prog 83 #[.slice a len cap] w fun e w' => e = .returned (.string (textO l)) ∧ Kept w w' := by
  have HJ := Lib.hid (joinO_any a len cap l w hr hf hn)
  clear hr hf hn
  go_enter Tryz.func83, Tryz.ntmps83
  go_wp2_with (go_at_call 139; refine HJ.out.mono ?_; rintro e w2 ⟨rfl, k2⟩)
  go_ret
  exact ⟨rfl, k2⟩


end Go.Proofs.YtflllkpnkcmegaaGreatDoor

/- A part's form: a taint, a toleration. -/
namespace Go.Proofs.YtflllkpnkcmegaaGreatDoor
open Go.RowKit
set_option linter.unusedVariables false

theorem hasPrefix_any (p q : List UInt8) (w : World) :
    Calls Tryz.prog 198 #[.string (bytes p), .string (bytes q)] w fun e w' => e = .returned (.bool (Lib.hasPrefix p q)) ∧ w' = w :=
  Tryz.strings_HasPrefix (bytes p) (bytes q) w
/-- A toleration's part. -/
def keyO (k : List UInt8) : ByteArray := if k = [42] then ByteArray.empty else bytes k
def readO (p : List UInt8) : NT := (keyO (Lib.cut p [58]).1, bytes (Lib.cut p [58]).2.1, !(Lib.cut p [58]).2.2)
def readOBad (p : List UInt8) : Bool := decide (p = []) || Lib.hasPrefix p [58] || decide (1 < Lib.countByte p 58)

set_option maxHeartbeats 1600000 in
theorem readO_ok (p : List UInt8) (w : World) (hE : Env w) (hp : p.length ≤ 1000000) (h : readOBad p = false) :
    Calls Tryz.prog 176 #[.string (bytes p)] w fun e w' => e = .returned (NV (readO p).1 (readO p).2.1 (readO p).2.2) ∧ Kept w w' := by
  have HE := Lib.hid hE
  unfold readOBad at h
  rw [Bool.or_eq_false_iff, Bool.or_eq_false_iff] at h
  obtain ⟨⟨h0, h1⟩, h2⟩ := h
  have e0 : ((bytes p).toList == ([] : List UInt8)) = false := by rw [bytes_toList]; simpa using h0
  have h2 : ¬ 1 < Lib.countByte p 58 := by simpa using h2
  have hA := count_le p 58
  have HP := Lib.hid (fun W => hasPrefix_any p [58] W)
  rw [h1] at HP
  have HN := Lib.hid (fun W => count_any 58 p W)
  obtain ⟨A, eA⟩ : ∃ A, Lib.countByte p 58 = A := ⟨_, rfl⟩
  rw [eA] at HN h2 hA
  obtain ⟨k, hk⟩ : ∃ k, (Lib.cut p [58]).1 = k := ⟨_, rfl⟩
  obtain ⟨v, hv⟩ : ∃ v, (Lib.cut p [58]).2.1 = v := ⟨_, rfl⟩
  obtain ⟨q, hq⟩ : ∃ q, (Lib.cut p [58]).2.2 = q := ⟨_, rfl⟩
  have HC := Lib.hid (fun W (hW : Env W) => cut_any 58 p W hW hp)
  rw [hk, hv, hq] at HC
  obtain ⟨z, hz⟩ : ∃ z, ((bytes k).toList == [42]) = z := ⟨_, rfl⟩
  have HV := Lib.hid (show readO p = ((if z = true then ByteArray.empty else bytes k), bytes v, !q) by
    unfold readO keyO; rw [hk, hv, hq]
    have : (k = [42]) ↔ z = true := by rw [← hz, bytes_toList]; simp
    by_cases hkk : k = [42]
    · rw [if_pos hkk, if_pos (this.1 hkk)]
    · rw [if_neg hkk, if_neg (fun h => hkk (this.2 h))])
  clear hE h0 h1 hk hv hq eA
  rw [HV.out]
  cases z with
  | true =>
    go_enter Tryz.func176, Tryz.ntmps176
    go_wp2_with (first | (go_at_call 195; refine (HN.out _).mono ?_; rintro e w' ⟨rfl, rfl⟩) | (go_at_call 198; refine (HP.out _).mono ?_; rintro e w' ⟨rfl, rfl⟩) | (go_at_call 161; refine (HC.out _ (HE.out.kept (kept_alloc _ _))).mono ?_; rintro e w' ⟨rfl, n, rfl⟩))
    (try simp only [Exit.inBlock, Exit.then])
    refine bodyPost_ret (v := NV ⟨#[]⟩ (bytes v) (!q)) (by simp [results, Tryz.results176, go_sem]) rfl ?_
    exact ⟨rfl, kept_cell (kept_cell (kept_cell ((kept_alloc _ _).trans (Kept.drewN _ _)) (Nat.le_refl _) _) (Nat.le_refl _) _) (Nat.le_refl _) _⟩
  | false =>
    go_enter Tryz.func176, Tryz.ntmps176
    go_wp2_with (first | (go_at_call 195; refine (HN.out _).mono ?_; rintro e w' ⟨rfl, rfl⟩) | (go_at_call 198; refine (HP.out _).mono ?_; rintro e w' ⟨rfl, rfl⟩) | (go_at_call 161; refine (HC.out _ (HE.out.kept (kept_alloc _ _))).mono ?_; rintro e w' ⟨rfl, n, rfl⟩))
    (try simp only [Exit.inBlock, Exit.then])
    refine bodyPost_ret (v := NV (bytes k) (bytes v) (!q)) (by simp [results, Tryz.results176, go_sem]) rfl ?_
    exact ⟨rfl, kept_cell (kept_cell (kept_cell ((kept_alloc _ _).trans (Kept.drewN _ _)) (Nat.le_refl _) _) (Nat.le_refl _) _) (Nat.le_refl _) _⟩

set_option maxHeartbeats 1600000 in
theorem readO_bad (p : List UInt8) (w : World) (hE : Env w) (hp : p.length ≤ 1000000) (h : readOBad p = true) :
    Calls Tryz.prog 176 #[.string (bytes p)] w fun e w' => e = .panicked [perr 2] ∧ Kept w w' := by
  unfold readOBad at h
  have hA := count_le p 58
  have HP := Lib.hid (fun W => hasPrefix_any p [58] W)
  have HN := Lib.hid (fun W => count_any 58 p W)
  obtain ⟨A, eA⟩ : ∃ A, Lib.countByte p 58 = A := ⟨_, rfl⟩
  obtain ⟨q, hq⟩ : ∃ q, Lib.hasPrefix p [58] = q := ⟨_, rfl⟩
  rw [eA] at HN h hA
  rw [hq] at HP h
  by_cases h0 : p = []
  · have e0 : ((bytes p).toList == ([] : List UInt8)) = true := by rw [bytes_toList, h0]; rfl
    clear h h0 hE eA hq
    go_enter Tryz.func176, Tryz.ntmps176
    go_wp2
    first | exact ⟨rfl, rfl, Kept.refl _⟩ | exact ⟨rfl, rfl, kept_alloc _ _⟩
  · have e0 : ((bytes p).toList == ([] : List UInt8)) = false := by rw [bytes_toList]; simpa using h0
    cases q with
    | true =>
      clear h h0 hE eA hq
      go_enter Tryz.func176, Tryz.ntmps176
      go_wp2_with (go_at_call 198; refine (HP.out _).mono ?_; rintro e w' ⟨rfl, rfl⟩)
      first | exact ⟨rfl, rfl, Kept.refl _⟩ | exact ⟨rfl, rfl, kept_alloc _ _⟩
    | false =>
      have h2 : 1 < A := by
        have e1 : decide (p = []) = false := by simpa using h0
        rw [e1] at h
        simpa using h
      have h2' : (1 : Int) < (A : Int) := by omega
      clear h h0 hE eA hq h2
      go_enter Tryz.func176, Tryz.ntmps176
      go_wp2_with (first | (go_at_call 195; refine (HN.out _).mono ?_; rintro e w' ⟨rfl, rfl⟩) | (go_at_call 198; refine (HP.out _).mono ?_; rintro e w' ⟨rfl, rfl⟩))
      first | exact ⟨rfl, rfl, Kept.refl _⟩ | exact ⟨rfl, rfl, kept_alloc _ _⟩

end Go.Proofs.YtflllkpnkcmegaaGreatDoor

/- Whether taints, tolerations may be. -/
namespace Go.Proofs.YtflllkpnkcmegaaGreatDoor
open Go.RowKit Go.Sort
set_option linter.unusedVariables false

set_option maxHeartbeats 1600000 in
theorem named_any (x y : ByteArray) (m : Bool) (w : World) (hx : x.size ≤ maxLen) (hy : y.size ≤ maxLen) :
    Calls Tryz.prog 110 #[NV x y m] w fun e w' => e = .returned (.bool (namedN (x, y, m))) ∧ Kept w w' := by
  obtain ⟨q0, hq0⟩ : ∃ q, (x.toList == ([] : List UInt8)) = q := ⟨_, rfl⟩
  obtain ⟨q2, hq2⟩ : ∃ q, (y.toList == ([] : List UInt8)) = q := ⟨_, rfl⟩
  obtain ⟨n1, hn1⟩ : ∃ q, isName x = q := ⟨_, rfl⟩
  obtain ⟨n2, hn2⟩ : ∃ q, isName y = q := ⟨_, rfl⟩
  have HV := Lib.hid (show namedN (x, y, m) = ((q0 || n1) && (if m = true then q2 else n2)) by unfold namedN; rw [no_iff, no_iff, hq0, hq2, hn1, hn2])
  cases q0 <;> cases n1 <;> cases m <;> cases q2 <;> cases n2 <;>
  (go_enter Tryz.func110, Tryz.ntmps110
   go_wp2_with (go_at_call 104; refine (name_any _ _ (by assumption)).mono ?_; rintro e w' ⟨rfl, rfl⟩)
   go_ret
   exact ⟨ret_bool HV.out.symm, kept_alloc _ _⟩)

theorem all_named {x : NT} {t : NL} : (x :: t).all namedN = (namedN x && t.all namedN) := rfl

set_option maxHeartbeats 800000 in
theorem checkO_any (a : Option Addr) (len cap : Nat) (l : NL) (w : World) (hr : RowAt TaLay w a len l) :
    Calls Tryz.prog 60 #[.slice a len cap] w fun e w' => e = .returned (.int .i64 (chkO l)) ∧ Kept w w' := by
  have hl := hr.1
  have hm := hr.2.1
  unfold maxLen at hm
  by_cases h8 : len ≤ 8
  · have HV := Lib.hid (show chkO l = if l.all namedN = true then 0 else 3 by unfold chkO; rw [if_neg (by omega)])
    rcases hr.form with h0 | ⟨b, off, rfl⟩
    · subst h0
      have HE := Lib.hid (show chkO l = 0 by rw [HV.out]; rw [List.eq_nil_of_length_eq_zero hl]; rfl)
      clear hr hl
      go_enter Tryz.func60, Tryz.ntmps60
      go_wp2
      refine wp_loop_rounds 1 ?_
      rw [rounds_succ]
      go_wp2
      go_ret
      exact ⟨ret_i64 HE.out.symm, Kept.refl _⟩
    · have HR := Lib.hid hr
      have HL := Lib.hid hl
      clear hr hl
      go_enter Tryz.func60, Tryz.ntmps60
      go_wp2
      go_loopw [10] (fun i wr => ∃ k : Nat, k ≤ len ∧ i = .int .i64 k ∧ (l.drop k).all namedN = l.all namedN ∧ Kept w wr) (fun i _ => len - (intOf i).toNat)
      case atStart => exact ⟨0, Nat.zero_le _, rfl, rfl, Kept.refl _⟩
      case round =>
        obtain ⟨k, hk, rfl, hrest, hK⟩ := hrel
        by_cases hlt : k < len
        · obtain ⟨x, y, m, hx, hd, hb, hz, hz2, c1, c2, c3⟩ := (HR.out.kept hK).tri hlt
          have HK := Lib.hid hK
          obtain ⟨q, hq⟩ : ∃ q, namedN (x, y, m) = q := ⟨_, rfl⟩
          have HS := Lib.hid (hrest.symm.trans ((congrArg (fun z => z.all namedN) hd).trans (all_named.trans (by rw [hq]))))
          have HC := Lib.hid (fun W => named_any x y m W hz hz2)
          rw [hq] at HC
          clear hK hrest hx hd hq
          cases q with
          | true =>
            go_wp2_with (go_at_call 110; refine (HC.out _).mono ?_; rintro e w1 ⟨rfl, k1⟩; have K1 := Lib.hid k1; clear k1)
            go_roundw
            case rel => exact ⟨k + 1, by omega, by go_num, (HS.out.trans (Bool.true_and _)).symm, HK.out.trans ((kept_alloc _ _).trans K1.out)⟩
            case measure => simp [intOf]; omega
          | false =>
            have HF := Lib.hid (show chkO l = 3 by rw [HV.out, HS.out]; rfl)
            go_wp2_with (go_at_call 110; refine (HC.out _).mono ?_; rintro e w1 ⟨rfl, k1⟩; have K1 := Lib.hid k1; clear k1)
            go_ret
            exact ⟨ret_i64 HF.out.symm, HK.out.trans ((kept_alloc _ _).trans K1.out)⟩
        · have HK := Lib.hid hK
          have HS := Lib.hid (hrest.symm.trans (congrArg (fun z => z.all namedN) (drop_end (by rw [HL.out]; exact hlt))))
          have HF := Lib.hid (show chkO l = 0 by rw [HV.out, HS.out]; rfl)
          clear hK hrest
          go_wp2
          go_ret
          exact ⟨ret_i64 HF.out.symm, HK.out⟩
  · have HV := Lib.hid (show chkO l = 4 by unfold chkO; rw [if_pos (by omega)])
    have h9 : 8 < len := by omega
    clear h8 hr hl
    go_enter Tryz.func60, Tryz.ntmps60
    go_wp2
    go_ret
    exact ⟨ret_i64 HV.out.symm, Kept.refl _⟩

end Go.Proofs.YtflllkpnkcmegaaGreatDoor

/- parsed, at []taint.Taint: every part's form, then the check. -/
namespace Go.Proofs.YtflllkpnkcmegaaGreatDoor
open Go.RowKit Go.Shelf
set_option linter.unusedVariables false
attribute [local go_sem] Oper.semAt_some

end Go.Proofs.YtflllkpnkcmegaaGreatDoor

/- parsed, at 28: every part's form, then the check. -/
namespace Go.Proofs.YtflllkpnkcmegaaGreatDoor
open Go.RowKit Go.Shelf
set_option linter.unusedVariables false
attribute [local go_sem] Oper.semAt_some

theorem infoO : (Tryz.prog.info? 118).map (fun i => (i.zero, i.size, i.bytes)) = some (some (.agg #[.string ByteArray.empty, .string ByteArray.empty, .bool false]), 3, 40) := by kernel_rfl

theorem readO_fine {p : List UInt8} (h : p.length ≤ 1000000) : TaLay.fine (readO p) := by
  have h1 := (cut_le p [58]).1
  have h2 := (cut_le p [58]).2
  unfold readO
  refine ⟨?_, ?_⟩
  · show (keyO _).size ≤ maxLen
    unfold keyO
    split
    · exact Nat.zero_le _
    · rw [bytes_size]; unfold maxLen; omega
  · show (bytes _).size ≤ maxLen
    rw [bytes_size]; unfold maxLen; omega

def parsedO (s : List UInt8) := parsedG readOBad readO chkO s

theorem parsedO_dash (w : World) :
    Calls Tryz.prog 175 #[.string (bytes [45]), .func (.func 176) #[] #[], .func (.func 60) #[] #[]] w (RowRes TaLay 118 (parsedO [45]) w.heap.size w) := by
  have e : ((bytes [45]).toList == [45]) = true := by rw [bytes_toList]; rfl
  go_enter Tryz.func175, Tryz.ntmps175
  go_wp2
  go_ret
  exact RowRes.good rfl (Own.nil _ _ _) (kept_alloc _ _)

set_option maxRecDepth 100000 in
set_option maxHeartbeats 1600000 in
theorem parsedO_any (s : List UInt8) (w : World) (hE : Env w) (hs : s.length ≤ 1000000) (hd : s ≠ [45]) :
    Calls Tryz.prog 175 #[.string (bytes s), .func (.func 176) #[] #[], .func (.func 60) #[] #[]] w (RowRes TaLay 118 (parsedO s) w.heap.size w) := by
  have hdash : ((bytes s).toList == [45]) = false := by rw [bytes_toList]; simpa using hd
  have HD0 := Lib.hid hd
  clear hd
  refine calls_of_wpAt (n := 6) Tryz.func175 rfl ?_
  simp only [Tryz.ntmps175, List.size_toArray, List.length_cons, List.length_nil, Nat.reduceAdd, Nat.reduceSub, Array.replicate_succ, Array.replicate_zero, List.push_toArray, List.append_toArray, List.nil_append, List.cons_append]
  refine wpAt_seq (wpAt_of (n := 6) ?_)
  gi_wp2
  refine wpAt_seq (wpAt_of (n := 6) ?_)
  gi_wp2
  refine wpAt_seq (wpAt_of (n := 6) ?_)
  gi_wp2
  obtain ⟨V0, hV0⟩ : ∃ V0, (w.alloc (.cells #[.func (.func 176) #[] #[]] 229)).alloc (.cells #[.slice none 0 0] 28) = V0 := ⟨_, rfl⟩
  have HV0S := Lib.hid (show V0.heap.size = w.heap.size + 2 by rw [← hV0]; simp)
  have HV0K := Lib.hid (show Kept w V0 by rw [← hV0]; exact kept_two _ _ _)
  have HV0C := Lib.hid (show V0.cell? ⟨w.heap.size + 1, 0, none⟩ = some (.slice none 0 0) ∧ V0.frozen? ⟨w.heap.size + 1, 0, none⟩ = false ∧ V0.cell? ⟨w.heap.size, 0, none⟩ = some (.func (.func 176) #[] #[]) by
    rw [← hV0]; exact two_cells w _ _ _ _)
  rw [hV0]
  clear hV0
  have HE := Lib.hid hE
  have HPL := Lib.hid (fun p (h : p ∈ partsOf s) => Nat.le_trans (part_len s p h) hs)
  have hcl : (bytes s).size ≤ 281474976710656 := by rw [bytes_size]; omega
  clear hE
  refine wpAt_seq (wpAt_seq (wpAt_of (n := 6) ?_))
  gi_wp2_with (first | (refine ⟨trivial, ?_⟩; gi_at_call 119; refine (callsIn_wide.2 (clone_any _ _ hcl)).mono ?_; rintro e w1 ⟨rfl, k1⟩; have K1 := Lib.hid k1; clear k1) | (refine ⟨trivial, ?_⟩; gi_at_call 188; refine (callsIn_wide.2 (splitseq_any s _)).mono ?_; rintro e w2 ⟨rfl, rfl⟩))
  refine wpAt_block ?_
  obtain ⟨m, hm⟩ : ∃ m, w1.heap.size = m := ⟨_, rfl⟩
  have bc := boxes_cells w1 s
  have bsz := boxes_size w1 s
  rw [hm] at bc bsz ⊢
  have HM := Lib.hid hm
  have hwm : w.heap.size + 2 ≤ m := by rw [← hm, ← HV0S.out]; exact K1.out.size
  have HWM := Lib.hid hwm
  have HB0 := Lib.hid (show Below w.heap.size w (boxes w1 s) from HV0K.out.trans (K1.out.trans (boxes_kept w1 s)))
  have HK0 := Lib.hid (show Kept V0 (boxes w1 s) from K1.out.trans (boxes_kept w1 s))
  have HC0 := Lib.hid (show (boxes w1 s).cell? ⟨w.heap.size + 1, 0, none⟩ = some (.slice none 0 0) ∧ (boxes w1 s).frozen? ⟨w.heap.size + 1, 0, none⟩ = false ∧ (boxes w1 s).cell? ⟨w.heap.size, 0, none⟩ = some (.func (.func 176) #[] #[]) from
    ⟨cell_later HK0.out HV0C.out.1, (HK0.out.frozen (p := ⟨w.heap.size + 1, 0, none⟩) (by rw [HV0S.out]; exact Nat.lt_succ_self _)).trans HV0C.out.2.1, cell_later HK0.out HV0C.out.2.2⟩)
  clear hm
  refine wpAt_split (n := 6) Tryz.func175 (by decide) (m + 1) m (m + 2) rfl s hs (by omega) (by omega) (by omega) (by omega) (by omega) bc.1 bc.2.1 bc.2.2.1 bc.2.2.2
    (fun k W' => Below w.heap.size w W' ∧ (∀ p ∈ (partsOf s).take k, readOBad p = false) ∧ W'.cell? ⟨w.heap.size, 0, none⟩ = some (.func (.func 176) #[] #[]) ∧ VBox TaLay 118 (m + 5) (w.heap.size + 1) (accG readO (partsOf s) k) W')
    (fun c W' => c = [perr 2] ∧ Below w.heap.size w W' ∧ (partsOf s).any readOBad = true)
    (fun k W1 W2 h st => ⟨Below.st h.1 st (by omega) (by omega), h.2.1, st_cell h.2.2.1 st (by omega) (by omega), h.2.2.2.st st (by omega) (by omega) (by omega)⟩) (fun k W' h => HE.out.kept h.1) ⟨HB0.out, by simp, HC0.out.2.2, ⟨_, HC0.out.1, HC0.out.2.1, Own.nil _ _ _⟩⟩
    (fun x => { tmps := #[.string (bytes s), .func (.func 176) #[] #[], .func (.func 60) #[] #[], undef, .pointer (some ⟨w.heap.size, 0, none⟩), undef, .slice none 0 0, .pointer (some ⟨w.heap.size + 1, 0, none⟩), .string x, undef, .string (bytes s), .bool false, .string (bytes s), .string (bytes s),
        .func (.func 232) #[] #[.pointer (some ⟨m + 1, 0, none⟩), .pointer (some ⟨m, 0, none⟩), .pointer (some ⟨m + 2, 0, none⟩)], .string x,
        undef, undef, undef, undef, undef, undef, undef, undef, undef, undef, undef, undef, undef, undef, undef], defers := [] }) ?assign ?body ?done ?panic
  case assign =>
    intro l x W' K hK
    gi_wp2
    exact hK
  case panic =>
    rintro c W' ⟨rfl, hB', hbad⟩ hk'
    have HV := Lib.hid (show parsedO s = (2, []) by unfold parsedO parsedG; rw [if_neg HD0.out, if_pos hbad])
    refine ⟨by simp, .inl ⟨_, _, rfl, run_takeDeferred hk', ?_⟩⟩
    exact RowRes.bad (by rw [HV.out]) (by decide) (below_put hB' (by omega))
  case body =>
    rintro l k p W' hp ⟨hB', hd', hfc, v, hvc', hvf', hvo⟩ hlt'
    have hmem : p ∈ partsOf s := List.mem_of_getElem? hp
    have HMEM := Lib.hid hmem
    have hpl := HPL.out p hmem
    have HE' := Lib.hid (HE.out.kept hB')
    have HB' := Lib.hid hB'
    have HD' := Lib.hid hd'
    have HP := Lib.hid hp
    have hvb : w.heap.size + 1 < W'.heap.size := by rw [bsz] at hlt'; omega
    have HLT := Lib.hid (show m + 5 ≤ W'.heap.size by rw [bsz] at hlt'; omega)
    have HHD : Hid ((boxes w1 s).heap.size = m + 3) := Lib.hid bsz
    by_cases hgood : readOBad p = false
    · have HGOOD := Lib.hid hgood
      obtain ⟨x, y, bb, hxy⟩ : ∃ x y bb, readO p = (x, y, bb) := ⟨_, _, _, rfl⟩
      have HXY := Lib.hid hxy
      have HCALL := Lib.hid (readO_ok p W' HE'.out hpl hgood)
      rw [hxy] at HCALL
      obtain ⟨av, cv, rfl, q1, q2, q3⟩ := hvo.at_
      obtain ⟨n, hn⟩ : ∃ n, (accG readO (partsOf s) k).length = n := ⟨_, rfl⟩
      rw [hn] at hvo hvc'
      have HVO := Lib.hid hvo
      have HFC0 := Lib.hid hfc
      have HN := Lib.hid hn
      have hn9 : n ≤ 9 := by
        have := accG_len (f := readO) (show k ≤ (partsOf s).length from Nat.le_of_lt (List.getElem?_eq_some_iff.1 hp).1)
        omega
      clear bc bsz hB' hd' hp hmem hlt' q3 hvo hn q1 q2 hgood hxy
      gi_wp2_with (refine ⟨trivial, ?_⟩; gi_at_call 176; refine (CallsIn.inRound l (callsIn_wide.2 HCALL.out)).mono ?_; rintro e W1 ⟨rfl, k1⟩; have K1' := Lib.hid k1; have hvc1 := cell_later k1 hvc'; have hvf1 := (k1.frozen (p := ⟨w.heap.size + 1, 0, none⟩) hvb).trans hvf'; have hm1 : w.heap.size + 1 < W1.heap.size := Nat.lt_of_lt_of_le hvb k1.size; clear k1 hvc' hvf' hfc; refine Hid.out ?_)
      refine Lib.hid ?_
      by_cases h8 : n ≤ 8
      · obtain ⟨i0, hi, hz0, hz1, hz2⟩ := info_parts infoO
        gi_wp2_with (gi_at_builtin; go_must (refine wpListIn_append_own _ rfl (.tmp 22) (.tmp 24) _ rfl (m + 5) 118 i0 _ 3 40 Tryz.underlying28 hi hz0 hz1 hz2 rfl (by decide) _ n (rowCells TaLay (accG readO (partsOf s) k)) rfl (((HVO.out.kept K1'.out).kept (kept_two W1 (.cells #[.string x, .string y, .bool bb] 118) (.cells #[.string x, .string y, .bool bb] 118))).row HN.out) ⟨W1.heap.size + 1, 0, none⟩ 1 1 [.string x, .string y, .bool bb] rfl rfl (news3 _ _ (.string x) (.string y) (.bool bb) _) (one_ssb x y bb) (by unfold maxLen; omega) (by omega) (by rw [World.size_alloc, World.size_alloc]; have := HLT.out; have := K1'.out.size; omega) ?_); intro v' w2 hown' hgrow _; refine Hid.out ?_)
        refine Lib.hid ?_
        obtain ⟨g', cap', rfl⟩ := ownsRow_succ hown'
        have KA := Lib.hid (show Kept W' ((W1.alloc (.cells #[.string x, .string y, .bool bb] 118)).alloc (.cells #[.string x, .string y, .bool bb] 118)) from K1'.out.trans (kept_two W1 _ _))
        have hrow : ∀ r, (Value.slice av n cv).ownBlock = some r → m + 5 ≤ r := fun r hr => (HVO.out.1.lt r hr).1
        have hbl : ∀ b, b < m + 5 → w2.heap[b]? = W'.heap[b]? := fun b hb => (hgrow.block b (Nat.lt_of_lt_of_le hb (Nat.le_trans HLT.out KA.out.size)) (fun e => by have := hrow b e.symm; omega)).trans (KA.out.block b (Nat.lt_of_lt_of_le hb HLT.out))
        have HBL := Lib.hid hbl
        have hvc2 : w2.cell? ⟨w.heap.size + 1, 0, none⟩ = some (.slice av n cv) := (World.cell?_of_block (a := ⟨w.heap.size + 1, 0, none⟩) (hgrow.block (w.heap.size + 1) (by simp; omega) (fun e => by have := hrow _ e.symm; omega))).trans (cell_later (kept_two W1 _ _) hvc1)
        have hvf2 : w2.frozen? ⟨w.heap.size + 1, 0, none⟩ = false := (World.frozen?_of_block (a := ⟨w.heap.size + 1, 0, none⟩) (hgrow.block (w.heap.size + 1) (by simp; omega) (fun e => by have := hrow _ e.symm; omega))).trans (((kept_two W1 _ _).frozen (p := ⟨w.heap.size + 1, 0, none⟩) hm1).trans hvf1)
        have HOWN := Lib.hid hown'
        have HGS := Lib.hid (show Below w.heap.size w w2 from ⟨hgrow.os.trans (KA.out.os.trans HB'.out.os), hgrow.tape.trans (KA.out.tape.trans HB'.out.tape), hgrow.output.trans (KA.out.output.trans HB'.out.output), Nat.le_trans HB'.out.size (Nat.le_trans KA.out.size hgrow.size), fun b hb => (HBL.out b (by omega)).trans (HB'.out.block b hb)⟩)
        have HFC := Lib.hid (show w2.cell? ⟨w.heap.size, 0, none⟩ = some (.func (.func 176) #[] #[]) from (World.cell?_of_block (a := ⟨w.heap.size, 0, none⟩) (HBL.out w.heap.size (by omega))).trans HFC0.out)
        clear hvc1 hvf1 hown' hgrow hrow hbl hi hz0 hz1 hz2
        gi_wp2
        refine ⟨fun b hb => ?_, HGS.out.setCell (p := ⟨w.heap.size + 1, 0, none⟩) (by show w.heap.size ≤ w.heap.size + 1; omega) _, next_good HD'.out HP.out HGOOD.out, ?_, ⟨_, World.cell?_setCell_same' _ _ _ (by rw [hvc2]; rfl), by rw [World.frozen?_setCell]; exact hvf2, ?_⟩⟩
        · have hbm : b < m + 5 ∧ b ≠ w.heap.size + 1 := by have := HHD.out; rcases hb with h | h | h | h | h <;> omega
          exact (Below.heap_setCell w2 ⟨w.heap.size + 1, 0, none⟩ _ b hbm.2).trans (HBL.out b hbm.1)
        · rw [World.cell?_setCell_other _ _ _ _ (by intro e; injection e with e; omega)]; exact HFC.out
        · have hl : (accG readO (partsOf s) (k + 1)).length = n + 1 := by rw [accG_next HP.out (by rw [HN.out]; exact h8), List.length_append, HN.out]; rfl
          have ho : Own TaLay 118 w2 (m + 5) (.slice (some ⟨g', 0, none⟩) (n + 1) cap') (accG readO (partsOf s) (k + 1)) := by
            refine ⟨?_, ?_⟩
            · rw [hl, accG_next HP.out (by rw [HN.out]; exact h8), rowCells_append, HXY.out]; exact HOWN.out
            · rw [accG_next HP.out (by rw [HN.out]; exact h8)]
              intro z hz
              rcases List.mem_append.1 hz with g | g
              · exact HVO.out.2 z g
              · have : z = readO p := by simpa using g
                rw [this]; exact readO_fine hpl
          exact ho.setCell_below (a := ⟨w.heap.size + 1, 0, none⟩) (by show w.heap.size + 1 < m + 5; omega) _
      · have HFULL := Lib.hid (accG_full (f := readO) HP.out (by rw [HN.out]; exact h8))
        have h9 : 8 < n := by omega
        have HQ1 := Lib.hid (cell_later (kept_alloc W1 (.cells #[.string x, .string y, .bool bb] 118)) hvc1)
        have HQ2 := Lib.hid (((kept_alloc W1 (.cells #[.string x, .string y, .bool bb] 118)).frozen (p := ⟨w.heap.size + 1, 0, none⟩) hm1).trans hvf1)
        have HFC := Lib.hid (show (W1.alloc (.cells #[.string x, .string y, .bool bb] 118)).cell? ⟨w.heap.size, 0, none⟩ = some (.func (.func 176) #[] #[]) from cell_later (K1'.out.trans (kept_alloc W1 _)) HFC0.out)
        clear h8
        gi_wp2
        refine ⟨fun b hb => ?_, HB'.out.trans (Below.mono (Kept.trans K1'.out (kept_alloc W1 _)) HB'.out.size), next_good HD'.out HP.out HGOOD.out, HFC.out, ⟨.slice av n cv, HQ1.out, HQ2.out, ?_⟩⟩
        · have hbm : b < m + 5 := by have := HHD.out; rcases hb with h | h | h | h | h <;> omega
          exact (Kept.trans K1'.out (kept_alloc W1 _)).block b (Nat.lt_of_lt_of_le hbm HLT.out)
        · rw [HFULL.out]; exact HVO.out.kept (Kept.trans K1'.out (kept_alloc W1 _))
    · have HBAD := Lib.hid (show readOBad p = true by simpa using hgood)
      clear bc bsz hB' hd' hp hmem hlt' hvo hvc' hvf' hgood
      gi_wp2_with (refine ⟨trivial, ?_⟩; gi_at_call 176; refine (CallsIn.inRound l (callsIn_wide.2 (readO_bad p _ HE'.out hpl HBAD.out))).mono ?_; rintro e W1 ⟨rfl, k1⟩; have K1' := Lib.hid k1; clear k1)
      refine ⟨rfl, fun b hb => ?_, rfl, HB'.out.trans (Below.mono K1'.out HB'.out.size), ?_⟩
      · have hbm : b < m + 5 := by have := HHD.out; rcases hb with h | h | h | h | h <;> omega
        exact K1'.out.block b (Nat.lt_of_lt_of_le hbm HLT.out)
      · rw [List.any_eq_true]
        exact ⟨p, HMEM.out, HBAD.out⟩
  case done =>
    rintro W' ⟨hB', hd', hfc, v, hvc', hvf', hvo⟩ hk'
    have hany : (partsOf s).any readOBad = false := by
      rw [List.any_eq_false]
      intro p hp
      rw [hd' p (by simpa using hp)]; decide
    have hacc : accG readO (partsOf s) (partsOf s).length = ((partsOf s).map readO).take 9 := by unfold accG; rw [List.take_length]
    rw [hacc] at hvo
    obtain ⟨R, hR⟩ : ∃ R, ((partsOf s).map readO).take 9 = R := ⟨_, rfl⟩
    have HV := Lib.hid (show parsedO s = if chkO R ≠ 0 then (chkO R, []) else (0, R) by unfold parsedO parsedG; rw [if_neg HD0.out, if_neg (by rw [hany]; decide), hR])
    rw [hR] at hvo
    obtain ⟨av, cv, rfl, q1, q2, q3⟩ := hvo.at_
    have HVO := Lib.hid hvo
    have HCHK := Lib.hid (fun W (k : Kept W' W) => checkO_any av R.length cv R W (q3.kept k))
    have HDD := Lib.hid hk'
    have HB' := Lib.hid hB'
    have HLT := Lib.hid (show m + 3 < W'.heap.size by have := (Array.getElem?_eq_some_iff.1 hk').1; rw [bsz] at this; exact this)
    have HBS := Lib.hid bsz
    have hvb : w.heap.size + 1 < W'.heap.size := by have := HLT.out; omega
    clear bc bsz hB' hd' hk' hvo q3 q1 q2 hR hacc hany hfc
    refine wpAt_of (n := 6) (wpIn_wide.2 ?_)
    have KD := Lib.hid (Kept.drew W')
    have f1 := cell_later KD.out hvc'
    by_cases hc : chkO R = 0
    · have HC := Lib.hid hc
      have HCW := Lib.hid (HCHK.out _ KD.out)
      rw [hc] at HCW
      clear hc
      go_wp2
      go_region_held3 (fun W => W.cell? ⟨w.heap.size + 1, 0, none⟩ = some (.slice av R.length cv) ∧ Kept W' W)
        (first | exact ⟨f1, KD.out⟩ | exact ⟨cell_later K1.out f1, KD.out.trans K1.out⟩)
        (first | (go_at_call 60; refine HCW.out.mono ?_; rintro e1 W1 ⟨rfl, k1⟩; have K1 := Lib.hid k1; clear k1) | (go_at_call 127; refine (soundO_ok _ _).mono ?_; rintro e2 w2 ⟨rfl, rfl⟩))
      go_wp2
      have K1' := Lib.hid (KD.out.trans K1.out)
      have e1 : W1.heap[(boxes w1 s).heap.size]? = some (.deferred (some [])) := (K1'.out.block _ (by rw [HBS.out]; exact HLT.out)).trans HDD.out
      refine ⟨by simp, .inl ⟨_, _, rfl, run_takeDeferred e1, ?_⟩⟩
      refine ⟨_, results_tmp rfl _ _ _, ?_⟩
      refine RowRes.good (by rw [HV.out, if_neg (by rw [HC.out]; decide)]) (by rw [HV.out, if_neg (by rw [HC.out]; decide)]; exact ((HVO.out.kept K1'.out).put (by rw [HBS.out]; omega) _).base_le (by omega)) ?_
      exact below_put (HB'.out.trans (Below.mono K1'.out HB'.out.size)) (by rw [HBS.out]; omega)
    · have HC := Lib.hid hc
      have HCW := Lib.hid (HCHK.out _ KD.out)
      clear hc
      go_wp2
      refine Code.wp_mono (Q := fun e a W => match e with | .panic c => c = [perr (chkO R)] ∧ Kept W' W ∧ a.defers = [{ target := .collected (boxes w1 s).heap.size, args := #[] }] | _ => False) ?post ?_
      case post =>
        intro e a' W1 h
        cases e <;> try exact h.elim
        obtain ⟨rfl, hk, hd⟩ := h
        obtain ⟨tm, df⟩ := a'
        dsimp only at hd
        subst hd
        have e1 : W1.heap[(boxes w1 s).heap.size]? = some (.deferred (some [])) := (hk.block _ (by rw [HBS.out]; exact HLT.out)).trans HDD.out
        refine ⟨by simp, .inl ⟨_, _, rfl, run_takeDeferred e1, ?_⟩⟩
        exact RowRes.bad (by rw [HV.out, if_pos HC.out]) HC.out (below_put (HB'.out.trans (Below.mono hk HB'.out.size)) (by rw [HBS.out]; omega))
      refine wp_region_held_drew (S := fun W => W.cell? ⟨w.heap.size + 1, 0, none⟩ = some (.slice av R.length cv) ∧ Kept W' W) (by kernel_rfl) ⟨f1, KD.out⟩ (fun hHeld => ?_)
      refine wpAnyH_take (i := 0) (v := ?_) rfl (by kernel_rfl) (by kernel_rfl) (by kernel_rfl) (fun _ _ _ h => h) (Or.inl ⟨by rfl, (by intro w hSw; obtain ⟨s1, _⟩ := hSw; go_simp <;> with_reducible rfl)⟩) (by assumption) ?_
      try simp only [Act.put, List.setIfInBounds_toArray, List.set_cons_zero, List.set_cons_succ]
      refine wpAnyH_take (i := 1) (v := ?_) rfl (by kernel_rfl) (by kernel_rfl) (by kernel_rfl) (fun _ _ _ h => h) (Or.inl ⟨by rfl, (by intro w hSw; obtain ⟨s1, _⟩ := hSw; go_simp <;> with_reducible rfl)⟩) (by assumption) ?_
      try simp only [Act.put, List.setIfInBounds_toArray, List.set_cons_zero, List.set_cons_succ]
      refine wpAnyH_take (i := 2) (v := ?_) rfl (by kernel_rfl) (by kernel_rfl) (by kernel_rfl) (fun _ _ _ h => h) (Or.inl ⟨by rfl, (by intro w hSw; obtain ⟨s1, _⟩ := hSw; go_simp <;> with_reducible rfl)⟩) (by assumption) ?_
      try simp only [Act.put, List.setIfInBounds_toArray, List.set_cons_zero, List.set_cons_succ]
      refine wpAnyH_ready (rs := [3]) (by kernel_rfl) (by simp) (AllReadyH.cons rfl (fun K hK => ?_) AllReadyH.nil)
      go_simp
      refine HCW.out.mono ?_
      rintro e1 W1 ⟨rfl, k1⟩
      have K1 := Lib.hid k1
      refine hK.out _ _ ⟨cell_later k1 f1, KD.out.trans k1⟩ (fun hHeld2 => ?_)
      clear hK K k1
      try simp only [Act.put, List.setIfInBounds_toArray, List.set_cons_zero, List.set_cons_succ]
      refine wpAnyH_ready (rs := [4]) (by kernel_rfl) (by simp) (AllReadyH.cons rfl (fun K hK => ?_) AllReadyH.nil)
      go_simp
      refine (soundO_bad _ _ _ HC.out).mono ?_
      rintro e2 w2 ⟨rfl, rfl⟩
      first | exact ⟨rfl, KD.out.trans K1.out⟩ | exact ⟨rfl, rfl, KD.out.trans K1.out, rfl⟩ | exact ⟨rfl, KD.out.trans K1.out, rfl⟩

end Go.Proofs.YtflllkpnkcmegaaGreatDoor

/- parseA: the closure, the recovery, the face. -/
namespace Go.Proofs.YtflllkpnkcmegaaGreatDoor
open Go.RowKit
set_option linter.unusedVariables false

end Go.Proofs.YtflllkpnkcmegaaGreatDoor

/- parseO: the closure, the recovery, the face. -/
namespace Go.Proofs.YtflllkpnkcmegaaGreatDoor
open Go.RowKit
set_option linter.unusedVariables false

theorem caughtO_panicking (B : Nat) (q : Nat) (x y : Int) (w : World) (hq : w.cell? ⟨q, 0, none⟩ = some (.int .i64 y)) (hzq : w.frozen? ⟨q, 0, none⟩ = false) (hBq : B ≤ q) :
    CallsD Tryz.prog 197 #[.pointer (some ⟨q, 0, none⟩)] (.panicking [perr x]) w fun e u' w' =>
      e = .returned (.tuple #[]) ∧ u' = .panicking [{ perr x with recovered := true }] ∧ w'.cell? ⟨q, 0, none⟩ = some (.int .i64 x) ∧ Below B w w' := by
  have hta : ∀ W, (Instr.typeAssert (.iface 41 (.int .i64 x)) 20 41 false).run Tryz.prog W = .ok (.int .i64 x) W := fun _ => by kernel_rfl
  refine callsD_of_wpS Tryz.func197 rfl fun c₀ cs hu => ?_
  apply wpS_seq
  apply wpS_region
  simp [wpOpsS, go_sem, recoverD, hu, Tryz.ntmps197, Exit.thenS]
  apply wpS_seq
  apply wpS_region
  simp [wpOpsS, go_sem, recoverD, Exit.thenS]
  refine wpS_cond (t := true) (by simp [Act.eval, Array.replicate]) ?_
  simp only [if_true]
  refine wpS_of_wp ?_
  simp [Array.replicate]
  go_wp2
  simp [bodyPostS, results, Tryz.results197]
  exact ⟨World.cell?_setCell_same' _ _ _ (by rw [hq]; rfl), (Below.refl B w).setCell (p := ⟨q, 0, none⟩) hBq _⟩

theorem caughtO_idle (q : Addr) (w : World) :
    CallsD Tryz.prog 197 #[.pointer (some q)] .returning w fun e u' w' => e = .returned (.tuple #[]) ∧ u' = .returning ∧ w' = w := by
  refine callsD_of_wpS Tryz.func197 rfl fun c₀ cs hu => ?_
  apply wpS_seq
  apply wpS_region
  simp [wpOpsS, go_sem, recoverD, hu, Tryz.ntmps197, Exit.thenS]
  apply wpS_seq
  apply wpS_region
  simp [wpOpsS, go_sem, recoverD, hu, Exit.thenS]
  refine wpS_cond (t := false) (by simp [Act.eval, Array.replicate]) ?_
  simp only [Bool.false_eq_true, if_false]
  refine wpS_of_wp (wp_skip ?_)
  cases c₀
  simp_all [bodyPostS, results, Tryz.results197]

/-- What a call answers that recovers: a row and an error. -/
def DoneO (r : Int × NL) (w : World) (e : Ending) (w' : World) : Prop :=
  ∃ v, e = .returned (.tuple #[v, .int .i64 r.1]) ∧ Own TaLay 118 w' w.heap.size v r.2 ∧ Kept w w'

set_option maxHeartbeats 800000 in
theorem caughtO_any (C : Addr) (r : Int × NL) (w : World) (hr : r.1 ≠ 0 → r.2 = [])
    (hk : ∀ W, Kept w W → Calls Tryz.prog 174 #[.pointer (some C)] W (RowRes TaLay 118 r W.heap.size W)) :
    Calls Tryz.prog 173 #[.func (.func 174) #[] #[.pointer (some C)]] w (DoneO r w) := by
  have hmf : ∀ (fn : Fn) (first cap : Array Value) (w : World), (Instr.makeFunc fn first cap).run Tryz.prog w = .ok (.func fn first cap) w := fun _ _ _ _ => rfl
  have HK := Lib.hid hk
  have HR := Lib.hid hr
  clear hk hr
  obtain ⟨r1, r2⟩ := r
  go_enter_defers Tryz.func173, Tryz.ntmps173
  go_wp2_with fail
  refine (HK.out _ (kept_alloc _ _)).mono ?_
  rintro e1 w1 ⟨h0, h1, hb⟩
  have k1 := hb.size
  simp only [World.size_alloc] at k1
  have c2 := (hb.cell (p := ⟨w.heap.size, 0, none⟩) (by simp))
  have z2 := (hb.frozen (p := ⟨w.heap.size, 0, none⟩) (by simp))
  have e2' : w1.cell? ⟨w.heap.size, 0, none⟩ = some (.int .i64 0) := by rw [c2]; go_simp
  have y2 : w1.frozen? ⟨w.heap.size, 0, none⟩ = false := by rw [z2]; go_simp
  clear c2 z2
  have KB := Lib.hid (show Below w.heap.size w w1 from (kept_alloc w _).trans hb)
  by_cases hx : r1 = 0
  · subst hx
    obtain ⟨v, rfl, ho⟩ := h0 rfl
    have HO := Lib.hid ho
    obtain ⟨av, cv, rfl, _, _, _⟩ := ho.at_
    have hsz := World.size_alloc w (.cells #[.int .i64 0] 41)
    clear h0 h1 hb ho
    go_wp2_with fail
    refine leaves_cons (f := 197) (args := #[.pointer (some ⟨w.heap.size, 0, none⟩)]) (by simp) (by simp [go_sem]) ?_
    refine (caughtO_idle ⟨w.heap.size, 0, none⟩ _).mono ?_
    rintro e u' w'' ⟨rfl, rfl, rfl⟩
    simp [Leaves, settle, results, Tryz.results173, go_sem, e2']
    exact ⟨_, rfl, (HO.out.setCell_below (a := ⟨w.heap.size, 0, none⟩) (by simp) _).base_le (by simp), (KB.out.setCell (p := ⟨w.heap.size, 0, none⟩) (Nat.le_refl _) _)⟩
  · obtain rfl := h1 hx
    obtain rfl := HR.out hx
    clear h0 h1 hb
    go_wp2_with fail
    refine leaves_cons (f := 197) (args := #[.pointer (some ⟨w.heap.size, 0, none⟩)]) (by simp) (by simp [go_sem]) ?_
    refine (caughtO_panicking w.heap.size w.heap.size r1 0 _ e2' y2 (by omega)).mono ?_
    rintro e u' w'' ⟨rfl, rfl, q2, q3⟩
    simp [Leaves, settle, results, Tryz.results173, go_sem, q2]
    exact ⟨_, rfl, Own.nil _ _ _, KB.out.trans q3⟩

theorem parsedO_all (s : List UInt8) (w : World) (hE : Env w) (hs : s.length ≤ 1000000) :
    Calls Tryz.prog 175 #[.string (bytes s), .func (.func 176) #[] #[], .func (.func 60) #[] #[]] w (RowRes TaLay 118 (parsedO s) w.heap.size w) := by
  by_cases h : s = [45]
  · subst h; exact parsedO_dash w
  · exact parsedO_any s w hE hs h

theorem closureO (C : Addr) (s : List UInt8) (w : World) (h1 : w.cell? C = some (.string (bytes s))) (hE : Env w) (hs : s.length ≤ 1000000) :
    Calls Tryz.prog 174 #[.pointer (some C)] w (RowRes TaLay 118 (parsedO s) w.heap.size w) := by
  have HE := Lib.hid hE
  clear hE
  go_enter Tryz.func174, Tryz.ntmps174
  go_wp2_with fail
  refine (parsedO_all s _ HE.out hs).mono ?_
  rintro e w' ⟨g0, g1, k⟩
  by_cases hx : (parsedO s).1 = 0
  · obtain ⟨v, rfl, ho⟩ := g0 hx
    have HX := Lib.hid hx
    have HO := Lib.hid ho
    have HK := Lib.hid k
    clear g0 g1 hx ho k
    go_wp2
    go_ret
    exact RowRes.good HX.out HO.out HK.out
  · obtain rfl := g1 hx
    have HX := Lib.hid hx
    have HK := Lib.hid k
    clear g0 g1 hx k
    go_wp2
    exact ⟨rfl, RowRes.bad rfl HX.out HK.out⟩

set_option maxHeartbeats 800000 in
theorem parseO_any (s : List UInt8) (w : World) (hE : Env w) (hs : s.length ≤ 1000000) :
    Calls Tryz.prog 128 #[.string (bytes s)] w (DoneO (parsedO s) w) := by
  have hmf : ∀ (fn : Fn) (first cap : Array Value) (w : World), (Instr.makeFunc fn first cap).run Tryz.prog w = .ok (.func fn first cap) w := fun _ _ _ _ => rfl
  have hC : ∀ W, Kept (w.alloc (.cells #[.string (bytes s)] 9)) W → Calls Tryz.prog 174 #[.pointer (some ⟨w.heap.size, 0, none⟩)] W (RowRes TaLay 118 (parsedO s) W.heap.size W) := by
    intro W k
    have c1 := k.cell (p := ⟨w.heap.size, 0, none⟩) (by simp)
    exact closureO ⟨w.heap.size, 0, none⟩ s W (by rw [c1]; go_simp) (hE.kept ((kept_alloc w _).trans k)) hs
  have HC := Lib.hid hC
  clear hC hE hs
  go_enter Tryz.func128, Tryz.ntmps128
  go_wp2_with fail
  refine (caughtO_any ⟨w.heap.size, 0, none⟩ (parsedO s) _ parsedG_none HC.out).mono ?_
  rintro e w' ⟨v, rfl, ho, k⟩
  have HO := Lib.hid ho
  have HK := Lib.hid k
  clear ho k
  go_wp2
  go_ret2
  exact ⟨v, rfl, HO.out.base_le (by simp), (kept_alloc w _).trans HK.out⟩

end Go.Proofs.YtflllkpnkcmegaaGreatDoor

/- The worst taint; how many soft ones are not borne. -/
namespace Go.Proofs.YtflllkpnkcmegaaGreatDoor
open Go.RowKit Go.Sort
set_option linter.unusedVariables false

end Go.Proofs.YtflllkpnkcmegaaGreatDoor

/- Each call of package taint, asked of values that read so. -/
namespace Go.Proofs.YtflllkpnkcmegaaGreatDoor
open Go.RowKit
set_option linter.unusedVariables false

theorem checkOR {v : Value} {l : NL} {c : Int} {w : World} (h : Reads TaLay w v l) (hc : chkO l = c) :
    Calls Tryz.prog 60 #[v] w (Say (.int .i64 c) w) := by
  obtain ⟨a, cap, rfl, _, _, hr⟩ := h
  exact (checkO_any a _ cap l w hr).mono fun e w' ⟨he, k⟩ => ⟨by rw [he, hc], k⟩
theorem textOR {v : Value} {l : NL} {t : ByteArray} {w : World} (h : Reads TaLay w v l) (hf : ∀ x ∈ l, x.1.size ≤ 900000 ∧ x.2.1.size ≤ 900000) (hn : l.length ≤ 1000000) (ht : textO l = t) :
    Calls Tryz.prog 83 #[v] w (Say (.string t) w) := by
  obtain ⟨a, cap, rfl, _, _, hr⟩ := h
  exact (textO_any a _ cap l w hr hf hn).mono fun e w' ⟨he, k⟩ => ⟨by rw [he, ht], k⟩

end Go.Proofs.YtflllkpnkcmegaaGreatDoor

/- Whether taints, tolerations are short. -/
namespace Go.Proofs.YtflllkpnkcmegaaGreatDoor
open Go.RowKit
set_option linter.unusedVariables false

def few3 (x : NT) : Bool := decide (x.1.size ≤ 50) && decide (x.2.1.size ≤ 50)
def fewN (l : NL) : Bool := decide (l.length ≤ 20) && l.all few3
set_option maxHeartbeats 800000 in
theorem fewO_any (a : Option Addr) (len cap : Nat) (l : NL) (w : World) (hr : RowAt TaLay w a len l) :
    Calls Tryz.prog 44 #[.slice a len cap] w fun e w' => e = .returned (.bool (fewN l)) ∧ w = w' := by
  have hl := hr.1
  have hm := hr.2.1
  unfold maxLen at hm
  by_cases h20 : len ≤ 20
  · have HV := Lib.hid (show fewN l = l.all few3 by unfold fewN; rw [decide_eq_true (by omega)]; rfl)
    rcases hr.form with h0 | ⟨b, off, rfl⟩
    · subst h0
      have HE := Lib.hid (show fewN l = true by rw [HV.out, List.eq_nil_of_length_eq_zero hl]; rfl)
      clear hr hl
      go_enter Tryz.func44, Tryz.ntmps44
      go_wp2
      refine wp_loop_rounds 1 ?_
      rw [rounds_succ]
      go_wp2
      go_ret
      exact ⟨ret_bool HE.out.symm, rfl⟩
    · have HR := Lib.hid hr
      have HL := Lib.hid hl
      clear hr hl
      go_enter Tryz.func44, Tryz.ntmps44
      go_wp2
      go_loop [3] (fun i => ∃ k : Nat, k ≤ len ∧ i = .int .i64 k ∧ (l.drop k).all few3 = l.all few3) (fun i => len - (intOf i).toNat)
      case atStart => exact ⟨0, Nat.zero_le _, rfl, rfl⟩
      case round =>
        obtain ⟨k, hk, rfl, hrest⟩ := hrel
        by_cases hlt : k < len
        · obtain ⟨x, y, m, hx, hd, hb, hz, hz2, c1, c2, c3⟩ := HR.out.tri hlt
          have HT := Lib.hid (hrest.symm.trans ((congrArg (fun z => z.all few3) hd).trans (all_cons _ _ _)))
          clear hrest hx hd
          unfold maxLen at hz hz2
          by_cases e : x.size ≤ 50
          · by_cases e2 : y.size ≤ 50
            · have E := Lib.hid (show few3 (x, y, m) = true by unfold few3; rw [decide_eq_true e, decide_eq_true e2]; rfl)
              go_wp2
              go_round
              case rel => exact ⟨k + 1, by omega, by go_num, (HT.out.trans (by rw [E.out]; exact Bool.true_and _)).symm⟩
              case measure => simp [intOf]; omega
            · have E := Lib.hid (show few3 (x, y, m) = false by unfold few3; rw [decide_eq_false e2]; exact Bool.and_false _)
              have e2' : 50 < y.size := by omega
              clear e2
              go_wp2
              go_ret
              exact ⟨ret_bool (HV.out.trans (HT.out.trans (by rw [E.out]; exact Bool.false_and _))).symm, rfl⟩
          · have E := Lib.hid (show few3 (x, y, m) = false by unfold few3; rw [decide_eq_false e]; exact Bool.false_and _)
            have e' : 50 < x.size := by omega
            clear e
            go_wp2
            go_ret
            exact ⟨ret_bool (HV.out.trans (HT.out.trans (by rw [E.out]; exact Bool.false_and _))).symm, rfl⟩
        · have HS := Lib.hid ((HV.out.trans hrest.symm).trans (congrArg (fun z => z.all few3) (drop_end (by rw [HL.out]; exact hlt))))
          clear hrest
          go_wp2
          go_ret
          exact ⟨ret_bool (HS.out.trans rfl).symm, rfl⟩
  · have HV := Lib.hid (show fewN l = false by unfold fewN; rw [decide_eq_false (by omega)]; rfl)
    have h9 : 20 < len := by omega
    clear h20 hr hl
    go_enter Tryz.func44, Tryz.ntmps44
    go_wp2
    go_ret
    exact ⟨ret_bool HV.out.symm, rfl⟩


theorem fewOR {v : Value} {l : NL} {w : World} (h : Reads TaLay w v l) : Calls Tryz.prog 44 #[v] w fun e w' => e = .returned (.bool (fewN l)) ∧ w = w' := by
  obtain ⟨a, cap, rfl, _, _, hr⟩ := h
  exact fewO_any a _ cap l w hr
theorem few_mid {s : NL} (h : fewN s = true) : s.length ≤ 20 ∧ ∀ x ∈ s, x.1.size ≤ 50 ∧ x.2.1.size ≤ 50 := by
  unfold fewN at h
  simp only [Bool.and_eq_true, decide_eq_true_eq, List.all_eq_true] at h
  refine ⟨h.1, fun x hx => ?_⟩
  have := h.2 x hx
  unfold few3 at this
  simpa using this

end Go.Proofs.YtflllkpnkcmegaaGreatDoor

/- As the reference has them: Of, OfTols. -/
namespace Go.Proofs.YtflllkpnkcmegaaGreatDoor
open Go.RowKit
set_option linter.unusedVariables false

theorem refInfoO : (Tryz.prog.info? 159).map (fun i => (i.zero, i.size, i.bytes)) = some (some (.agg #[.string ByteArray.empty, .string ByteArray.empty, .bool false]), 3, 40) := by kernel_rfl

set_option maxRecDepth 100000 in
set_option maxHeartbeats 1600000 in
theorem ofO_own (a : Option Addr) (len cap : Nat) (l : NL) (w : World) (hr : RowAt TaLay w a len l) (hlen : len ≤ 1000000) :
    Calls Tryz.prog 48 #[.slice a len cap] w (fun e w' => ∃ x, e = .returned x ∧ Own TaLay 159 w' w.heap.size x l ∧ Kept w w') := by
  have hl := hr.1
  obtain ⟨i0, hi, hz0, hz1, hz2'⟩ := info_parts refInfoO
  rcases hr.form with h0 | ⟨b, off, rfl⟩
  · subst h0
    have hl0 : l = [] := List.eq_nil_of_length_eq_zero hl
    subst hl0
    clear hr hl hi hz0 hz1 hz2'
    go_enter Tryz.func48, Tryz.ntmps48
    go_wp2
    refine wp_loop_rounds 1 ?_
    rw [rounds_succ]
    go_wp2
    go_ret
    exact ⟨_, rfl, Own.nil _ _ _, Kept.refl _⟩
  · have HR := Lib.hid hr
    have HL := Lib.hid hl
    clear hr hl
    go_enter Tryz.func48, Tryz.ntmps48
    go_wp2
    go_loopw [3, 4] (fun v i wr => ∃ k : Nat, k ≤ len ∧ i = .int .i64 k ∧ Own TaLay 159 wr w.heap.size v (l.take k) ∧ Below w.heap.size w wr) (fun _ i _ => len - (intOf i).toNat)
    case atStart => exact ⟨0, Nat.zero_le _, rfl, Own.nil _ _ _, Below.refl _ _⟩
    case round =>
      obtain ⟨k, hk, rfl, ho, hB⟩ := hrel
      have HO := Lib.hid ho
      have HB := Lib.hid hB
      have HT := Lib.hid (show (l.take k).length = k by rw [List.length_take, HL.out]; omega)
      have HOWN := Lib.hid (show wr.ownsRow w.heap.size 159 3 u3 k (rowCells TaLay (l.take k)) by have := HO.out.1; rw [HT.out] at this; exact this)
      by_cases hlt : k < len
      · obtain ⟨x, y, m, hx, hd, hb, hz, hz2, c0, c1, c2⟩ := (HR.out.kept hB).tri hlt
        have HX := Lib.hid hx
        have hbw : b < w.heap.size := by obtain ⟨z, _, _, h, _⟩ := HR.out.cells hlt; exact h
        have hbase : w.heap.size ≤ wr.heap.size := hB.size
        have HNE := Lib.hid (show u3.ownBlock ≠ some b by
          intro e
          have := (HOWN.out.lt b e).1
          omega)
        have HBASE := Lib.hid (show w.heap.size ≤ (wr.alloc (.cells #[.string x, .string y, .bool m] 159)).drew.heap.size by simp; omega)
        have HBD := Lib.hid (show Below w.heap.size w ((wr.alloc (.cells #[.string x, .string y, .bool m] 159)).drew) from HB.out.trans (Below.mono ((kept_alloc wr _).trans (Kept.drewN _ 1)) hbase))
        have hk1 : (k : Int) < (len : Int) := by omega
        have HFK := Lib.hid (show TaLay.fine (x, y, m) from ⟨hz, hz2⟩)
        clear ho hB hx hd hz hz2
        go_wp2_with fail
        go_region_held3 (fun W => W.cell? ⟨b, off + k * 3, none⟩ = some (.string x) ∧ W.cell? ⟨b, off + k * 3 + 1, none⟩ = some (.string y) ∧ W.cell? ⟨b, off + k * 3 + 2, none⟩ = some (.bool m))
          (first
            | go_keep
            | (go_split_ands
               refine ⟨?_, ?_, ?_⟩
               · (refine (hgrow.cell_far ⟨b, off + k * 3, none⟩ (by simp; omega) (Ne.symm HNE.out)).trans ?_; assumption)
               · (refine (hgrow.cell_far ⟨b, off + k * 3 + 1, none⟩ (by simp; omega) (Ne.symm HNE.out)).trans ?_; assumption)
               · (refine (hgrow.cell_far ⟨b, off + k * 3 + 2, none⟩ (by simp; omega) (Ne.symm HNE.out)).trans ?_; assumption)))
          ((refine step_append_lies _ (by rfl) _ _ _ (by rfl) w.heap.size 159 i0 _ 3 40 Tryz.underlying36 hi hz0 hz1 hz2' rfl (by decide) u3 k (rowCells TaLay (l.take k)) (by rfl) ((HOWN.out.alloc _).drew)
                ⟨wr.heap.size, 0, none⟩ 1 1 [.string x, .string y, .bool m] (by rfl) (by rfl) (World.news_of_block (cs := #[.string x, .string y, .bool m]) (t := 159) (fr := (0, 0)) (heap_alloc_new wr _)) (one_ssb x y m)
                (by decide) (by unfold maxLen; omega) (by omega) (by simp; omega) (wr.heap.size + 1) (by simp) ?_; intro gg cap1 w1 hown1 hgrow hat hlt1))
        all_goals
          go_wp2
          go_roundw
          case rel => exact ⟨k + 1, by omega, by go_num, by rw [take_snoc HX.out]; exact Own.snoc hown1 (by rw [HT.out]) HO.out.2 HFK.out, HBD.out.grown hgrow HBASE.out (fun j hj => (HOWN.out.lt j hj).1)⟩
          case measure => simp [intOf]; omega
      · have HK := Lib.hid (show l.take k = l by rw [List.take_of_length_le (by rw [HL.out]; omega)])
        clear ho hB
        go_wp2
        go_ret
        exact ⟨_, rfl, by have h := HO.out; rw [HK.out] at h; exact h, HB.out⟩
end Go.Proofs.YtflllkpnkcmegaaGreatDoor

/- The reference's checks of taints, of tolerations. -/
namespace Go.Proofs.YtflllkpnkcmegaaGreatDoor
open Go.RowKit Go.Sort
set_option linter.unusedVariables false

set_option maxHeartbeats 3200000 in
theorem refCheckO_any (a : Option Addr) (len cap : Nat) (l : NL) (w : World) (hr : RowAt TaLay w a len l) :
    Calls Tryz.prog 53 #[.slice a len cap] w fun e w' => e = .returned (.int .i64 (chkO l)) ∧ Kept w w' := by
  have hl := hr.1
  have hm := hr.2.1
  unfold maxLen at hm
  by_cases h8 : len ≤ 8
  · have HV := Lib.hid (show chkO l = if l.all namedN = true then 0 else 3 by unfold chkO; rw [if_neg (by omega)])
    rcases hr.form with h0 | ⟨b, off, rfl⟩
    · subst h0
      have HE := Lib.hid (show chkO l = 0 by rw [HV.out]; rw [List.eq_nil_of_length_eq_zero hl]; rfl)
      clear hr hl
      go_enter Tryz.func53, Tryz.ntmps53
      go_wp2
      refine wp_loop_rounds 1 ?_
      rw [rounds_succ]
      go_wp2
      go_ret
      exact ⟨ret_i64 HE.out.symm, Kept.refl _⟩
    · have HR := Lib.hid hr
      have HL := Lib.hid hl
      clear hr hl
      go_enter Tryz.func53, Tryz.ntmps53
      go_wp2
      go_loopw [3] (fun i wr => ∃ k : Nat, k ≤ len ∧ i = .int .i64 k ∧ (l.drop k).all namedN = l.all namedN ∧ Kept w wr) (fun i _ => len - (intOf i).toNat)
      case atStart => exact ⟨0, Nat.zero_le _, rfl, rfl, Kept.refl _⟩
      case round =>
        obtain ⟨k, hk, rfl, hrest, hK⟩ := hrel
        by_cases hlt : k < len
        · obtain ⟨x, y, m, hx, hd, hb, hz, hz2, c1, c2, c3⟩ := (HR.out.kept hK).tri hlt
          have HK := Lib.hid hK
          have HS := Lib.hid (hrest.symm.trans ((congrArg (fun z => z.all namedN) hd).trans all_named))
          obtain ⟨q0, hq0⟩ : ∃ q, (x.toList == ([] : List UInt8)) = q := ⟨_, rfl⟩
          obtain ⟨q2, hq2⟩ : ∃ q, (y.toList == ([] : List UInt8)) = q := ⟨_, rfl⟩
          obtain ⟨n1, hn1⟩ : ∃ q, isName x = q := ⟨_, rfl⟩
          obtain ⟨n2, hn2⟩ : ∃ q, isName y = q := ⟨_, rfl⟩
          have HN := Lib.hid (show namedN (x, y, m) = ((q0 || n1) && (if m = true then q2 else n2)) by unfold namedN; rw [no_iff, no_iff, hq0, hq2, hn1, hn2])
          clear hK hrest hx hd
          cases q0 with
          | true =>
            cases m with
            | true =>
              cases q2 with
              | true =>
                have HQ := Lib.hid (show namedN (x, y, true) = true by rw [HN.out]; rfl)
                go_wp2_with (go_at_call 49; refine (refName_any _ _ (by assumption)).mono ?_; rintro e w' ⟨rfl, rfl⟩)
                go_roundw
                case rel => exact ⟨k + 1, by omega, by go_num, (HS.out.trans (by rw [HQ.out]; exact Bool.true_and _)).symm, HK.out.trans (kept_alloc _ _)⟩
                case measure => simp [intOf]; omega
              | false =>
                have HQ := Lib.hid (show chkO l = 3 by rw [HV.out, HS.out, HN.out]; rfl)
                go_wp2_with (go_at_call 49; refine (refName_any _ _ (by assumption)).mono ?_; rintro e w' ⟨rfl, rfl⟩)
                go_ret
                exact ⟨ret_i64 HQ.out.symm, HK.out.trans (kept_alloc _ _)⟩
            | false =>
              cases n2 with
              | true =>
                have HQ := Lib.hid (show namedN (x, y, false) = true by rw [HN.out]; rfl)
                go_wp2_with (go_at_call 49; refine (refName_any _ _ (by assumption)).mono ?_; rintro e w' ⟨rfl, rfl⟩)
                go_roundw
                case rel => exact ⟨k + 1, by omega, by go_num, (HS.out.trans (by rw [HQ.out]; exact Bool.true_and _)).symm, HK.out.trans (kept_alloc _ _)⟩
                case measure => simp [intOf]; omega
              | false =>
                have HQ := Lib.hid (show chkO l = 3 by rw [HV.out, HS.out, HN.out]; rfl)
                go_wp2_with (go_at_call 49; refine (refName_any _ _ (by assumption)).mono ?_; rintro e w' ⟨rfl, rfl⟩)
                go_ret
                exact ⟨ret_i64 HQ.out.symm, HK.out.trans (kept_alloc _ _)⟩
          | false =>
            cases n1 with
            | true =>
              cases m with
              | true =>
                cases q2 with
                | true =>
                  have HQ := Lib.hid (show namedN (x, y, true) = true by rw [HN.out]; rfl)
                  go_wp2_with (go_at_call 49; refine (refName_any _ _ (by assumption)).mono ?_; rintro e w' ⟨rfl, rfl⟩)
                  go_roundw
                  case rel => exact ⟨k + 1, by omega, by go_num, (HS.out.trans (by rw [HQ.out]; exact Bool.true_and _)).symm, HK.out.trans (kept_alloc _ _)⟩
                  case measure => simp [intOf]; omega
                | false =>
                  have HQ := Lib.hid (show chkO l = 3 by rw [HV.out, HS.out, HN.out]; rfl)
                  go_wp2_with (go_at_call 49; refine (refName_any _ _ (by assumption)).mono ?_; rintro e w' ⟨rfl, rfl⟩)
                  go_ret
                  exact ⟨ret_i64 HQ.out.symm, HK.out.trans (kept_alloc _ _)⟩
              | false =>
                cases n2 with
                | true =>
                  have HQ := Lib.hid (show namedN (x, y, false) = true by rw [HN.out]; rfl)
                  go_wp2_with (go_at_call 49; refine (refName_any _ _ (by assumption)).mono ?_; rintro e w' ⟨rfl, rfl⟩)
                  go_roundw
                  case rel => exact ⟨k + 1, by omega, by go_num, (HS.out.trans (by rw [HQ.out]; exact Bool.true_and _)).symm, HK.out.trans (kept_alloc _ _)⟩
                  case measure => simp [intOf]; omega
                | false =>
                  have HQ := Lib.hid (show chkO l = 3 by rw [HV.out, HS.out, HN.out]; rfl)
                  go_wp2_with (go_at_call 49; refine (refName_any _ _ (by assumption)).mono ?_; rintro e w' ⟨rfl, rfl⟩)
                  go_ret
                  exact ⟨ret_i64 HQ.out.symm, HK.out.trans (kept_alloc _ _)⟩
            | false =>
              have HQ := Lib.hid (show chkO l = 3 by rw [HV.out, HS.out, HN.out]; rfl)
              go_wp2_with (go_at_call 49; refine (refName_any _ _ (by assumption)).mono ?_; rintro e w' ⟨rfl, rfl⟩)
              go_ret
              exact ⟨ret_i64 HQ.out.symm, HK.out.trans (kept_alloc _ _)⟩
        · have HK := Lib.hid hK
          have HS := Lib.hid (hrest.symm.trans (congrArg (fun z => z.all namedN) (drop_end (by rw [HL.out]; exact hlt))))
          have HF := Lib.hid (show chkO l = 0 by rw [HV.out, HS.out]; rfl)
          clear hK hrest
          go_wp2
          go_ret
          exact ⟨ret_i64 HF.out.symm, HK.out⟩
  · have HV := Lib.hid (show chkO l = 4 by unfold chkO; rw [if_pos (by omega)])
    have h9 : 8 < len := by omega
    clear h8 hr hl
    go_enter Tryz.func53, Tryz.ntmps53
    go_wp2
    go_ret
    exact ⟨ret_i64 HV.out.symm, Kept.refl _⟩

theorem refCheckOR {v : Value} {l : NL} {c : Int} {w : World} (h : Reads TaLay w v l) (hc : chkO l = c) : Calls Tryz.prog 53 #[v] w (Say (.int .i64 c) w) := by
  obtain ⟨a, cap, rfl, _, _, hr⟩ := h
  exact (refCheckO_any a _ cap l w hr).mono fun e w' ⟨he, k⟩ => ⟨by rw [he, hc], k⟩

end Go.Proofs.YtflllkpnkcmegaaGreatDoor

/- The reference's TaintText. -/
namespace Go.Proofs.YtflllkpnkcmegaaGreatDoor
open Go.RowKit
set_option linter.unusedVariables false

end Go.Proofs.YtflllkpnkcmegaaGreatDoor

/- A taint's, a toleration's part: how it is parted. -/
namespace Go.Proofs.YtflllkpnkcmegaaGreatDoor
open Go.RowKit
set_option linter.unusedVariables false

theorem count_cons (c b : UInt8) (t : List UInt8) : Lib.countByte (b :: t) c = Lib.countByte t c + (if b = c then 1 else 0) := by
  unfold Lib.countByte
  rw [List.count_cons]
  by_cases h : b = c
  · simp [h]
  · simp [h]
theorem prefix_head (b c : UInt8) (t : List UInt8) : Lib.hasPrefix (b :: t) [c] = (b == c) := by
  unfold Lib.hasPrefix
  simp only [List.isPrefixOf, List.reverse_append, List.reverse_cons, List.reverse_nil, List.nil_append, List.cons_append, Bool.and_true]
  rw [Bool.eq_iff_iff, beq_iff_eq, beq_iff_eq]; exact eq_comm
end Go.Proofs.YtflllkpnkcmegaaGreatDoor

/- The reference's ParseTaints. -/
namespace Go.Proofs.YtflllkpnkcmegaaGreatDoor
open Go.RowKit
set_option linter.unusedVariables false

end Go.Proofs.YtflllkpnkcmegaaGreatDoor

/- What is told is parsed just so, and what is parsed is told just so. -/
namespace Go.Proofs.YtflllkpnkcmegaaGreatDoor
open Go.RowKit
set_option linter.unusedVariables false

theorem count_app (c : UInt8) (x y : List UInt8) : Lib.countByte (x ++ y) c = Lib.countByte x c + Lib.countByte y c := by unfold Lib.countByte; exact List.count_append
theorem count_none {c : UInt8} {x : List UInt8} (h : c ∉ x) : Lib.countByte x c = 0 := by unfold Lib.countByte; exact List.count_eq_zero.2 h
theorem no_eq {s : ByteArray} (h : isNo s = true) : s = ByteArray.empty := eqS_iff.1 h
theorem star_told {x : ByteArray} (h : (isNo x || isName x) = true) :
    (58 : UInt8) ∉ (starB x).data.toList ∧ (44 : UInt8) ∉ (starB x).data.toList ∧ keyO (starB x).data.toList = x ∧ ∃ b t, (starB x).data.toList = b :: t ∧ b ≠ 58 ∧ b ≠ 45 := by
  cases hn : isNo x with
  | true =>
    have e : starB x = ⟨#[42]⟩ := by unfold starB; rw [hn]; rfl
    rw [e, no_eq hn]
    exact ⟨by decide, by decide, rfl, 42, [], rfl, by decide, by decide⟩
  | false =>
    rw [hn, Bool.false_or] at h
    have e : starB x = x := by unfold starB; rw [hn]; rfl
    have nx := name_no h
    obtain ⟨b, t, eb, hb⟩ := name_some h
    rw [e]
    refine ⟨nx.1, nx.2.2, ?_, b, t, eb, (ok_not hb).1, (ok_not hb).2.2.2⟩
    unfold keyO
    rw [if_neg, bytes_data]
    intro h42
    rw [h42] at eb
    have : b = 42 := by simpa using (List.cons.inj eb).1.symm
    subst this
    exact absurd hb (by decide)
theorem tol_told {x y : ByteArray} {m : Bool} (h : namedN (x, y, m) = true) :
    (44 : UInt8) ∉ (tolB (x, y, m)).data.toList ∧ readOBad (tolB (x, y, m)).data.toList = false ∧ readO (tolB (x, y, m)).data.toList = (x, y, m) ∧ (tolB (x, y, m)).data.toList ≠ [45] := by
  unfold namedN at h
  rw [Bool.and_eq_true] at h
  obtain ⟨h1, h2⟩ := h
  obtain ⟨s1, s2, s3, b, t, eb, hb, hb5⟩ := star_told h1
  cases m with
  | true =>
    have hy : y = ByteArray.empty := no_eq (by simpa using h2)
    subst hy
    have e : tolB (x, ByteArray.empty, true) = starB x := rfl
    rw [e]
    have hcut := cut_none s1
    refine ⟨s2, ?_, ?_, ?_⟩
    · unfold readOBad
      rw [count_none s1, eb, prefix_head]
      simp [hb]
    · unfold readO
      rw [hcut, s3]; rfl
    · intro h45; rw [h45] at eb; exact hb5 (List.cons.inj eb).1.symm
  | false =>
    have hy : isName y = true := by simpa using h2
    have ny := name_no hy
    have e : (tolB (x, y, false)).data.toList = (starB x).data.toList ++ 58 :: y.data.toList := mid_data (starB x) y 58
    rw [e]
    have hcut := cut_mid (c := 58) y.data.toList s1
    refine ⟨by simp [s2, ny.2.2], ?_, ?_, ?_⟩
    · unfold readOBad
      rw [count_app, count_none s1, count_cons, count_none ny.1, eb, List.cons_append, prefix_head]
      simp [hb]
    · unfold readO
      rw [hcut, s3, bytes_data]; rfl
    · intro h45
      rw [eb] at h45
      exact hb5 (List.cons.inj h45).1

theorem chkO_named {s : NL} (h : chkO s = 0) : ∀ x ∈ s, namedN x = true := by
  unfold chkO at h
  split at h
  · cases h
  · split at h
    · rename_i h1; exact fun x hx => List.all_eq_true.1 h1 x hx
    · cases h
theorem chkO_len {l : NL} (h : chkO l = 0) : l.length ≤ 8 := by
  unfold chkO at h
  split at h
  · cases h
  · omega

theorem textO_told {s : NL} (h : chkO s = 0) : parsedO (textO s).data.toList = (0, s) := by
  by_cases h0 : s = []
  · subst h0; rfl
  · have hn := chkO_named h
    have e : textO s = joinB (s.map tolB) := by unfold textO; rw [if_neg h0]
    rw [e]
    exact told_parsed (chkO_len h) h0 h (fun x hx => ⟨(tol_told (hn x hx)).1, (tol_told (hn x hx)).2.1, (tol_told (hn x hx)).2.2.1⟩) (fun x hx => (tol_told (hn x hx)).2.2.2)

end Go.Proofs.YtflllkpnkcmegaaGreatDoor

/- What a law of taints is told: its arguments. -/
namespace Go.Proofs.YtflllkpnkcmegaaGreatDoor
open Go.ChangeShapes Go.WideShapes Go.ChangeAt Go.RowKit Go.Deep
set_option linter.unusedVariables false

theorem cellsB : Tryz.prog.cellsOf 4 = 1 := by kernel_rfl
theorem cellsO : Tryz.prog.cellsOf 118 = 3 := by kernel_rfl
set_option maxRecDepth 100000 in
theorem triO_of_trod {H : Type} {enc : TypeId × Value → H} {w : World} {base fuel : Nat} {sp : Nat → Bool} {held : Bool} {cs : List Value} {x : DataW H × List MemPlace} (h : DataW.trod enc Tryz.prog w base sp held fuel 118 cs = some x) :
    ∃ a : NT, cs = TaLay.cs a ∧ TaLay.fine a := by
  obtain ⟨ys, m, -, -, hlen, hyl, hf⟩ := DataW.trod_struct Tryz.underlying118 h
  rw [cellsO] at hlen
  match cs, hlen with
  | [c0, c1, c2], _ =>
    have h0 : DataW.trod enc Tryz.prog w base sp held m 9 (([c0, c1, c2].drop 0).take (Tryz.prog.cellsOf 9)) = ys[0]? := hf 0 _ rfl
    have h1 : DataW.trod enc Tryz.prog w base sp held m 9 (([c0, c1, c2].drop 1).take (Tryz.prog.cellsOf 9)) = ys[1]? := hf 1 _ rfl
    have h2 : DataW.trod enc Tryz.prog w base sp held m 4 (([c0, c1, c2].drop 2).take (Tryz.prog.cellsOf 4)) = ys[2]? := hf 2 _ rfl
    rw [cellsS] at h0 h1
    rw [cellsB] at h2
    obtain ⟨y0, e0⟩ : ∃ y, ys[0]? = some y := ⟨_, List.getElem?_eq_getElem (by rw [hyl]; decide)⟩
    obtain ⟨y1, e1⟩ : ∃ y, ys[1]? = some y := ⟨_, List.getElem?_eq_getElem (by rw [hyl]; decide)⟩
    obtain ⟨y2, e2⟩ : ∃ y, ys[2]? = some y := ⟨_, List.getElem?_eq_getElem (by rw [hyl]; decide)⟩
    rw [e0] at h0
    rw [e1] at h1
    rw [e2] at h2
    obtain ⟨s, q0, -, hs⟩ := DataW.trod_string Tryz.underlying9 h0
    obtain ⟨t, q1, -, ht⟩ := DataW.trod_string Tryz.underlying9 h1
    obtain ⟨b, q2, -⟩ := DataW.trod_bool Tryz.underlying4 h2
    simp only [List.drop_zero, List.take_succ_cons, List.take_zero, List.cons.injEq, and_true, List.drop_succ_cons] at q0 q1 q2
    subst q0; subst q1; subst q2
    exact ⟨(s, t, b), rfl, hs, ht⟩
theorem rowO_of_trod {H : Type} {enc : TypeId × Value → H} {w : World} {base fuel : Nat} {sp : Nat → Bool} {held : Bool} {v : Value} {x : DataW H × List MemPlace} (h : DataW.trod enc Tryz.prog w base sp held fuel 28 [v] = some x) : ∃ l, Reads TaLay w v l :=
  reads_of_trod TaLay Tryz.underlying28 cellsO (fun _ _ _ h => triO_of_trod h) h

end Go.Proofs.YtflllkpnkcmegaaGreatDoor
