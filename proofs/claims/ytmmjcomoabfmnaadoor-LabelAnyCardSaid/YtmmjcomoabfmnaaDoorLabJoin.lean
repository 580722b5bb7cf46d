/- A row of texts joined: Text, SelText. -/
import Derived.Test.YtmmjcomoabfmnaaDoorLabTell
namespace Go.Proofs.YtmmjcomoabfmnaaDoor
open Go.RowKit
set_option linter.unusedVariables false

theorem pairB_size {x : ByteArray × ByteArray} (h1 : x.1.size ≤ 1000000) (h2 : x.2.size ≤ 1000000) : (pairB x).size ≤ 2000001 := by
  unfold pairB
  rw [ByteArray.size_append, ByteArray.size_append]
  have : (⟨#[58]⟩ : ByteArray).size = 1 := rfl
  omega
theorem termB_size {t : Int × ByteArray × ByteArray} (h1 : t.2.1.size ≤ 1000000) (h2 : t.2.2.size ≤ 1000000) : (termB t).size ≤ 2000001 := by
  unfold termB
  have e1 : (⟨#[58]⟩ : ByteArray).size = 1 := rfl
  have e2 : (⟨#[33]⟩ : ByteArray).size = 1 := rfl
  have e3 : (⟨#[45]⟩ : ByteArray).size = 1 := rfl
  split
  · rw [ByteArray.size_append, ByteArray.size_append]; omega
  · split
    · rw [ByteArray.size_append, ByteArray.size_append]; omega
    · split
      · rw [ByteArray.size_append]; omega
      · omega

def textS (l : PL) : ByteArray := if l = [] then ⟨#[45]⟩ else joinB (l.map pairB)

set_option maxHeartbeats 1600000 in
theorem joinP_any (a : Option Addr) (len cap : Nat) (l : PL) (w : World) (hr : RowAt PairLay w a len l) (hf : ∀ x ∈ l, x.1.size ≤ 1000000 ∧ x.2.size ≤ 1000000) (hn : len ≤ 1000000) :
    Calls Tryd.prog 35 #[.slice a len cap, .func (.func 36) #[] #[]] w fun e w' => e = .returned (.string (textS l)) ∧ Kept w w' := by
  have hl := hr.1
  rcases hr.form with h0 | ⟨b, off, rfl⟩
  · subst h0
    have HE := Lib.hid (show textS l = ⟨#[45]⟩ by unfold textS; rw [if_pos (List.eq_nil_of_length_eq_zero hl)])
    clear hr hl hf
    go_enter Tryd.func35, Tryd.ntmps35
    go_wp2
    go_ret
    exact ⟨ret_str HE.out.symm, Kept.refl _⟩
  · by_cases h0 : len = 0
    · subst h0
      have HE := Lib.hid (show textS l = ⟨#[45]⟩ by unfold textS; rw [if_pos (List.eq_nil_of_length_eq_zero hl)])
      clear hr hl hf
      go_enter Tryd.func35, Tryd.ntmps35
      go_wp2
      go_ret
      exact ⟨ret_str HE.out.symm, Kept.refl _⟩
    · have h0' : ((len : Int) == 0) = false := by
        have : (len : Int) ≠ 0 := by omega
        simpa using this
      have HE := Lib.hid (show textS l = joinB (l.map pairB) by unfold textS; rw [if_neg (by intro e; rw [e] at hl; simp at hl; omega)])
      have HR := Lib.hid hr
      have HL := Lib.hid hl
      have HF := Lib.hid hf
      have HN := Lib.hid h0
      obtain ⟨i0, hi, hz0, hz1, hz2⟩ := info_parts strInfo
      have hib : i0.bytes * len ≤ 281474976710656 := by rw [hz2]; omega
      have hlm : len ≤ maxLen := by unfold maxLen; omega
      clear hr hl hf h0
      go_enter Tryd.func35, Tryd.ntmps35
      go_wp2_with (refine wpList_make_full _ rfl (.tmp 12) (.tmp 12) _ rfl w.heap.size 9 i0 _ 1 Tryd.underlying72 hi hz0 hz1 .i64 .i64 len len len rfl rfl rfl rfl hib hlm (Nat.le_refl _) ?_; intro w1 own1 grow1; rw [made_strings, ← fills_zero (l.map pairB)] at own1; have O1 := Lib.hid own1; have K1 := Lib.hid (show Kept w w1 from (Below.refl _ w).grown grow1 (Nat.le_refl _) (fun k hk => by cases hk)); have hp1 := (own1.lt w.heap.size rfl).2; clear own1 grow1)
      go_loopw [16] (fun i wr => ∃ k : Nat, k ≤ len ∧ i = .int .i64 k ∧ wr.ownsRow w.heap.size 9 1 (.slice (some ⟨w.heap.size, 0, none⟩) len len) len (fills (l.map pairB) len k) ∧ Kept w wr) (fun i _ => len - (intOf i).toNat)
      case atStart => exact ⟨0, Nat.zero_le _, rfl, O1.out, K1.out⟩
      case round =>
        obtain ⟨k, hk, rfl, hown, hK⟩ := hrel
        by_cases hlt : k < len
        · obtain ⟨x, y, hx, hd, hb, hz, hz2, c1, c2⟩ := (HR.out.kept hK).pair hlt
          clear hz hz2
          have hz := show x.size ≤ 1000000 from (HF.out _ (List.mem_of_getElem? hx)).1
          have hz2 := show y.size ≤ 1000000 from (HF.out _ (List.mem_of_getElem? hx)).2
          have HX := Lib.hid (show (l.map pairB)[k]? = some (pairB (x, y)) by rw [List.getElem?_map, hx]; rfl)
          have HK := Lib.hid hK
          have HO := Lib.hid hown
          clear hK hx hd hown
          go_wp2_with (go_at_call 36; refine (pairText_any x y _ hz hz2).mono ?_; rintro e w2 ⟨rfl, k2⟩; have K2 := Lib.hid k2; have O2 := Lib.hid (ownsRow_kept HO.out ((kept_alloc wr _).trans k2)); clear k2; have z2 := O2.out.frozenAt k; have q2 := row_at O2.out (fills_at (by rw [List.length_map]; exact HL.out) hlt))
          go_roundw
          case rel =>
            refine ⟨k + 1, by omega, by go_num, ?_, ?_⟩
            · have := (O2.out.stored k (.string (pairB (x, y)))).1
              rw [fills_set (by rw [List.length_map]; exact HL.out) HX.out] at this
              exact this
            · exact Below.setCell (HK.out.trans ((kept_alloc _ _).trans K2.out)) (p := ⟨w.heap.size, k, none⟩) (Nat.le_refl _) _
          case measure => simp [intOf]; omega
        · have HK := Lib.hid hK
          obtain rfl : k = len := by omega
          have hfull := hown
          rw [fills_all (by rw [List.length_map]; exact HL.out)] at hfull
          have HC := Lib.hid hfull
          have HK2 := Lib.hid ((hown.lt w.heap.size rfl).2)
          clear hK hown hfull
          have hml : (l.map pairB).length = k := by rw [List.length_map]; exact HL.out
          have hjl := joins_le (l.map pairB) 2000001 (by
            intro z hz
            obtain ⟨x, hx, rfl⟩ := List.mem_map.1 hz
            exact pairB_size (HF.out x hx).1 (HF.out x hx).2)
          rw [hml] at hjl
          have hpl : w.heap.size < wr.heap.size := HK2.out
          have J := Tryd.strings_Join w.heap.size 0 k (l.map pairB) ⟨#[44]⟩ wr (row_cells HC.out) hpl (by rw [hml]; omega) (by rw [hml]; exact Nat.le_refl _) (Nat.le_trans hjl (by omega))
          rw [hml] at J
          have HJ := Lib.hid J
          clear J hjl hml hpl
          go_wp2_with (go_at_call 52; refine HJ.out.mono ?_; rintro e w2 ⟨rfl, k2⟩; have K2 := Lib.hid (show Kept wr w2 from k2); clear k2)
          go_ret
          exact ⟨ret_str (HE.out.trans (by unfold joinB; rw [List.map_map])).symm, HK.out.trans K2.out⟩

/-- textS: in words. -/
theorem text_any (a : Option Addr) (len cap : Nat) (l : PL) (w : World) (hr : RowAt PairLay w a len l) (hf : ∀ x ∈ l, x.1.size ≤ 1000000 ∧ x.2.size ≤ 1000000) (hn : len ≤ 1000000) :
    Calls Tryd.prog 21 #[.slice a len cap] w fun e w' => e = .returned (.string (textS l)) ∧ Kept w w' := by
  have HJ := Lib.hid (joinP_any a len cap l w hr hf hn)
  clear hr hf hn
  go_enter Tryd.func21, Tryd.ntmps21
  go_wp2_with (go_at_call 35; refine HJ.out.mono ?_; rintro e w2 ⟨rfl, k2⟩)
  go_ret
  exact ⟨rfl, k2⟩

def textL (l : TL) : ByteArray := if l = [] then ⟨#[45]⟩ else joinB (l.map termB)

set_option maxHeartbeats 1600000 in
theorem joinT_any (a : Option Addr) (len cap : Nat) (l : TL) (w : World) (hr : RowAt TermLay w a len l) (hf : ∀ x ∈ l, x.2.1.size ≤ 1000000 ∧ x.2.2.size ≤ 1000000) (hn : len ≤ 1000000) :
    Calls Tryd.prog 38 #[.slice a len cap, .func (.func 39) #[] #[]] w fun e w' => e = .returned (.string (textL l)) ∧ Kept w w' := by
  have hl := hr.1
  rcases hr.form with h0 | ⟨b, off, rfl⟩
  · subst h0
    have HE := Lib.hid (show textL l = ⟨#[45]⟩ by unfold textL; rw [if_pos (List.eq_nil_of_length_eq_zero hl)])
    clear hr hl hf
    go_enter Tryd.func38, Tryd.ntmps38
    go_wp2
    go_ret
    exact ⟨ret_str HE.out.symm, Kept.refl _⟩
  · by_cases h0 : len = 0
    · subst h0
      have HE := Lib.hid (show textL l = ⟨#[45]⟩ by unfold textL; rw [if_pos (List.eq_nil_of_length_eq_zero hl)])
      clear hr hl hf
      go_enter Tryd.func38, Tryd.ntmps38
      go_wp2
      go_ret
      exact ⟨ret_str HE.out.symm, Kept.refl _⟩
    · have h0' : ((len : Int) == 0) = false := by
        have : (len : Int) ≠ 0 := by omega
        simpa using this
      have HE := Lib.hid (show textL l = joinB (l.map termB) by unfold textL; rw [if_neg (by intro e; rw [e] at hl; simp at hl; omega)])
      have HR := Lib.hid hr
      have HL := Lib.hid hl
      have HF := Lib.hid hf
      have HN := Lib.hid h0
      obtain ⟨i0, hi, hz0, hz1, hz2⟩ := info_parts strInfo
      have hib : i0.bytes * len ≤ 281474976710656 := by rw [hz2]; omega
      have hlm : len ≤ maxLen := by unfold maxLen; omega
      clear hr hl hf h0
      go_enter Tryd.func38, Tryd.ntmps38
      go_wp2_with (refine wpList_make_full _ rfl (.tmp 12) (.tmp 12) _ rfl w.heap.size 9 i0 _ 1 Tryd.underlying72 hi hz0 hz1 .i64 .i64 len len len rfl rfl rfl rfl hib hlm (Nat.le_refl _) ?_; intro w1 own1 grow1; rw [made_strings, ← fills_zero (l.map termB)] at own1; have O1 := Lib.hid own1; have K1 := Lib.hid (show Kept w w1 from (Below.refl _ w).grown grow1 (Nat.le_refl _) (fun k hk => by cases hk)); have hp1 := (own1.lt w.heap.size rfl).2; clear own1 grow1)
      go_loopw [16] (fun i wr => ∃ k : Nat, k ≤ len ∧ i = .int .i64 k ∧ wr.ownsRow w.heap.size 9 1 (.slice (some ⟨w.heap.size, 0, none⟩) len len) len (fills (l.map termB) len k) ∧ Kept w wr) (fun i _ => len - (intOf i).toNat)
      case atStart => exact ⟨0, Nat.zero_le _, rfl, O1.out, K1.out⟩
      case round =>
        obtain ⟨k, hk, rfl, hown, hK⟩ := hrel
        by_cases hlt : k < len
        · obtain ⟨o, x, y, hx, hd, hb, ho, hz, hz2, c1, c2, c3⟩ := (HR.out.kept hK).term hlt
          clear hz hz2
          have hz := show x.size ≤ 1000000 from (HF.out _ (List.mem_of_getElem? hx)).1
          have hz2 := show y.size ≤ 1000000 from (HF.out _ (List.mem_of_getElem? hx)).2
          have HX := Lib.hid (show (l.map termB)[k]? = some (termB (o, x, y)) by rw [List.getElem?_map, hx]; rfl)
          have HK := Lib.hid hK
          have HO := Lib.hid hown
          clear hK hx hd hown
          go_wp2_with (go_at_call 39; refine (termText_any o x y _ hz hz2).mono ?_; rintro e w2 ⟨rfl, k2⟩; have K2 := Lib.hid k2; have O2 := Lib.hid (ownsRow_kept HO.out ((kept_alloc wr _).trans k2)); clear k2; have z2 := O2.out.frozenAt k; have q2 := row_at O2.out (fills_at (by rw [List.length_map]; exact HL.out) hlt))
          go_roundw
          case rel =>
            refine ⟨k + 1, by omega, by go_num, ?_, ?_⟩
            · have := (O2.out.stored k (.string (termB (o, x, y)))).1
              rw [fills_set (by rw [List.length_map]; exact HL.out) HX.out] at this
              exact this
            · exact Below.setCell (HK.out.trans ((kept_alloc _ _).trans K2.out)) (p := ⟨w.heap.size, k, none⟩) (Nat.le_refl _) _
          case measure => simp [intOf]; omega
        · have HK := Lib.hid hK
          obtain rfl : k = len := by omega
          have hfull := hown
          rw [fills_all (by rw [List.length_map]; exact HL.out)] at hfull
          have HC := Lib.hid hfull
          have HK2 := Lib.hid ((hown.lt w.heap.size rfl).2)
          clear hK hown hfull
          have hml : (l.map termB).length = k := by rw [List.length_map]; exact HL.out
          have hjl := joins_le (l.map termB) 2000001 (by
            intro z hz
            obtain ⟨x, hx, rfl⟩ := List.mem_map.1 hz
            exact termB_size (HF.out x hx).1 (HF.out x hx).2)
          rw [hml] at hjl
          have hpl : w.heap.size < wr.heap.size := HK2.out
          have J := Tryd.strings_Join w.heap.size 0 k (l.map termB) ⟨#[44]⟩ wr (row_cells HC.out) hpl (by rw [hml]; omega) (by rw [hml]; exact Nat.le_refl _) (Nat.le_trans hjl (by omega))
          rw [hml] at J
          have HJ := Lib.hid J
          clear J hjl hml hpl
          go_wp2_with (go_at_call 52; refine HJ.out.mono ?_; rintro e w2 ⟨rfl, k2⟩; have K2 := Lib.hid (show Kept wr w2 from k2); clear k2)
          go_ret
          exact ⟨ret_str (HE.out.trans (by unfold joinB; rw [List.map_map])).symm, HK.out.trans K2.out⟩

/-- textL: in words. -/
theorem selText_any (a : Option Addr) (len cap : Nat) (l : TL) (w : World) (hr : RowAt TermLay w a len l) (hf : ∀ x ∈ l, x.2.1.size ≤ 1000000 ∧ x.2.2.size ≤ 1000000) (hn : len ≤ 1000000) :
    Calls Tryd.prog 23 #[.slice a len cap] w fun e w' => e = .returned (.string (textL l)) ∧ Kept w w' := by
  have HJ := Lib.hid (joinT_any a len cap l w hr hf hn)
  clear hr hf hn
  go_enter Tryd.func23, Tryd.ntmps23
  go_wp2_with (go_at_call 38; refine HJ.out.mono ?_; rintro e w2 ⟨rfl, k2⟩)
  go_ret
  exact ⟨rfl, k2⟩

end Go.Proofs.YtmmjcomoabfmnaaDoor
