/- Taints, tolerations joined: TolText. -/
import Derived.Test.YthlhaefaafjmlaaDoorTaTell
namespace Go.Proofs.YthlhaefaafjmlaaDoor
open Go.RowKit
set_option linter.unusedVariables false

def textO (l : NL) : ByteArray := if l = [] then ⟨#[45]⟩ else joinB (l.map tolB)

set_option maxHeartbeats 1600000 in
theorem joinO_any (a : Option Addr) (len cap : Nat) (l : NL) (w : World) (hr : RowAt TaLay w a len l) (hf : ∀ x ∈ l, x.1.size ≤ 900000 ∧ x.2.1.size ≤ 900000) (hn : len ≤ 1000000) :
    Calls Tryd.prog 40 #[.slice a len cap, .func (.func 41) #[] #[]] w fun e w' => e = .returned (.string (textO l)) ∧ Kept w w' := by
  have hl := hr.1
  rcases hr.form with h0 | ⟨b, off, rfl⟩
  · subst h0
    have HE := Lib.hid (show textO l = ⟨#[45]⟩ by unfold textO; rw [if_pos (List.eq_nil_of_length_eq_zero hl)])
    clear hr hl hf
    go_enter Tryd.func40, Tryd.ntmps40
    go_wp2
    go_ret
    exact ⟨ret_str HE.out.symm, Kept.refl _⟩
  · by_cases h0 : len = 0
    · subst h0
      have HE := Lib.hid (show textO l = ⟨#[45]⟩ by unfold textO; rw [if_pos (List.eq_nil_of_length_eq_zero hl)])
      clear hr hl hf
      go_enter Tryd.func40, Tryd.ntmps40
      go_wp2
      go_ret
      exact ⟨ret_str HE.out.symm, Kept.refl _⟩
    · have h0' : ((len : Int) == 0) = false := by
        have : (len : Int) ≠ 0 := by omega
        simpa using this
      have HE := Lib.hid (show textO l = joinB (l.map tolB) by unfold textO; rw [if_neg (by intro e; rw [e] at hl; simp at hl; omega)])
      have HR := Lib.hid hr
      have HL := Lib.hid hl
      have HF := Lib.hid hf
      have HN := Lib.hid h0
      obtain ⟨i0, hi, hz0, hz1, hz2⟩ := info_parts strInfo
      have hib : i0.bytes * len ≤ 281474976710656 := by rw [hz2]; omega
      have hlm : len ≤ maxLen := by unfold maxLen; omega
      clear hr hl hf h0
      go_enter Tryd.func40, Tryd.ntmps40
      go_wp2_with (refine wpList_make_full _ rfl (.tmp 12) (.tmp 12) _ rfl w.heap.size 9 i0 _ 1 Tryd.underlying67 hi hz0 hz1 .i64 .i64 len len len rfl rfl rfl rfl hib hlm (Nat.le_refl _) ?_; intro w1 own1 grow1; rw [made_strings, ← fills_zero (l.map tolB)] at own1; have O1 := Lib.hid own1; have K1 := Lib.hid (show Kept w w1 from (Below.refl _ w).grown grow1 (Nat.le_refl _) (fun k hk => by cases hk)); have hp1 := (own1.lt w.heap.size rfl).2; clear own1 grow1)
      go_loopw [16] (fun i wr => ∃ k : Nat, k ≤ len ∧ i = .int .i64 k ∧ wr.ownsRow w.heap.size 9 1 (.slice (some ⟨w.heap.size, 0, none⟩) len len) len (fills (l.map tolB) len k) ∧ Kept w wr) (fun i _ => len - (intOf i).toNat)
      case atStart => exact ⟨0, Nat.zero_le _, rfl, O1.out, K1.out⟩
      case round =>
        obtain ⟨k, hk, rfl, hown, hK⟩ := hrel
        by_cases hlt : k < len
        · obtain ⟨x, y, m, hx, hd, hb, hz, hz2, c1, c2, c3⟩ := (HR.out.kept hK).tri hlt
          clear hz hz2
          have hz := show x.size ≤ 900000 from (HF.out _ (List.mem_of_getElem? hx)).1
          have hz2 := show y.size ≤ 900000 from (HF.out _ (List.mem_of_getElem? hx)).2
          have HX := Lib.hid (show (l.map tolB)[k]? = some (tolB (x, y, m)) by rw [List.getElem?_map, hx]; rfl)
          have HK := Lib.hid hK
          have HO := Lib.hid hown
          clear hK hx hd hown
          go_wp2_with (go_at_call 41; refine (tolText_any x y m _ hz hz2).mono ?_; rintro e w2 ⟨rfl, k2⟩; have K2 := Lib.hid k2; have O2 := Lib.hid (ownsRow_kept HO.out ((kept_alloc wr _).trans k2)); clear k2; have z2 := O2.out.frozenAt k; have q2 := row_at O2.out (fills_at (by rw [List.length_map]; exact HL.out) hlt))
          go_roundw
          case rel =>
            refine ⟨k + 1, by omega, by go_num, ?_, ?_⟩
            · have := (O2.out.stored k (.string (tolB (x, y, m)))).1
              rw [fills_set (by rw [List.length_map]; exact HL.out) HX.out] at this
              exact this
            · exact Below.setCell (HK.out.trans ((kept_alloc _ _).trans K2.out)) (p := ⟨w.heap.size, k, none⟩) (Nat.le_refl _) _
          case measure => simp [intOf]; omega
        · have HK := Lib.hid hK
          obtain rfl : k = len := by omega
          have hfull := hown
          rw [fills_all (by rw [List.length_map]; exact HL.out)] at hfull
          have HC := Lib.hid hfull
          have HK2 := Lib.hid ((hown.lt w.heap.size rfl).2)
          clear hK hown hfull
          have hml : (l.map tolB).length = k := by rw [List.length_map]; exact HL.out
          have hjl := joins_le (l.map tolB) 2000001 (by
            intro z hz
            obtain ⟨x, hx, rfl⟩ := List.mem_map.1 hz
            exact tolB_size (HF.out x hx).1 (HF.out x hx).2)
          rw [hml] at hjl
          have hpl : w.heap.size < wr.heap.size := HK2.out
          have J := Tryd.strings_Join w.heap.size 0 k (l.map tolB) ⟨#[44]⟩ wr (row_cells HC.out) hpl (by rw [hml]; omega) (by rw [hml]; exact Nat.le_refl _) (Nat.le_trans hjl (by omega))
          rw [hml] at J
          have HJ := Lib.hid J
          clear J hjl hml hpl
          go_wp2_with (go_at_call 57; refine HJ.out.mono ?_; rintro e w2 ⟨rfl, k2⟩; have K2 := Lib.hid (show Kept wr w2 from k2); clear k2)
          go_ret
          exact ⟨ret_str (HE.out.trans (by unfold joinB; rw [List.map_map])).symm, HK.out.trans K2.out⟩

/-- textO: in words. -/
theorem textO_any (a : Option Addr) (len cap : Nat) (l : NL) (w : World) (hr : RowAt TaLay w a len l) (hf : ∀ x ∈ l, x.1.size ≤ 900000 ∧ x.2.1.size ≤ 900000) (hn : len ≤ 1000000) :
    Calls Tryd.prog 23 #[.slice a len cap] w fun e w' => e = .returned (.string (textO l)) ∧ Kept w w' := by
  have HJ := Lib.hid (joinO_any a len cap l w hr hf hn)
  clear hr hf hn
  go_enter Tryd.func23, Tryd.ntmps23
  go_wp2_with (go_at_call 40; refine HJ.out.mono ?_; rintro e w2 ⟨rfl, k2⟩)
  go_ret
  exact ⟨rfl, k2⟩


end Go.Proofs.YthlhaefaafjmlaaDoor
