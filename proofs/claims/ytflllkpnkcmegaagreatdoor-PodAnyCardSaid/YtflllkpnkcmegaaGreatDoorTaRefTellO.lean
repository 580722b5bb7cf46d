/- The reference's TolText. -/
import Derived.Test.YtflllkpnkcmegaaGreatDoorBase
import Derived.Test.YtflllkpnkcmegaaGreatDoorTai
import Derived.StillTailTactics
import Derived.Deep.RegionHeld3
namespace Go.Proofs.YtflllkpnkcmegaaGreatDoor
open Go.RowKit
set_option linter.unusedVariables false

set_option maxRecDepth 100000 in
set_option maxHeartbeats 4000000 in
theorem refTextO_any (a : Option Addr) (len cap : Nat) (l : NL) (w : World) (hr : RowAt TaLay w a len l) (hf : ∀ x ∈ l, x.1.size ≤ 900000 ∧ x.2.1.size ≤ 900000) (hlen : len ≤ 1000000) :
    Calls Tryz.prog 91 #[.slice a len cap] w fun e w' => e = .returned (.string (textO l)) ∧ Kept w w' := by
  have hl := hr.1
  obtain ⟨i0, hi, hz0, hz1, hz2'⟩ := info_parts strInfo
  have HF := Lib.hid hf
  have HJ := Lib.hid (show ∀ z ∈ l.map tolB, z.size ≤ 2000001 by
    intro y hy
    obtain ⟨z, hz, rfl⟩ := List.mem_map.1 hy
    exact tolB_size (HF.out z hz).1 (HF.out z hz).2)
  have HE := Lib.hid (show dashed (l.map tolB) = textO l by
    unfold dashed textO
    by_cases h : l = []
    · subst h; rfl
    · rw [if_neg h, if_neg (by simpa using h)])
  clear hf
  have HR := Lib.hid hr
  have HL := Lib.hid hl
  have HFORM := Lib.hid hr.form
  clear hr hl
  go_enter Tryz.func91, Tryz.ntmps91
  go_wp2
  go_loopw [3, 4] (fun v i wr => ∃ k : Nat, k ≤ len ∧ i = .int .i64 k ∧ Own StrLay 9 wr w.heap.size v ((l.take k).map tolB) ∧ Kept w wr) (fun _ i _ => len - (intOf i).toNat)
  case atStart => exact ⟨0, Nat.zero_le _, rfl, Own.nil _ _ _, Kept.refl _⟩
  case round =>
    obtain ⟨k, hk, rfl, ho, hB⟩ := hrel
    have HO := Lib.hid ho
    have HB := Lib.hid hB
    have HT := Lib.hid (show ((l.take k).map tolB).length = k by rw [List.length_map, List.length_take, HL.out]; omega)
    have HOWN := Lib.hid (show wr.ownsRow w.heap.size 9 1 u3 k (rowCells StrLay ((l.take k).map tolB)) by have := HO.out.1; rw [HT.out] at this; exact this)
    have hbs : w.heap.size ≤ wr.heap.size := hB.size
    by_cases hlt : k < len
    · obtain ⟨b, off, rfl⟩ : ∃ b off, a = some ⟨b, off, none⟩ := by
        rcases HFORM.out with h | h
        · omega
        · exact h
      obtain ⟨x, y, m, hx, hd, hb, hz, hz2, c1, c2, c3⟩ := (HR.out.kept hB).tri hlt
      have hxs : x.size ≤ 900000 := (HF.out _ (List.mem_of_getElem? hx)).1
      have hys : y.size ≤ 900000 := (HF.out _ (List.mem_of_getElem? hx)).2
      have HX := Lib.hid hx
      have hk1 : (k : Int) < (len : Int) := by omega
      have adz : (⟨#[58]⟩ : ByteArray).size = 1 := rfl
      have adz' : (⟨#[33]⟩ : ByteArray).size = 1 := rfl
      have adz2 : (⟨#[42]⟩ : ByteArray).size = 1 := rfl
      clear ho hB hx hd hz hz2
      obtain ⟨q, hq⟩ : ∃ q, (x.toList == ([] : List UInt8)) = q := ⟨_, rfl⟩
      have ad1 : ∀ W, (Op.stringOp .add x (⟨#[58]⟩ : ByteArray)).run Tryz.prog W = .ok (.string (x ++ (⟨#[58]⟩ : ByteArray))) W := fun W => run_string_add_sum W _ _ (by omega)
      have ad2 : ∀ W, (Op.stringOp .add (x ++ (⟨#[58]⟩ : ByteArray)) y).run Tryz.prog W = .ok (.string (x ++ (⟨#[58]⟩ : ByteArray) ++ y)) W := fun W => run_string_add_sum W _ _ (by
        rw [ByteArray.size_append]
        omega)
      have ad3 : ∀ W, (Op.stringOp .add (⟨#[42]⟩ : ByteArray) (⟨#[58]⟩ : ByteArray)).run Tryz.prog W = .ok (.string ((⟨#[42]⟩ : ByteArray) ++ (⟨#[58]⟩ : ByteArray))) W := fun W => run_string_add_sum W _ _ (by omega)
      have ad4 : ∀ W, (Op.stringOp .add ((⟨#[42]⟩ : ByteArray) ++ (⟨#[58]⟩ : ByteArray)) y).run Tryz.prog W = .ok (.string ((⟨#[42]⟩ : ByteArray) ++ (⟨#[58]⟩ : ByteArray) ++ y)) W := fun W => run_string_add_sum W _ _ (by
        rw [ByteArray.size_append]
        omega)
      have HG := Lib.hid (show ∀ m, tolB (x, y, m) = if m = true then (if q = true then ⟨#[42]⟩ else x) else (if q = true then ⟨#[42]⟩ else x) ++ ⟨#[58]⟩ ++ y by
        intro m; unfold tolB starB; rw [no_iff, hq])
      cases q with
      | true =>
        cases m with
        | true =>
          have HV := Lib.hid (show tolB (x, y, true) = (⟨#[42]⟩ : ByteArray) from HG.out true)
          have HFX := Lib.hid (show StrLay.fine ((⟨#[42]⟩ : ByteArray)) by show ((⟨#[42]⟩ : ByteArray)).size ≤ maxLen; rw [← HV.out]; have := tolB_size (x := (x, y, true)) hxs hys; unfold maxLen; omega)
          have OQ := HOWN
          have KQ := HB
          have hqs : wr.heap.size = wr.heap.size := rfl
          go_wp2_with (at_builtin; refine wpList_append_lies _ rfl (.tmp 33) (.tmp 35) _ rfl w.heap.size 9 i0 _ 1 16 Tryz.underlying80 hi hz0 hz1 hz2' rfl (by decide) u3 k (rowCells StrLay ((l.take k).map tolB)) rfl (OQ.out.alloc _) ⟨wr.heap.size, 0, none⟩ 1 1 [.string ((⟨#[42]⟩ : ByteArray))] rfl rfl (World.news_of_block (cs := #[.string ((⟨#[42]⟩ : ByteArray))]) (t := 9) (fr := (0, 0)) (wr.alloc_heap_new _)) (one_s _) (by decide) (by unfold maxLen; omega) (by omega) (by rw [World.size_alloc]; omega) (wr.heap.size + 1) (World.size_alloc _ _) ?_; intro gg cap1 w3 hown1 hgrow hg hlt1; have HOWN1 := Lib.hid hown1; have K3 := Lib.hid ((KQ.out.trans (kept_alloc wr (.cells #[.string ((⟨#[42]⟩ : ByteArray))] 9))).grown hgrow (by rw [World.size_alloc]; omega) (fun j hj => (OQ.out.lt j hj).1)); clear hown1 hgrow hg hlt1)
          go_roundw
          case rel =>
            refine ⟨k + 1, by omega, by go_num, ?_, K3.out⟩
            rw [take_snoc HX.out, List.map_append]
            exact Own.snoc (x := tolB (x, y, true)) (by show w3.ownsRow _ _ _ _ _ (_ ++ [Value.string (tolB (x, y, true))]); rw [HV.out]; exact HOWN1.out) (by rw [HT.out]) HO.out.2 (by rw [HV.out]; exact HFX.out)
          case measure => simp [intOf]; omega
        | false =>
          have HV := Lib.hid (show tolB (x, y, false) = (⟨#[42]⟩ : ByteArray) ++ (⟨#[58]⟩ : ByteArray) ++ y from HG.out false)
          have HFX := Lib.hid (show StrLay.fine ((⟨#[42]⟩ : ByteArray) ++ (⟨#[58]⟩ : ByteArray) ++ y) by show ((⟨#[42]⟩ : ByteArray) ++ (⟨#[58]⟩ : ByteArray) ++ y).size ≤ maxLen; rw [← HV.out]; have := tolB_size (x := (x, y, false)) hxs hys; unfold maxLen; omega)
          have OQ := HOWN
          have KQ := HB
          have hqs : wr.heap.size = wr.heap.size := rfl
          go_wp2_with (at_builtin; refine wpList_append_lies _ rfl (.tmp 33) (.tmp 35) _ rfl w.heap.size 9 i0 _ 1 16 Tryz.underlying80 hi hz0 hz1 hz2' rfl (by decide) u3 k (rowCells StrLay ((l.take k).map tolB)) rfl (OQ.out.alloc _) ⟨wr.heap.size, 0, none⟩ 1 1 [.string ((⟨#[42]⟩ : ByteArray) ++ (⟨#[58]⟩ : ByteArray) ++ y)] rfl rfl (World.news_of_block (cs := #[.string ((⟨#[42]⟩ : ByteArray) ++ (⟨#[58]⟩ : ByteArray) ++ y)]) (t := 9) (fr := (0, 0)) (wr.alloc_heap_new _)) (one_s _) (by decide) (by unfold maxLen; omega) (by omega) (by rw [World.size_alloc]; omega) (wr.heap.size + 1) (World.size_alloc _ _) ?_; intro gg cap1 w3 hown1 hgrow hg hlt1; have HOWN1 := Lib.hid hown1; have K3 := Lib.hid ((KQ.out.trans (kept_alloc wr (.cells #[.string ((⟨#[42]⟩ : ByteArray) ++ (⟨#[58]⟩ : ByteArray) ++ y)] 9))).grown hgrow (by rw [World.size_alloc]; omega) (fun j hj => (OQ.out.lt j hj).1)); clear hown1 hgrow hg hlt1)
          go_roundw
          case rel =>
            refine ⟨k + 1, by omega, by go_num, ?_, K3.out⟩
            rw [take_snoc HX.out, List.map_append]
            exact Own.snoc (x := tolB (x, y, false)) (by show w3.ownsRow _ _ _ _ _ (_ ++ [Value.string (tolB (x, y, false))]); rw [HV.out]; exact HOWN1.out) (by rw [HT.out]) HO.out.2 (by rw [HV.out]; exact HFX.out)
          case measure => simp [intOf]; omega
      | false =>
        cases m with
        | true =>
          have HV := Lib.hid (show tolB (x, y, true) = x from HG.out true)
          have HFX := Lib.hid (show StrLay.fine (x) by show (x).size ≤ maxLen; rw [← HV.out]; have := tolB_size (x := (x, y, true)) hxs hys; unfold maxLen; omega)
          have OQ := HOWN
          have KQ := HB
          have hqs : wr.heap.size = wr.heap.size := rfl
          go_wp2_with (at_builtin; refine wpList_append_lies _ rfl (.tmp 33) (.tmp 35) _ rfl w.heap.size 9 i0 _ 1 16 Tryz.underlying80 hi hz0 hz1 hz2' rfl (by decide) u3 k (rowCells StrLay ((l.take k).map tolB)) rfl (OQ.out.alloc _) ⟨wr.heap.size, 0, none⟩ 1 1 [.string (x)] rfl rfl (World.news_of_block (cs := #[.string (x)]) (t := 9) (fr := (0, 0)) (wr.alloc_heap_new _)) (one_s _) (by decide) (by unfold maxLen; omega) (by omega) (by rw [World.size_alloc]; omega) (wr.heap.size + 1) (World.size_alloc _ _) ?_; intro gg cap1 w3 hown1 hgrow hg hlt1; have HOWN1 := Lib.hid hown1; have K3 := Lib.hid ((KQ.out.trans (kept_alloc wr (.cells #[.string (x)] 9))).grown hgrow (by rw [World.size_alloc]; omega) (fun j hj => (OQ.out.lt j hj).1)); clear hown1 hgrow hg hlt1)
          go_roundw
          case rel =>
            refine ⟨k + 1, by omega, by go_num, ?_, K3.out⟩
            rw [take_snoc HX.out, List.map_append]
            exact Own.snoc (x := tolB (x, y, true)) (by show w3.ownsRow _ _ _ _ _ (_ ++ [Value.string (tolB (x, y, true))]); rw [HV.out]; exact HOWN1.out) (by rw [HT.out]) HO.out.2 (by rw [HV.out]; exact HFX.out)
          case measure => simp [intOf]; omega
        | false =>
          have HV := Lib.hid (show tolB (x, y, false) = x ++ (⟨#[58]⟩ : ByteArray) ++ y from HG.out false)
          have HFX := Lib.hid (show StrLay.fine (x ++ (⟨#[58]⟩ : ByteArray) ++ y) by show (x ++ (⟨#[58]⟩ : ByteArray) ++ y).size ≤ maxLen; rw [← HV.out]; have := tolB_size (x := (x, y, false)) hxs hys; unfold maxLen; omega)
          have OQ := HOWN
          have KQ := HB
          have hqs : wr.heap.size = wr.heap.size := rfl
          go_wp2_with (at_builtin; refine wpList_append_lies _ rfl (.tmp 33) (.tmp 35) _ rfl w.heap.size 9 i0 _ 1 16 Tryz.underlying80 hi hz0 hz1 hz2' rfl (by decide) u3 k (rowCells StrLay ((l.take k).map tolB)) rfl (OQ.out.alloc _) ⟨wr.heap.size, 0, none⟩ 1 1 [.string (x ++ (⟨#[58]⟩ : ByteArray) ++ y)] rfl rfl (World.news_of_block (cs := #[.string (x ++ (⟨#[58]⟩ : ByteArray) ++ y)]) (t := 9) (fr := (0, 0)) (wr.alloc_heap_new _)) (one_s _) (by decide) (by unfold maxLen; omega) (by omega) (by rw [World.size_alloc]; omega) (wr.heap.size + 1) (World.size_alloc _ _) ?_; intro gg cap1 w3 hown1 hgrow hg hlt1; have HOWN1 := Lib.hid hown1; have K3 := Lib.hid ((KQ.out.trans (kept_alloc wr (.cells #[.string (x ++ (⟨#[58]⟩ : ByteArray) ++ y)] 9))).grown hgrow (by rw [World.size_alloc]; omega) (fun j hj => (OQ.out.lt j hj).1)); clear hown1 hgrow hg hlt1)
          go_roundw
          case rel =>
            refine ⟨k + 1, by omega, by go_num, ?_, K3.out⟩
            rw [take_snoc HX.out, List.map_append]
            exact Own.snoc (x := tolB (x, y, false)) (by show w3.ownsRow _ _ _ _ _ (_ ++ [Value.string (tolB (x, y, false))]); rw [HV.out]; exact HOWN1.out) (by rw [HT.out]) HO.out.2 (by rw [HV.out]; exact HFX.out)
          case measure => simp [intOf]; omega
    · have HK := Lib.hid (show l.take k = l from List.take_of_length_le (by rw [HL.out]; omega))
      rw [HK.out] at ho
      obtain ⟨av, cv, rfl, h1, h2, h3⟩ := ho.at_
      obtain ⟨n, hn⟩ : ∃ n, (l.map tolB).length = n := ⟨_, rfl⟩
      rw [hn] at h3 ⊢
      have HC := Lib.hid (refJoined_any av n cv (l.map tolB) wr h3 HJ.out (by rw [← hn, List.length_map, HL.out]; exact hlen))
      clear ho hB h1 h2 h3 hn
      go_wp2_with fail
      refine HC.out.mono ?_
      rintro e w2 ⟨rfl, rfl⟩
      go_wp2
      go_ret
      exact ⟨ret_str HE.out, HB.out⟩

theorem refTextOR {v : Value} {l : NL} {w : World} (h : Reads TaLay w v l) (hf : ∀ x ∈ l, x.1.size ≤ 900000 ∧ x.2.1.size ≤ 900000) (hlen : l.length ≤ 1000000) :
    Calls Tryz.prog 91 #[v] w (Say (.string (textO l)) w) := by
  obtain ⟨a, cap, rfl, _, _, hr⟩ := h
  exact refTextO_any a _ cap l w hr hf hlen

end Go.Proofs.YtflllkpnkcmegaaGreatDoor
