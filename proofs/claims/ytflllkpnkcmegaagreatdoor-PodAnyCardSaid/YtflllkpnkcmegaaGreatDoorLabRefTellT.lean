/- The reference's SelText. -/
import Derived.Test.YtflllkpnkcmegaaGreatDoorBase
import Derived.Test.YtflllkpnkcmegaaGreatDoorLab
import Derived.StillTailTactics
import Derived.Deep.RegionHeld3
namespace Go.Proofs.YtflllkpnkcmegaaGreatDoor
open Go.RowKit
set_option linter.unusedVariables false

set_option maxRecDepth 100000 in
set_option maxHeartbeats 4000000 in
theorem refSelText_any (a : Option Addr) (len cap : Nat) (l : TL) (w : World) (hr : RowAt TermLay w a len l) (hf : ∀ x ∈ l, x.2.1.size ≤ 1000000 ∧ x.2.2.size ≤ 1000000 ∧ 1 ≤ x.1 ∧ x.1 ≤ 4) (hlen : len ≤ 1000000) :
    Calls Tryz.prog 90 #[.slice a len cap] w fun e w' => e = .returned (.string (textL l)) ∧ Kept w w' := by
  have hl := hr.1
  obtain ⟨i0, hi, hz0, hz1, hz2'⟩ := info_parts strInfo
  have HF := Lib.hid hf
  have HJ := Lib.hid (show ∀ z ∈ l.map termB, z.size ≤ 2000001 by
    intro y hy
    obtain ⟨z, hz, rfl⟩ := List.mem_map.1 hy
    exact termB_size (HF.out z hz).1 (HF.out z hz).2.1)
  have HE := Lib.hid (show dashed (l.map termB) = textL l by
    unfold dashed textL
    by_cases h : l = []
    · subst h; rfl
    · rw [if_neg h, if_neg (by simpa using h)])
  clear hf
  have HR := Lib.hid hr
  have HL := Lib.hid hl
  have HFORM := Lib.hid hr.form
  clear hr hl
  go_enter Tryz.func90, Tryz.ntmps90
  go_wp2
  go_loopw [3, 4] (fun v i wr => ∃ k : Nat, k ≤ len ∧ i = .int .i64 k ∧ Own StrLay 9 wr w.heap.size v ((l.take k).map termB) ∧ Kept w wr) (fun _ i _ => len - (intOf i).toNat)
  case atStart => exact ⟨0, Nat.zero_le _, rfl, Own.nil _ _ _, Kept.refl _⟩
  case round =>
    obtain ⟨k, hk, rfl, ho, hB⟩ := hrel
    have HO := Lib.hid ho
    have HB := Lib.hid hB
    have HT := Lib.hid (show ((l.take k).map termB).length = k by rw [List.length_map, List.length_take, HL.out]; omega)
    have HOWN := Lib.hid (show wr.ownsRow w.heap.size 9 1 u3 k (rowCells StrLay ((l.take k).map termB)) by have := HO.out.1; rw [HT.out] at this; exact this)
    have hbs : w.heap.size ≤ wr.heap.size := hB.size
    by_cases hlt : k < len
    · obtain ⟨b, off, rfl⟩ : ∃ b off, a = some ⟨b, off, none⟩ := by
        rcases HFORM.out with h | h
        · omega
        · exact h
      obtain ⟨o, x, y, hx, hd, hb, ho9, hz, hz2, c0, c1, c2⟩ := (HR.out.kept hB).term hlt
      have hxs : x.size ≤ 1000000 := (HF.out _ (List.mem_of_getElem? hx)).1
      have hys : y.size ≤ 1000000 := (HF.out _ (List.mem_of_getElem? hx)).2.1
      have hos : 1 ≤ o ∧ o ≤ 4 := (HF.out _ (List.mem_of_getElem? hx)).2.2
      have HX := Lib.hid hx
      have hbw : b < w.heap.size := by obtain ⟨z, _, _, h, _⟩ := HR.out.cells hlt; exact h
      have HNE := Lib.hid (show u3.ownBlock ≠ some b by
        intro e
        have := (HOWN.out.lt b e).1
        omega)
      have hk1 : (k : Int) < (len : Int) := by omega
      clear ho hB hx hd hz hz2
      have hcase : o = 1 ∨ o = 2 ∨ o = 3 ∨ o = 4 := by omega
      have HZ := Lib.hid (show (termB (o, x, y)).size ≤ maxLen by have := termB_size (t := (o, x, y)) hxs hys; unfold maxLen; omega)
      clear hos ho9
      rcases hcase with rfl | rfl | rfl | rfl
      · have HFX := Lib.hid (show StrLay.fine (x ++ ⟨#[58]⟩ ++ y) from HZ.out)
        have adz : (⟨#[58]⟩ : ByteArray).size = 1 := rfl
        have ad1 : ∀ W, (Op.stringOp .add x (⟨#[58]⟩ : ByteArray)).run Tryz.prog W = .ok (.string (x ++ (⟨#[58]⟩ : ByteArray))) W := fun W => run_string_add_sum W _ _ (by omega)
        have ad2 : ∀ W, (Op.stringOp .add (x ++ (⟨#[58]⟩ : ByteArray)) y).run Tryz.prog W = .ok (.string (x ++ (⟨#[58]⟩ : ByteArray) ++ y)) W := fun W => run_string_add_sum W _ _ (by
          rw [ByteArray.size_append]
          omega)
        clear hxs hys adz
        go_wp2_with fail
        go_region_held3 (fun W => W.cell? ⟨b, off + k * 3 + 1, none⟩ = some (.string x) ∧ W.cell? ⟨b, off + k * 3 + 2, none⟩ = some (.string y))
          (first
            | go_keep
            | (go_split_ands
               refine ⟨?_, ?_⟩
               · (refine (hgrow.cell_far ⟨b, off + k * 3 + 1, none⟩ (by simp; omega) (Ne.symm HNE.out)).trans ?_; assumption)
               · (refine (hgrow.cell_far ⟨b, off + k * 3 + 2, none⟩ (by simp; omega) (Ne.symm HNE.out)).trans ?_; assumption)))
          ((refine step_append_lies _ (by rfl) _ _ _ (by rfl) w.heap.size 9 i0 _ 1 16 Tryz.underlying80 hi hz0 hz1 hz2' rfl (by decide) u3 k (rowCells StrLay ((l.take k).map termB)) (by rfl) ((HOWN.out.alloc _).drew) ⟨wr.heap.size, 0, none⟩ 1 1 [.string (x ++ (⟨#[58]⟩ : ByteArray) ++ y)] (by rfl) (by rfl) (World.news_of_block (cs := #[.string (x ++ (⟨#[58]⟩ : ByteArray) ++ y)]) (t := 9) (fr := (0, 0)) (heap_alloc_new wr _)) (one_s _) (by decide) (by unfold maxLen; omega) (by omega) (by simp; omega) (wr.heap.size + 1) (by simp) ?_; intro gg cap1 w3 hown1 hgrow hat hlt1))
        all_goals
          go_wp2
          go_roundw
          case rel =>
            refine ⟨k + 1, by omega, by go_num, ?_, (HB.out.trans ((kept_alloc wr (.cells #[.string (x ++ (⟨#[58]⟩ : ByteArray) ++ y)] 9)).trans (Kept.drewN _ 1))).grown hgrow (by simp; omega) (fun j hj => (HOWN.out.lt j hj).1)⟩
            rw [take_snoc HX.out, List.map_append]
            exact Own.snoc (x := x ++ (⟨#[58]⟩ : ByteArray) ++ y) hown1 (by rw [HT.out]) HO.out.2 HFX.out
          case measure => simp [intOf]; omega
      · have HFX := Lib.hid (show StrLay.fine (x ++ ⟨#[33]⟩ ++ y) from HZ.out)
        have adz : (⟨#[33]⟩ : ByteArray).size = 1 := rfl
        have ad1 : ∀ W, (Op.stringOp .add x (⟨#[33]⟩ : ByteArray)).run Tryz.prog W = .ok (.string (x ++ (⟨#[33]⟩ : ByteArray))) W := fun W => run_string_add_sum W _ _ (by omega)
        have ad2 : ∀ W, (Op.stringOp .add (x ++ (⟨#[33]⟩ : ByteArray)) y).run Tryz.prog W = .ok (.string (x ++ (⟨#[33]⟩ : ByteArray) ++ y)) W := fun W => run_string_add_sum W _ _ (by
          rw [ByteArray.size_append]
          omega)
        clear hxs hys adz
        go_wp2_with fail
        go_region_held3 (fun W => W.cell? ⟨b, off + k * 3 + 1, none⟩ = some (.string x) ∧ W.cell? ⟨b, off + k * 3 + 2, none⟩ = some (.string y))
          (first
            | go_keep
            | (go_split_ands
               refine ⟨?_, ?_⟩
               · (refine (hgrow.cell_far ⟨b, off + k * 3 + 1, none⟩ (by simp; omega) (Ne.symm HNE.out)).trans ?_; assumption)
               · (refine (hgrow.cell_far ⟨b, off + k * 3 + 2, none⟩ (by simp; omega) (Ne.symm HNE.out)).trans ?_; assumption)))
          ((refine step_append_lies _ (by rfl) _ _ _ (by rfl) w.heap.size 9 i0 _ 1 16 Tryz.underlying80 hi hz0 hz1 hz2' rfl (by decide) u3 k (rowCells StrLay ((l.take k).map termB)) (by rfl) ((HOWN.out.alloc _).drew) ⟨wr.heap.size, 0, none⟩ 1 1 [.string (x ++ (⟨#[33]⟩ : ByteArray) ++ y)] (by rfl) (by rfl) (World.news_of_block (cs := #[.string (x ++ (⟨#[33]⟩ : ByteArray) ++ y)]) (t := 9) (fr := (0, 0)) (heap_alloc_new wr _)) (one_s _) (by decide) (by unfold maxLen; omega) (by omega) (by simp; omega) (wr.heap.size + 1) (by simp) ?_; intro gg cap1 w3 hown1 hgrow hat hlt1))
        all_goals
          go_wp2
          go_roundw
          case rel =>
            refine ⟨k + 1, by omega, by go_num, ?_, (HB.out.trans ((kept_alloc wr (.cells #[.string (x ++ (⟨#[33]⟩ : ByteArray) ++ y)] 9)).trans (Kept.drewN _ 1))).grown hgrow (by simp; omega) (fun j hj => (HOWN.out.lt j hj).1)⟩
            rw [take_snoc HX.out, List.map_append]
            exact Own.snoc (x := x ++ (⟨#[33]⟩ : ByteArray) ++ y) hown1 (by rw [HT.out]) HO.out.2 HFX.out
          case measure => simp [intOf]; omega
      · have HFX := Lib.hid (show StrLay.fine x from HZ.out)
        go_wp2_with (at_builtin; refine wpList_append_lies _ rfl (.tmp 52) (.tmp 58) _ rfl w.heap.size 9 i0 _ 1 16 Tryz.underlying80 hi hz0 hz1 hz2' rfl (by decide) u3 k (rowCells StrLay ((l.take k).map termB)) rfl (HOWN.out.alloc _) ⟨wr.heap.size, 0, none⟩ 1 1 [.string (x)] rfl rfl (World.news_of_block (cs := #[.string (x)]) (t := 9) (fr := (0, 0)) (wr.alloc_heap_new _)) (one_s _) (by decide) (by unfold maxLen; omega) (by omega) (by rw [World.size_alloc]; omega) (wr.heap.size + 1) (World.size_alloc _ _) ?_; intro gg cap1 w21 hown1 hgrow hg hlt1; have HOWN1 := Lib.hid hown1; have K21 := Lib.hid ((HB.out.trans (kept_alloc wr (.cells #[.string (x)] 9))).grown hgrow (by rw [World.size_alloc]; omega) (fun k hk => (HOWN.out.lt k hk).1)); clear hown1 hgrow hg hlt1)
        go_roundw
        case rel =>
          refine ⟨k + 1, by omega, by go_num, ?_, K21.out⟩
          rw [take_snoc HX.out, List.map_append]
          exact Own.snoc (x := x) HOWN1.out (by rw [HT.out]) HO.out.2 HFX.out
        case measure => simp [intOf]; omega
      · have HFX := Lib.hid (show StrLay.fine ((⟨#[45]⟩ : ByteArray) ++ x) from HZ.out)
        go_wp2_with (at_builtin; refine wpList_append_lies _ rfl (.tmp 62) (.tmp 69) _ rfl w.heap.size 9 i0 _ 1 16 Tryz.underlying80 hi hz0 hz1 hz2' rfl (by decide) u3 k (rowCells StrLay ((l.take k).map termB)) rfl (HOWN.out.alloc _) ⟨wr.heap.size, 0, none⟩ 1 1 [.string ((⟨#[45]⟩ : ByteArray) ++ x)] rfl rfl (World.news_of_block (cs := #[.string ((⟨#[45]⟩ : ByteArray) ++ x)]) (t := 9) (fr := (0, 0)) (wr.alloc_heap_new _)) (one_s _) (by decide) (by unfold maxLen; omega) (by omega) (by rw [World.size_alloc]; omega) (wr.heap.size + 1) (World.size_alloc _ _) ?_; intro gg cap1 w21 hown1 hgrow hg hlt1; have HOWN1 := Lib.hid hown1; have K21 := Lib.hid ((HB.out.trans (kept_alloc wr (.cells #[.string ((⟨#[45]⟩ : ByteArray) ++ x)] 9))).grown hgrow (by rw [World.size_alloc]; omega) (fun k hk => (HOWN.out.lt k hk).1)); clear hown1 hgrow hg hlt1)
        go_roundw
        case rel =>
          refine ⟨k + 1, by omega, by go_num, ?_, K21.out⟩
          rw [take_snoc HX.out, List.map_append]
          exact Own.snoc (x := (⟨#[45]⟩ : ByteArray) ++ x) HOWN1.out (by rw [HT.out]) HO.out.2 HFX.out
        case measure => simp [intOf]; omega
    · have HK := Lib.hid (show l.take k = l from List.take_of_length_le (by rw [HL.out]; omega))
      rw [HK.out] at ho
      obtain ⟨av, cv, rfl, h1, h2, h3⟩ := ho.at_
      obtain ⟨n, hn⟩ : ∃ n, (l.map termB).length = n := ⟨_, rfl⟩
      rw [hn] at h3 ⊢
      have HC := Lib.hid (refJoined_any av n cv (l.map termB) wr h3 HJ.out (by rw [← hn, List.length_map, HL.out]; exact hlen))
      clear ho hB h1 h2 h3 hn
      go_wp2_with fail
      refine HC.out.mono ?_
      rintro e w2 ⟨rfl, rfl⟩
      go_wp2
      go_ret
      exact ⟨ret_str HE.out, HB.out⟩

theorem refSelTextR {v : Value} {l : TL} {w : World} (h : Reads TermLay w v l) (hf : ∀ x ∈ l, x.2.1.size ≤ 1000000 ∧ x.2.2.size ≤ 1000000 ∧ 1 ≤ x.1 ∧ x.1 ≤ 4) (hlen : l.length ≤ 1000000) :
    Calls Tryz.prog 90 #[v] w (Say (.string (textL l)) w) := by
  obtain ⟨a, cap, rfl, _, _, hr⟩ := h
  exact refSelText_any a _ cap l w hr hf hlen

end Go.Proofs.YtflllkpnkcmegaaGreatDoor
