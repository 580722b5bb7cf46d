/- LabelMore: the walk. -/
import Derived.Test.YtmmjcomoabfmnaaDoorLabelTermsW
import Derived.Test.YtmmjcomoabfmnaaDoorLabApp
import Derived.Test.YtmmjcomoabfmnaaDoorLabIns
import Derived.StillTailTactics
import Derived.Deep.RegionHeld3
import Derived.Deep.CutRange
namespace Go.Proofs.YtmmjcomoabfmnaaDoor
open Go.RowKit
set_option linter.unusedVariables false

theorem Reads.row {α : Type} {L : Lay α} {w : World} {a : Option Addr} {n c : Nat} {l : List α} (h : Reads L w (.slice a n c) l) : RowAt L w a n l := by
  obtain ⟨a', c', e, _, _, h3⟩ := h
  injection e with e1 e2 e3
  subst e1; subst e2
  exact h3
theorem own_ins {e : TypeId} {w : World} {base n k : Nat} {v : Value} {s : PL} {key val : ByteArray} (h : w.ownsRow base e 2 v n (rowCells PairLay (s.take k) ++ [.string key, .string val] ++ rowCells PairLay (s.drop k))) (hn : n = (insP s k (key, val)).length) (hf : ∀ x ∈ s, PairLay.fine x) (hx : PairLay.fine (key, val)) :
    Own PairLay e w base v (insP s k (key, val)) := by
  refine ⟨?_, fun z hz => ?_⟩
  · rw [← hn]
    unfold insP
    rw [rowCells_append, rowCells_append]
    exact h
  · unfold insP at hz
    simp only [List.mem_append, List.mem_singleton] at hz
    rcases hz with (hz | rfl) | hz
    · exact hf z (List.mem_of_mem_take hz)
    · exact hx
    · exact hf z (List.mem_of_mem_drop hz)
theorem ins_len {s : PL} {k : Nat} {x : ByteArray × ByteArray} (hk : k ≤ s.length) : k + 1 + (s.length - k) = (insP s k x).length := by
  unfold insP
  simp only [List.length_append, List.length_take, List.length_drop, List.length_cons, List.length_nil]
  omega
theorem RowAt.pre {α : Type} {L : Lay α} {w : World} {b off len : Nat} {l : List α} {k : Nat} (h : RowAt L w (some ⟨b, off, none⟩) len l) (hk : k ≤ l.length) : RowAt L w (some ⟨b, off, none⟩) k (l.take k) := by
  have := h.part 0 k (by have := h.1; omega)
  simpa using this
theorem RowAt.post {α : Type} {L : Lay α} {w : World} {b off len : Nat} {l : List α} {k : Nat} (h : RowAt L w (some ⟨b, off, none⟩) len l) (hk : k ≤ l.length) : RowAt L w (some ⟨b, off + k * L.m, none⟩) (l.length - k) (l.drop k) := by
  have := h.part k (l.length - k) (by have := h.1; omega)
  rw [List.take_of_length_le (by rw [List.length_drop]; omega)] at this
  exact this
theorem row_take {α : Type} {L : Lay α} {l : List α} {k : Nat} (hk : k ≤ l.length) : (rowCells L (l.take k)).length = k * L.m := by rw [rowCells_length, List.length_take, Nat.min_eq_left hk]
theorem row_drop {α : Type} {L : Lay α} {l : List α} {k : Nat} (hk : k ≤ l.length) : (rowCells L (l.drop k)).length = (l.length - k) * L.m := by rw [rowCells_length, List.length_drop]
theorem small_bounds {n : Nat} (h : n ≤ 100) : n ≤ maxLen ∧ (n + n / 4 + 192) * 32 ≤ 281474976710656 := by
  refine ⟨?_, by omega⟩
  unfold maxLen; omega
theorem more_bounds {n : Nat} (h : n * 40 ≤ 140737488351232) : (0 + n ≤ maxLen ∧ ((0 + n) + (0 + n) / 4 + 192) * 40 ≤ 281474976710656) ∧ (n + 1 ≤ maxLen ∧ ((n + 1) + (n + 1) / 4 + 192) * 40 ≤ 281474976710656) := by
  have h1 : n ≤ 3518437208780 := by omega
  clear h
  refine ⟨⟨?_, ?_⟩, ?_, ?_⟩
  · unfold maxLen; omega
  · omega
  · unfold maxLen; omega
  · omega

set_option maxRecDepth 100000 in
set_option maxHeartbeats 8000000 in
theorem LabelMore_walk (v0 : Value) (s : PL) (v1 : Value) (l : TL) (t : Int × ByteArray × ByteArray) (key val : ByteArray) (w : World) (hE : Env w) (r0 : Reads PairLay w v0 s) (r1 : Reads TermLay w v1 l) (ht : TermLay.fine t) (hk : key.size ≤ maxLen) (hv : val.size ≤ maxLen)
    (hlen : l.length * 40 ≤ 140737488351232) :
    Calls Tryd.prog 6 #[v0, v1, TV t.1 t.2.1 t.2.2, .string key, .string val] w fun e w' => e = .returned (.bool true) ∧ Kept w w' := by
  obtain ⟨a0, cap0, rfl, hc0, hm0, q0⟩ := id r0
  obtain ⟨a1, cap1, rfl, hc1, hm1, q1⟩ := id r1
  obtain ⟨o, x, y⟩ := t
  obtain ⟨n, hn⟩ : ∃ n, l.length = n := ⟨_, rfl⟩
  rw [hn] at q1 hlen r1 ⊢
  have HN := Lib.hid hn
  have HK := Lib.hid (known_any (w.alloc (.cells #[.int .i64 o, .string x, .string y] 60)) (hE.kept (kept_alloc _ _)))
  have HFT := Lib.hid ht
  have HRW := Lib.hid q1
  have R0 := Lib.hid r0
  have R1 := Lib.hid r1
  have HKY := Lib.hid hk
  have HVL := Lib.hid hv
  have HC0 := Lib.hid hc0
  have HM0 := Lib.hid hm0
  clear hE r0 r1 q0 q1 ht hn hc1 hm1 hk hv hc0 hm0
  show Calls Tryd.prog 6 #[.slice a0 s.length cap0, .slice a1 n cap1, TV o x y, .string key, .string val] w _
  go_enter Tryd.func6, Tryd.ntmps6
  go_wp2_with fail
  refine HK.out.mono ?_
  rintro e w1 ⟨rfl, k⟩
  have K := Lib.hid ((kept_alloc w _).trans k)
  have c0 := cell_later k (show (w.alloc (.cells #[.int .i64 o, .string x, .string y] 60)).cell? ⟨w.heap.size, 0, none⟩ = some (.int .i64 o) by go_simp)
  have c1 := cell_later k (show (w.alloc (.cells #[.int .i64 o, .string x, .string y] 60)).cell? ⟨w.heap.size, 1, none⟩ = some (.string x) by go_simp)
  have c2 := cell_later k (show (w.alloc (.cells #[.int .i64 o, .string x, .string y] 60)).cell? ⟨w.heap.size, 2, none⟩ = some (.string y) by go_simp)
  have hbx : w.heap.size < w1.heap.size := by have := k.size; rw [World.size_alloc] at this; omega
  clear k
  have R0 := Lib.hid (R0.out.kept K.out)
  have R1 := Lib.hid (R1.out.kept K.out)
  have HRW := Lib.hid (HRW.out.kept K.out)
  have HBD := Lib.hid (more_bounds hlen)
  have hrl : (rowCells TermLay l).length = n * 3 := (rowCells_length TermLay l).trans (by rw [HN.out]; rfl)
  clear hlen
  go_wp2_with fail
  go_cut [11] from 23 to 28 (fun s11 wx => ∃ g cap, s11 = .slice (some ⟨g, 0, none⟩) (n + 1) cap ∧ Hid (n + 1 ≤ cap ∧ Reads TermLay wx (.slice (some ⟨g, 0, none⟩) (n + 1) cap) (l ++ [(o, x, y)]) ∧ Kept w1 wx))
  case first =>
    have rs : ∀ W, Below w1.heap.size w1 W → Below w1.heap.size w1 W ∧ W.cell? ⟨w.heap.size, 0, none⟩ = some (.int .i64 o) ∧ W.cell? ⟨w.heap.size, 1, none⟩ = some (.string x) ∧ W.cell? ⟨w.heap.size, 2, none⟩ = some (.string y) := fun W hW => ⟨hW, cell_later hW c0, cell_later hW c1, cell_later hW c2⟩
    have S1 := rs _ (Kept.drew w1)
    clear c0 c1 c2
    go_region_held3 (fun W => Below w1.heap.size w1 W ∧ W.cell? ⟨w.heap.size, 0, none⟩ = some (.int .i64 o) ∧ W.cell? ⟨w.heap.size, 1, none⟩ = some (.string x) ∧ W.cell? ⟨w.heap.size, 2, none⟩ = some (.string y)) (first | exact S1 | assumption | exact rs _ (Below.alloc (And.left (by assumption)) (Below.size (And.left (by assumption))) _) | exact rs _ (Below.trans (And.left (by assumption)) (by assumption)))
      (first
        | (refine step_app_own kindTerm _ rfl (.tmp 23) (.tmp 24) rfl w1.heap.size ?_ _ 0 0 [] rfl ?_ _ n (rowCells TermLay l) rfl hrl (rowCells_one _ _) ?_ HBD.out.1.1 HBD.out.1.2 ?_
           · exact Below.size (And.left (by assumption))
           · first | exact own_empty w1 _ _ _ (Nat.le_refl _) | exact own_alloc (own_empty w1 _ _ _ (Nat.le_refl _)) _ | exact own_empty_at (w1.alloc _) _ _ _ (Nat.le_trans (Nat.le_refl _) (by simp)) _ (by simp)
           · exact RowAt.src (HRW.out.kept (And.left (by assumption)))
           rintro gb1 kb1 W1 ho1 hd1 hg1
           simp only [Nat.zero_add, List.nil_append] at ho1 ⊢
           have hS1 := rs _ (Below.trans (And.left (by assumption)) hd1))
        | (refine step_app_own kindTerm _ rfl (.tmp 25) (.tmp 27) rfl w1.heap.size ?_ _ n _ (rowCells TermLay l) rfl ?_ _ 1 [.int .i64 o, .string x, .string y] rfl rfl (one_iss o x y) ?_ HBD.out.2.1 HBD.out.2.2 ?_
           · exact Below.size (And.left (by assumption))
           · first | exact ho1 | exact own_alloc ho1 _
           · first | exact src_new rfl (World.alloc_heap_new W1 _) | exact src_new rfl ((hg1.block (w1.heap.size + 1) (by simp <;> omega) (by simp <;> omega)).trans (heap_alloc2_new w1 _ _)) | exact src_new rfl ((hg1.block (w1.heap.size + 1) (by simp <;> omega) (by simp <;> omega)).trans fact2) | exact src_new rfl ((hg1.block w1.heap.size (by simp <;> omega) (by simp <;> omega)).trans ((Below.heap_alloc _ _ _ (by simp <;> omega)).trans (World.alloc_heap_new w1 _)))
           rintro gb2 kb2 W2 ho2 hd2 hg2
           have hS2 := rs _ (Below.trans (And.left (by assumption)) hd2)))
    all_goals
      have HOW2 := Lib.hid ho2
      have HS2 := Lib.hid hS2
      go_wp2
      go_meet
      case rel =>
        have ho : Own TermLay 60 W2 w1.heap.size (.slice (some ⟨gb2, 0, none⟩) (n + 1) kb2) (l ++ [(o, x, y)]) :=
          Own.snoc (x := (o, x, y)) (by exact HOW2.out) (by rw [HN.out]) R1.out.fine HFT.out
        have hr := ho.reads
        have hcap : n + 1 ≤ kb2 := by obtain ⟨_, _, e, h, _, _⟩ := hr; injection e with e1 e2 e3; rw [e3, e2]; exact h
        exact ⟨gb2, kb2, rfl, hcap, hr, HS2.out.1⟩
  case rest =>
    obtain ⟨gb2, kb2, rfl, hcut⟩ := hcut
    have K := Lib.hid (K.out.trans hcut.out.2.2)
    have R0 := Lib.hid (R0.out.kept hcut.out.2.2)
    have R1 := Lib.hid (R1.out.kept hcut.out.2.2)
    have M0 := Lib.hid hcut.out.2.1
    have HCAP := Lib.hid hcut.out.1
    have HC0 := HC0
    clear hcut c0 c1 c2 hrl
    obtain ⟨more, hmore⟩ : ∃ z, l ++ [(o, x, y)] = z := ⟨_, rfl⟩
    have HMORE := Lib.hid hmore.symm
    have HML1 := Lib.hid (show more.length = n + 1 by rw [← hmore, List.length_append, HN.out]; rfl)
    have M := M0
    rw [hmore] at M
    clear hmore M0
    by_cases g1 : fewS s = true
    · have f1 := Lib.hid g1
      by_cases g2 : fewL more = true
      · have f2 := Lib.hid g2
        by_cases g3 : chkS s = 0
        · have c1 := Lib.hid g3
          clear g3
          by_cases g4 : chkL more = 0
          · have c2 := Lib.hid g4
            clear g4
            by_cases g5 : isName key = true
            · have n1 := Lib.hid g5
              by_cases g6 : isName val = true
              · have n2 := Lib.hid g6
                go_wp2_with fail
                refine (fewR R0.out).mono ?_
                rintro e w21 ⟨rfl, rfl⟩
                go_wp2_with fail
                refine (fewSelR M.out).mono ?_
                rintro e w22 ⟨rfl, rfl⟩
                go_wp2_with fail
                refine (ofR R0.out f1.out).mono ?_
                rintro e w23 ⟨vx, rfl, r, k⟩
                have K := Lib.hid (K.out.trans k)
                have R0 := Lib.hid (R0.out.kept k)
                have R1 := Lib.hid (R1.out.kept k)
                have M := Lib.hid (M.out.kept k)
                have X := Lib.hid r
                clear r
                clear k
                go_wp2_with fail
                refine (refCheckR X.out c1.out).mono ?_
                rintro e w24 ⟨rfl, k⟩
                have K := Lib.hid (K.out.trans k)
                have R0 := Lib.hid (R0.out.kept k)
                have R1 := Lib.hid (R1.out.kept k)
                have M := Lib.hid (M.out.kept k)
                have X := Lib.hid (X.out.kept k)
                clear k
                go_wp2_with fail
                refine (ofSelR M.out f2.out).mono ?_
                rintro e w25 ⟨vy, rfl, r, k⟩
                have K := Lib.hid (K.out.trans k)
                have R0 := Lib.hid (R0.out.kept k)
                have R1 := Lib.hid (R1.out.kept k)
                have M := Lib.hid (M.out.kept k)
                have X := Lib.hid (X.out.kept k)
                have Y := Lib.hid r
                clear r
                clear k
                go_wp2_with fail
                refine (refCheckSelR Y.out c2.out).mono ?_
                rintro e w26 ⟨rfl, k⟩
                have K := Lib.hid (K.out.trans k)
                have R0 := Lib.hid (R0.out.kept k)
                have R1 := Lib.hid (R1.out.kept k)
                have M := Lib.hid (M.out.kept k)
                have X := Lib.hid (X.out.kept k)
                have Y := Lib.hid (Y.out.kept k)
                clear k
                go_wp2_with fail
                refine (refName_any _ _ HKY.out).mono ?_
                rintro e w27 ⟨rfl, rfl⟩
                go_wp2_with fail
                refine (refName_any _ _ HVL.out).mono ?_
                rintro e w28 ⟨rfl, rfl⟩
                obtain ⟨ml, hml⟩ : ∃ z, matchT l s = z := ⟨_, rfl⟩
                obtain ⟨mt, hmt⟩ : ∃ z, matchT [(o, x, y)] s = z := ⟨_, rfl⟩
                have HML := Lib.hid hml
                have HMT := Lib.hid hmt
                have HMM := Lib.hid (show matchT more s = (ml && mt) by rw [HMORE.out, ← hml, ← hmt]; unfold matchT; exact List.all_append)
                have hn20 : n ≤ 20 := by
                  have h := f2.out; unfold fewL at h; simp only [Bool.and_eq_true, decide_eq_true_eq] at h
                  have h1 := h.1; rw [HML1.out] at h1; omega
                clear hml hmt
                go_wp2_with fail
                refine (matchR M.out R0.out HMM.out).mono ?_
                rintro e w29 ⟨rfl, k⟩
                have K := Lib.hid (K.out.trans k)
                have R0 := Lib.hid (R0.out.kept k)
                have R1 := Lib.hid (R1.out.kept k)
                have M := Lib.hid (M.out.kept k)
                have X := Lib.hid (X.out.kept k)
                have Y := Lib.hid (Y.out.kept k)
                clear k
                go_wp2_with fail
                refine (matchR R1.out R0.out HML.out).mono ?_
                rintro e w30 ⟨rfl, k⟩
                have K := Lib.hid (K.out.trans k)
                have R0 := Lib.hid (R0.out.kept k)
                have R1 := Lib.hid (R1.out.kept k)
                have M := Lib.hid (M.out.kept k)
                have X := Lib.hid (X.out.kept k)
                have Y := Lib.hid (Y.out.kept k)
                clear k
                have HP := Lib.hid (show RowAt TermLay w30 (some ⟨gb2, 0 + n * 3, none⟩) 1 [(o, x, y)] by
                  have := (Reads.row M.out).part n 1 (Nat.le_refl _)
                  rw [HMORE.out] at this
                  have e6 : ((l ++ [(o, x, y)]).drop n).take 1 = [(o, x, y)] := by rw [← HN.out]; simp
                  rw [e6] at this
                  exact this)
                simp only [Nat.zero_add] at HP
                have hnk : (n : Int) ≤ (n : Int) + 1 := by omega
                have hnk2 : n + 1 - n = 1 := by omega
                have hnk3 : n ≤ kb2 := by have := HCAP.out; omega
                have hnk4 : ¬ n = kb2 := by have := HCAP.out; omega
                have hnk5 : ¬ kb2 = n := by have := HCAP.out; omega
                have hnk6 : ¬ kb2 - n = 0 := by have := HCAP.out; omega
                have hnk7 : ¬ kb2 ≤ n := by have := HCAP.out; omega
                cases ml with
                | true =>
                  go_wp2_with fail
                  refine (match_any (some ⟨gb2, n * 3, none⟩) a0 1 (kb2 - n) _ cap0 [(o, x, y)] s _ HP.out (Reads.row R0.out)).mono ?_
                  rw [HMT.out]
                  rintro e w31 ⟨rfl, k⟩
                  have K := Lib.hid (K.out.trans k)
                  have R0 := Lib.hid (R0.out.kept k)
                  have R1 := Lib.hid (R1.out.kept k)
                  have M := Lib.hid (M.out.kept k)
                  have X := Lib.hid (X.out.kept k)
                  have Y := Lib.hid (Y.out.kept k)
                  clear k
                  obtain ⟨gx, hgx⟩ : ∃ z, getT s key = z := ⟨_, rfl⟩
                  obtain ⟨gh, hgh⟩ : ∃ z, hasS s key = z := ⟨_, rfl⟩
                  have G1 := Lib.hid hgx
                  have G2 := Lib.hid hgh
                  clear hgx hgh
                  go_wp2_with fail
                  refine (getR R0.out G1.out G2.out).mono ?_
                  rintro e w32 ⟨rfl, k⟩
                  have K := Lib.hid (K.out.trans k)
                  have R0 := Lib.hid (R0.out.kept k)
                  have R1 := Lib.hid (R1.out.kept k)
                  have M := Lib.hid (M.out.kept k)
                  have X := Lib.hid (X.out.kept k)
                  have Y := Lib.hid (Y.out.kept k)
                  clear k
                  cases gh with
                  | true =>
                    go_wp2
                    go_ret
                    exact ⟨rfl, K.out⟩
                  | false =>
                    by_cases h8 : 8 ≤ s.length
                    · go_wp2
                      go_ret
                      exact ⟨rfl, K.out⟩
                    · have h8' : s.length < 8 := by omega
                      clear h8
                      have RR := Lib.hid (Reads.row R0.out)
                      go_wp2
                      go_loopw [14] (fun i wr => ∃ k : Nat, k ≤ s.length ∧ i = .int .i64 k ∧ (∀ z ∈ s.take k, ltS z.1 key = true) ∧ wr = w32) (fun i _ => s.length - (intOf i).toNat)
                      case atStart => exact ⟨0, Nat.zero_le _, rfl, by simp, rfl⟩
                      case round =>
                        obtain ⟨k, hk9, rfl, hlo, rfl⟩ := hrel
                        have HLO := Lib.hid hlo
                        clear hlo
                        by_cases hlt : k < s.length
                        · obtain ⟨b0, o0, rfl⟩ : ∃ b off, a0 = some ⟨b, off, none⟩ := by
                            rcases RR.out.form with h | h
                            · omega
                            · exact h
                          obtain ⟨sx, sy, hsx, _, hb0, _, _, e1, e2⟩ := RR.out.pair hlt
                          have HSX := Lib.hid hsx
                          clear hsx
                          by_cases hl : ltS sx key = true
                          · have HLT := Lib.hid hl
                            have hl' : Op.bytesLess sx.toList key.toList = true := hl
                            clear hl
                            go_wp2
                            go_roundw
                            case rel => exact ⟨k + 1, by omega, by go_num, fun z hz => by
                              rw [take_snoc HSX.out] at hz
                              rcases List.mem_append.1 hz with h | h
                              · exact HLO.out z h
                              · have : z = (sx, sy) := by simpa using h
                                rw [this]; exact HLT.out, by trivial⟩
                            case measure => simp [intOf]; omega
                          · have hl0 : ltS sx key = false := by simpa using hl
                            have HLT := Lib.hid hl0
                            have hl' : Op.bytesLess sx.toList key.toList = false := hl0
                            clear hl hl0
                            have HHI := Lib.hid (show ∀ z, s[k]? = some z → ltS z.1 key = false from fun z hz => by
                              have : (sx, sy) = z := by have := HSX.out.symm.trans hz; simpa using this
                              rw [← this]; exact HLT.out)
                            have HIN := Lib.hid (ins_good c1.out h8' n1.out n2.out G2.out HLO.out HHI.out)
                            have HPRE := Lib.hid (RowAt.pre RR.out hk9)
                            have HPOST := Lib.hid (RowAt.post RR.out hk9)
                            have hkn : ¬ k = cap0 := by have := HC0.out; omega
                            have hkn2 : ¬ cap0 = k := by have := HC0.out; omega
                            have hkn3 : ¬ cap0 ≤ k := by have := HC0.out; omega
                            have hkn4 : ¬ cap0 - k = 0 := by have := HC0.out; omega
                            have HKL := Lib.hid (show k ≤ s.length from hk9)
                            have HRK := Lib.hid (row_take (L := PairLay) HKL.out)
                            have HRD := Lib.hid (row_drop (L := PairLay) HKL.out)
                            have hkc : (k : Int) ≤ (cap0 : Int) := by have := HC0.out; omega
                            have hkl : (k : Int) ≤ (s.length : Int) := by omega
                            have HB9 := Lib.hid (small_bounds (n := 0 + k) (by omega))
                            have HB8 := Lib.hid (small_bounds (n := k + 1) (by omega))
                            have HB7 := Lib.hid (small_bounds (n := k + 1 + (s.length - k)) (by omega))
                            go_upto_region 14 with fail
                            go_cut [15] from 101 to 110 (fun s15 wx => ∃ g cap, s15 = .slice (some ⟨g, 0, none⟩) (k + 1) cap ∧ Hid (wx.ownsRow wr.heap.size 63 2 (.slice (some ⟨g, 0, none⟩) (k + 1) cap) (k + 1) (rowCells PairLay (s.take k) ++ [.string key, .string val]) ∧ Kept wr wx))
                            case first =>
                              go_wp2_with (at_builtin; refine wpList_app_own kindPair _ rfl (.tmp 101) (.tmp 104) rfl wr.heap.size (by rw [World.size_alloc]; omega) wr.heap.size 0 0 [] rfl (own_empty wr wr.heap.size 2 _ (Nat.le_refl _)) _ k (rowCells PairLay (s.take k)) rfl HRK.out (rowCells_one _ _) (RowAt.src (HPRE.out.kept (kept_alloc _ _))) HB9.out.1 HB9.out.2 ?_; intro g5 k5 W5 ho5 hd5 hg5; simp only [Nat.zero_add, List.nil_append] at ho5; have HO5 := Lib.hid ho5; have HD5 := Lib.hid (show Kept wr W5 from Below.trans (kept_alloc wr _) hd5); clear ho5 hd5 hg5; refine Hid.out ?_)
                              refine Lib.hid ?_
                              have hw5 : wr.heap.size ≤ W5.heap.size := HD5.out.size
                              go_wp2_with (at_builtin; refine wpList_app_own kindPair _ rfl (.tmp 105) (.tmp 109) rfl wr.heap.size (by rw [World.size_alloc]; omega) g5 k k5 _ rfl (own_alloc HO5.out _) _ 1 [.string key, .string val] rfl rfl (one_ss key val) (src_new rfl (World.alloc_heap_new W5 _)) HB8.out.1 HB8.out.2 ?_; intro g6 k6 W6 ho6 hd6 hg6; have HO6 := Lib.hid ho6; have HD6 := Lib.hid (show Kept wr W6 from Below.trans (Below.trans HD5.out (Below.mono (kept_alloc W5 _) HD5.out.size)) hd6); clear ho6 hd6 hg6; refine Hid.out ?_)
                              refine Lib.hid ?_
                              go_wp2
                              go_meet
                              case rel => exact ⟨g6, k6, rfl, ⟨HO6.out, HD6.out⟩⟩
                            case rest =>
                              obtain ⟨g6, k6, rfl, hcut⟩ := hcut
                              have HO6 := Lib.hid hcut.out.1
                              have HD6 := Lib.hid hcut.out.2
                              have hw6 : wr.heap.size ≤ wc.heap.size := HD6.out.size
                              clear hcut
                              go_upto_region 15 with fail
                              go_cut [15] from 111 to 115 (fun s15 wx => Hid (Reads PairLay wx s15 (insP s k (key, val)) ∧ Kept wr wx))
                              case first =>
                                go_wp2_with (at_builtin; refine wpList_app_own kindPair _ rfl (.tmp 111) (.tmp 114) rfl wr.heap.size hw6 g6 (k + 1) k6 _ rfl HO6.out _ (s.length - k) (rowCells PairLay (s.drop k)) rfl HRD.out (rowCells_one _ _) (RowAt.src (HPOST.out.kept HD6.out)) HB7.out.1 HB7.out.2 ?_; intro g7 k7 W7 ho7 hd7 hg7; have HO7 := Lib.hid ho7; have HD7 := Lib.hid (show Kept wr W7 from Below.trans HD6.out hd7); clear ho7 hd7 hg7; refine Hid.out ?_)
                                refine Lib.hid ?_
                                have UO := Lib.hid (own_ins HO7.out (ins_len HKL.out) (Reads.fine R0.out) ⟨HKY.out, HVL.out⟩)
                                have UR := Lib.hid UO.out.reads
                                go_wp2
                                go_meet
                                case rel => exact ⟨UR.out, HD7.out⟩
                              case rest =>
                                have UR := Lib.hid hcut.out.1
                                have HD7 := Lib.hid hcut.out.2
                                clear hcut hw6
                                obtain ⟨W7, hW7⟩ : ∃ W, wc = W := ⟨_, rfl⟩
                                rw [hW7] at UR HD7 ⊢
                                clear hW7
                                go_wp2
                                go_loopw [16] (fun i w2 => ∃ j : Nat, j ≤ s.length ∧ i = .int .i64 j ∧ Kept W7 w2) (fun i _ => s.length - (intOf i).toNat)
                                case atStart => exact ⟨0, Nat.zero_le _, rfl, Kept.refl _⟩
                                case round =>
                                  obtain ⟨j, hj9, rfl, hK⟩ := hrel
                                  have HKW := Lib.hid hK
                                  by_cases hj : j < s.length
                                  · skip
                                    obtain ⟨zx, zy, hz, _, _, _, _, e3, e4⟩ := (RR.out.kept (HD7.out.trans hK)).pair hj
                                    have HG := Lib.hid (get_mem HIN.out.2.1 (HIN.out.2.2.1 _ (List.mem_of_getElem? hz)))
                                    clear hz hK
                                    go_wp2_with fail
                                    refine (getR (x := zy) (b := true) (UR.out.kept HKW.out) (by unfold getT; rw [HG.out]; rfl) (by unfold hasS; rw [HG.out]; rfl)).mono ?_
                                    rintro e w40 ⟨rfl, k9⟩
                                    have e3 := cell_later k9 e3
                                    have e4 := cell_later k9 e4
                                    have HKW := Lib.hid (HKW.out.trans k9)
                                    clear k9
                                    go_wp2
                                    go_roundw
                                    case rel => exact ⟨j + 1, by omega, by go_num, HKW.out⟩
                                    case measure => simp [intOf]; omega
                                  · have HG := Lib.hid (get_mem HIN.out.2.1 HIN.out.2.2.2)
                                    clear hK
                                    go_wp2_with fail
                                    refine (getR (x := val) (b := true) (UR.out.kept HKW.out) (by unfold getT; rw [HG.out]; rfl) (by unfold hasS; rw [HG.out]; rfl)).mono ?_
                                    rintro e w40 ⟨rfl, k9⟩
                                    have HKW := Lib.hid (HKW.out.trans k9)
                                    clear k9
                                    go_wp2_with fail
                                    refine (checkR (UR.out.kept HKW.out) HIN.out.1).mono ?_
                                    rintro e w41 ⟨rfl, k9⟩
                                    have HKW := Lib.hid (HKW.out.trans k9)
                                    clear k9
                                    go_wp2
                                    go_ret
                                    exact ⟨rfl, K.out.trans (HD7.out.trans HKW.out)⟩
                        · obtain rfl : k = s.length := by omega
                          have HHI := Lib.hid (show ∀ z, s[s.length]? = some z → ltS z.1 key = false from fun z hz => by simp at hz)
                          have HIN := Lib.hid (ins_good c1.out h8' n1.out n2.out G2.out HLO.out HHI.out)
                          have HPRE := Lib.hid (show RowAt PairLay wr a0 s.length (s.take s.length) by rw [List.take_length]; exact RR.out)
                          have HNIL := Lib.hid (show rowCells PairLay (s.drop s.length) = [] by rw [List.drop_length]; rfl)
                          clear hlt
                          have HKL := Lib.hid (show s.length ≤ s.length from hk9)
                          have HRK := Lib.hid (row_take (L := PairLay) HKL.out)
                          have HRD := Lib.hid (row_drop (L := PairLay) HKL.out)
                          have hkc : (s.length : Int) ≤ (cap0 : Int) := by have := HC0.out; omega
                          have hkl : (s.length : Int) ≤ (s.length : Int) := by omega
                          have HB9 := Lib.hid (small_bounds (n := 0 + s.length) (by omega))
                          have HB8 := Lib.hid (small_bounds (n := s.length + 1) (by omega))
                          have HB7 := Lib.hid (small_bounds (n := s.length + 1 + (s.length - s.length)) (by omega))
                          go_upto_region 14 with fail
                          go_cut [15] from 101 to 110 (fun s15 wx => ∃ g cap, s15 = .slice (some ⟨g, 0, none⟩) (s.length + 1) cap ∧ Hid (wx.ownsRow wr.heap.size 63 2 (.slice (some ⟨g, 0, none⟩) (s.length + 1) cap) (s.length + 1) (rowCells PairLay (s.take s.length) ++ [.string key, .string val]) ∧ Kept wr wx))
                          case first =>
                            rcases a0 with _ | ⟨b0, o0, _ | sp⟩
                            · go_wp2_with (at_builtin; refine wpList_app_own kindPair _ rfl (.tmp 101) (.tmp 104) rfl wr.heap.size (by rw [World.size_alloc]; omega) wr.heap.size 0 0 [] rfl (own_empty wr wr.heap.size 2 _ (Nat.le_refl _)) _ s.length (rowCells PairLay (s.take s.length)) rfl HRK.out (rowCells_one _ _) (RowAt.src (HPRE.out.kept (kept_alloc _ _))) HB9.out.1 HB9.out.2 ?_; intro g5 k5 W5 ho5 hd5 hg5; simp only [Nat.zero_add, List.nil_append] at ho5; have HO5 := Lib.hid ho5; have HD5 := Lib.hid (show Kept wr W5 from Below.trans (kept_alloc wr _) hd5); clear ho5 hd5 hg5; refine Hid.out ?_)
                              refine Lib.hid ?_
                              have hw5 : wr.heap.size ≤ W5.heap.size := HD5.out.size
                              go_wp2_with (at_builtin; refine wpList_app_own kindPair _ rfl (.tmp 105) (.tmp 109) rfl wr.heap.size (by rw [World.size_alloc]; omega) g5 s.length k5 _ rfl (own_alloc HO5.out _) _ 1 [.string key, .string val] rfl rfl (one_ss key val) (src_new rfl (World.alloc_heap_new W5 _)) HB8.out.1 HB8.out.2 ?_; intro g6 k6 W6 ho6 hd6 hg6; have HO6 := Lib.hid ho6; have HD6 := Lib.hid (show Kept wr W6 from Below.trans (Below.trans HD5.out (Below.mono (kept_alloc W5 _) HD5.out.size)) hd6); clear ho6 hd6 hg6; refine Hid.out ?_)
                              refine Lib.hid ?_
                              go_wp2
                              go_meet
                              case rel => exact ⟨g6, k6, rfl, ⟨HO6.out, HD6.out⟩⟩
                            · go_wp2_with (at_builtin; refine wpList_app_own kindPair _ rfl (.tmp 101) (.tmp 104) rfl wr.heap.size (by rw [World.size_alloc]; omega) wr.heap.size 0 0 [] rfl (own_empty wr wr.heap.size 2 _ (Nat.le_refl _)) _ s.length (rowCells PairLay (s.take s.length)) rfl HRK.out (rowCells_one _ _) (RowAt.src (HPRE.out.kept (kept_alloc _ _))) HB9.out.1 HB9.out.2 ?_; intro g5 k5 W5 ho5 hd5 hg5; simp only [Nat.zero_add, List.nil_append] at ho5; have HO5 := Lib.hid ho5; have HD5 := Lib.hid (show Kept wr W5 from Below.trans (kept_alloc wr _) hd5); clear ho5 hd5 hg5; refine Hid.out ?_)
                              refine Lib.hid ?_
                              have hw5 : wr.heap.size ≤ W5.heap.size := HD5.out.size
                              go_wp2_with (at_builtin; refine wpList_app_own kindPair _ rfl (.tmp 105) (.tmp 109) rfl wr.heap.size (by rw [World.size_alloc]; omega) g5 s.length k5 _ rfl (own_alloc HO5.out _) _ 1 [.string key, .string val] rfl rfl (one_ss key val) (src_new rfl (World.alloc_heap_new W5 _)) HB8.out.1 HB8.out.2 ?_; intro g6 k6 W6 ho6 hd6 hg6; have HO6 := Lib.hid ho6; have HD6 := Lib.hid (show Kept wr W6 from Below.trans (Below.trans HD5.out (Below.mono (kept_alloc W5 _) HD5.out.size)) hd6); clear ho6 hd6 hg6; refine Hid.out ?_)
                              refine Lib.hid ?_
                              go_wp2
                              go_meet
                              case rel => exact ⟨g6, k6, rfl, ⟨HO6.out, HD6.out⟩⟩
                            · go_wp2_with (at_builtin; refine wpList_app_own kindPair _ rfl (.tmp 101) (.tmp 104) rfl wr.heap.size (by rw [World.size_alloc]; omega) wr.heap.size 0 0 [] rfl (own_empty wr wr.heap.size 2 _ (Nat.le_refl _)) _ s.length (rowCells PairLay (s.take s.length)) rfl HRK.out (rowCells_one _ _) (RowAt.src (HPRE.out.kept (kept_alloc _ _))) HB9.out.1 HB9.out.2 ?_; intro g5 k5 W5 ho5 hd5 hg5; simp only [Nat.zero_add, List.nil_append] at ho5; have HO5 := Lib.hid ho5; have HD5 := Lib.hid (show Kept wr W5 from Below.trans (kept_alloc wr _) hd5); clear ho5 hd5 hg5; refine Hid.out ?_)
                              refine Lib.hid ?_
                              have hw5 : wr.heap.size ≤ W5.heap.size := HD5.out.size
                              go_wp2_with (at_builtin; refine wpList_app_own kindPair _ rfl (.tmp 105) (.tmp 109) rfl wr.heap.size (by rw [World.size_alloc]; omega) g5 s.length k5 _ rfl (own_alloc HO5.out _) _ 1 [.string key, .string val] rfl rfl (one_ss key val) (src_new rfl (World.alloc_heap_new W5 _)) HB8.out.1 HB8.out.2 ?_; intro g6 k6 W6 ho6 hd6 hg6; have HO6 := Lib.hid ho6; have HD6 := Lib.hid (show Kept wr W6 from Below.trans (Below.trans HD5.out (Below.mono (kept_alloc W5 _) HD5.out.size)) hd6); clear ho6 hd6 hg6; refine Hid.out ?_)
                              refine Lib.hid ?_
                              go_wp2
                              go_meet
                              case rel => exact ⟨g6, k6, rfl, ⟨HO6.out, HD6.out⟩⟩
                          case rest =>
                            obtain ⟨g6, k6, rfl, hcut⟩ := hcut
                            have HO6 := Lib.hid hcut.out.1
                            have HD6 := Lib.hid hcut.out.2
                            have hw6 : wr.heap.size ≤ wc.heap.size := HD6.out.size
                            clear hcut
                            go_upto_region 15 with fail
                            go_cut [15] from 111 to 115 (fun s15 wx => Hid (Reads PairLay wx s15 (insP s s.length (key, val)) ∧ Kept wr wx))
                            case first =>
                              rcases a0 with _ | ⟨b0, o0, _ | sp⟩
                              · by_cases hcc : cap0 = s.length
                                · subst hcc
                                  go_wp2_with (at_builtin; refine wpList_app_own kindPair _ rfl (.tmp 111) (.tmp 114) rfl wr.heap.size hw6 g6 (s.length + 1) k6 _ rfl HO6.out _ 0 [] rfl rfl (by intro u hu; cases hu) (by first | exact .inl ⟨_, _, rfl, fun j u hu => by simp at hu⟩ | exact .inr ⟨_, rfl, rfl⟩) HB8.out.1 HB8.out.2 ?_; intro g7 k7 W7 ho7 hd7 hg7; have HO7 := Lib.hid ho7; have HD7 := Lib.hid (show Kept wr W7 from Below.trans HD6.out hd7); clear ho7 hd7 hg7; refine Hid.out ?_)
                                  refine Lib.hid ?_
                                  have UO := Lib.hid (own_ins (k := s.length) (by rw [HNIL.out]; exact HO7.out) (by have := ins_len (x := (key, val)) (Nat.le_refl s.length); rw [Nat.sub_self] at this; exact this) (Reads.fine R0.out) ⟨HKY.out, HVL.out⟩)
                                  have UR := Lib.hid UO.out.reads
                                  go_wp2
                                  go_meet
                                  case rel => exact ⟨UR.out, HD7.out⟩
                                · have hcc2 : ¬ s.length = cap0 := fun h => hcc h.symm
                                  have hcc3 : ¬ cap0 ≤ s.length := by have := HC0.out; omega
                                  have hcc4 : ¬ cap0 - s.length = 0 := by omega
                                  go_wp2_with (at_builtin; refine wpList_app_own kindPair _ rfl (.tmp 111) (.tmp 114) rfl wr.heap.size hw6 g6 (s.length + 1) k6 _ rfl HO6.out _ 0 [] rfl rfl (by intro u hu; cases hu) (by first | exact .inl ⟨_, _, rfl, fun j u hu => by simp at hu⟩ | exact .inr ⟨_, rfl, rfl⟩) HB8.out.1 HB8.out.2 ?_; intro g7 k7 W7 ho7 hd7 hg7; have HO7 := Lib.hid ho7; have HD7 := Lib.hid (show Kept wr W7 from Below.trans HD6.out hd7); clear ho7 hd7 hg7; refine Hid.out ?_)
                                  refine Lib.hid ?_
                                  have UO := Lib.hid (own_ins (k := s.length) (by rw [HNIL.out]; exact HO7.out) (by have := ins_len (x := (key, val)) (Nat.le_refl s.length); rw [Nat.sub_self] at this; exact this) (Reads.fine R0.out) ⟨HKY.out, HVL.out⟩)
                                  have UR := Lib.hid UO.out.reads
                                  go_wp2
                                  go_meet
                                  case rel => exact ⟨UR.out, HD7.out⟩
                              · by_cases hcc : cap0 = s.length
                                · subst hcc
                                  go_wp2_with (at_builtin; refine wpList_app_own kindPair _ rfl (.tmp 111) (.tmp 114) rfl wr.heap.size hw6 g6 (s.length + 1) k6 _ rfl HO6.out _ 0 [] rfl rfl (by intro u hu; cases hu) (by first | exact .inl ⟨_, _, rfl, fun j u hu => by simp at hu⟩ | exact .inr ⟨_, rfl, rfl⟩) HB8.out.1 HB8.out.2 ?_; intro g7 k7 W7 ho7 hd7 hg7; have HO7 := Lib.hid ho7; have HD7 := Lib.hid (show Kept wr W7 from Below.trans HD6.out hd7); clear ho7 hd7 hg7; refine Hid.out ?_)
                                  refine Lib.hid ?_
                                  have UO := Lib.hid (own_ins (k := s.length) (by rw [HNIL.out]; exact HO7.out) (by have := ins_len (x := (key, val)) (Nat.le_refl s.length); rw [Nat.sub_self] at this; exact this) (Reads.fine R0.out) ⟨HKY.out, HVL.out⟩)
                                  have UR := Lib.hid UO.out.reads
                                  go_wp2
                                  go_meet
                                  case rel => exact ⟨UR.out, HD7.out⟩
                                · have hcc2 : ¬ s.length = cap0 := fun h => hcc h.symm
                                  have hcc3 : ¬ cap0 ≤ s.length := by have := HC0.out; omega
                                  have hcc4 : ¬ cap0 - s.length = 0 := by omega
                                  go_wp2_with (at_builtin; refine wpList_app_own kindPair _ rfl (.tmp 111) (.tmp 114) rfl wr.heap.size hw6 g6 (s.length + 1) k6 _ rfl HO6.out _ 0 [] rfl rfl (by intro u hu; cases hu) (by first | exact .inl ⟨_, _, rfl, fun j u hu => by simp at hu⟩ | exact .inr ⟨_, rfl, rfl⟩) HB8.out.1 HB8.out.2 ?_; intro g7 k7 W7 ho7 hd7 hg7; have HO7 := Lib.hid ho7; have HD7 := Lib.hid (show Kept wr W7 from Below.trans HD6.out hd7); clear ho7 hd7 hg7; refine Hid.out ?_)
                                  refine Lib.hid ?_
                                  have UO := Lib.hid (own_ins (k := s.length) (by rw [HNIL.out]; exact HO7.out) (by have := ins_len (x := (key, val)) (Nat.le_refl s.length); rw [Nat.sub_self] at this; exact this) (Reads.fine R0.out) ⟨HKY.out, HVL.out⟩)
                                  have UR := Lib.hid UO.out.reads
                                  go_wp2
                                  go_meet
                                  case rel => exact ⟨UR.out, HD7.out⟩
                              · by_cases hcc : cap0 = s.length
                                · subst hcc
                                  go_wp2_with (at_builtin; refine wpList_app_own kindPair _ rfl (.tmp 111) (.tmp 114) rfl wr.heap.size hw6 g6 (s.length + 1) k6 _ rfl HO6.out _ 0 [] rfl rfl (by intro u hu; cases hu) (by first | exact .inl ⟨_, _, rfl, fun j u hu => by simp at hu⟩ | exact .inr ⟨_, rfl, rfl⟩) HB8.out.1 HB8.out.2 ?_; intro g7 k7 W7 ho7 hd7 hg7; have HO7 := Lib.hid ho7; have HD7 := Lib.hid (show Kept wr W7 from Below.trans HD6.out hd7); clear ho7 hd7 hg7; refine Hid.out ?_)
                                  refine Lib.hid ?_
                                  have UO := Lib.hid (own_ins (k := s.length) (by rw [HNIL.out]; exact HO7.out) (by have := ins_len (x := (key, val)) (Nat.le_refl s.length); rw [Nat.sub_self] at this; exact this) (Reads.fine R0.out) ⟨HKY.out, HVL.out⟩)
                                  have UR := Lib.hid UO.out.reads
                                  go_wp2
                                  go_meet
                                  case rel => exact ⟨UR.out, HD7.out⟩
                                · have hcc2 : ¬ s.length = cap0 := fun h => hcc h.symm
                                  have hcc3 : ¬ cap0 ≤ s.length := by have := HC0.out; omega
                                  have hcc4 : ¬ cap0 - s.length = 0 := by omega
                                  go_wp2_with (at_builtin; refine wpList_app_own kindPair _ rfl (.tmp 111) (.tmp 114) rfl wr.heap.size hw6 g6 (s.length + 1) k6 _ rfl HO6.out _ 0 [] rfl rfl (by intro u hu; cases hu) (by first | exact .inl ⟨_, _, rfl, fun j u hu => by simp at hu⟩ | exact .inr ⟨_, rfl, rfl⟩) HB8.out.1 HB8.out.2 ?_; intro g7 k7 W7 ho7 hd7 hg7; have HO7 := Lib.hid ho7; have HD7 := Lib.hid (show Kept wr W7 from Below.trans HD6.out hd7); clear ho7 hd7 hg7; refine Hid.out ?_)
                                  refine Lib.hid ?_
                                  have UO := Lib.hid (own_ins (k := s.length) (by rw [HNIL.out]; exact HO7.out) (by have := ins_len (x := (key, val)) (Nat.le_refl s.length); rw [Nat.sub_self] at this; exact this) (Reads.fine R0.out) ⟨HKY.out, HVL.out⟩)
                                  have UR := Lib.hid UO.out.reads
                                  go_wp2
                                  go_meet
                                  case rel => exact ⟨UR.out, HD7.out⟩
                            case rest =>
                              have UR := Lib.hid hcut.out.1
                              have HD7 := Lib.hid hcut.out.2
                              clear hcut hw6
                              obtain ⟨W7, hW7⟩ : ∃ W, wc = W := ⟨_, rfl⟩
                              rw [hW7] at UR HD7 ⊢
                              clear hW7
                              go_wp2
                              go_loopw [16] (fun i w2 => ∃ j : Nat, j ≤ s.length ∧ i = .int .i64 j ∧ Kept W7 w2) (fun i _ => s.length - (intOf i).toNat)
                              case atStart => exact ⟨0, Nat.zero_le _, rfl, Kept.refl _⟩
                              case round =>
                                obtain ⟨j, hj9, rfl, hK⟩ := hrel
                                have HKW := Lib.hid hK
                                by_cases hj : j < s.length
                                · obtain ⟨b1, o1, rfl⟩ : ∃ b off, a0 = some ⟨b, off, none⟩ := by
                                    rcases RR.out.form with h | h
                                    · omega
                                    · exact h
                                  obtain ⟨zx, zy, hz, _, _, _, _, e3, e4⟩ := (RR.out.kept (HD7.out.trans hK)).pair hj
                                  have HG := Lib.hid (get_mem HIN.out.2.1 (HIN.out.2.2.1 _ (List.mem_of_getElem? hz)))
                                  clear hz hK
                                  go_wp2_with fail
                                  refine (getR (x := zy) (b := true) (UR.out.kept HKW.out) (by unfold getT; rw [HG.out]; rfl) (by unfold hasS; rw [HG.out]; rfl)).mono ?_
                                  rintro e w40 ⟨rfl, k9⟩
                                  have e3 := cell_later k9 e3
                                  have e4 := cell_later k9 e4
                                  have HKW := Lib.hid (HKW.out.trans k9)
                                  clear k9
                                  go_wp2
                                  go_roundw
                                  case rel => exact ⟨j + 1, by omega, by go_num, HKW.out⟩
                                  case measure => simp [intOf]; omega
                                · have HG := Lib.hid (get_mem HIN.out.2.1 HIN.out.2.2.2)
                                  clear hK
                                  go_wp2_with fail
                                  refine (getR (x := val) (b := true) (UR.out.kept HKW.out) (by unfold getT; rw [HG.out]; rfl) (by unfold hasS; rw [HG.out]; rfl)).mono ?_
                                  rintro e w40 ⟨rfl, k9⟩
                                  have HKW := Lib.hid (HKW.out.trans k9)
                                  clear k9
                                  go_wp2_with fail
                                  refine (checkR (UR.out.kept HKW.out) HIN.out.1).mono ?_
                                  rintro e w41 ⟨rfl, k9⟩
                                  have HKW := Lib.hid (HKW.out.trans k9)
                                  clear k9
                                  go_wp2
                                  go_ret
                                  exact ⟨rfl, K.out.trans (HD7.out.trans HKW.out)⟩
                | false =>
                  obtain ⟨gx, hgx⟩ : ∃ z, getT s key = z := ⟨_, rfl⟩
                  obtain ⟨gh, hgh⟩ : ∃ z, hasS s key = z := ⟨_, rfl⟩
                  have G1 := Lib.hid hgx
                  have G2 := Lib.hid hgh
                  clear hgx hgh
                  go_wp2_with fail
                  refine (getR R0.out G1.out G2.out).mono ?_
                  rintro e w31 ⟨rfl, k⟩
                  have K := Lib.hid (K.out.trans k)
                  have R0 := Lib.hid (R0.out.kept k)
                  have R1 := Lib.hid (R1.out.kept k)
                  have M := Lib.hid (M.out.kept k)
                  have X := Lib.hid (X.out.kept k)
                  have Y := Lib.hid (Y.out.kept k)
                  clear k
                  cases gh with
                  | true =>
                    go_wp2
                    go_ret
                    exact ⟨rfl, K.out⟩
                  | false =>
                    by_cases h8 : 8 ≤ s.length
                    · go_wp2
                      go_ret
                      exact ⟨rfl, K.out⟩
                    · have h8' : s.length < 8 := by omega
                      clear h8
                      have RR := Lib.hid (Reads.row R0.out)
                      go_wp2
                      go_loopw [14] (fun i wr => ∃ k : Nat, k ≤ s.length ∧ i = .int .i64 k ∧ (∀ z ∈ s.take k, ltS z.1 key = true) ∧ wr = w31) (fun i _ => s.length - (intOf i).toNat)
                      case atStart => exact ⟨0, Nat.zero_le _, rfl, by simp, rfl⟩
                      case round =>
                        obtain ⟨k, hk9, rfl, hlo, rfl⟩ := hrel
                        have HLO := Lib.hid hlo
                        clear hlo
                        by_cases hlt : k < s.length
                        · obtain ⟨b0, o0, rfl⟩ : ∃ b off, a0 = some ⟨b, off, none⟩ := by
                            rcases RR.out.form with h | h
                            · omega
                            · exact h
                          obtain ⟨sx, sy, hsx, _, hb0, _, _, e1, e2⟩ := RR.out.pair hlt
                          have HSX := Lib.hid hsx
                          clear hsx
                          by_cases hl : ltS sx key = true
                          · have HLT := Lib.hid hl
                            have hl' : Op.bytesLess sx.toList key.toList = true := hl
                            clear hl
                            go_wp2
                            go_roundw
                            case rel => exact ⟨k + 1, by omega, by go_num, fun z hz => by
                              rw [take_snoc HSX.out] at hz
                              rcases List.mem_append.1 hz with h | h
                              · exact HLO.out z h
                              · have : z = (sx, sy) := by simpa using h
                                rw [this]; exact HLT.out, by trivial⟩
                            case measure => simp [intOf]; omega
                          · have hl0 : ltS sx key = false := by simpa using hl
                            have HLT := Lib.hid hl0
                            have hl' : Op.bytesLess sx.toList key.toList = false := hl0
                            clear hl hl0
                            have HHI := Lib.hid (show ∀ z, s[k]? = some z → ltS z.1 key = false from fun z hz => by
                              have : (sx, sy) = z := by have := HSX.out.symm.trans hz; simpa using this
                              rw [← this]; exact HLT.out)
                            have HIN := Lib.hid (ins_good c1.out h8' n1.out n2.out G2.out HLO.out HHI.out)
                            have HPRE := Lib.hid (RowAt.pre RR.out hk9)
                            have HPOST := Lib.hid (RowAt.post RR.out hk9)
                            have hkn : ¬ k = cap0 := by have := HC0.out; omega
                            have hkn2 : ¬ cap0 = k := by have := HC0.out; omega
                            have hkn3 : ¬ cap0 ≤ k := by have := HC0.out; omega
                            have hkn4 : ¬ cap0 - k = 0 := by have := HC0.out; omega
                            have HKL := Lib.hid (show k ≤ s.length from hk9)
                            have HRK := Lib.hid (row_take (L := PairLay) HKL.out)
                            have HRD := Lib.hid (row_drop (L := PairLay) HKL.out)
                            have hkc : (k : Int) ≤ (cap0 : Int) := by have := HC0.out; omega
                            have hkl : (k : Int) ≤ (s.length : Int) := by omega
                            have HB9 := Lib.hid (small_bounds (n := 0 + k) (by omega))
                            have HB8 := Lib.hid (small_bounds (n := k + 1) (by omega))
                            have HB7 := Lib.hid (small_bounds (n := k + 1 + (s.length - k)) (by omega))
                            go_upto_region 14 with fail
                            go_cut [15] from 101 to 110 (fun s15 wx => ∃ g cap, s15 = .slice (some ⟨g, 0, none⟩) (k + 1) cap ∧ Hid (wx.ownsRow wr.heap.size 63 2 (.slice (some ⟨g, 0, none⟩) (k + 1) cap) (k + 1) (rowCells PairLay (s.take k) ++ [.string key, .string val]) ∧ Kept wr wx))
                            case first =>
                              go_wp2_with (at_builtin; refine wpList_app_own kindPair _ rfl (.tmp 101) (.tmp 104) rfl wr.heap.size (by rw [World.size_alloc]; omega) wr.heap.size 0 0 [] rfl (own_empty wr wr.heap.size 2 _ (Nat.le_refl _)) _ k (rowCells PairLay (s.take k)) rfl HRK.out (rowCells_one _ _) (RowAt.src (HPRE.out.kept (kept_alloc _ _))) HB9.out.1 HB9.out.2 ?_; intro g5 k5 W5 ho5 hd5 hg5; simp only [Nat.zero_add, List.nil_append] at ho5; have HO5 := Lib.hid ho5; have HD5 := Lib.hid (show Kept wr W5 from Below.trans (kept_alloc wr _) hd5); clear ho5 hd5 hg5; refine Hid.out ?_)
                              refine Lib.hid ?_
                              have hw5 : wr.heap.size ≤ W5.heap.size := HD5.out.size
                              go_wp2_with (at_builtin; refine wpList_app_own kindPair _ rfl (.tmp 105) (.tmp 109) rfl wr.heap.size (by rw [World.size_alloc]; omega) g5 k k5 _ rfl (own_alloc HO5.out _) _ 1 [.string key, .string val] rfl rfl (one_ss key val) (src_new rfl (World.alloc_heap_new W5 _)) HB8.out.1 HB8.out.2 ?_; intro g6 k6 W6 ho6 hd6 hg6; have HO6 := Lib.hid ho6; have HD6 := Lib.hid (show Kept wr W6 from Below.trans (Below.trans HD5.out (Below.mono (kept_alloc W5 _) HD5.out.size)) hd6); clear ho6 hd6 hg6; refine Hid.out ?_)
                              refine Lib.hid ?_
                              go_wp2
                              go_meet
                              case rel => exact ⟨g6, k6, rfl, ⟨HO6.out, HD6.out⟩⟩
                            case rest =>
                              obtain ⟨g6, k6, rfl, hcut⟩ := hcut
                              have HO6 := Lib.hid hcut.out.1
                              have HD6 := Lib.hid hcut.out.2
                              have hw6 : wr.heap.size ≤ wc.heap.size := HD6.out.size
                              clear hcut
                              go_upto_region 15 with fail
                              go_cut [15] from 111 to 115 (fun s15 wx => Hid (Reads PairLay wx s15 (insP s k (key, val)) ∧ Kept wr wx))
                              case first =>
                                go_wp2_with (at_builtin; refine wpList_app_own kindPair _ rfl (.tmp 111) (.tmp 114) rfl wr.heap.size hw6 g6 (k + 1) k6 _ rfl HO6.out _ (s.length - k) (rowCells PairLay (s.drop k)) rfl HRD.out (rowCells_one _ _) (RowAt.src (HPOST.out.kept HD6.out)) HB7.out.1 HB7.out.2 ?_; intro g7 k7 W7 ho7 hd7 hg7; have HO7 := Lib.hid ho7; have HD7 := Lib.hid (show Kept wr W7 from Below.trans HD6.out hd7); clear ho7 hd7 hg7; refine Hid.out ?_)
                                refine Lib.hid ?_
                                have UO := Lib.hid (own_ins HO7.out (ins_len HKL.out) (Reads.fine R0.out) ⟨HKY.out, HVL.out⟩)
                                have UR := Lib.hid UO.out.reads
                                go_wp2
                                go_meet
                                case rel => exact ⟨UR.out, HD7.out⟩
                              case rest =>
                                have UR := Lib.hid hcut.out.1
                                have HD7 := Lib.hid hcut.out.2
                                clear hcut hw6
                                obtain ⟨W7, hW7⟩ : ∃ W, wc = W := ⟨_, rfl⟩
                                rw [hW7] at UR HD7 ⊢
                                clear hW7
                                go_wp2
                                go_loopw [16] (fun i w2 => ∃ j : Nat, j ≤ s.length ∧ i = .int .i64 j ∧ Kept W7 w2) (fun i _ => s.length - (intOf i).toNat)
                                case atStart => exact ⟨0, Nat.zero_le _, rfl, Kept.refl _⟩
                                case round =>
                                  obtain ⟨j, hj9, rfl, hK⟩ := hrel
                                  have HKW := Lib.hid hK
                                  by_cases hj : j < s.length
                                  · skip
                                    obtain ⟨zx, zy, hz, _, _, _, _, e3, e4⟩ := (RR.out.kept (HD7.out.trans hK)).pair hj
                                    have HG := Lib.hid (get_mem HIN.out.2.1 (HIN.out.2.2.1 _ (List.mem_of_getElem? hz)))
                                    clear hz hK
                                    go_wp2_with fail
                                    refine (getR (x := zy) (b := true) (UR.out.kept HKW.out) (by unfold getT; rw [HG.out]; rfl) (by unfold hasS; rw [HG.out]; rfl)).mono ?_
                                    rintro e w40 ⟨rfl, k9⟩
                                    have e3 := cell_later k9 e3
                                    have e4 := cell_later k9 e4
                                    have HKW := Lib.hid (HKW.out.trans k9)
                                    clear k9
                                    go_wp2
                                    go_roundw
                                    case rel => exact ⟨j + 1, by omega, by go_num, HKW.out⟩
                                    case measure => simp [intOf]; omega
                                  · have HG := Lib.hid (get_mem HIN.out.2.1 HIN.out.2.2.2)
                                    clear hK
                                    go_wp2_with fail
                                    refine (getR (x := val) (b := true) (UR.out.kept HKW.out) (by unfold getT; rw [HG.out]; rfl) (by unfold hasS; rw [HG.out]; rfl)).mono ?_
                                    rintro e w40 ⟨rfl, k9⟩
                                    have HKW := Lib.hid (HKW.out.trans k9)
                                    clear k9
                                    go_wp2_with fail
                                    refine (checkR (UR.out.kept HKW.out) HIN.out.1).mono ?_
                                    rintro e w41 ⟨rfl, k9⟩
                                    have HKW := Lib.hid (HKW.out.trans k9)
                                    clear k9
                                    go_wp2
                                    go_ret
                                    exact ⟨rfl, K.out.trans (HD7.out.trans HKW.out)⟩
                        · obtain rfl : k = s.length := by omega
                          have HHI := Lib.hid (show ∀ z, s[s.length]? = some z → ltS z.1 key = false from fun z hz => by simp at hz)
                          have HIN := Lib.hid (ins_good c1.out h8' n1.out n2.out G2.out HLO.out HHI.out)
                          have HPRE := Lib.hid (show RowAt PairLay wr a0 s.length (s.take s.length) by rw [List.take_length]; exact RR.out)
                          have HNIL := Lib.hid (show rowCells PairLay (s.drop s.length) = [] by rw [List.drop_length]; rfl)
                          clear hlt
                          have HKL := Lib.hid (show s.length ≤ s.length from hk9)
                          have HRK := Lib.hid (row_take (L := PairLay) HKL.out)
                          have HRD := Lib.hid (row_drop (L := PairLay) HKL.out)
                          have hkc : (s.length : Int) ≤ (cap0 : Int) := by have := HC0.out; omega
                          have hkl : (s.length : Int) ≤ (s.length : Int) := by omega
                          have HB9 := Lib.hid (small_bounds (n := 0 + s.length) (by omega))
                          have HB8 := Lib.hid (small_bounds (n := s.length + 1) (by omega))
                          have HB7 := Lib.hid (small_bounds (n := s.length + 1 + (s.length - s.length)) (by omega))
                          go_upto_region 14 with fail
                          go_cut [15] from 101 to 110 (fun s15 wx => ∃ g cap, s15 = .slice (some ⟨g, 0, none⟩) (s.length + 1) cap ∧ Hid (wx.ownsRow wr.heap.size 63 2 (.slice (some ⟨g, 0, none⟩) (s.length + 1) cap) (s.length + 1) (rowCells PairLay (s.take s.length) ++ [.string key, .string val]) ∧ Kept wr wx))
                          case first =>
                            rcases a0 with _ | ⟨b0, o0, _ | sp⟩
                            · go_wp2_with (at_builtin; refine wpList_app_own kindPair _ rfl (.tmp 101) (.tmp 104) rfl wr.heap.size (by rw [World.size_alloc]; omega) wr.heap.size 0 0 [] rfl (own_empty wr wr.heap.size 2 _ (Nat.le_refl _)) _ s.length (rowCells PairLay (s.take s.length)) rfl HRK.out (rowCells_one _ _) (RowAt.src (HPRE.out.kept (kept_alloc _ _))) HB9.out.1 HB9.out.2 ?_; intro g5 k5 W5 ho5 hd5 hg5; simp only [Nat.zero_add, List.nil_append] at ho5; have HO5 := Lib.hid ho5; have HD5 := Lib.hid (show Kept wr W5 from Below.trans (kept_alloc wr _) hd5); clear ho5 hd5 hg5; refine Hid.out ?_)
                              refine Lib.hid ?_
                              have hw5 : wr.heap.size ≤ W5.heap.size := HD5.out.size
                              go_wp2_with (at_builtin; refine wpList_app_own kindPair _ rfl (.tmp 105) (.tmp 109) rfl wr.heap.size (by rw [World.size_alloc]; omega) g5 s.length k5 _ rfl (own_alloc HO5.out _) _ 1 [.string key, .string val] rfl rfl (one_ss key val) (src_new rfl (World.alloc_heap_new W5 _)) HB8.out.1 HB8.out.2 ?_; intro g6 k6 W6 ho6 hd6 hg6; have HO6 := Lib.hid ho6; have HD6 := Lib.hid (show Kept wr W6 from Below.trans (Below.trans HD5.out (Below.mono (kept_alloc W5 _) HD5.out.size)) hd6); clear ho6 hd6 hg6; refine Hid.out ?_)
                              refine Lib.hid ?_
                              go_wp2
                              go_meet
                              case rel => exact ⟨g6, k6, rfl, ⟨HO6.out, HD6.out⟩⟩
                            · go_wp2_with (at_builtin; refine wpList_app_own kindPair _ rfl (.tmp 101) (.tmp 104) rfl wr.heap.size (by rw [World.size_alloc]; omega) wr.heap.size 0 0 [] rfl (own_empty wr wr.heap.size 2 _ (Nat.le_refl _)) _ s.length (rowCells PairLay (s.take s.length)) rfl HRK.out (rowCells_one _ _) (RowAt.src (HPRE.out.kept (kept_alloc _ _))) HB9.out.1 HB9.out.2 ?_; intro g5 k5 W5 ho5 hd5 hg5; simp only [Nat.zero_add, List.nil_append] at ho5; have HO5 := Lib.hid ho5; have HD5 := Lib.hid (show Kept wr W5 from Below.trans (kept_alloc wr _) hd5); clear ho5 hd5 hg5; refine Hid.out ?_)
                              refine Lib.hid ?_
                              have hw5 : wr.heap.size ≤ W5.heap.size := HD5.out.size
                              go_wp2_with (at_builtin; refine wpList_app_own kindPair _ rfl (.tmp 105) (.tmp 109) rfl wr.heap.size (by rw [World.size_alloc]; omega) g5 s.length k5 _ rfl (own_alloc HO5.out _) _ 1 [.string key, .string val] rfl rfl (one_ss key val) (src_new rfl (World.alloc_heap_new W5 _)) HB8.out.1 HB8.out.2 ?_; intro g6 k6 W6 ho6 hd6 hg6; have HO6 := Lib.hid ho6; have HD6 := Lib.hid (show Kept wr W6 from Below.trans (Below.trans HD5.out (Below.mono (kept_alloc W5 _) HD5.out.size)) hd6); clear ho6 hd6 hg6; refine Hid.out ?_)
                              refine Lib.hid ?_
                              go_wp2
                              go_meet
                              case rel => exact ⟨g6, k6, rfl, ⟨HO6.out, HD6.out⟩⟩
                            · go_wp2_with (at_builtin; refine wpList_app_own kindPair _ rfl (.tmp 101) (.tmp 104) rfl wr.heap.size (by rw [World.size_alloc]; omega) wr.heap.size 0 0 [] rfl (own_empty wr wr.heap.size 2 _ (Nat.le_refl _)) _ s.length (rowCells PairLay (s.take s.length)) rfl HRK.out (rowCells_one _ _) (RowAt.src (HPRE.out.kept (kept_alloc _ _))) HB9.out.1 HB9.out.2 ?_; intro g5 k5 W5 ho5 hd5 hg5; simp only [Nat.zero_add, List.nil_append] at ho5; have HO5 := Lib.hid ho5; have HD5 := Lib.hid (show Kept wr W5 from Below.trans (kept_alloc wr _) hd5); clear ho5 hd5 hg5; refine Hid.out ?_)
                              refine Lib.hid ?_
                              have hw5 : wr.heap.size ≤ W5.heap.size := HD5.out.size
                              go_wp2_with (at_builtin; refine wpList_app_own kindPair _ rfl (.tmp 105) (.tmp 109) rfl wr.heap.size (by rw [World.size_alloc]; omega) g5 s.length k5 _ rfl (own_alloc HO5.out _) _ 1 [.string key, .string val] rfl rfl (one_ss key val) (src_new rfl (World.alloc_heap_new W5 _)) HB8.out.1 HB8.out.2 ?_; intro g6 k6 W6 ho6 hd6 hg6; have HO6 := Lib.hid ho6; have HD6 := Lib.hid (show Kept wr W6 from Below.trans (Below.trans HD5.out (Below.mono (kept_alloc W5 _) HD5.out.size)) hd6); clear ho6 hd6 hg6; refine Hid.out ?_)
                              refine Lib.hid ?_
                              go_wp2
                              go_meet
                              case rel => exact ⟨g6, k6, rfl, ⟨HO6.out, HD6.out⟩⟩
                          case rest =>
                            obtain ⟨g6, k6, rfl, hcut⟩ := hcut
                            have HO6 := Lib.hid hcut.out.1
                            have HD6 := Lib.hid hcut.out.2
                            have hw6 : wr.heap.size ≤ wc.heap.size := HD6.out.size
                            clear hcut
                            go_upto_region 15 with fail
                            go_cut [15] from 111 to 115 (fun s15 wx => Hid (Reads PairLay wx s15 (insP s s.length (key, val)) ∧ Kept wr wx))
                            case first =>
                              rcases a0 with _ | ⟨b0, o0, _ | sp⟩
                              · by_cases hcc : cap0 = s.length
                                · subst hcc
                                  go_wp2_with (at_builtin; refine wpList_app_own kindPair _ rfl (.tmp 111) (.tmp 114) rfl wr.heap.size hw6 g6 (s.length + 1) k6 _ rfl HO6.out _ 0 [] rfl rfl (by intro u hu; cases hu) (by first | exact .inl ⟨_, _, rfl, fun j u hu => by simp at hu⟩ | exact .inr ⟨_, rfl, rfl⟩) HB8.out.1 HB8.out.2 ?_; intro g7 k7 W7 ho7 hd7 hg7; have HO7 := Lib.hid ho7; have HD7 := Lib.hid (show Kept wr W7 from Below.trans HD6.out hd7); clear ho7 hd7 hg7; refine Hid.out ?_)
                                  refine Lib.hid ?_
                                  have UO := Lib.hid (own_ins (k := s.length) (by rw [HNIL.out]; exact HO7.out) (by have := ins_len (x := (key, val)) (Nat.le_refl s.length); rw [Nat.sub_self] at this; exact this) (Reads.fine R0.out) ⟨HKY.out, HVL.out⟩)
                                  have UR := Lib.hid UO.out.reads
                                  go_wp2
                                  go_meet
                                  case rel => exact ⟨UR.out, HD7.out⟩
                                · have hcc2 : ¬ s.length = cap0 := fun h => hcc h.symm
                                  have hcc3 : ¬ cap0 ≤ s.length := by have := HC0.out; omega
                                  have hcc4 : ¬ cap0 - s.length = 0 := by omega
                                  go_wp2_with (at_builtin; refine wpList_app_own kindPair _ rfl (.tmp 111) (.tmp 114) rfl wr.heap.size hw6 g6 (s.length + 1) k6 _ rfl HO6.out _ 0 [] rfl rfl (by intro u hu; cases hu) (by first | exact .inl ⟨_, _, rfl, fun j u hu => by simp at hu⟩ | exact .inr ⟨_, rfl, rfl⟩) HB8.out.1 HB8.out.2 ?_; intro g7 k7 W7 ho7 hd7 hg7; have HO7 := Lib.hid ho7; have HD7 := Lib.hid (show Kept wr W7 from Below.trans HD6.out hd7); clear ho7 hd7 hg7; refine Hid.out ?_)
                                  refine Lib.hid ?_
                                  have UO := Lib.hid (own_ins (k := s.length) (by rw [HNIL.out]; exact HO7.out) (by have := ins_len (x := (key, val)) (Nat.le_refl s.length); rw [Nat.sub_self] at this; exact this) (Reads.fine R0.out) ⟨HKY.out, HVL.out⟩)
                                  have UR := Lib.hid UO.out.reads
                                  go_wp2
                                  go_meet
                                  case rel => exact ⟨UR.out, HD7.out⟩
                              · by_cases hcc : cap0 = s.length
                                · subst hcc
                                  go_wp2_with (at_builtin; refine wpList_app_own kindPair _ rfl (.tmp 111) (.tmp 114) rfl wr.heap.size hw6 g6 (s.length + 1) k6 _ rfl HO6.out _ 0 [] rfl rfl (by intro u hu; cases hu) (by first | exact .inl ⟨_, _, rfl, fun j u hu => by simp at hu⟩ | exact .inr ⟨_, rfl, rfl⟩) HB8.out.1 HB8.out.2 ?_; intro g7 k7 W7 ho7 hd7 hg7; have HO7 := Lib.hid ho7; have HD7 := Lib.hid (show Kept wr W7 from Below.trans HD6.out hd7); clear ho7 hd7 hg7; refine Hid.out ?_)
                                  refine Lib.hid ?_
                                  have UO := Lib.hid (own_ins (k := s.length) (by rw [HNIL.out]; exact HO7.out) (by have := ins_len (x := (key, val)) (Nat.le_refl s.length); rw [Nat.sub_self] at this; exact this) (Reads.fine R0.out) ⟨HKY.out, HVL.out⟩)
                                  have UR := Lib.hid UO.out.reads
                                  go_wp2
                                  go_meet
                                  case rel => exact ⟨UR.out, HD7.out⟩
                                · have hcc2 : ¬ s.length = cap0 := fun h => hcc h.symm
                                  have hcc3 : ¬ cap0 ≤ s.length := by have := HC0.out; omega
                                  have hcc4 : ¬ cap0 - s.length = 0 := by omega
                                  go_wp2_with (at_builtin; refine wpList_app_own kindPair _ rfl (.tmp 111) (.tmp 114) rfl wr.heap.size hw6 g6 (s.length + 1) k6 _ rfl HO6.out _ 0 [] rfl rfl (by intro u hu; cases hu) (by first | exact .inl ⟨_, _, rfl, fun j u hu => by simp at hu⟩ | exact .inr ⟨_, rfl, rfl⟩) HB8.out.1 HB8.out.2 ?_; intro g7 k7 W7 ho7 hd7 hg7; have HO7 := Lib.hid ho7; have HD7 := Lib.hid (show Kept wr W7 from Below.trans HD6.out hd7); clear ho7 hd7 hg7; refine Hid.out ?_)
                                  refine Lib.hid ?_
                                  have UO := Lib.hid (own_ins (k := s.length) (by rw [HNIL.out]; exact HO7.out) (by have := ins_len (x := (key, val)) (Nat.le_refl s.length); rw [Nat.sub_self] at this; exact this) (Reads.fine R0.out) ⟨HKY.out, HVL.out⟩)
                                  have UR := Lib.hid UO.out.reads
                                  go_wp2
                                  go_meet
                                  case rel => exact ⟨UR.out, HD7.out⟩
                              · by_cases hcc : cap0 = s.length
                                · subst hcc
                                  go_wp2_with (at_builtin; refine wpList_app_own kindPair _ rfl (.tmp 111) (.tmp 114) rfl wr.heap.size hw6 g6 (s.length + 1) k6 _ rfl HO6.out _ 0 [] rfl rfl (by intro u hu; cases hu) (by first | exact .inl ⟨_, _, rfl, fun j u hu => by simp at hu⟩ | exact .inr ⟨_, rfl, rfl⟩) HB8.out.1 HB8.out.2 ?_; intro g7 k7 W7 ho7 hd7 hg7; have HO7 := Lib.hid ho7; have HD7 := Lib.hid (show Kept wr W7 from Below.trans HD6.out hd7); clear ho7 hd7 hg7; refine Hid.out ?_)
                                  refine Lib.hid ?_
                                  have UO := Lib.hid (own_ins (k := s.length) (by rw [HNIL.out]; exact HO7.out) (by have := ins_len (x := (key, val)) (Nat.le_refl s.length); rw [Nat.sub_self] at this; exact this) (Reads.fine R0.out) ⟨HKY.out, HVL.out⟩)
                                  have UR := Lib.hid UO.out.reads
                                  go_wp2
                                  go_meet
                                  case rel => exact ⟨UR.out, HD7.out⟩
                                · have hcc2 : ¬ s.length = cap0 := fun h => hcc h.symm
                                  have hcc3 : ¬ cap0 ≤ s.length := by have := HC0.out; omega
                                  have hcc4 : ¬ cap0 - s.length = 0 := by omega
                                  go_wp2_with (at_builtin; refine wpList_app_own kindPair _ rfl (.tmp 111) (.tmp 114) rfl wr.heap.size hw6 g6 (s.length + 1) k6 _ rfl HO6.out _ 0 [] rfl rfl (by intro u hu; cases hu) (by first | exact .inl ⟨_, _, rfl, fun j u hu => by simp at hu⟩ | exact .inr ⟨_, rfl, rfl⟩) HB8.out.1 HB8.out.2 ?_; intro g7 k7 W7 ho7 hd7 hg7; have HO7 := Lib.hid ho7; have HD7 := Lib.hid (show Kept wr W7 from Below.trans HD6.out hd7); clear ho7 hd7 hg7; refine Hid.out ?_)
                                  refine Lib.hid ?_
                                  have UO := Lib.hid (own_ins (k := s.length) (by rw [HNIL.out]; exact HO7.out) (by have := ins_len (x := (key, val)) (Nat.le_refl s.length); rw [Nat.sub_self] at this; exact this) (Reads.fine R0.out) ⟨HKY.out, HVL.out⟩)
                                  have UR := Lib.hid UO.out.reads
                                  go_wp2
                                  go_meet
                                  case rel => exact ⟨UR.out, HD7.out⟩
                            case rest =>
                              have UR := Lib.hid hcut.out.1
                              have HD7 := Lib.hid hcut.out.2
                              clear hcut hw6
                              obtain ⟨W7, hW7⟩ : ∃ W, wc = W := ⟨_, rfl⟩
                              rw [hW7] at UR HD7 ⊢
                              clear hW7
                              go_wp2
                              go_loopw [16] (fun i w2 => ∃ j : Nat, j ≤ s.length ∧ i = .int .i64 j ∧ Kept W7 w2) (fun i _ => s.length - (intOf i).toNat)
                              case atStart => exact ⟨0, Nat.zero_le _, rfl, Kept.refl _⟩
                              case round =>
                                obtain ⟨j, hj9, rfl, hK⟩ := hrel
                                have HKW := Lib.hid hK
                                by_cases hj : j < s.length
                                · obtain ⟨b1, o1, rfl⟩ : ∃ b off, a0 = some ⟨b, off, none⟩ := by
                                    rcases RR.out.form with h | h
                                    · omega
                                    · exact h
                                  obtain ⟨zx, zy, hz, _, _, _, _, e3, e4⟩ := (RR.out.kept (HD7.out.trans hK)).pair hj
                                  have HG := Lib.hid (get_mem HIN.out.2.1 (HIN.out.2.2.1 _ (List.mem_of_getElem? hz)))
                                  clear hz hK
                                  go_wp2_with fail
                                  refine (getR (x := zy) (b := true) (UR.out.kept HKW.out) (by unfold getT; rw [HG.out]; rfl) (by unfold hasS; rw [HG.out]; rfl)).mono ?_
                                  rintro e w40 ⟨rfl, k9⟩
                                  have e3 := cell_later k9 e3
                                  have e4 := cell_later k9 e4
                                  have HKW := Lib.hid (HKW.out.trans k9)
                                  clear k9
                                  go_wp2
                                  go_roundw
                                  case rel => exact ⟨j + 1, by omega, by go_num, HKW.out⟩
                                  case measure => simp [intOf]; omega
                                · have HG := Lib.hid (get_mem HIN.out.2.1 HIN.out.2.2.2)
                                  clear hK
                                  go_wp2_with fail
                                  refine (getR (x := val) (b := true) (UR.out.kept HKW.out) (by unfold getT; rw [HG.out]; rfl) (by unfold hasS; rw [HG.out]; rfl)).mono ?_
                                  rintro e w40 ⟨rfl, k9⟩
                                  have HKW := Lib.hid (HKW.out.trans k9)
                                  clear k9
                                  go_wp2_with fail
                                  refine (checkR (UR.out.kept HKW.out) HIN.out.1).mono ?_
                                  rintro e w41 ⟨rfl, k9⟩
                                  have HKW := Lib.hid (HKW.out.trans k9)
                                  clear k9
                                  go_wp2
                                  go_ret
                                  exact ⟨rfl, K.out.trans (HD7.out.trans HKW.out)⟩
              · have g6 : isName val = false := by simpa using g6
                go_wp2_with fail
                refine (fewR R0.out).mono ?_
                rintro e w21 ⟨rfl, rfl⟩
                go_wp2_with fail
                refine (fewSelR M.out).mono ?_
                rintro e w22 ⟨rfl, rfl⟩
                go_wp2_with fail
                refine (ofR R0.out f1.out).mono ?_
                rintro e w23 ⟨vx, rfl, r, k⟩
                have K := Lib.hid (K.out.trans k)
                have R0 := Lib.hid (R0.out.kept k)
                have R1 := Lib.hid (R1.out.kept k)
                have M := Lib.hid (M.out.kept k)
                have X := Lib.hid r
                clear r
                clear k
                go_wp2_with fail
                refine (refCheckR X.out c1.out).mono ?_
                rintro e w24 ⟨rfl, k⟩
                have K := Lib.hid (K.out.trans k)
                have R0 := Lib.hid (R0.out.kept k)
                have R1 := Lib.hid (R1.out.kept k)
                have M := Lib.hid (M.out.kept k)
                have X := Lib.hid (X.out.kept k)
                clear k
                go_wp2_with fail
                refine (ofSelR M.out f2.out).mono ?_
                rintro e w25 ⟨vy, rfl, r, k⟩
                have K := Lib.hid (K.out.trans k)
                have R0 := Lib.hid (R0.out.kept k)
                have R1 := Lib.hid (R1.out.kept k)
                have M := Lib.hid (M.out.kept k)
                have X := Lib.hid (X.out.kept k)
                have Y := Lib.hid r
                clear r
                clear k
                go_wp2_with fail
                refine (refCheckSelR Y.out c2.out).mono ?_
                rintro e w26 ⟨rfl, k⟩
                have K := Lib.hid (K.out.trans k)
                have R0 := Lib.hid (R0.out.kept k)
                have R1 := Lib.hid (R1.out.kept k)
                have M := Lib.hid (M.out.kept k)
                have X := Lib.hid (X.out.kept k)
                have Y := Lib.hid (Y.out.kept k)
                clear k
                go_wp2_with fail
                refine (refName_any _ _ HKY.out).mono ?_
                rintro e w27 ⟨rfl, rfl⟩
                go_wp2_with fail
                refine (refName_any _ _ HVL.out).mono ?_
                rintro e w28 ⟨rfl, rfl⟩
                go_wp2
                go_ret
                exact ⟨rfl, K.out⟩
            · have g5 : isName key = false := by simpa using g5
              go_wp2_with fail
              refine (fewR R0.out).mono ?_
              rintro e w21 ⟨rfl, rfl⟩
              go_wp2_with fail
              refine (fewSelR M.out).mono ?_
              rintro e w22 ⟨rfl, rfl⟩
              go_wp2_with fail
              refine (ofR R0.out f1.out).mono ?_
              rintro e w23 ⟨vx, rfl, r, k⟩
              have K := Lib.hid (K.out.trans k)
              have R0 := Lib.hid (R0.out.kept k)
              have R1 := Lib.hid (R1.out.kept k)
              have M := Lib.hid (M.out.kept k)
              have X := Lib.hid r
              clear r
              clear k
              go_wp2_with fail
              refine (refCheckR X.out c1.out).mono ?_
              rintro e w24 ⟨rfl, k⟩
              have K := Lib.hid (K.out.trans k)
              have R0 := Lib.hid (R0.out.kept k)
              have R1 := Lib.hid (R1.out.kept k)
              have M := Lib.hid (M.out.kept k)
              have X := Lib.hid (X.out.kept k)
              clear k
              go_wp2_with fail
              refine (ofSelR M.out f2.out).mono ?_
              rintro e w25 ⟨vy, rfl, r, k⟩
              have K := Lib.hid (K.out.trans k)
              have R0 := Lib.hid (R0.out.kept k)
              have R1 := Lib.hid (R1.out.kept k)
              have M := Lib.hid (M.out.kept k)
              have X := Lib.hid (X.out.kept k)
              have Y := Lib.hid r
              clear r
              clear k
              go_wp2_with fail
              refine (refCheckSelR Y.out c2.out).mono ?_
              rintro e w26 ⟨rfl, k⟩
              have K := Lib.hid (K.out.trans k)
              have R0 := Lib.hid (R0.out.kept k)
              have R1 := Lib.hid (R1.out.kept k)
              have M := Lib.hid (M.out.kept k)
              have X := Lib.hid (X.out.kept k)
              have Y := Lib.hid (Y.out.kept k)
              clear k
              go_wp2_with fail
              refine (refName_any _ _ HKY.out).mono ?_
              rintro e w27 ⟨rfl, rfl⟩
              go_wp2
              go_ret
              exact ⟨rfl, K.out⟩
          · obtain ⟨z, hz⟩ : ∃ z, chkL more = z := ⟨_, rfl⟩
            have c2 := Lib.hid hz
            have hz' : (z != 0) = true := by rw [← hz]; simpa using g4
            clear hz g4
            go_wp2_with fail
            refine (fewR R0.out).mono ?_
            rintro e w21 ⟨rfl, rfl⟩
            go_wp2_with fail
            refine (fewSelR M.out).mono ?_
            rintro e w22 ⟨rfl, rfl⟩
            go_wp2_with fail
            refine (ofR R0.out f1.out).mono ?_
            rintro e w23 ⟨vx, rfl, r, k⟩
            have K := Lib.hid (K.out.trans k)
            have R0 := Lib.hid (R0.out.kept k)
            have R1 := Lib.hid (R1.out.kept k)
            have M := Lib.hid (M.out.kept k)
            have X := Lib.hid r
            clear r
            clear k
            go_wp2_with fail
            refine (refCheckR X.out c1.out).mono ?_
            rintro e w24 ⟨rfl, k⟩
            have K := Lib.hid (K.out.trans k)
            have R0 := Lib.hid (R0.out.kept k)
            have R1 := Lib.hid (R1.out.kept k)
            have M := Lib.hid (M.out.kept k)
            have X := Lib.hid (X.out.kept k)
            clear k
            go_wp2_with fail
            refine (ofSelR M.out f2.out).mono ?_
            rintro e w25 ⟨vy, rfl, r, k⟩
            have K := Lib.hid (K.out.trans k)
            have R0 := Lib.hid (R0.out.kept k)
            have R1 := Lib.hid (R1.out.kept k)
            have M := Lib.hid (M.out.kept k)
            have X := Lib.hid (X.out.kept k)
            have Y := Lib.hid r
            clear r
            clear k
            go_wp2_with fail
            refine (refCheckSelR Y.out c2.out).mono ?_
            rintro e w26 ⟨rfl, k⟩
            have K := Lib.hid (K.out.trans k)
            have R0 := Lib.hid (R0.out.kept k)
            have R1 := Lib.hid (R1.out.kept k)
            have M := Lib.hid (M.out.kept k)
            have X := Lib.hid (X.out.kept k)
            have Y := Lib.hid (Y.out.kept k)
            clear k
            go_wp2
            go_ret
            exact ⟨rfl, K.out⟩
        · obtain ⟨z, hz⟩ : ∃ z, chkS s = z := ⟨_, rfl⟩
          have c1 := Lib.hid hz
          have hz' : (z != 0) = true := by rw [← hz]; simpa using g3
          clear hz g3
          go_wp2_with fail
          refine (fewR R0.out).mono ?_
          rintro e w21 ⟨rfl, rfl⟩
          go_wp2_with fail
          refine (fewSelR M.out).mono ?_
          rintro e w22 ⟨rfl, rfl⟩
          go_wp2_with fail
          refine (ofR R0.out f1.out).mono ?_
          rintro e w23 ⟨vx, rfl, r, k⟩
          have K := Lib.hid (K.out.trans k)
          have R0 := Lib.hid (R0.out.kept k)
          have R1 := Lib.hid (R1.out.kept k)
          have M := Lib.hid (M.out.kept k)
          have X := Lib.hid r
          clear r
          clear k
          go_wp2_with fail
          refine (refCheckR X.out c1.out).mono ?_
          rintro e w24 ⟨rfl, k⟩
          have K := Lib.hid (K.out.trans k)
          have R0 := Lib.hid (R0.out.kept k)
          have R1 := Lib.hid (R1.out.kept k)
          have M := Lib.hid (M.out.kept k)
          have X := Lib.hid (X.out.kept k)
          clear k
          go_wp2
          go_ret
          exact ⟨rfl, K.out⟩
      · have g2 : fewL more = false := by simpa using g2
        go_wp2_with fail
        refine (fewR R0.out).mono ?_
        rintro e w21 ⟨rfl, rfl⟩
        go_wp2_with fail
        refine (fewSelR M.out).mono ?_
        rintro e w22 ⟨rfl, rfl⟩
        go_wp2
        go_ret
        exact ⟨rfl, K.out⟩
    · have g1 : fewS s = false := by simpa using g1
      go_wp2_with fail
      refine (fewR R0.out).mono ?_
      rintro e w21 ⟨rfl, rfl⟩
      go_wp2
      go_ret
      exact ⟨rfl, K.out⟩

end Go.Proofs.YtmmjcomoabfmnaaDoor
