/- TaintOrder: the walk. -/
import Derived.Test.YthlhaefaafjmlaaDoorTaKnown
import Derived.Test.YthlhaefaafjmlaaDoorTaOf
import Derived.Test.YthlhaefaafjmlaaDoorTaRefChk
import Derived.Test.YthlhaefaafjmlaaDoorGApp
import Derived.OpenShut
import Derived.StillTailTactics
import Derived.Deep.RegionHeld3
import Derived.Deep.CutRange
import Derived.Deep.RegionLaw
namespace Go.Proofs.YthlhaefaafjmlaaDoor
open Go.RowKit Go.Sort
set_option linter.unusedVariables false

theorem kindA : Kind 22 37 3 40 := by
  obtain ⟨i, hi, hz, h1, h2⟩ := info_parts (show (Tryd.prog.info? 37).map (fun i => (i.zero, i.size, i.bytes)) = some (some (.agg #[.string ByteArray.empty, .string ByteArray.empty, .bool false]), 3, 40) by kernel_rfl)
  exact ⟨i, _, Tryd.underlying22, hi, hz, h1, h2, rfl, by decide⟩

/-- A hard one that is not borne. -/
def badN (l : NL) (x : NT) : Bool := x.2.2 && !bearsN l x
theorem worst_some (l : NL) : ∀ t : NL, (worstN l t).isSome = t.any (badN l)
  | [] => rfl
  | x :: r => by
    rw [worst_cons, List.any_cons, ← worst_some l r]
    unfold badN
    cases h : (x.2.2 && !bearsN l x) <;> simp
theorem worst_is (l : NL) : ∀ (t : NL) (z : NT), worstN l t = some z → z.2.2 = true ∧ bearsN l z = false
  | [], z, h => by cases h
  | x :: r, z, h => by
    rw [worst_cons] at h
    cases hx : (x.2.2 && !bearsN l x) with
    | true =>
      rw [hx, if_pos rfl] at h
      have : x = z := by simpa using h
      subst this
      simpa using hx
    | false =>
      rw [hx, if_neg (by decide)] at h
      exact worst_is l r z h
def cntN (l : NL) : NL → Nat
  | [] => 0
  | x :: r => (if badN l x = true then 1 else 0) + cntN l r
theorem cnt_cons {l : NL} {x : NT} {r : NL} : cntN l (x :: r) = (if badN l x = true then 1 else 0) + cntN l r := rfl
theorem cnt_pos (l : NL) : ∀ t : NL, decide (0 < cntN l t) = t.any (badN l)
  | [] => rfl
  | x :: r => by
    rw [cnt_cons, List.any_cons, ← cnt_pos l r]
    cases h : badN l x
    · simp
    · simp; omega
theorem soft_app (l : NL) : ∀ a b : NL, softN l (a ++ b) = softN l a + softN l b
  | [], b => by simp [softN]
  | x :: a, b => by rw [List.cons_append, soft_cons, soft_cons, soft_app l a b]; omega
theorem turned_soft (l t : NL) (k : Nat) : softN l (t.drop k ++ t.take k) = softN l t := by
  have := soft_app l (t.take k) (t.drop k)
  rw [List.take_append_drop] at this
  rw [soft_app, this]; omega
theorem turned_any (l t : NL) (k : Nat) : (t.drop k ++ t.take k).any (badN l) = t.any (badN l) := by
  have : (t.take k ++ t.drop k).any (badN l) = t.any (badN l) := by rw [List.take_append_drop]
  rw [List.any_append] at this
  rw [List.any_append, Bool.or_comm, this]
theorem RowAt.back {α : Type} {L : Lay α} {w : World} {b off len : Nat} {l : List α} (h : RowAt L w (some ⟨b, off, none⟩) len l) {k : Nat} (hk : k ≤ len) : RowAt L w (some ⟨b, off + k * L.m, none⟩) (len - k) (l.drop k) := by
  have := h.part k (len - k) (by omega)
  rw [List.take_of_length_le (by rw [List.length_drop, h.1]; omega)] at this
  exact this
theorem nt_parts' (t : NT) : ∃ x y m, t = (x, y, m) := ⟨t.1, t.2.1, t.2.2, rfl⟩

set_option maxRecDepth 100000 in
set_option maxHeartbeats 16000000 in
theorem TaintOrder_nat (v0 : Value) (t : NL) (v1 : Value) (l : NL) (turn : Nat) (w : World) (hE : Env w) (r0 : Reads TaLay w v0 t) (r1 : Reads TaLay w v1 l) (ht : turn < 256) :
    Calls Tryd.prog 6 #[v0, v1, .int .u8 turn] w fun e w' => e = .returned (.bool true) ∧ Kept w w' := by
  have HK := Lib.hid (known_any w hE)
  obtain ⟨a0, cap0, rfl, hcap, _, q0⟩ := id r0
  have R0 := Lib.hid r0
  have R1 := Lib.hid r1
  have Q0 := Lib.hid q0
  obtain ⟨n, hn⟩ : ∃ n, t.length = n := ⟨_, rfl⟩
  have HN := Lib.hid hn
  rw [hn] at R0 Q0 hcap ⊢
  clear hE r0 r1 q0 hn
  by_cases g1 : fewN t = true
  · have f1 := Lib.hid g1
    have hn20 : n ≤ 20 := by rw [← HN.out]; exact (few_mid g1).1
    by_cases g2 : fewN l = true
    · have f2 := Lib.hid g2
      by_cases h1 : 1 ≤ n
      · have h1' : ¬ (n : Int) < 1 := by omega
        obtain ⟨c1, hc1⟩ : ∃ c, chkA t = c := ⟨_, rfl⟩
        obtain ⟨c2, hc2⟩ : ∃ c, chkO l = c := ⟨_, rfl⟩
        have C1 := Lib.hid hc1
        have C2 := Lib.hid hc2
        by_cases z1 : c1 = 0
        · subst z1
          by_cases z2 : c2 = 0
          · subst z2
            clear hc1 hc2
            go_enter Tryd.func6, Tryd.ntmps6
            go_wp2_with fail
            refine (HK.out).mono ?_
            rintro e w1 ⟨rfl, k⟩
            have K := Lib.hid k
            have R0 := Lib.hid (R0.out.kept k)
            have R1 := Lib.hid (R1.out.kept k)
            clear k
            go_wp2_with fail
            refine (fewAR R0.out).mono ?_
            rintro e w2 ⟨rfl, rfl⟩
            go_wp2_with fail
            refine (fewOR R1.out).mono ?_
            rintro e w3 ⟨rfl, rfl⟩
            go_wp2_with fail
            refine (ofAR R0.out f1.out).mono ?_
            rintro e w4 ⟨vx, rfl, r, k⟩
            have K := Lib.hid (K.out.trans k)
            have R0 := Lib.hid (R0.out.kept k)
            have R1 := Lib.hid (R1.out.kept k)
            have X := Lib.hid r
            clear r
            clear k
            go_wp2_with fail
            refine (refCheckAR X.out C1.out).mono ?_
            rintro e w5 ⟨rfl, k⟩
            have K := Lib.hid (K.out.trans k)
            have R0 := Lib.hid (R0.out.kept k)
            have R1 := Lib.hid (R1.out.kept k)
            have X := Lib.hid (X.out.kept k)
            clear k
            go_wp2_with fail
            refine (ofOR R1.out f2.out).mono ?_
            rintro e w6 ⟨vy, rfl, r, k⟩
            have K := Lib.hid (K.out.trans k)
            have R0 := Lib.hid (R0.out.kept k)
            have R1 := Lib.hid (R1.out.kept k)
            have X := Lib.hid (X.out.kept k)
            have Y := Lib.hid r
            clear r
            clear k
            go_wp2_with fail
            refine (refCheckOR Y.out C2.out).mono ?_
            rintro e w7 ⟨rfl, k⟩
            have K := Lib.hid (K.out.trans k)
            have R0 := Lib.hid (R0.out.kept k)
            have R1 := Lib.hid (R1.out.kept k)
            have X := Lib.hid (X.out.kept k)
            have Y := Lib.hid (Y.out.kept k)
            clear k
            have Q0 := Lib.hid (Q0.out.kept K.out)
            obtain ⟨b, off, rfl⟩ : ∃ b off, a0 = some ⟨b, off, none⟩ := by
              rcases Q0.out.form with h | h
              · omega
              · exact h
            obtain ⟨k, hk⟩ : ∃ k, turn % n = k := ⟨_, rfl⟩
            have hkn : k < n := by rw [← hk]; exact Nat.mod_lt _ (by omega)
            have rk : (turn : Int).tmod (n : Int) = (k : Int) := by rw [Int.tmod_eq_emod_of_nonneg (by omega), ← hk]; rfl
            have wk : IntKind.i64.wrap (k : Int) = (k : Int) := by rw [IntKind.wrap_i64]; omega
            have wt : IntKind.i64.wrap (turn : Int) = (turn : Int) := by rw [IntKind.wrap_i64]; omega
            have hn0 : ((n : Int) == 0) = false := by
              have : (n : Int) ≠ 0 := by omega
              simpa using this
            have i1 : (k : Int) ≤ (cap0 : Int) := by omega
            have i2 : (k : Int) ≤ (n : Int) := by omega
            have i3 : (n : Int) ≤ (cap0 : Int) := by omega
            have j1 : k ≤ cap0 := by omega
            have j2 : k ≤ n := by omega
            have hck : ¬ cap0 = k := by omega
            clear hk
            go_wp2_with fail
            go_cut [8] from 47 to 55 (fun s8 wx => Hid (Reads TaLay wx s8 (t.drop k ++ t.take k) ∧ Kept w7 wx))
            case first =>
              have HB1 := Lib.hid ((Q0.out.kept (Kept.refl _)).back j2)
              have HB2 := Lib.hid (Q0.out.front j2)
              have hl1 : (rowCells TaLay (t.drop k)).length = (n - k) * 3 := (rowCells_length TaLay (t.drop k)).trans (by rw [List.length_drop, HN.out]; rfl)
              have hl2 : (rowCells TaLay (t.take k)).length = k * 3 := (rowCells_length TaLay (t.take k)).trans (by rw [List.length_take, HN.out, Nat.min_eq_left j2]; rfl)
              have HFT := Lib.hid R0.out.fine
              have HM1 := Lib.hid (show 0 + (n - k) ≤ maxLen ∧ ((0 + (n - k)) + (0 + (n - k)) / 4 + 192) * 40 ≤ 281474976710656 by
                unfold maxLen; omega)
              have HM2 := Lib.hid (show (n - k) + k ≤ maxLen ∧ (((n - k) + k) + ((n - k) + k) / 4 + 192) * 40 ≤ 281474976710656 by
                unfold maxLen; omega)
              have KA := Lib.hid (show Kept w7 ((w7.alloc (.cells #[] 37)).drew) from (kept_alloc _ _).trans (Kept.drewN _ 1))
              go_region_law
                (first
                  | (refine step_app_own kindA _ rfl (.tmp 47) (.tmp 50) rfl w7.heap.size ?_ _ 0 0 [] rfl ?_ _ (n - k) (rowCells TaLay (t.drop k)) rfl hl1 (rowCells_one _ _) ?_ HM1.out.1 HM1.out.2 ?_
                     · exact KA.out.size
                     · exact own_empty w7 _ _ _ (Nat.le_refl _)
                     · exact RowAt.src (HB1.out.kept KA.out)
                     rintro gb1 kb1 W1 ho1 hd1 hg1
                     simp only [Nat.zero_add, List.nil_append] at ho1 ⊢
                     have KB := Lib.hid (show Kept w7 W1 from Below.trans KA.out hd1))
                  | (refine step_app_own kindA _ rfl (.tmp 51) (.tmp 54) rfl w7.heap.size ?_ _ (n - k) _ (rowCells TaLay (t.drop k)) rfl ?_ _ k (rowCells TaLay (t.take k)) rfl hl2 (rowCells_one _ _) ?_ HM2.out.1 HM2.out.2 ?_
                     · exact KB.out.size
                     · exact ho1
                     · exact RowAt.src (HB2.out.kept KB.out)
                     rintro gb2 kb2 W2 ho2 hd2 hg2
                     have hS2 := Lib.hid (show Kept w7 W2 from Below.trans KB.out hd2)))
              all_goals
                rw [show n - k + k = n by omega] at ho2
                go_wp2
                go_meet
                case rel =>
                  refine ⟨?_, hS2.out⟩
                  have hlen : (t.drop k ++ t.take k).length = n := by rw [List.length_append, List.length_drop, List.length_take, HN.out, Nat.min_eq_left j2]; omega
                  have ho : Own TaLay 37 W2 w7.heap.size (.slice (some ⟨gb2, 0, none⟩) n kb2) (t.drop k ++ t.take k) := by
                    refine ⟨by rw [hlen, rowCells_append]; exact ho2, fun z hz => ?_⟩
                    rcases List.mem_append.1 hz with g | g
                    · exact HFT.out z (List.mem_of_mem_drop g)
                    · exact HFT.out z (List.mem_of_mem_take g)
                  exact ho.reads
            case rest =>
              have K := Lib.hid (K.out.trans hcut.out.2)
              have R0 := Lib.hid (R0.out.kept hcut.out.2)
              have R1 := Lib.hid (R1.out.kept hcut.out.2)
              have Q0 := Lib.hid (Q0.out.kept hcut.out.2)
              have U := Lib.hid hcut.out.1
              clear hcut rk wk wt i1 i2 i3
              obtain ⟨x1, y1, m1, hw1⟩ := nt_parts' (wT (worstN l t))
              obtain ⟨x2, y2, m2, hw2⟩ := nt_parts' (wT (worstN l (t.drop k ++ t.take k)))
              obtain ⟨sb, hsb⟩ : ∃ z, t.any (badN l) = z := ⟨_, rfl⟩
              have W1 := Lib.hid hw1
              have W2 := Lib.hid hw2
              have B1 := Lib.hid ((worst_some l t).trans hsb)
              have B2 := Lib.hid ((worst_some l (t.drop k ++ t.take k)).trans ((turned_any l t k).trans hsb))
              obtain ⟨sn, hsn⟩ : ∃ z, softN l t = z := ⟨_, rfl⟩
              have SN := Lib.hid hsn
              have SU := Lib.hid ((turned_soft l t k).trans hsn)
              have HSB := Lib.hid hsb
              have HCP := Lib.hid ((cnt_pos l t).trans hsb)
              clear hw1 hw2 hsb hsn
              go_wp2_with fail
              refine (worstR R1.out R0.out W1.out B1.out).mono ?_
              rintro e w8 ⟨rfl, k⟩
              have K := Lib.hid (K.out.trans k)
              have R0 := Lib.hid (R0.out.kept k)
              have R1 := Lib.hid (R1.out.kept k)
              have U := Lib.hid (U.out.kept k)
              clear k
              have K := Lib.hid (K.out.trans (kept_alloc w8 (.cells #[.string x1, .string y1, .bool m1] 37)))
              have R0 := Lib.hid (R0.out.kept (kept_alloc w8 (.cells #[.string x1, .string y1, .bool m1] 37)))
              have R1 := Lib.hid (R1.out.kept (kept_alloc w8 (.cells #[.string x1, .string y1, .bool m1] 37)))
              have U := Lib.hid (U.out.kept (kept_alloc w8 (.cells #[.string x1, .string y1, .bool m1] 37)))
              go_wp2_with fail
              refine (worstR R1.out U.out W2.out B2.out).mono ?_
              rintro e w9 ⟨rfl, k⟩
              have K := Lib.hid (K.out.trans k)
              have R0 := Lib.hid (R0.out.kept k)
              have R1 := Lib.hid (R1.out.kept k)
              have U := Lib.hid (U.out.kept k)
              clear k
              have c := TriAt.new w9 x2 y2 m2 37
              have c1 := c.1
              have c2 := c.2.1
              have c3 := c.2.2
              dsimp only at c1 c2 c3
              clear c
              have K := Lib.hid (K.out.trans (kept_alloc w9 (.cells #[.string x2, .string y2, .bool m2] 37)))
              have R0 := Lib.hid (R0.out.kept (kept_alloc w9 (.cells #[.string x2, .string y2, .bool m2] 37)))
              have R1 := Lib.hid (R1.out.kept (kept_alloc w9 (.cells #[.string x2, .string y2, .bool m2] 37)))
              have U := Lib.hid (U.out.kept (kept_alloc w9 (.cells #[.string x2, .string y2, .bool m2] 37)))
              go_wp2
              obtain ⟨W0, hW0⟩ : ∃ W, w9.alloc (.cells #[.string x2, .string y2, .bool m2] 37) = W := ⟨_, rfl⟩
              rw [hW0] at c1 c2 c3 K R0 R1 U ⊢
              clear hW0
              have Q0 := Lib.hid (show RowAt TaLay W0 (some ⟨b, off, none⟩) n t by obtain ⟨_, _, e, _, _, h⟩ := R0.out; cases e; rw [HN.out] at h; exact h)
              go_loopw [13, 14] (fun v i wr => ∃ j m : Nat, j ≤ n ∧ i = .int .i64 j ∧ v = .int .i64 m ∧ m ≤ j ∧ m + cntN l (t.drop j) = cntN l t ∧ Kept W0 wr) (fun _ i _ => n - (intOf i).toNat)
              case atStart => exact ⟨0, 0, Nat.zero_le _, rfl, rfl, Nat.le_refl _, by simp, Kept.refl _⟩
              case round =>
                obtain ⟨j, m, hj, rfl, rfl, hm, hrest, hB⟩ := hrel
                have HB := Lib.hid hB
                by_cases hlt : j < n
                · obtain ⟨x, y, z, hx, hd, _, _, _, d1, d2, d3⟩ := (Q0.out.kept hB).tri hlt
                  obtain ⟨q, hq⟩ : ∃ q, bearsN l (x, y, z) = q := ⟨_, rfl⟩
                  have HS := Lib.hid (show m + ((if (z && !q) = true then 1 else 0) + cntN l (t.drop (j + 1))) = cntN l t by rw [← hrest, hd, cnt_cons, ← hq]; rfl)
                  have RL := Lib.hid (R1.out.kept hB)
                  have HQ := Lib.hid hq
                  have hlt' : (j : Int) < (n : Int) := by omega
                  clear hx hd hq hB hrest
                  cases z with
                  | false =>
                    go_wp2_with fail
                    go_roundw
                    case rel => exact ⟨j + 1, m, by omega, by go_num, rfl, by omega, by have := HS.out; simpa using this, HB.out⟩
                    case measure => simp [intOf]; omega
                  | true =>
                    cases q with
                    | true =>
                      go_wp2_with (go_at_call 25; refine (bearsR RL.out HQ.out).mono ?_; rintro e w30 ⟨rfl, k30⟩; have K30 := Lib.hid k30; clear k30)
                      go_roundw
                      case rel => exact ⟨j + 1, m, by omega, by go_num, rfl, by omega, by have := HS.out; simpa using this, HB.out.trans K30.out⟩
                      case measure => simp [intOf]; omega
                    | false =>
                      go_wp2_with (go_at_call 25; refine (bearsR RL.out HQ.out).mono ?_; rintro e w30 ⟨rfl, k30⟩; have K30 := Lib.hid k30; clear k30)
                      go_roundw
                      case rel => exact ⟨j + 1, m + 1, by omega, by go_num, by go_num, by omega, by have := HS.out; simp at this; omega, HB.out.trans K30.out⟩
                      case measure => simp [intOf]; omega
                · have hmc : m = cntN l t := by rw [← hrest, drop_end (by rw [HN.out]; exact hlt)]; rfl
                  have HCM := Lib.hid (show decide (0 < m) = sb by rw [hmc]; exact HCP.out)
                  have K := Lib.hid (K.out.trans hB)
                  have R0 := Lib.hid (R0.out.kept hB)
                  have R1 := Lib.hid (R1.out.kept hB)
                  have U := Lib.hid (U.out.kept hB)
                  have c1 := cell_later hB c1
                  have c2 := cell_later hB c2
                  have c3 := cell_later hB c3
                  clear hB hrest hmc
                  cases sb with
                  | true =>
                    have hpos : (0 : Int) < (m : Int) := by have := of_decide_eq_true HCM.out; omega
                    obtain ⟨z, hz⟩ : ∃ z, worstN l (t.drop k ++ t.take k) = some z := Option.isSome_iff_exists.1 B2.out
                    have hzz : z = (x2, y2, m2) := by have h := W2.out; rw [hz] at h; exact h
                    have hzi := worst_is l _ z hz
                    rw [hzz] at hzi
                    have hm2 : m2 = true := hzi.1
                    subst hm2
                    have HBW := Lib.hid hzi.2
                    clear hz hzz hzi
                    go_wp2_with fail
                    refine (softR R1.out R0.out SN.out).mono ?_
                    rintro e w10 ⟨rfl, k⟩
                    have K := Lib.hid (K.out.trans k)
                    have R0 := Lib.hid (R0.out.kept k)
                    have R1 := Lib.hid (R1.out.kept k)
                    have U := Lib.hid (U.out.kept k)
                    have c1 := cell_later k c1
                    have c2 := cell_later k c2
                    have c3 := cell_later k c3
                    clear k
                    go_wp2_with fail
                    refine (softR R1.out U.out SU.out).mono ?_
                    rintro e w11 ⟨rfl, k⟩
                    have K := Lib.hid (K.out.trans k)
                    have R0 := Lib.hid (R0.out.kept k)
                    have R1 := Lib.hid (R1.out.kept k)
                    have U := Lib.hid (U.out.kept k)
                    have c1 := cell_later k c1
                    have c2 := cell_later k c2
                    have c3 := cell_later k c3
                    clear k
                    go_wp2_with fail
                    refine (bearsR R1.out HBW.out).mono ?_
                    rintro e w12 ⟨rfl, k⟩
                    have K := Lib.hid (K.out.trans k)
                    have R0 := Lib.hid (R0.out.kept k)
                    have R1 := Lib.hid (R1.out.kept k)
                    have U := Lib.hid (U.out.kept k)
                    clear k
                    go_wp2
                    go_ret
                    exact ⟨rfl, K.out⟩
                  | false =>
                    have hzero : ¬ (0 : Int) < (m : Int) := by have := of_decide_eq_false HCM.out; omega
                    go_wp2_with fail
                    refine (softR R1.out R0.out SN.out).mono ?_
                    rintro e w13 ⟨rfl, k⟩
                    have K := Lib.hid (K.out.trans k)
                    have R0 := Lib.hid (R0.out.kept k)
                    have R1 := Lib.hid (R1.out.kept k)
                    have U := Lib.hid (U.out.kept k)
                    clear k
                    go_wp2_with fail
                    refine (softR R1.out U.out SU.out).mono ?_
                    rintro e w14 ⟨rfl, k⟩
                    have K := Lib.hid (K.out.trans k)
                    have R0 := Lib.hid (R0.out.kept k)
                    have R1 := Lib.hid (R1.out.kept k)
                    have U := Lib.hid (U.out.kept k)
                    clear k
                    go_wp2
                    go_ret
                    exact ⟨rfl, K.out⟩
          · have n2 : (c2 != 0) = true := by simpa using z2
            clear hc1 hc2 z2
            go_enter Tryd.func6, Tryd.ntmps6
            go_wp2_with fail
            refine (HK.out).mono ?_
            rintro e w1 ⟨rfl, k⟩
            have K := Lib.hid k
            have R0 := Lib.hid (R0.out.kept k)
            have R1 := Lib.hid (R1.out.kept k)
            clear k
            go_wp2_with fail
            refine (fewAR R0.out).mono ?_
            rintro e w2 ⟨rfl, rfl⟩
            go_wp2_with fail
            refine (fewOR R1.out).mono ?_
            rintro e w3 ⟨rfl, rfl⟩
            go_wp2_with fail
            refine (ofAR R0.out f1.out).mono ?_
            rintro e w4 ⟨vx, rfl, r, k⟩
            have K := Lib.hid (K.out.trans k)
            have R0 := Lib.hid (R0.out.kept k)
            have R1 := Lib.hid (R1.out.kept k)
            have X := Lib.hid r
            clear r
            clear k
            go_wp2_with fail
            refine (refCheckAR X.out C1.out).mono ?_
            rintro e w5 ⟨rfl, k⟩
            have K := Lib.hid (K.out.trans k)
            have R0 := Lib.hid (R0.out.kept k)
            have R1 := Lib.hid (R1.out.kept k)
            have X := Lib.hid (X.out.kept k)
            clear k
            go_wp2_with fail
            refine (ofOR R1.out f2.out).mono ?_
            rintro e w6 ⟨vy, rfl, r, k⟩
            have K := Lib.hid (K.out.trans k)
            have R0 := Lib.hid (R0.out.kept k)
            have R1 := Lib.hid (R1.out.kept k)
            have X := Lib.hid (X.out.kept k)
            have Y := Lib.hid r
            clear r
            clear k
            go_wp2_with fail
            refine (refCheckOR Y.out C2.out).mono ?_
            rintro e w7 ⟨rfl, k⟩
            have K := Lib.hid (K.out.trans k)
            have R0 := Lib.hid (R0.out.kept k)
            have R1 := Lib.hid (R1.out.kept k)
            have X := Lib.hid (X.out.kept k)
            have Y := Lib.hid (Y.out.kept k)
            clear k
            go_wp2
            go_ret
            exact ⟨rfl, K.out⟩
        · have n1 : (c1 != 0) = true := by simpa using z1
          clear hc1 hc2 z1
          go_enter Tryd.func6, Tryd.ntmps6
          go_wp2_with fail
          refine (HK.out).mono ?_
          rintro e w1 ⟨rfl, k⟩
          have K := Lib.hid k
          have R0 := Lib.hid (R0.out.kept k)
          have R1 := Lib.hid (R1.out.kept k)
          clear k
          go_wp2_with fail
          refine (fewAR R0.out).mono ?_
          rintro e w2 ⟨rfl, rfl⟩
          go_wp2_with fail
          refine (fewOR R1.out).mono ?_
          rintro e w3 ⟨rfl, rfl⟩
          go_wp2_with fail
          refine (ofAR R0.out f1.out).mono ?_
          rintro e w4 ⟨vx, rfl, r, k⟩
          have K := Lib.hid (K.out.trans k)
          have R0 := Lib.hid (R0.out.kept k)
          have R1 := Lib.hid (R1.out.kept k)
          have X := Lib.hid r
          clear r
          clear k
          go_wp2_with fail
          refine (refCheckAR X.out C1.out).mono ?_
          rintro e w5 ⟨rfl, k⟩
          have K := Lib.hid (K.out.trans k)
          have R0 := Lib.hid (R0.out.kept k)
          have R1 := Lib.hid (R1.out.kept k)
          have X := Lib.hid (X.out.kept k)
          clear k
          go_wp2
          go_ret
          exact ⟨rfl, K.out⟩
      · have h1' : (n : Int) < 1 := by omega
        go_enter Tryd.func6, Tryd.ntmps6
        go_wp2_with fail
        refine (HK.out).mono ?_
        rintro e w1 ⟨rfl, k⟩
        have K := Lib.hid k
        have R0 := Lib.hid (R0.out.kept k)
        have R1 := Lib.hid (R1.out.kept k)
        clear k
        go_wp2_with fail
        refine (fewAR R0.out).mono ?_
        rintro e w2 ⟨rfl, rfl⟩
        go_wp2_with fail
        refine (fewOR R1.out).mono ?_
        rintro e w3 ⟨rfl, rfl⟩
        go_wp2
        go_ret
        exact ⟨rfl, K.out⟩
    · have g2 : fewN l = false := by simpa using g2
      go_enter Tryd.func6, Tryd.ntmps6
      go_wp2_with fail
      refine (HK.out).mono ?_
      rintro e w1 ⟨rfl, k⟩
      have K := Lib.hid k
      have R0 := Lib.hid (R0.out.kept k)
      have R1 := Lib.hid (R1.out.kept k)
      clear k
      go_wp2_with fail
      refine (fewAR R0.out).mono ?_
      rintro e w2 ⟨rfl, rfl⟩
      go_wp2_with fail
      refine (fewOR R1.out).mono ?_
      rintro e w3 ⟨rfl, rfl⟩
      go_wp2
      go_ret
      exact ⟨rfl, K.out⟩
  · have g1 : fewN t = false := by simpa using g1
    go_enter Tryd.func6, Tryd.ntmps6
    go_wp2_with fail
    refine (HK.out).mono ?_
    rintro e w1 ⟨rfl, k⟩
    have K := Lib.hid k
    have R0 := Lib.hid (R0.out.kept k)
    have R1 := Lib.hid (R1.out.kept k)
    clear k
    go_wp2_with fail
    refine (fewAR R0.out).mono ?_
    rintro e w2 ⟨rfl, rfl⟩
    go_wp2
    go_ret
    exact ⟨rfl, K.out⟩

theorem TaintOrder_walk (v0 : Value) (t : NL) (v1 : Value) (l : NL) (n2 : Int) (w : World) (hE : Env w) (r0 : Reads TaLay w v0 t) (r1 : Reads TaLay w v1 l) (h2 : (Lit.int .u8 n2).wf = true) :
    Calls Tryd.prog 6 #[v0, v1, .int .u8 n2] w fun e w' => e = .returned (.bool true) ∧ Kept w w' := by
  have b2 := bounds_u8 h2
  obtain ⟨a, rfl⟩ : ∃ a : Nat, n2 = a := ⟨n2.toNat, by omega⟩
  exact TaintOrder_nat v0 t v1 l a w hE r0 r1 (by omega)

end Go.Proofs.YthlhaefaafjmlaaDoor
