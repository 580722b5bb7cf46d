/- TaintAny: the walk. -/
import Derived.Test.YthlhaefaafjmlaaDoorTaKnown
import Derived.Test.YthlhaefaafjmlaaDoorTaOf
import Derived.Test.YthlhaefaafjmlaaDoorTaSame
import Derived.Test.YthlhaefaafjmlaaDoorTaTold
import Derived.Test.YthlhaefaafjmlaaDoorTaRefChk
import Derived.Test.YthlhaefaafjmlaaDoorTaRefBear
import Derived.Test.YthlhaefaafjmlaaDoorTaRefTellA
import Derived.Test.YthlhaefaafjmlaaDoorTaRefTellO
namespace Go.Proofs.YthlhaefaafjmlaaDoor
open Go.RowKit Go.Sort
set_option linter.unusedVariables false

theorem parseAB {t : ByteArray} {c : Int} {l : NL} {w : World} (hE : Env w) (hs : t.size ≤ 1000000) (h : parsedA t.data.toList = (c, l)) :
    Calls Tryd.prog 27 #[.string t] w (Got TaLay c l w) := by
  have := parseAR (s := t.data.toList) hE (by rw [Array.length_toList, ByteArray.size_data]; exact hs) h
  rw [bytes_data] at this; exact this
theorem parseOB {t : ByteArray} {c : Int} {l : NL} {w : World} (hE : Env w) (hs : t.size ≤ 1000000) (h : parsedO t.data.toList = (c, l)) :
    Calls Tryd.prog 28 #[.string t] w (Got TaLay c l w) := by
  have := parseOR (s := t.data.toList) hE (by rw [Array.length_toList, ByteArray.size_data]; exact hs) h
  rw [bytes_data] at this; exact this
theorem taint_short {z : NT} (h : z.1.size ≤ 50 ∧ z.2.1.size ≤ 50) : (taintB z).size ≤ 102 := by
  have e1 : (⟨#[58]⟩ : ByteArray).size = 1 := rfl
  have e2 : (⟨#[33]⟩ : ByteArray).size = 1 := rfl
  unfold taintB
  split
  · rw [ByteArray.size_append, ByteArray.size_append, ByteArray.size_append]; omega
  · rw [ByteArray.size_append, ByteArray.size_append]; omega
theorem tol_short {z : NT} (h : z.1.size ≤ 50 ∧ z.2.1.size ≤ 50) : (tolB z).size ≤ 102 := by
  have e1 : (⟨#[58]⟩ : ByteArray).size = 1 := rfl
  have e2 : (starB z.1).size ≤ 50 := by
    unfold starB
    split
    · exact (by decide : (⟨#[42]⟩ : ByteArray).size ≤ 50)
    · exact h.1
  unfold tolB
  split
  · omega
  · rw [ByteArray.size_append, ByteArray.size_append]; omega
theorem textA_short {s : NL} (h : fewN s = true) : (textA s).size ≤ 1000000 := by
  have hm := few_mid h
  unfold textA
  split
  · exact (by decide : (⟨#[45]⟩ : ByteArray).size ≤ 1000000)
  · have := joinB_short (ts := s.map taintB) (B := 102) (by
      intro y hy
      obtain ⟨z, hz, rfl⟩ := List.mem_map.1 hy
      exact taint_short (hm.2 z hz))
    rw [List.length_map] at this
    omega
theorem textO_short {s : NL} (h : fewN s = true) : (textO s).size ≤ 1000000 := by
  have hm := few_mid h
  unfold textO
  split
  · exact (by decide : (⟨#[45]⟩ : ByteArray).size ≤ 1000000)
  · have := joinB_short (ts := s.map tolB) (B := 102) (by
      intro y hy
      obtain ⟨z, hz, rfl⟩ := List.mem_map.1 hy
      exact tol_short (hm.2 z hz))
    rw [List.length_map] at this
    omega
theorem nt_parts (t : NT) : ∃ x y m, t = (x, y, m) := ⟨t.1, t.2.1, t.2.2, rfl⟩

set_option maxRecDepth 100000 in
set_option maxHeartbeats 16000000 in
theorem TaintAny_walk (v0 : Value) (t : NL) (v1 : Value) (l : NL) (w : World) (hE : Env w) (r0 : Reads TaLay w v0 t) (r1 : Reads TaLay w v1 l) :
    Calls Tryd.prog 3 #[v0, v1] w fun e w' => e = .returned (.bool true) ∧ Kept w w' := by
  have HK := Lib.hid (known_any w hE)
  have HE := Lib.hid hE
  have R0 := Lib.hid r0
  have R1 := Lib.hid r1
  clear hE r0 r1
  by_cases g1 : fewN t = true
  · have f1 := Lib.hid g1
    by_cases g2 : fewN l = true
    · have f2 := Lib.hid g2
      obtain ⟨c1, hc1⟩ : ∃ c, chkA t = c := ⟨_, rfl⟩
      obtain ⟨c2, hc2⟩ : ∃ c, chkO l = c := ⟨_, rfl⟩
      have C1 := Lib.hid hc1
      have C2 := Lib.hid hc2
      by_cases z1 : c1 = 0
      · subst z1
        by_cases z2 : c2 = 0
        · subst z2
          have hm1 := few_mid g1
          have hm2 := few_mid g2
          have T1 := Lib.hid (textA_told hc1)
          have T2 := Lib.hid (textO_told hc2)
          have S1 := Lib.hid (textA_short g1)
          have S2 := Lib.hid (textO_short g2)
          have M1 := Lib.hid (show ∀ x ∈ t, x.1.size ≤ 900000 ∧ x.2.1.size ≤ 900000 from fun x hx => by have := hm1.2 x hx; omega)
          have M2 := Lib.hid (show ∀ x ∈ l, x.1.size ≤ 900000 ∧ x.2.1.size ≤ 900000 from fun x hx => by have := hm2.2 x hx; omega)
          have hl1 : t.length ≤ 1000000 := by omega
          have hl2 : l.length ≤ 1000000 := by omega
          obtain ⟨t1, ht1⟩ : ∃ z, textA t = z := ⟨_, rfl⟩
          obtain ⟨t2, ht2⟩ : ∃ z, textO l = z := ⟨_, rfl⟩
          have TT1 := Lib.hid ht1
          have TT2 := Lib.hid ht2
          rw [ht1] at T1 S1
          rw [ht2] at T2 S2
          obtain ⟨wx, wy, wm, hw⟩ := nt_parts (wT (worstN l t))
          obtain ⟨wb, hwb⟩ : ∃ z, (worstN l t).isSome = z := ⟨_, rfl⟩
          obtain ⟨sn, hsn⟩ : ∃ z, softN l t = z := ⟨_, rfl⟩
          have W1 := Lib.hid hw
          have W2 := Lib.hid hwb
          have SN := Lib.hid hsn
          have hsl : sn ≤ 1000000 := by have := softN_le l t; omega
          clear hc1 hc2 hm1 hm2 ht1 ht2 hw hwb hsn
          go_enter Tryd.func3, Tryd.ntmps3
          go_wp2_with fail
          refine (HK.out).mono ?_
          rintro e w1 ⟨rfl, k⟩
          have K := Lib.hid k
          have R0 := Lib.hid (R0.out.kept k)
          have R1 := Lib.hid (R1.out.kept k)
          clear k
          go_wp2_with fail
          refine (fewAR R0.out).mono ?_
          rintro e w2 ⟨rfl, rfl⟩
          go_wp2_with fail
          refine (fewOR R1.out).mono ?_
          rintro e w3 ⟨rfl, rfl⟩
          go_wp2_with fail
          refine (ofAR R0.out f1.out).mono ?_
          rintro e w4 ⟨x, rfl, r, k⟩
          have K := Lib.hid (K.out.trans k)
          have R0 := Lib.hid (R0.out.kept k)
          have R1 := Lib.hid (R1.out.kept k)
          have X := Lib.hid r
          clear r
          clear k
          go_wp2_with fail
          refine (ofOR R1.out f2.out).mono ?_
          rintro e w5 ⟨y, rfl, r, k⟩
          have K := Lib.hid (K.out.trans k)
          have R0 := Lib.hid (R0.out.kept k)
          have R1 := Lib.hid (R1.out.kept k)
          have X := Lib.hid (X.out.kept k)
          have Y := Lib.hid r
          clear r
          clear k
          go_wp2_with fail
          refine (refCheckAR X.out C1.out).mono ?_
          rintro e w6 ⟨rfl, k⟩
          have K := Lib.hid (K.out.trans k)
          have R0 := Lib.hid (R0.out.kept k)
          have R1 := Lib.hid (R1.out.kept k)
          have X := Lib.hid (X.out.kept k)
          have Y := Lib.hid (Y.out.kept k)
          clear k
          go_wp2_with fail
          refine (refCheckOR Y.out C2.out).mono ?_
          rintro e w7 ⟨rfl, k⟩
          have K := Lib.hid (K.out.trans k)
          have R0 := Lib.hid (R0.out.kept k)
          have R1 := Lib.hid (R1.out.kept k)
          have X := Lib.hid (X.out.kept k)
          have Y := Lib.hid (Y.out.kept k)
          clear k
          go_wp2_with fail
          refine (checkAR R0.out C1.out).mono ?_
          rintro e w8 ⟨rfl, k⟩
          have K := Lib.hid (K.out.trans k)
          have R0 := Lib.hid (R0.out.kept k)
          have R1 := Lib.hid (R1.out.kept k)
          have X := Lib.hid (X.out.kept k)
          have Y := Lib.hid (Y.out.kept k)
          clear k
          go_wp2_with fail
          refine (checkOR R1.out C2.out).mono ?_
          rintro e w9 ⟨rfl, k⟩
          have K := Lib.hid (K.out.trans k)
          have R0 := Lib.hid (R0.out.kept k)
          have R1 := Lib.hid (R1.out.kept k)
          have X := Lib.hid (X.out.kept k)
          have Y := Lib.hid (Y.out.kept k)
          clear k
          go_wp2_with fail
          refine (worstR R1.out R0.out W1.out W2.out).mono ?_
          rintro e w10 ⟨rfl, k⟩
          have K := Lib.hid (K.out.trans k)
          have R0 := Lib.hid (R0.out.kept k)
          have R1 := Lib.hid (R1.out.kept k)
          have X := Lib.hid (X.out.kept k)
          have Y := Lib.hid (Y.out.kept k)
          clear k
          have p := TriAt.new w10 wx wy wm 37
          have p1 := p.1
          have p2 := p.2.1
          have p3 := p.2.2
          dsimp only at p1 p2 p3
          clear p
          have K := Lib.hid (K.out.trans (kept_alloc w10 (.cells #[.string wx, .string wy, .bool wm] 37)))
          have R0 := Lib.hid (R0.out.kept (kept_alloc w10 (.cells #[.string wx, .string wy, .bool wm] 37)))
          have R1 := Lib.hid (R1.out.kept (kept_alloc w10 (.cells #[.string wx, .string wy, .bool wm] 37)))
          have X := Lib.hid (X.out.kept (kept_alloc w10 (.cells #[.string wx, .string wy, .bool wm] 37)))
          have Y := Lib.hid (Y.out.kept (kept_alloc w10 (.cells #[.string wx, .string wy, .bool wm] 37)))
          go_wp2_with fail
          refine (refWorstR Y.out X.out W1.out W2.out).mono ?_
          rintro e w11 ⟨rfl, k⟩
          have K := Lib.hid (K.out.trans k)
          have R0 := Lib.hid (R0.out.kept k)
          have R1 := Lib.hid (R1.out.kept k)
          have X := Lib.hid (X.out.kept k)
          have Y := Lib.hid (Y.out.kept k)
          have p1 := cell_later k p1
          have p2 := cell_later k p2
          have p3 := cell_later k p3
          clear k
          have r := TriAt.new w11 wx wy wm 40
          have r1 := r.1
          have r2 := r.2.1
          have r3 := r.2.2
          dsimp only at r1 r2 r3
          clear r
          have K := Lib.hid (K.out.trans (kept_alloc w11 (.cells #[.string wx, .string wy, .bool wm] 40)))
          have R0 := Lib.hid (R0.out.kept (kept_alloc w11 (.cells #[.string wx, .string wy, .bool wm] 40)))
          have R1 := Lib.hid (R1.out.kept (kept_alloc w11 (.cells #[.string wx, .string wy, .bool wm] 40)))
          have X := Lib.hid (X.out.kept (kept_alloc w11 (.cells #[.string wx, .string wy, .bool wm] 40)))
          have Y := Lib.hid (Y.out.kept (kept_alloc w11 (.cells #[.string wx, .string wy, .bool wm] 40)))
          have p1 := cell_later (kept_alloc w11 (.cells #[.string wx, .string wy, .bool wm] 40)) p1
          have p2 := cell_later (kept_alloc w11 (.cells #[.string wx, .string wy, .bool wm] 40)) p2
          have p3 := cell_later (kept_alloc w11 (.cells #[.string wx, .string wy, .bool wm] 40)) p3
          go_wp2_with fail
          refine (softR R1.out R0.out SN.out).mono ?_
          rintro e w12 ⟨rfl, k⟩
          have K := Lib.hid (K.out.trans k)
          have R0 := Lib.hid (R0.out.kept k)
          have R1 := Lib.hid (R1.out.kept k)
          have X := Lib.hid (X.out.kept k)
          have Y := Lib.hid (Y.out.kept k)
          have p1 := cell_later k p1
          have p2 := cell_later k p2
          have p3 := cell_later k p3
          have r1 := cell_later k r1
          have r2 := cell_later k r2
          have r3 := cell_later k r3
          clear k
          go_wp2_with fail
          refine (refSoftR Y.out X.out SN.out).mono ?_
          rintro e w13 ⟨rfl, k⟩
          have K := Lib.hid (K.out.trans k)
          have R0 := Lib.hid (R0.out.kept k)
          have R1 := Lib.hid (R1.out.kept k)
          have X := Lib.hid (X.out.kept k)
          have Y := Lib.hid (Y.out.kept k)
          have p1 := cell_later k p1
          have p2 := cell_later k p2
          have p3 := cell_later k p3
          have r1 := cell_later k r1
          have r2 := cell_later k r2
          have r3 := cell_later k r3
          clear k
          go_wp2_with fail
          refine (textAR R0.out M1.out hl1 TT1.out).mono ?_
          rintro e w14 ⟨rfl, k⟩
          have K := Lib.hid (K.out.trans k)
          have R0 := Lib.hid (R0.out.kept k)
          have R1 := Lib.hid (R1.out.kept k)
          have X := Lib.hid (X.out.kept k)
          have Y := Lib.hid (Y.out.kept k)
          clear k
          go_wp2_with fail
          refine (refTextAR X.out M1.out hl1).mono ?_
          rintro e w15 ⟨rfl, k⟩
          have K := Lib.hid (K.out.trans k)
          have R0 := Lib.hid (R0.out.kept k)
          have R1 := Lib.hid (R1.out.kept k)
          have X := Lib.hid (X.out.kept k)
          have Y := Lib.hid (Y.out.kept k)
          clear k
          rw [TT1.out]
          go_wp2_with fail
          refine (textOR R1.out M2.out hl2 TT2.out).mono ?_
          rintro e w16 ⟨rfl, k⟩
          have K := Lib.hid (K.out.trans k)
          have R0 := Lib.hid (R0.out.kept k)
          have R1 := Lib.hid (R1.out.kept k)
          have X := Lib.hid (X.out.kept k)
          have Y := Lib.hid (Y.out.kept k)
          clear k
          go_wp2_with fail
          refine (refTextOR Y.out M2.out hl2).mono ?_
          rintro e w17 ⟨rfl, k⟩
          have K := Lib.hid (K.out.trans k)
          have R0 := Lib.hid (R0.out.kept k)
          have R1 := Lib.hid (R1.out.kept k)
          have X := Lib.hid (X.out.kept k)
          have Y := Lib.hid (Y.out.kept k)
          clear k
          rw [TT2.out]
          clear p1 p2 p3 r1 r2 r3
          obtain ⟨a0, cap0, rfl, hc0, hm0, q0⟩ := R0.out
          obtain ⟨ax, capx, rfl, hcx, hmx, qx⟩ := X.out
          have Q0 := Lib.hid q0
          have QX := Lib.hid qx
          obtain ⟨n, hn⟩ : ∃ n, t.length = n := ⟨_, rfl⟩
          have HN := Lib.hid hn
          rw [hn] at Q0 QX R0 X hl1 ⊢
          clear q0 qx hc0 hm0 hcx hmx hn
          go_wp2
          go_loopw [13] (fun i wr => ∃ k : Nat, k ≤ n ∧ i = .int .i64 k ∧ Kept w17 wr) (fun i _ => n - (intOf i).toNat)
          case atStart => exact ⟨0, Nat.zero_le _, rfl, Kept.refl _⟩
          case round =>
            obtain ⟨k, hk, rfl, hB⟩ := hrel
            have HB := Lib.hid hB
            by_cases hlt : k < n
            · obtain ⟨b, off, rfl⟩ : ∃ b off, a0 = some ⟨b, off, none⟩ := by
                rcases Q0.out.form with h | h
                · omega
                · exact h
              obtain ⟨bx, offx, rfl⟩ : ∃ b off, ax = some ⟨b, off, none⟩ := by
                rcases QX.out.form with h | h
                · omega
                · exact h
              obtain ⟨x, y, m, hx, _, _, _, _, c1, c2, c3⟩ := (Q0.out.kept hB).tri hlt
              obtain ⟨x9, y9, m9, hx9, _, _, _, _, d1, d2, d3⟩ := (QX.out.kept hB).tri hlt
              obtain ⟨rfl, rfl, rfl⟩ : x = x9 ∧ y = y9 ∧ m = m9 := by rw [hx] at hx9; simpa using hx9
              obtain ⟨q, hq⟩ : ∃ q, bearsN l (x, y, m) = q := ⟨_, rfl⟩
              obtain ⟨al, capl, rfl, _, _, ql⟩ := R1.out
              obtain ⟨ay, capy, rfl, _, _, qy⟩ := Y.out
              have QL := Lib.hid ql
              have QY := Lib.hid qy
              have l1 : ∀ (i : Nat) (os : Array Obj), (grow (wr.drewN i) os).cell? ⟨b, off + k * 3, none⟩ = some (.string x) := fun i os => cell_later (kept_grow _ i os) c1
              have l2 : ∀ (i : Nat) (os : Array Obj), (grow (wr.drewN i) os).cell? ⟨b, off + k * 3 + 1, none⟩ = some (.string y) := fun i os => cell_later (kept_grow _ i os) c2
              have l3 : ∀ (i : Nat) (os : Array Obj), (grow (wr.drewN i) os).cell? ⟨b, off + k * 3 + 2, none⟩ = some (.bool m) := fun i os => cell_later (kept_grow _ i os) c3
              have l4 : ∀ (i : Nat) (os : Array Obj), (grow (wr.drewN i) os).cell? ⟨bx, offx + k * 3, none⟩ = some (.string x) := fun i os => cell_later (kept_grow _ i os) d1
              have l5 : ∀ (i : Nat) (os : Array Obj), (grow (wr.drewN i) os).cell? ⟨bx, offx + k * 3 + 1, none⟩ = some (.string y) := fun i os => cell_later (kept_grow _ i os) d2
              have l6 : ∀ (i : Nat) (os : Array Obj), (grow (wr.drewN i) os).cell? ⟨bx, offx + k * 3 + 2, none⟩ = some (.bool m) := fun i os => cell_later (kept_grow _ i os) d3
              have cz1 : ∀ (i : Nat) (os : Array Obj), Calls Tryd.prog 25 #[.slice al l.length capl, NV x y m] (grow (wr.drewN i) os) fun e w'' => e = .returned (.bool q) ∧ ∃ q' os', w'' = grow ((grow (wr.drewN i) os).drewN q') os' := fun i os => by
                rw [← hq]
                exact bears_any al _ capl l x y m _ ((QL.out.kept hB).kept (kept_grow _ i os))
              have cz2 : ∀ (i : Nat) (os : Array Obj), Calls Tryd.prog 26 #[.slice ay l.length capy, NV x y m] (grow (wr.drewN i) os) fun e w'' => e = .returned (.bool q) ∧ ∃ q' os', w'' = grow ((grow (wr.drewN i) os).drewN q') os' := fun i os => by
                rw [← hq]
                exact refBears_any ay _ capy l x y m _ ((QY.out.kept hB).kept (kept_grow _ i os))
              have mixed : Tryd.prog.follows Departure.mixedOrders = true := by kernel_rfl
              have hlt' : (k : Int) < (n : Int) := by omega
              clear hx hx9 hq ql qy hB c1 c2 c3 d1 d2 d3
              go_wp2_with fail
              go_quiet_grown (first | (go_at_call 25; refine Calls.grown_of (cz1 _ _)) | (go_at_call 26; refine Calls.grown_of (cz2 _ _)))
              go_wp2
              go_roundw
              case rel => exact ⟨k + 1, by omega, by go_num, HB.out.trans (kept_grow _ _ _)⟩
              case measure => simp [intOf]; omega
            · have K := Lib.hid (K.out.trans hB)
              have R0 := Lib.hid (R0.out.kept hB)
              have R1 := Lib.hid (R1.out.kept hB)
              have X := Lib.hid (X.out.kept hB)
              have Y := Lib.hid (Y.out.kept hB)
              clear hB
              go_wp2_with fail
              refine (textAR R0.out M1.out (by rw [HN.out]; exact hl1) TT1.out).mono ?_
              rintro e w18 ⟨rfl, k⟩
              have K := Lib.hid (K.out.trans k)
              have R0 := Lib.hid (R0.out.kept k)
              have R1 := Lib.hid (R1.out.kept k)
              have X := Lib.hid (X.out.kept k)
              have Y := Lib.hid (Y.out.kept k)
              clear k
              go_wp2_with fail
              refine (parseAB (HE.out.kept K.out) S1.out T1.out).mono ?_
              rintro e w19 ⟨va, rfl, r, k⟩
              have K := Lib.hid (K.out.trans k)
              have R0 := Lib.hid (R0.out.kept k)
              have R1 := Lib.hid (R1.out.kept k)
              have X := Lib.hid (X.out.kept k)
              have Y := Lib.hid (Y.out.kept k)
              have RA := Lib.hid r
              clear r
              clear k
              go_wp2_with fail
              refine (textOR R1.out M2.out hl2 TT2.out).mono ?_
              rintro e w20 ⟨rfl, k⟩
              have K := Lib.hid (K.out.trans k)
              have R0 := Lib.hid (R0.out.kept k)
              have R1 := Lib.hid (R1.out.kept k)
              have X := Lib.hid (X.out.kept k)
              have Y := Lib.hid (Y.out.kept k)
              have RA := Lib.hid (RA.out.kept k)
              clear k
              go_wp2_with fail
              refine (parseOB (HE.out.kept K.out) S2.out T2.out).mono ?_
              rintro e w21 ⟨vb, rfl, r, k⟩
              have K := Lib.hid (K.out.trans k)
              have R0 := Lib.hid (R0.out.kept k)
              have R1 := Lib.hid (R1.out.kept k)
              have X := Lib.hid (X.out.kept k)
              have Y := Lib.hid (Y.out.kept k)
              have RA := Lib.hid (RA.out.kept k)
              have RB := Lib.hid r
              clear r
              clear k
              go_wp2_with fail
              refine (ofAS RA.out (by rw [HN.out]; exact hl1)).mono ?_
              rintro e w22 ⟨vc, rfl, r, k⟩
              have K := Lib.hid (K.out.trans k)
              have R0 := Lib.hid (R0.out.kept k)
              have R1 := Lib.hid (R1.out.kept k)
              have X := Lib.hid (X.out.kept k)
              have Y := Lib.hid (Y.out.kept k)
              have RA := Lib.hid (RA.out.kept k)
              have RB := Lib.hid (RB.out.kept k)
              have OA := Lib.hid r
              clear r
              clear k
              go_wp2_with fail
              refine (sameAR OA.out X.out).mono ?_
              rintro e w23 ⟨rfl, k⟩
              have K := Lib.hid (K.out.trans k)
              have R0 := Lib.hid (R0.out.kept k)
              have R1 := Lib.hid (R1.out.kept k)
              have X := Lib.hid (X.out.kept k)
              have Y := Lib.hid (Y.out.kept k)
              have RA := Lib.hid (RA.out.kept k)
              have RB := Lib.hid (RB.out.kept k)
              have OA := Lib.hid (OA.out.kept k)
              clear k
              go_wp2_with fail
              refine (ofOS RB.out hl2).mono ?_
              rintro e w24 ⟨vd, rfl, r, k⟩
              have K := Lib.hid (K.out.trans k)
              have R0 := Lib.hid (R0.out.kept k)
              have R1 := Lib.hid (R1.out.kept k)
              have X := Lib.hid (X.out.kept k)
              have Y := Lib.hid (Y.out.kept k)
              have RA := Lib.hid (RA.out.kept k)
              have RB := Lib.hid (RB.out.kept k)
              have OA := Lib.hid (OA.out.kept k)
              have OB := Lib.hid r
              clear r
              clear k
              go_wp2_with fail
              refine (sameOR OB.out Y.out).mono ?_
              rintro e w25 ⟨rfl, k⟩
              have K := Lib.hid (K.out.trans k)
              have R0 := Lib.hid (R0.out.kept k)
              have R1 := Lib.hid (R1.out.kept k)
              have X := Lib.hid (X.out.kept k)
              have Y := Lib.hid (Y.out.kept k)
              have RA := Lib.hid (RA.out.kept k)
              have RB := Lib.hid (RB.out.kept k)
              have OA := Lib.hid (OA.out.kept k)
              have OB := Lib.hid (OB.out.kept k)
              clear k
              go_wp2
              go_ret
              exact ⟨rfl, K.out⟩
        · have n2 : (c2 != 0) = true := by simpa using z2
          clear hc1 hc2 z2
          go_enter Tryd.func3, Tryd.ntmps3
          go_wp2_with fail
          refine (HK.out).mono ?_
          rintro e w1 ⟨rfl, k⟩
          have K := Lib.hid k
          have R0 := Lib.hid (R0.out.kept k)
          have R1 := Lib.hid (R1.out.kept k)
          clear k
          go_wp2_with fail
          refine (fewAR R0.out).mono ?_
          rintro e w2 ⟨rfl, rfl⟩
          go_wp2_with fail
          refine (fewOR R1.out).mono ?_
          rintro e w3 ⟨rfl, rfl⟩
          go_wp2_with fail
          refine (ofAR R0.out f1.out).mono ?_
          rintro e w4 ⟨x, rfl, r, k⟩
          have K := Lib.hid (K.out.trans k)
          have R0 := Lib.hid (R0.out.kept k)
          have R1 := Lib.hid (R1.out.kept k)
          have X := Lib.hid r
          clear r
          clear k
          go_wp2_with fail
          refine (ofOR R1.out f2.out).mono ?_
          rintro e w5 ⟨y, rfl, r, k⟩
          have K := Lib.hid (K.out.trans k)
          have R0 := Lib.hid (R0.out.kept k)
          have R1 := Lib.hid (R1.out.kept k)
          have X := Lib.hid (X.out.kept k)
          have Y := Lib.hid r
          clear r
          clear k
          go_wp2_with fail
          refine (refCheckAR X.out C1.out).mono ?_
          rintro e w6 ⟨rfl, k⟩
          have K := Lib.hid (K.out.trans k)
          have R0 := Lib.hid (R0.out.kept k)
          have R1 := Lib.hid (R1.out.kept k)
          have X := Lib.hid (X.out.kept k)
          have Y := Lib.hid (Y.out.kept k)
          clear k
          go_wp2_with fail
          refine (refCheckOR Y.out C2.out).mono ?_
          rintro e w7 ⟨rfl, k⟩
          have K := Lib.hid (K.out.trans k)
          have R0 := Lib.hid (R0.out.kept k)
          have R1 := Lib.hid (R1.out.kept k)
          have X := Lib.hid (X.out.kept k)
          have Y := Lib.hid (Y.out.kept k)
          clear k
          go_wp2_with fail
          refine (checkAR R0.out C1.out).mono ?_
          rintro e w8 ⟨rfl, k⟩
          have K := Lib.hid (K.out.trans k)
          have R0 := Lib.hid (R0.out.kept k)
          have R1 := Lib.hid (R1.out.kept k)
          have X := Lib.hid (X.out.kept k)
          have Y := Lib.hid (Y.out.kept k)
          clear k
          go_wp2_with fail
          refine (checkOR R1.out C2.out).mono ?_
          rintro e w9 ⟨rfl, k⟩
          have K := Lib.hid (K.out.trans k)
          have R0 := Lib.hid (R0.out.kept k)
          have R1 := Lib.hid (R1.out.kept k)
          have X := Lib.hid (X.out.kept k)
          have Y := Lib.hid (Y.out.kept k)
          clear k
          go_wp2
          go_ret
          exact ⟨rfl, K.out⟩
      · have n1 : (c1 != 0) = true := by simpa using z1
        clear hc1 hc2 z1
        go_enter Tryd.func3, Tryd.ntmps3
        go_wp2_with fail
        refine (HK.out).mono ?_
        rintro e w1 ⟨rfl, k⟩
        have K := Lib.hid k
        have R0 := Lib.hid (R0.out.kept k)
        have R1 := Lib.hid (R1.out.kept k)
        clear k
        go_wp2_with fail
        refine (fewAR R0.out).mono ?_
        rintro e w2 ⟨rfl, rfl⟩
        go_wp2_with fail
        refine (fewOR R1.out).mono ?_
        rintro e w3 ⟨rfl, rfl⟩
        go_wp2_with fail
        refine (ofAR R0.out f1.out).mono ?_
        rintro e w4 ⟨x, rfl, r, k⟩
        have K := Lib.hid (K.out.trans k)
        have R0 := Lib.hid (R0.out.kept k)
        have R1 := Lib.hid (R1.out.kept k)
        have X := Lib.hid r
        clear r
        clear k
        go_wp2_with fail
        refine (ofOR R1.out f2.out).mono ?_
        rintro e w5 ⟨y, rfl, r, k⟩
        have K := Lib.hid (K.out.trans k)
        have R0 := Lib.hid (R0.out.kept k)
        have R1 := Lib.hid (R1.out.kept k)
        have X := Lib.hid (X.out.kept k)
        have Y := Lib.hid r
        clear r
        clear k
        go_wp2_with fail
        refine (refCheckAR X.out C1.out).mono ?_
        rintro e w6 ⟨rfl, k⟩
        have K := Lib.hid (K.out.trans k)
        have R0 := Lib.hid (R0.out.kept k)
        have R1 := Lib.hid (R1.out.kept k)
        have X := Lib.hid (X.out.kept k)
        have Y := Lib.hid (Y.out.kept k)
        clear k
        go_wp2_with fail
        refine (refCheckOR Y.out C2.out).mono ?_
        rintro e w7 ⟨rfl, k⟩
        have K := Lib.hid (K.out.trans k)
        have R0 := Lib.hid (R0.out.kept k)
        have R1 := Lib.hid (R1.out.kept k)
        have X := Lib.hid (X.out.kept k)
        have Y := Lib.hid (Y.out.kept k)
        clear k
        go_wp2_with fail
        refine (checkAR R0.out C1.out).mono ?_
        rintro e w8 ⟨rfl, k⟩
        have K := Lib.hid (K.out.trans k)
        have R0 := Lib.hid (R0.out.kept k)
        have R1 := Lib.hid (R1.out.kept k)
        have X := Lib.hid (X.out.kept k)
        have Y := Lib.hid (Y.out.kept k)
        clear k
        go_wp2_with fail
        refine (checkOR R1.out C2.out).mono ?_
        rintro e w9 ⟨rfl, k⟩
        have K := Lib.hid (K.out.trans k)
        have R0 := Lib.hid (R0.out.kept k)
        have R1 := Lib.hid (R1.out.kept k)
        have X := Lib.hid (X.out.kept k)
        have Y := Lib.hid (Y.out.kept k)
        clear k
        go_wp2
        go_ret
        exact ⟨rfl, K.out⟩
    · have g2 : fewN l = false := by simpa using g2
      go_enter Tryd.func3, Tryd.ntmps3
      go_wp2_with fail
      refine (HK.out).mono ?_
      rintro e w1 ⟨rfl, k⟩
      have K := Lib.hid k
      have R0 := Lib.hid (R0.out.kept k)
      have R1 := Lib.hid (R1.out.kept k)
      clear k
      go_wp2_with fail
      refine (fewAR R0.out).mono ?_
      rintro e w2 ⟨rfl, rfl⟩
      go_wp2_with fail
      refine (fewOR R1.out).mono ?_
      rintro e w3 ⟨rfl, rfl⟩
      go_wp2
      go_ret
      exact ⟨rfl, K.out⟩
  · have g1 : fewN t = false := by simpa using g1
    go_enter Tryd.func3, Tryd.ntmps3
    go_wp2_with fail
    refine (HK.out).mono ?_
    rintro e w1 ⟨rfl, k⟩
    have K := Lib.hid k
    have R0 := Lib.hid (R0.out.kept k)
    have R1 := Lib.hid (R1.out.kept k)
    clear k
    go_wp2_with fail
    refine (fewAR R0.out).mono ?_
    rintro e w2 ⟨rfl, rfl⟩
    go_wp2
    go_ret
    exact ⟨rfl, K.out⟩

end Go.Proofs.YthlhaefaafjmlaaDoor
