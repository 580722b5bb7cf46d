/- What the laws know: two pods read, told, compared, found; three that are none. -/
import Derived.Test.YtflllkpnkcmegaaGreatDoorPodVals
namespace Go.Proofs.YtflllkpnkcmegaaGreatDoor.Pk
open Go.RowKit
set_option linter.unusedVariables false

theorem parse_k {s : List UInt8} {n : Pd} {c : Int} {x0 x1 x3 x5 : ByteArray} {x2 x4 : Int} {x6 : Bool} {l1 : Vec.V} {l2 : PL} {l3 : TL} {l4 : NL} {w : World} (hP : ∀ W, Kept w W → Calls Tryz.prog 76 #[.string (bytes s)] W (PodRes c n W)) (hm : (if c = 0 then n else Pd.zero) = ⟨x0, x1, x2, l1, l2, l3, l4, x3, x4, x5, x6⟩) :
    Calls Tryz.prog 19 #[.string (bytes s)] w fun e w' => ∃ b1 n1 d1 b2 n2 d2 b3 n3 d3 b4 n4 d4, e = .returned (.tuple #[.agg #[.string x0, .string x1, .int .i64 x2, .slice b1 n1 d1, .slice b2 n2 d2, .slice b3 n3 d3, .slice b4 n4 d4, .string x3, .int .i64 x4, .string x5, .bool x6], .int .i64 c]) ∧ PodAt w' (.slice b1 n1 d1) (.slice b2 n2 d2) (.slice b3 n3 d3) (.slice b4 n4 d4) ⟨x0, x1, x2, l1, l2, l3, l4, x3, x4, x5, x6⟩ ∧ Kept w w' := by
  refine (parsePd_any s n c w hP).mono ?_
  rintro e w' ⟨v, rfl, hn, k⟩
  rw [hm] at hn
  obtain ⟨b1, n1, d1, b2, n2, d2, b3, n3, d3, b4, n4, d4, rfl, h, -⟩ := hn
  exact ⟨_, _, _, _, _, _, _, _, _, _, _, _, rfl, h, k⟩
theorem says_k {s : List UInt8} {n : Pd} {c : Int} {w : World} (hE : EnvP w) (hs : s.length ≤ 900000) (h : Says s n) (hc : chkPod n = c) : ∀ W, Kept w W → Calls Tryz.prog 76 #[.string (bytes s)] W (PodRes c n W) :=
  fun W k => parsedPd_any s n c W (hE.kept k) hs h hc
theorem find_k {a : Option Addr} {len cap : Nat} {l : List Pd} {y : ByteArray} {b : Bool} {x0 x1 x3 x5 : ByteArray} {x2 x4 : Int} {x6 : Bool} {l1 : Vec.V} {l2 : PL} {l3 : TL} {l4 : NL} {w : World} (hr : PodsAt w a len l) (hlow : ∀ n ∈ l, LowPd n) (h : (findP l y).getD Pd.zero = ⟨x0, x1, x2, l1, l2, l3, l4, x3, x4, x5, x6⟩) (hb : (findP l y).isSome = b) :
    Calls Tryz.prog 25 #[.slice a len cap, .string y] w fun e w' => ∃ b1 n1 d1 b2 n2 d2 b3 n3 d3 b4 n4 d4, e = .returned (.tuple #[.agg #[.string x0, .string x1, .int .i64 x2, .slice b1 n1 d1, .slice b2 n2 d2, .slice b3 n3 d3, .slice b4 n4 d4, .string x3, .int .i64 x4, .string x5, .bool x6], .bool b]) ∧ PodAt w' (.slice b1 n1 d1) (.slice b2 n2 d2) (.slice b3 n3 d3) (.slice b4 n4 d4) ⟨x0, x1, x2, l1, l2, l3, l4, x3, x4, x5, x6⟩ ∧ Kept w w' := by
  subst hb
  refine (findP_any a len cap l y w hr hlow).mono ?_
  rintro e w' ⟨v, rfl, hn, k⟩
  rw [h] at hn
  obtain ⟨v1, v2, v3, v4, rfl, h⟩ := hn
  obtain ⟨b1, n1, d1, b2, n2, d2, b3, n3, d3, b4, n4, d4, rfl, rfl, rfl, rfl⟩ := h.spelt
  exact ⟨_, _, _, _, _, _, _, _, _, _, _, _, rfl, h, k⟩
/-- Two pods laid side by side. -/
theorem two_at {w : World} {B : Nat} {T : TypeId} {x0 x1 x3 x5 y0 y1 y3 y5 : ByteArray} {x2 x4 y2 y4 : Int} {x6 y6 : Bool} {l1 r1 : Vec.V} {l2 r2 : PL} {l3 r3 : TL} {l4 r4 : NL} {a1 a2 a3 a4 a1x a2x a3x a4x : Option Addr} {m1 c1 m2 c2 m3 c3 m4 c4 m1x c1x m2x c2x m3x c3x m4x c4x : Nat}
    (hn : PodAt w (.slice a1 m1 c1) (.slice a2 m2 c2) (.slice a3 m3 c3) (.slice a4 m4 c4) ⟨x0, x1, x2, l1, l2, l3, l4, x3, x4, x5, x6⟩) (hm : PodAt w (.slice a1x m1x c1x) (.slice a2x m2x c2x) (.slice a3x m3x c3x) (.slice a4x m4x c4x) ⟨y0, y1, y2, r1, r2, r3, r4, y3, y4, y5, y6⟩) (hB : B = w.heap.size) :
    PodsAt (w.alloc (.cells #[.string x0, .string x1, .int .i64 x2, .slice a1 m1 c1, .slice a2 m2 c2, .slice a3 m3 c3, .slice a4 m4 c4, .string x3, .int .i64 x4, .string x5, .bool x6, .string y0, .string y1, .int .i64 y2, .slice a1x m1x c1x, .slice a2x m2x c2x, .slice a3x m3x c3x, .slice a4x m4x c4x, .string y3, .int .i64 y4, .string y5, .bool y6] T)) (some ⟨B, 0, none⟩) 2 [⟨x0, x1, x2, l1, l2, l3, l4, x3, x4, x5, x6⟩, ⟨y0, y1, y2, r1, r2, r3, r4, y3, y4, y5, y6⟩] := by
  subst hB
  have hh := w.alloc_heap_new (.cells #[.string x0, .string x1, .int .i64 x2, .slice a1 m1 c1, .slice a2 m2 c2, .slice a3 m3 c3, .slice a4 m4 c4, .string x3, .int .i64 x4, .string x5, .bool x6, .string y0, .string y1, .int .i64 y2, .slice a1x m1x c1x, .slice a2x m2x c2x, .slice a3x m3x c3x, .slice a4x m4x c4x, .string y3, .int .i64 y4, .string y5, .bool y6] T)
  refine ⟨rfl, by decide, .inr ⟨_, 0, rfl, by simp, fun i z hi => ?_⟩⟩
  match i, hi with
  | 0, hi =>
    simp at hi; subst hi
    exact ⟨_, _, _, _, by rw [Lib.cell_of_heap hh]; rfl, by rw [Lib.cell_of_heap hh]; rfl, by rw [Lib.cell_of_heap hh]; rfl, by rw [Lib.cell_of_heap hh]; rfl, by rw [Lib.cell_of_heap hh]; rfl, by rw [Lib.cell_of_heap hh]; rfl, by rw [Lib.cell_of_heap hh]; rfl, by rw [Lib.cell_of_heap hh]; rfl, by rw [Lib.cell_of_heap hh]; rfl, by rw [Lib.cell_of_heap hh]; rfl, by rw [Lib.cell_of_heap hh]; rfl, hn.kept (kept_alloc _ _)⟩
  | 1, hi =>
    simp at hi; subst hi
    exact ⟨_, _, _, _, by rw [Lib.cell_of_heap hh]; rfl, by rw [Lib.cell_of_heap hh]; rfl, by rw [Lib.cell_of_heap hh]; rfl, by rw [Lib.cell_of_heap hh]; rfl, by rw [Lib.cell_of_heap hh]; rfl, by rw [Lib.cell_of_heap hh]; rfl, by rw [Lib.cell_of_heap hh]; rfl, by rw [Lib.cell_of_heap hh]; rfl, by rw [Lib.cell_of_heap hh]; rfl, by rw [Lib.cell_of_heap hh]; rfl, by rw [Lib.cell_of_heap hh]; rfl, hm.kept (kept_alloc _ _)⟩
  | i + 2, hi => simp at hi
set_option maxRecDepth 100000 in
set_option maxHeartbeats 16000000 in
theorem known_any (w0 : World) (hE : EnvP w0) :
    Calls Tryz.prog 10 #[] w0 fun e w' => e = .returned (.bool true) ∧ Kept w0 w' := by
  have HE := Lib.hid hE
  have q1 : (kT1.toList == [112, 49, 32, 119, 101, 98, 32, 49, 48, 32, 99, 112, 117, 61, 53, 32, 97, 112, 112, 58, 119, 101, 98, 32, 122, 111, 110, 101, 58, 97, 32, 103, 112, 117, 32, 122, 111, 110, 101, 47, 50, 32, 110, 49, 32, 114, 101, 97, 108]) = true := by rw [Lib.toList_data]; rfl
  have q2 : (kT2.toList == [104, 111, 108, 100, 48, 32, 45, 32, 45, 49, 32, 99, 112, 117, 61, 53, 32, 45, 32, 45, 32, 45, 32, 45, 32, 110, 49, 32, 104, 111, 108, 100]) = true := by rw [Lib.toList_data]; rfl
  have q3 : (bWeb.toList == [119, 101, 98]) = true := by rw [Lib.toList_data]; rfl
  have q4 : (bZone.toList == [122, 111, 110, 101]) = true := by rw [Lib.toList_data]; rfl
  have q5 : (bN.toList == [110, 49]) = true := by rw [Lib.toList_data]; rfl
  have q6 : (bE.toList == ([] : List UInt8)) = true := by rw [Lib.toList_data]; rfl
  have K := Lib.hid (Kept.refl w0)
  clear hE
  go_enter Tryz.func10, Tryz.ntmps10
  go_wp2_with fail
  refine (parse_k (says_k (HE.out.kept K.out) (by decide) says1 chk1) (show _ = (⟨bP, bWeb, 10, c1, p1, s1, t1, bZone, 2, bN, false⟩ : Pd) from rfl)).mono ?_
  rintro e w1 ⟨a11, m11, c11, a12, m12, c12, a13, m13, c13, a14, m14, c14, rfl, h, k⟩
  have K := Lib.hid (K.out.trans (k))
  have N1 := Lib.hid h
  clear k h
  go_wp2_with fail
  have k9 := kept_alloc w1 (.cells #[.string bP, .string bWeb, .int .i64 10, .slice a11 m11 c11, .slice a12 m12 c12, .slice a13 m13 c13, .slice a14 m14 c14, .string bZone, .int .i64 2, .string bN, .bool false] 30)
  have CC := Lib.hid (freshN w1 (.string bP) [.string bWeb, .int .i64 10, .slice a11 m11 c11, .slice a12 m12 c12, .slice a13 m13 c13, .slice a14 m14 c14, .string bZone, .int .i64 2, .string bN, .bool false] 30 _ (Kept.refl _))
  obtain ⟨v1, hv⟩ : ∃ W, w1.alloc (.cells #[.string bP, .string bWeb, .int .i64 10, .slice a11 m11 c11, .slice a12 m12 c12, .slice a13 m13 c13, .slice a14 m14 c14, .string bZone, .int .i64 2, .string bN, .bool false] 30) = W := ⟨_, rfl⟩
  rw [hv] at CC k9 ⊢
  clear hv
  have K := Lib.hid (K.out.trans (k9))
  have N1 := Lib.hid (N1.out.kept (k9))
  have C1 := CC
  clear CC k9
  refine (parse_k (says_k (HE.out.kept K.out) (by decide) says2 chk2) (show _ = (⟨bH, bE, -1, c1, [], [], [], bE, 0, bN, true⟩ : Pd) from rfl)).mono ?_
  rintro e w2 ⟨a21, m21, c21, a22, m22, c22, a23, m23, c23, a24, m24, c24, rfl, h, k⟩
  have K := Lib.hid (K.out.trans (k))
  have N1 := Lib.hid (N1.out.kept (k))
  have C1 := Lib.hid (CellsN.kept C1.out (k))
  have N2 := Lib.hid h
  clear k h
  go_wp2_with fail
  have k9 := kept_alloc w2 (.cells #[.string bH, .string bE, .int .i64 (-1), .slice a21 m21 c21, .slice a22 m22 c22, .slice a23 m23 c23, .slice a24 m24 c24, .string bE, .int .i64 0, .string bN, .bool true] 30)
  have CC := Lib.hid (freshN w2 (.string bH) [.string bE, .int .i64 (-1), .slice a21 m21 c21, .slice a22 m22 c22, .slice a23 m23 c23, .slice a24 m24 c24, .string bE, .int .i64 0, .string bN, .bool true] 30 _ (Kept.refl _))
  obtain ⟨v2, hv⟩ : ∃ W, w2.alloc (.cells #[.string bH, .string bE, .int .i64 (-1), .slice a21 m21 c21, .slice a22 m22 c22, .slice a23 m23 c23, .slice a24 m24 c24, .string bE, .int .i64 0, .string bN, .bool true] 30) = W := ⟨_, rfl⟩
  rw [hv] at CC k9 ⊢
  clear hv
  have K := Lib.hid (K.out.trans (k9))
  have N1 := Lib.hid (N1.out.kept (k9))
  have N2 := Lib.hid (N2.out.kept (k9))
  have C1 := Lib.hid (CellsN.kept C1.out (k9))
  have C2 := CC
  clear CC k9
  refine (parse_k (fun W k => parsedPd_form _ _ _ _ _ _ _ _ _ _ _ _ _ _ _ W ((HE.out.kept K.out).kept k) (by decide) parts3 pr1 (show kindL [114, 101, 97, 108] = some false from rfl) cut3 (by decide) (by decide)) (show _ = (⟨ByteArray.empty, ByteArray.empty, 0, [], [], [], [], ByteArray.empty, 0, ByteArray.empty, false⟩ : Pd) from rfl)).mono ?_
  rintro e w3 ⟨a31, m31, c31, a32, m32, c32, a33, m33, c33, a34, m34, c34, rfl, h, k⟩
  have K := Lib.hid (K.out.trans (k))
  have N1 := Lib.hid (N1.out.kept (k))
  have N2 := Lib.hid (N2.out.kept (k))
  have C1 := Lib.hid (CellsN.kept C1.out (k))
  have C2 := Lib.hid (CellsN.kept C2.out (k))
  have N3 := Lib.hid h
  clear k h
  clear N3
  go_wp2_with fail
  have k9 := kept_alloc w3 (.cells #[.string ByteArray.empty, .string ByteArray.empty, .int .i64 0, .slice a31 m31 c31, .slice a32 m32 c32, .slice a33 m33 c33, .slice a34 m34 c34, .string ByteArray.empty, .int .i64 0, .string ByteArray.empty, .bool false] 30)
  have CC := Lib.hid (freshN w3 (.string ByteArray.empty) [.string ByteArray.empty, .int .i64 0, .slice a31 m31 c31, .slice a32 m32 c32, .slice a33 m33 c33, .slice a34 m34 c34, .string ByteArray.empty, .int .i64 0, .string ByteArray.empty, .bool false] 30 _ (Kept.refl _))
  obtain ⟨v3, hv⟩ : ∃ W, w3.alloc (.cells #[.string ByteArray.empty, .string ByteArray.empty, .int .i64 0, .slice a31 m31 c31, .slice a32 m32 c32, .slice a33 m33 c33, .slice a34 m34 c34, .string ByteArray.empty, .int .i64 0, .string ByteArray.empty, .bool false] 30) = W := ⟨_, rfl⟩
  rw [hv] at CC k9 ⊢
  clear hv
  have K := Lib.hid (K.out.trans (k9))
  have N1 := Lib.hid (N1.out.kept (k9))
  have N2 := Lib.hid (N2.out.kept (k9))
  have C1 := Lib.hid (CellsN.kept C1.out (k9))
  have C2 := Lib.hid (CellsN.kept C2.out (k9))
  clear CC k9
  refine (parse_k (says_k (HE.out.kept K.out) (by decide) says4 chk4) (show _ = (⟨ByteArray.empty, ByteArray.empty, 0, [], [], [], [], ByteArray.empty, 0, ByteArray.empty, false⟩ : Pd) from rfl)).mono ?_
  rintro e w4 ⟨a41, m41, c41, a42, m42, c42, a43, m43, c43, a44, m44, c44, rfl, h, k⟩
  have K := Lib.hid (K.out.trans (k))
  have N1 := Lib.hid (N1.out.kept (k))
  have N2 := Lib.hid (N2.out.kept (k))
  have C1 := Lib.hid (CellsN.kept C1.out (k))
  have C2 := Lib.hid (CellsN.kept C2.out (k))
  have N4 := Lib.hid h
  clear k h
  clear N4
  go_wp2_with fail
  have k9 := kept_alloc w4 (.cells #[.string ByteArray.empty, .string ByteArray.empty, .int .i64 0, .slice a41 m41 c41, .slice a42 m42 c42, .slice a43 m43 c43, .slice a44 m44 c44, .string ByteArray.empty, .int .i64 0, .string ByteArray.empty, .bool false] 30)
  have CC := Lib.hid (freshN w4 (.string ByteArray.empty) [.string ByteArray.empty, .int .i64 0, .slice a41 m41 c41, .slice a42 m42 c42, .slice a43 m43 c43, .slice a44 m44 c44, .string ByteArray.empty, .int .i64 0, .string ByteArray.empty, .bool false] 30 _ (Kept.refl _))
  obtain ⟨v4, hv⟩ : ∃ W, w4.alloc (.cells #[.string ByteArray.empty, .string ByteArray.empty, .int .i64 0, .slice a41 m41 c41, .slice a42 m42 c42, .slice a43 m43 c43, .slice a44 m44 c44, .string ByteArray.empty, .int .i64 0, .string ByteArray.empty, .bool false] 30) = W := ⟨_, rfl⟩
  rw [hv] at CC k9 ⊢
  clear hv
  have K := Lib.hid (K.out.trans (k9))
  have N1 := Lib.hid (N1.out.kept (k9))
  have N2 := Lib.hid (N2.out.kept (k9))
  have C1 := Lib.hid (CellsN.kept C1.out (k9))
  have C2 := Lib.hid (CellsN.kept C2.out (k9))
  clear CC k9
  refine (parse_k (says_k (HE.out.kept K.out) (by decide) says5 chk5) (show _ = (⟨ByteArray.empty, ByteArray.empty, 0, [], [], [], [], ByteArray.empty, 0, ByteArray.empty, false⟩ : Pd) from rfl)).mono ?_
  rintro e w5 ⟨a51, m51, c51, a52, m52, c52, a53, m53, c53, a54, m54, c54, rfl, h, k⟩
  have K := Lib.hid (K.out.trans (k))
  have N1 := Lib.hid (N1.out.kept (k))
  have N2 := Lib.hid (N2.out.kept (k))
  have C1 := Lib.hid (CellsN.kept C1.out (k))
  have C2 := Lib.hid (CellsN.kept C2.out (k))
  have N5 := Lib.hid h
  clear k h
  clear N5
  have k9 := kept_alloc w5 (.cells #[.string ByteArray.empty, .string ByteArray.empty, .int .i64 0, .slice a51 m51 c51, .slice a52 m52 c52, .slice a53 m53 c53, .slice a54 m54 c54, .string ByteArray.empty, .int .i64 0, .string ByteArray.empty, .bool false] 30)
  have K := Lib.hid (K.out.trans (k9))
  have N1 := Lib.hid (N1.out.kept (k9))
  have N2 := Lib.hid (N2.out.kept (k9))
  have C1 := Lib.hid (CellsN.kept C1.out (k9))
  have C2 := Lib.hid (CellsN.kept C2.out (k9))
  clear k9
  have yC10 := C1.out.at_ 0 _ rfl
  have yC11 := C1.out.at_ 1 _ rfl
  have yC12 := C1.out.at_ 2 _ rfl
  have yC13 := C1.out.at_ 3 _ rfl
  have yC14 := C1.out.at_ 4 _ rfl
  have yC15 := C1.out.at_ 5 _ rfl
  have yC16 := C1.out.at_ 6 _ rfl
  have yC17 := C1.out.at_ 7 _ rfl
  have yC18 := C1.out.at_ 8 _ rfl
  have yC19 := C1.out.at_ 9 _ rfl
  have yC110 := C1.out.at_ 10 _ rfl
  have yC20 := C2.out.at_ 0 _ rfl
  have yC21 := C2.out.at_ 1 _ rfl
  have yC22 := C2.out.at_ 2 _ rfl
  have yC23 := C2.out.at_ 3 _ rfl
  have yC24 := C2.out.at_ 4 _ rfl
  have yC25 := C2.out.at_ 5 _ rfl
  have yC26 := C2.out.at_ 6 _ rfl
  have yC27 := C2.out.at_ 7 _ rfl
  have yC28 := C2.out.at_ 8 _ rfl
  have yC29 := C2.out.at_ 9 _ rfl
  have yC210 := C2.out.at_ 10 _ rfl
  go_wp2_with fail
  clear yC10 yC11 yC12 yC13 yC14 yC15 yC16 yC17 yC18 yC19 yC110 yC20 yC21 yC22 yC23 yC24 yC25 yC26 yC27 yC28 yC29 yC210
  refine (find_k (two_at N2.out N1.out (by simp)) lows (show _ = (⟨bP, bWeb, 10, c1, p1, s1, t1, bZone, 2, bN, false⟩ : Pd) from f1a) f1b).mono ?_
  rintro e w6 ⟨a61, m61, c61, a62, m62, c62, a63, m63, c63, a64, m64, c64, rfl, h, k⟩
  have K := Lib.hid (K.out.trans ((kept_alloc _ _).trans k))
  have N1 := Lib.hid (N1.out.kept ((kept_alloc _ _).trans k))
  have N2 := Lib.hid (N2.out.kept ((kept_alloc _ _).trans k))
  have C1 := Lib.hid (CellsN.kept C1.out ((kept_alloc _ _).trans k))
  have C2 := Lib.hid (CellsN.kept C2.out ((kept_alloc _ _).trans k))
  have N6 := Lib.hid h
  clear k h
  have k9 := kept_alloc w6 (.cells #[.string bP, .string bWeb, .int .i64 10, .slice a61 m61 c61, .slice a62 m62 c62, .slice a63 m63 c63, .slice a64 m64 c64, .string bZone, .int .i64 2, .string bN, .bool false] 30)
  have CC := Lib.hid (freshN w6 (.string bP) [.string bWeb, .int .i64 10, .slice a61 m61 c61, .slice a62 m62 c62, .slice a63 m63 c63, .slice a64 m64 c64, .string bZone, .int .i64 2, .string bN, .bool false] 30 _ (Kept.refl _))
  have K := Lib.hid (K.out.trans (k9))
  have N1 := Lib.hid (N1.out.kept (k9))
  have N2 := Lib.hid (N2.out.kept (k9))
  have N6 := Lib.hid (N6.out.kept (k9))
  have C1 := Lib.hid (CellsN.kept C1.out (k9))
  have C2 := Lib.hid (CellsN.kept C2.out (k9))
  have C6 := CC
  clear CC k9
  skip
  have yC10 := C1.out.at_ 0 _ rfl
  have yC11 := C1.out.at_ 1 _ rfl
  have yC12 := C1.out.at_ 2 _ rfl
  have yC13 := C1.out.at_ 3 _ rfl
  have yC14 := C1.out.at_ 4 _ rfl
  have yC15 := C1.out.at_ 5 _ rfl
  have yC16 := C1.out.at_ 6 _ rfl
  have yC17 := C1.out.at_ 7 _ rfl
  have yC18 := C1.out.at_ 8 _ rfl
  have yC19 := C1.out.at_ 9 _ rfl
  have yC110 := C1.out.at_ 10 _ rfl
  have yC21 := C2.out.at_ 1 _ rfl
  have yC210 := C2.out.at_ 10 _ rfl
  go_wp2_with fail
  refine (textPdR (HE.out.kept K.out).toEnvT (⟨_, _, _, _, rfl, N1.out⟩ : PodR _ (.agg #[.string bP, .string bWeb, .int .i64 10, .slice a11 m11 c11, .slice a12 m12 c12, .slice a13 m13 c13, .slice a14 m14 c14, .string bZone, .int .i64 2, .string bN, .bool false]) k1) few1 text1).mono ?_
  rintro e w9 ⟨rfl, k⟩
  clear yC10 yC11 yC12 yC13 yC14 yC15 yC16 yC17 yC18 yC19 yC110 yC21 yC210
  have K := Lib.hid (K.out.trans (k))
  have N1 := Lib.hid (N1.out.kept (k))
  have N2 := Lib.hid (N2.out.kept (k))
  have N6 := Lib.hid (N6.out.kept (k))
  have C1 := Lib.hid (CellsN.kept C1.out (k))
  have C2 := Lib.hid (CellsN.kept C2.out (k))
  have C6 := Lib.hid (CellsN.kept C6.out (k))
  clear k
  have yC20 := C2.out.at_ 0 _ rfl
  have yC21 := C2.out.at_ 1 _ rfl
  have yC22 := C2.out.at_ 2 _ rfl
  have yC23 := C2.out.at_ 3 _ rfl
  have yC24 := C2.out.at_ 4 _ rfl
  have yC25 := C2.out.at_ 5 _ rfl
  have yC26 := C2.out.at_ 6 _ rfl
  have yC27 := C2.out.at_ 7 _ rfl
  have yC28 := C2.out.at_ 8 _ rfl
  have yC29 := C2.out.at_ 9 _ rfl
  have yC210 := C2.out.at_ 10 _ rfl
  go_wp2_with fail
  refine (textPdR (HE.out.kept K.out).toEnvT (⟨_, _, _, _, rfl, N2.out⟩ : PodR _ (.agg #[.string bH, .string bE, .int .i64 (-1), .slice a21 m21 c21, .slice a22 m22 c22, .slice a23 m23 c23, .slice a24 m24 c24, .string bE, .int .i64 0, .string bN, .bool true]) k2) few2 text2).mono ?_
  rintro e w9 ⟨rfl, k⟩
  clear yC20 yC21 yC22 yC23 yC24 yC25 yC26 yC27 yC28 yC29 yC210
  have K := Lib.hid (K.out.trans (k))
  have N1 := Lib.hid (N1.out.kept (k))
  have N2 := Lib.hid (N2.out.kept (k))
  have N6 := Lib.hid (N6.out.kept (k))
  have C1 := Lib.hid (CellsN.kept C1.out (k))
  have C2 := Lib.hid (CellsN.kept C2.out (k))
  have C6 := Lib.hid (CellsN.kept C6.out (k))
  clear k
  have yC10 := C1.out.at_ 0 _ rfl
  have yC11 := C1.out.at_ 1 _ rfl
  have yC12 := C1.out.at_ 2 _ rfl
  have yC13 := C1.out.at_ 3 _ rfl
  have yC14 := C1.out.at_ 4 _ rfl
  have yC15 := C1.out.at_ 5 _ rfl
  have yC16 := C1.out.at_ 6 _ rfl
  have yC17 := C1.out.at_ 7 _ rfl
  have yC18 := C1.out.at_ 8 _ rfl
  have yC19 := C1.out.at_ 9 _ rfl
  have yC110 := C1.out.at_ 10 _ rfl
  have yC60 := C6.out.at_ 0 _ rfl
  have yC61 := C6.out.at_ 1 _ rfl
  have yC62 := C6.out.at_ 2 _ rfl
  have yC63 := C6.out.at_ 3 _ rfl
  have yC64 := C6.out.at_ 4 _ rfl
  have yC65 := C6.out.at_ 5 _ rfl
  have yC66 := C6.out.at_ 6 _ rfl
  have yC67 := C6.out.at_ 7 _ rfl
  have yC68 := C6.out.at_ 8 _ rfl
  have yC69 := C6.out.at_ 9 _ rfl
  have yC610 := C6.out.at_ 10 _ rfl
  go_wp2_with fail
  refine (samePodR (⟨_, _, _, _, rfl, N6.out⟩ : PodR _ (.agg #[.string bP, .string bWeb, .int .i64 10, .slice a61 m61 c61, .slice a62 m62 c62, .slice a63 m63 c63, .slice a64 m64 c64, .string bZone, .int .i64 2, .string bN, .bool false]) k1) (⟨_, _, _, _, rfl, N1.out⟩ : PodR _ (.agg #[.string bP, .string bWeb, .int .i64 10, .slice a11 m11 c11, .slice a12 m12 c12, .slice a13 m13 c13, .slice a14 m14 c14, .string bZone, .int .i64 2, .string bN, .bool false]) k1) (samePd_self k1)).mono ?_
  rintro e w9 ⟨rfl, k⟩
  clear yC10 yC11 yC12 yC13 yC14 yC15 yC16 yC17 yC18 yC19 yC110 yC60 yC61 yC62 yC63 yC64 yC65 yC66 yC67 yC68 yC69 yC610
  have K := Lib.hid (K.out.trans (k))
  have N1 := Lib.hid (N1.out.kept (k))
  have N2 := Lib.hid (N2.out.kept (k))
  have N6 := Lib.hid (N6.out.kept (k))
  have C1 := Lib.hid (CellsN.kept C1.out (k))
  have C2 := Lib.hid (CellsN.kept C2.out (k))
  have C6 := Lib.hid (CellsN.kept C6.out (k))
  clear k
  have yC10 := C1.out.at_ 0 _ rfl
  have yC11 := C1.out.at_ 1 _ rfl
  have yC12 := C1.out.at_ 2 _ rfl
  have yC13 := C1.out.at_ 3 _ rfl
  have yC14 := C1.out.at_ 4 _ rfl
  have yC15 := C1.out.at_ 5 _ rfl
  have yC16 := C1.out.at_ 6 _ rfl
  have yC17 := C1.out.at_ 7 _ rfl
  have yC18 := C1.out.at_ 8 _ rfl
  have yC19 := C1.out.at_ 9 _ rfl
  have yC110 := C1.out.at_ 10 _ rfl
  have yC20 := C2.out.at_ 0 _ rfl
  have yC21 := C2.out.at_ 1 _ rfl
  have yC22 := C2.out.at_ 2 _ rfl
  have yC23 := C2.out.at_ 3 _ rfl
  have yC24 := C2.out.at_ 4 _ rfl
  have yC25 := C2.out.at_ 5 _ rfl
  have yC26 := C2.out.at_ 6 _ rfl
  have yC27 := C2.out.at_ 7 _ rfl
  have yC28 := C2.out.at_ 8 _ rfl
  have yC29 := C2.out.at_ 9 _ rfl
  have yC210 := C2.out.at_ 10 _ rfl
  go_wp2_with fail
  refine (samePodR (⟨_, _, _, _, rfl, N1.out⟩ : PodR _ (.agg #[.string bP, .string bWeb, .int .i64 10, .slice a11 m11 c11, .slice a12 m12 c12, .slice a13 m13 c13, .slice a14 m14 c14, .string bZone, .int .i64 2, .string bN, .bool false]) k1) (⟨_, _, _, _, rfl, N2.out⟩ : PodR _ (.agg #[.string bH, .string bE, .int .i64 (-1), .slice a21 m21 c21, .slice a22 m22 c22, .slice a23 m23 c23, .slice a24 m24 c24, .string bE, .int .i64 0, .string bN, .bool true]) k2) same12).mono ?_
  rintro e w9 ⟨rfl, k⟩
  clear yC10 yC11 yC12 yC13 yC14 yC15 yC16 yC17 yC18 yC19 yC110 yC20 yC21 yC22 yC23 yC24 yC25 yC26 yC27 yC28 yC29 yC210
  have K := Lib.hid (K.out.trans (k))
  have N1 := Lib.hid (N1.out.kept (k))
  have N2 := Lib.hid (N2.out.kept (k))
  have N6 := Lib.hid (N6.out.kept (k))
  have C1 := Lib.hid (CellsN.kept C1.out (k))
  have C2 := Lib.hid (CellsN.kept C2.out (k))
  have C6 := Lib.hid (CellsN.kept C6.out (k))
  clear k
  have yC10 := C1.out.at_ 0 _ rfl
  have yC11 := C1.out.at_ 1 _ rfl
  have yC12 := C1.out.at_ 2 _ rfl
  have yC13 := C1.out.at_ 3 _ rfl
  have yC14 := C1.out.at_ 4 _ rfl
  have yC15 := C1.out.at_ 5 _ rfl
  have yC16 := C1.out.at_ 6 _ rfl
  have yC17 := C1.out.at_ 7 _ rfl
  have yC18 := C1.out.at_ 8 _ rfl
  have yC19 := C1.out.at_ 9 _ rfl
  have yC110 := C1.out.at_ 10 _ rfl
  have yC20 := C2.out.at_ 0 _ rfl
  have yC21 := C2.out.at_ 1 _ rfl
  have yC22 := C2.out.at_ 2 _ rfl
  have yC23 := C2.out.at_ 3 _ rfl
  have yC24 := C2.out.at_ 4 _ rfl
  have yC25 := C2.out.at_ 5 _ rfl
  have yC26 := C2.out.at_ 6 _ rfl
  have yC27 := C2.out.at_ 7 _ rfl
  have yC28 := C2.out.at_ 8 _ rfl
  have yC29 := C2.out.at_ 9 _ rfl
  have yC210 := C2.out.at_ 10 _ rfl
  go_wp2_with fail
  refine (cmpPdR (⟨_, _, _, _, rfl, N1.out⟩ : PodR _ (.agg #[.string bP, .string bWeb, .int .i64 10, .slice a11 m11 c11, .slice a12 m12 c12, .slice a13 m13 c13, .slice a14 m14 c14, .string bZone, .int .i64 2, .string bN, .bool false]) k1) (⟨_, _, _, _, rfl, N2.out⟩ : PodR _ (.agg #[.string bH, .string bE, .int .i64 (-1), .slice a21 m21 c21, .slice a22 m22 c22, .slice a23 m23 c23, .slice a24 m24 c24, .string bE, .int .i64 0, .string bN, .bool true]) k2) cmp12).mono ?_
  rintro e w9 ⟨rfl, k⟩
  clear yC10 yC11 yC12 yC13 yC14 yC15 yC16 yC17 yC18 yC19 yC110 yC20 yC21 yC22 yC23 yC24 yC25 yC26 yC27 yC28 yC29 yC210
  have K := Lib.hid (K.out.trans (k))
  have N1 := Lib.hid (N1.out.kept (k))
  have N2 := Lib.hid (N2.out.kept (k))
  have N6 := Lib.hid (N6.out.kept (k))
  have C1 := Lib.hid (CellsN.kept C1.out (k))
  have C2 := Lib.hid (CellsN.kept C2.out (k))
  have C6 := Lib.hid (CellsN.kept C6.out (k))
  clear k
  have yC10 := C1.out.at_ 0 _ rfl
  have yC11 := C1.out.at_ 1 _ rfl
  have yC12 := C1.out.at_ 2 _ rfl
  have yC13 := C1.out.at_ 3 _ rfl
  have yC14 := C1.out.at_ 4 _ rfl
  have yC15 := C1.out.at_ 5 _ rfl
  have yC16 := C1.out.at_ 6 _ rfl
  have yC17 := C1.out.at_ 7 _ rfl
  have yC18 := C1.out.at_ 8 _ rfl
  have yC19 := C1.out.at_ 9 _ rfl
  have yC110 := C1.out.at_ 10 _ rfl
  go_wp2_with fail
  refine (cmpPdR (⟨_, _, _, _, rfl, N1.out⟩ : PodR _ (.agg #[.string bP, .string bWeb, .int .i64 10, .slice a11 m11 c11, .slice a12 m12 c12, .slice a13 m13 c13, .slice a14 m14 c14, .string bZone, .int .i64 2, .string bN, .bool false]) k1) (⟨_, _, _, _, rfl, N1.out⟩ : PodR _ (.agg #[.string bP, .string bWeb, .int .i64 10, .slice a11 m11 c11, .slice a12 m12 c12, .slice a13 m13 c13, .slice a14 m14 c14, .string bZone, .int .i64 2, .string bN, .bool false]) k1) cmp11).mono ?_
  rintro e w9 ⟨rfl, k⟩
  clear yC10 yC11 yC12 yC13 yC14 yC15 yC16 yC17 yC18 yC19 yC110
  have K := Lib.hid (K.out.trans (k))
  have N1 := Lib.hid (N1.out.kept (k))
  have N2 := Lib.hid (N2.out.kept (k))
  have N6 := Lib.hid (N6.out.kept (k))
  have C1 := Lib.hid (CellsN.kept C1.out (k))
  have C2 := Lib.hid (CellsN.kept C2.out (k))
  have C6 := Lib.hid (CellsN.kept C6.out (k))
  clear k
  have yC10 := C1.out.at_ 0 _ rfl
  have yC11 := C1.out.at_ 1 _ rfl
  have yC12 := C1.out.at_ 2 _ rfl
  have yC13 := C1.out.at_ 3 _ rfl
  have yC14 := C1.out.at_ 4 _ rfl
  have yC15 := C1.out.at_ 5 _ rfl
  have yC16 := C1.out.at_ 6 _ rfl
  have yC17 := C1.out.at_ 7 _ rfl
  have yC18 := C1.out.at_ 8 _ rfl
  have yC19 := C1.out.at_ 9 _ rfl
  have yC110 := C1.out.at_ 10 _ rfl
  go_wp2_with fail
  refine (checkPR (⟨_, _, _, _, rfl, N1.out⟩ : PodR _ (.agg #[.string bP, .string bWeb, .int .i64 10, .slice a11 m11 c11, .slice a12 m12 c12, .slice a13 m13 c13, .slice a14 m14 c14, .string bZone, .int .i64 2, .string bN, .bool false]) k1) chk1).mono ?_
  rintro e w9 ⟨rfl, k⟩
  clear yC10 yC11 yC12 yC13 yC14 yC15 yC16 yC17 yC18 yC19 yC110
  have K := Lib.hid (K.out.trans (k))
  have N1 := Lib.hid (N1.out.kept (k))
  have N2 := Lib.hid (N2.out.kept (k))
  have N6 := Lib.hid (N6.out.kept (k))
  have C1 := Lib.hid (CellsN.kept C1.out (k))
  have C2 := Lib.hid (CellsN.kept C2.out (k))
  have C6 := Lib.hid (CellsN.kept C6.out (k))
  clear k
  have yC10 := C1.out.at_ 0 _ rfl
  have yC11 := C1.out.at_ 1 _ rfl
  have yC12 := C1.out.at_ 2 _ rfl
  have yC13 := C1.out.at_ 3 _ rfl
  have yC14 := C1.out.at_ 4 _ rfl
  have yC15 := C1.out.at_ 5 _ rfl
  have yC16 := C1.out.at_ 6 _ rfl
  have yC17 := C1.out.at_ 7 _ rfl
  have yC18 := C1.out.at_ 8 _ rfl
  have yC19 := C1.out.at_ 9 _ rfl
  have yC110 := C1.out.at_ 10 _ rfl
  have yC20 := C2.out.at_ 0 _ rfl
  have yC21 := C2.out.at_ 1 _ rfl
  have yC22 := C2.out.at_ 2 _ rfl
  have yC23 := C2.out.at_ 3 _ rfl
  have yC24 := C2.out.at_ 4 _ rfl
  have yC25 := C2.out.at_ 5 _ rfl
  have yC26 := C2.out.at_ 6 _ rfl
  have yC27 := C2.out.at_ 7 _ rfl
  have yC28 := C2.out.at_ 8 _ rfl
  have yC29 := C2.out.at_ 9 _ rfl
  have yC210 := C2.out.at_ 10 _ rfl
  go_wp2_with fail
  refine (checkAllP_any _ 2 2 _ _ (two_at N2.out N1.out (by simp))).mono ?_
  rintro e w9 ⟨rfl, k⟩
  clear yC10 yC11 yC12 yC13 yC14 yC15 yC16 yC17 yC18 yC19 yC110 yC20 yC21 yC22 yC23 yC24 yC25 yC26 yC27 yC28 yC29 yC210
  have K := Lib.hid (K.out.trans ((kept_alloc _ _).trans k))
  clear k
  rw [show chkAllP _ = 0 from all21]
  go_wp2
  go_ret
  exact ⟨rfl, K.out⟩

end Go.Proofs.YtflllkpnkcmegaaGreatDoor.Pk
