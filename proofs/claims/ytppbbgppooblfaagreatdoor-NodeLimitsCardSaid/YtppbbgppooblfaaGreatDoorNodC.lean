/- Package by package: contracts of the functions that the laws call. -/
import Derived.Test.YtppbbgppooblfaaGreatDoorNodB
import Derived.Test.YtppbbgppooblfaaGreatDoorResC

/- The nodes that the law knows, reckoned. -/
namespace Go.Proofs.YtppbbgppooblfaaGreatDoor.Nk
open Go.RowKit
set_option linter.unusedVariables false

def n1 : ByteArray := ⟨#[110, 49]⟩
def n2 : ByteArray := ⟨#[110, 50]⟩
def bMem : ByteArray := ⟨#[109, 101, 109]⟩
def bCpu : ByteArray := ⟨#[99, 112, 117]⟩
def bZone : ByteArray := ⟨#[122, 111, 110, 101]⟩
def bA : ByteArray := ⟨#[97]⟩
def bGpu : ByteArray := ⟨#[103, 112, 117]⟩
def bYes : ByteArray := ⟨#[121, 101, 115]⟩
def kT1 : ByteArray := ⟨#[110, 49, 32, 99, 112, 117, 61, 49, 48, 48, 44, 109, 101, 109, 61, 56, 32, 122, 111, 110, 101, 58, 97, 32, 103, 112, 117, 58, 121, 101, 115, 33, 32, 117, 112]⟩
abbrev c1 : Vec.V := [(bCpu, 100), (bMem, 8)]
abbrev p1 : PL := [(bZone, bA)]
abbrev t1 : NL := [(bGpu, bYes, true)]
abbrev k1 : Nod := ⟨n1, c1, p1, t1, false⟩
abbrev k2 : Nod := ⟨n2, [], [], [], true⟩
theorem lt_list (s t : ByteArray) : ltS s t = Op.bytesLess s.data.toList t.data.toList := by unfold ltS; rw [Lib.toList_data, Lib.toList_data]
theorem eq_list (s t : ByteArray) : eqS s t = (s.data.toList == t.data.toList) := by unfold eqS; rw [Lib.toList_data, Lib.toList_data]
theorem e12 : eqS n1 n2 = false := by rw [eq_list]; rfl
theorem e22 : eqS n2 n2 = true := by rw [eq_list]; rfl
theorem e13 : eqS n1 ⟨#[110, 51]⟩ = false := by rw [eq_list]; rfl
theorem e23 : eqS n2 ⟨#[110, 51]⟩ = false := by rw [eq_list]; rfl
theorem le21 : leS n2 n1 = false := by unfold leS; rw [lt_list, eq_list]; rfl
theorem le12 : leS n1 n2 = true := by unfold leS; rw [lt_list, eq_list]; rfl
theorem m1 : isName n1 = true := by decide
theorem m2 : isName n2 = true := by decide
theorem mc : isName bCpu = true := by decide
theorem mm : isName bMem = true := by decide
theorem mz : isName bZone = true := by decide
theorem ma : isName bA = true := by decide
theorem mg : isName bGpu = true := by decide
theorem my : isName bYes = true := by decide
theorem l_mc : ltS bMem bCpu = false := by rw [lt_list]; rfl
theorem e_mc : eqS bMem bCpu = false := by rw [eq_list]; rfl
theorem chk_c : Vec.checkV c1 = 0 := by simp [Vec.checkV, Vec.checkFrom, mc, mm, Vec.behindB, leS, l_mc, e_mc]
theorem chk_p : chkS p1 = 0 := by simp [chkS, chkFrom, mz, ma, behindB]
theorem chk_t : chkA t1 = 0 := by simp [chkA, chkAF, mg, my]
theorem chk_0 : Vec.checkV [] = 0 := by simp [Vec.checkV, Vec.checkFrom]
theorem chk_0p : chkS [] = 0 := by simp [chkS, chkFrom]
theorem chk_0t : chkA [] = 0 := by simp [chkA, chkAF]
theorem chk1 : chkNod k1 = 0 := by unfold chkNod; rw [if_neg (by rw [m1]; decide), if_neg (by rw [chk_c]; decide), if_neg (by rw [chk_p]; decide), chk_t]
theorem chk2 : chkNod k2 = 0 := by unfold chkNod; rw [if_neg (by rw [m2]; decide), if_neg (by rw [chk_0]; decide), if_neg (by rw [chk_0p]; decide), chk_0t]
theorem chkN1 : chkNod ⟨bytes [78, 49], [], [], [], false⟩ = 3 := by unfold chkNod; rw [if_pos (by decide)]
theorem all12 : chkAllN [k1, k2] = 0 := by unfold chkAllN; rw [if_neg (by simp), chkN_next chk1 (show Vec.behindB none n1 = false from rfl), chkN_next chk2 (show Vec.behindB (some n1) n2 = false from le21)]; rfl
theorem all21 : chkAllN [k2, k1] = 13 := by unfold chkAllN; rw [if_neg (by simp), chkN_next chk2 (show Vec.behindB none n2 = false from rfl), chkN_order chk1 (show Vec.behindB (some n2) n1 = true from le12)]
theorem find2 : findN [k1, k2] n2 = some k2 := by unfold findN; rw [List.find?_cons, e12, List.find?_cons, e22]
theorem find3 : findN [k1, k2] ⟨#[110, 51]⟩ = none := by unfold findN; rw [List.find?_cons, e13, List.find?_cons, e23]; rfl
theorem f2a : (findN [k1, k2] n2).getD Nod.zero = k2 := by rw [find2]; rfl
theorem f2b : (findN [k1, k2] n2).isSome = true := by rw [find2]; rfl
theorem f3a : (findN [k1, k2] ⟨#[110, 51]⟩).getD Nod.zero = Nod.zero := by rw [find3]; rfl
theorem f3b : (findN [k1, k2] ⟨#[110, 51]⟩).isSome = false := by rw [find3]; rfl
theorem same12 : sameN k1 k2 = false := by unfold sameN; rw [e12]; rfl
theorem pv1 : Vec.parseV [99, 112, 117, 61, 49, 48, 48, 44, 109, 101, 109, 61, 56] = (0, c1) := by
  have e : ((partsOf [99, 112, 117, 61, 49, 48, 48, 44, 109, 101, 109, 61, 56]).map Vec.amtOf).take 9 = c1 := by rfl
  unfold Vec.parseV Vec.parsedV
  rw [if_neg (by decide), if_neg (by decide), if_neg (by decide), e, if_neg (by rw [chk_c]; decide)]
theorem chk_z : Vec.checkV [(bCpu, 0)] = 1 := by simp [Vec.checkV, Vec.checkFrom, mc]
theorem pv0 : Vec.parseV [99, 112, 117, 61, 48] = (1, []) := by
  have e : ((partsOf [99, 112, 117, 61, 48]).map Vec.amtOf).take 9 = [(bCpu, 0)] := by rfl
  unfold Vec.parseV Vec.parsedV
  rw [if_neg (by decide), if_neg (by decide), if_neg (by decide), e, if_pos (by rw [chk_z]; decide), chk_z]
theorem pv_ : Vec.parseV [45] = (0, []) := by unfold Vec.parseV; rw [if_pos rfl]
theorem pp_ : parsedP [45] = (0, []) := by unfold parsedP parsedG; rw [if_pos rfl]
theorem pa_ : parsedA [45] = (0, []) := by unfold parsedA parsedG; rw [if_pos rfl]
theorem pp1 : parsedP [122, 111, 110, 101, 58, 97] = (0, p1) := by
  have e : ((partsOf [122, 111, 110, 101, 58, 97]).map pairL).take 9 = p1 := by rfl
  unfold parsedP parsedG
  rw [if_neg (by decide), if_neg (by decide), e, if_neg (by rw [chk_p]; decide)]
theorem pa1 : parsedA [103, 112, 117, 58, 121, 101, 115, 33] = (0, t1) := by
  have e : ((partsOf [103, 112, 117, 58, 121, 101, 115, 33]).map readA).take 9 = t1 := by rfl
  unfold parsedA parsedG
  rw [if_neg (by decide), if_neg (by decide), e, if_neg (by rw [chk_t]; decide)]
theorem five_ok {a b c d e : List UInt8} {V : Vec.V} {P : PL} {A : NL} (h1 : Vec.parseV b = (0, V)) (h2 : parsedP c = (0, P)) (h3 : parsedA d = (0, A)) (h4 : chkNod ⟨bytes a, V, P, A, e == cordonL⟩ = 0) : fiveR a b c d e = (0, ⟨bytes a, V, P, A, e == cordonL⟩) := by
  unfold fiveR madeNod
  rw [h1, h2, h3, if_neg (fun h => h rfl), if_neg (fun h => h rfl), if_neg (fun h => h rfl), if_neg (by rw [h4]; decide)]
theorem five_bad {a b c d e : List UInt8} {V : Vec.V} {P : PL} {A : NL} {x : Int} (h1 : Vec.parseV b = (0, V)) (h2 : parsedP c = (0, P)) (h3 : parsedA d = (0, A)) (h4 : chkNod ⟨bytes a, V, P, A, e == cordonL⟩ = x) (hx : x ≠ 0) : fiveR a b c d e = (x, Nod.zero) := by
  unfold fiveR madeNod
  rw [h1, h2, h3, if_neg (fun h => h rfl), if_neg (fun h => h rfl), if_neg (fun h => h rfl), if_pos (by rw [h4]; exact hx), h4]
theorem five_of {s a b c d e : List UInt8} (h : wordsL s = some [a, b, c, d, e]) : parseN s = fiveR a b c d e := by unfold parseN; rw [h]
theorem w1 : wordsL [110, 49, 32, 99, 112, 117, 61, 49, 48, 48, 44, 109, 101, 109, 61, 56, 32, 122, 111, 110, 101, 58, 97, 32, 103, 112, 117, 58, 121, 101, 115, 33, 32, 117, 112] = some [[110, 49], [99, 112, 117, 61, 49, 48, 48, 44, 109, 101, 109, 61, 56], [122, 111, 110, 101, 58, 97], [103, 112, 117, 58, 121, 101, 115, 33], [117, 112]] := by rfl
theorem w2 : wordsL [110, 50, 32, 45, 32, 45, 32, 45, 32, 99, 111, 114, 100, 111, 110] = some [[110, 50], [45], [45], [45], [99, 111, 114, 100, 111, 110]] := by rfl
theorem w3 : wordsL [110, 49, 32, 45, 32, 45, 32, 45, 32, 100, 111, 119, 110] = none := by rfl
theorem w4 : wordsL [110, 49, 32, 99, 112, 117, 61, 48, 32, 45, 32, 45, 32, 117, 112] = some [[110, 49], [99, 112, 117, 61, 48], [45], [45], [117, 112]] := by rfl
theorem w5 : wordsL [78, 49, 32, 45, 32, 45, 32, 45, 32, 117, 112] = some [[78, 49], [45], [45], [45], [117, 112]] := by rfl
theorem r1 : parseN [110, 49, 32, 99, 112, 117, 61, 49, 48, 48, 44, 109, 101, 109, 61, 56, 32, 122, 111, 110, 101, 58, 97, 32, 103, 112, 117, 58, 121, 101, 115, 33, 32, 117, 112] = (0, k1) := by rw [five_of w1]; exact five_ok pv1 pp1 pa1 chk1
theorem r2 : parseN [110, 50, 32, 45, 32, 45, 32, 45, 32, 99, 111, 114, 100, 111, 110] = (0, k2) := by rw [five_of w2]; exact five_ok pv_ pp_ pa_ chk2
theorem r3 : parseN [110, 49, 32, 45, 32, 45, 32, 45, 32, 100, 111, 119, 110] = (2, Nod.zero) := by unfold parseN; rw [w3]
theorem r4 : parseN [110, 49, 32, 99, 112, 117, 61, 48, 32, 45, 32, 45, 32, 117, 112] = (1, Nod.zero) := by rw [five_of w4]; unfold fiveR; rw [pv0, if_pos (by decide)]
theorem r5 : parseN [78, 49, 32, 45, 32, 45, 32, 45, 32, 117, 112] = (3, Nod.zero) := by rw [five_of w5]; exact five_bad pv_ pp_ pa_ chkN1 (by decide)
theorem i_100 : Lib.itoa 100 = [49, 48, 48] := by simp [Lib.itoa, Lib.decDigits]
theorem i_8 : Lib.itoa 8 = [56] := by simp [Lib.itoa, Lib.decDigits]
theorem tv1 : Vec.textV c1 = [99, 112, 117, 61, 49, 48, 48, 44, 109, 101, 109, 61, 56] := by simp [Vec.textV, Vec.joinFrom, i_100, i_8, bCpu, bMem]
theorem tp1 : textS p1 = ⟨#[122, 111, 110, 101, 58, 97]⟩ := by
  unfold textS
  rw [if_neg (by simp)]
  apply Go.WideShapes.bytes_inj
  simp [joinB, pairB, Lib.join, List.intercalate, bZone, bA]
theorem ta1 : textA t1 = ⟨#[103, 112, 117, 58, 121, 101, 115, 33]⟩ := by
  unfold textA
  rw [if_neg (by simp)]
  apply Go.WideShapes.bytes_inj
  simp [joinB, taintB, Lib.join, List.intercalate, bGpu, bYes]
theorem text1 : textN k1 = kT1 := by
  unfold textN
  dsimp only
  rw [tv1, tp1, ta1]
  apply Go.WideShapes.bytes_inj
  simp [n1, kT1, lastB, bytes]
theorem mid1 : MidNod k1 := ⟨by decide, by decide, ⟨by decide, by decide⟩, ⟨by decide, by decide⟩⟩
theorem low1 : LowNod k1 := ⟨by decide, by decide, by decide⟩
theorem low2 : LowNod k2 := ⟨by decide, by decide, by decide⟩
theorem lows : ∀ n ∈ [k1, k2], LowNod n := by
  intro n hn
  simp only [List.mem_cons, List.not_mem_nil, or_false] at hn
  rcases hn with rfl | rfl
  · exact low1
  · exact low2

end Go.Proofs.YtppbbgppooblfaaGreatDoor.Nk

/- What the laws know: two nodes read, told, compared, found; three that are none. -/
namespace Go.Proofs.YtppbbgppooblfaaGreatDoor.Nk
open Go.RowKit
set_option linter.unusedVariables false

theorem parse_k {s : List UInt8} {c : Int} {n : Nod} {w : World} {x : ByteArray} {cd : Bool} (hE : Vec.EnvT w) (hs : s.length ≤ 900000) (h : parseN s = (c, n)) (hx : n.name = x) (hc : n.cordon = cd) :
    Calls Tryz.prog 47 #[.string (bytes s)] w fun e w' => ∃ a1 m1 c1 a2 m2 c2 a3 m3 c3, e = .returned (.tuple #[.agg #[.string x, .slice a1 m1 c1, .slice a2 m2 c2, .slice a3 m3 c3, .bool cd], .int .i64 c]) ∧ NodAt w' (.slice a1 m1 c1) (.slice a2 m2 c2) (.slice a3 m3 c3) n ∧ Kept w w' := by
  subst hx; subst hc
  refine (parseN_any s w hE hs).mono ?_
  rintro e w' ⟨v, rfl, hn, k⟩
  rw [h] at hn ⊢
  obtain ⟨a1, m1, c1, a2, m2, c2, a3, m3, c3, rfl, h0, h1, h2, h3, -⟩ := hn
  exact ⟨_, _, _, _, _, _, _, _, _, rfl, ⟨h0, h1, h2, h3⟩, k⟩
theorem find_k {a : Option Addr} {len cap : Nat} {l : List Nod} {y : ByteArray} {n : Nod} {b : Bool} {x : ByteArray} {cd : Bool} {w : World} (hr : NodesAt w a len l) (hlow : ∀ n ∈ l, LowNod n) (h : (findN l y).getD Nod.zero = n) (hb : (findN l y).isSome = b) (hx : n.name = x) (hc : n.cordon = cd) :
    Calls Tryz.prog 54 #[.slice a len cap, .string y] w fun e w' => ∃ a1 m1 c1 a2 m2 c2 a3 m3 c3, e = .returned (.tuple #[.agg #[.string x, .slice a1 m1 c1, .slice a2 m2 c2, .slice a3 m3 c3, .bool cd], .bool b]) ∧ NodAt w' (.slice a1 m1 c1) (.slice a2 m2 c2) (.slice a3 m3 c3) n ∧ Kept w w' := by
  subst hx; subst hc; subst hb; subst h
  refine (find_any a len cap l y w hr hlow).mono ?_
  rintro e w' ⟨v, rfl, hn, k⟩
  obtain ⟨v1, v2, v3, rfl, h⟩ := hn
  obtain ⟨a1, d1, e1, q1⟩ := h.cap
  obtain ⟨a2, d2, e2, q2⟩ := h.labels
  obtain ⟨a3, d3, e3, q3⟩ := h.taints
  subst e1; subst e2; subst e3
  exact ⟨_, _, _, _, _, _, _, _, _, rfl, h, k⟩
/-- Two nodes laid side by side. -/
theorem two_at (w : World) (B : Nat) (T : TypeId) (n m : Nod) (x y : ByteArray) (cx cy : Bool) (a1 a2 a3 b1 b2 b3 : Option Addr) (m1 c1 m2 c2 m3 c3 n1 d1 n2 d2 n3 d3 : Nat) (hx : n.name = x) (hcx : n.cordon = cx) (hy : m.name = y) (hcy : m.cordon = cy) (hB : B = w.heap.size)
    (hn : NodAt w (.slice a1 m1 c1) (.slice a2 m2 c2) (.slice a3 m3 c3) n) (hm : NodAt w (.slice b1 n1 d1) (.slice b2 n2 d2) (.slice b3 n3 d3) m) :
    NodesAt (w.alloc (.cells #[.string x, .slice a1 m1 c1, .slice a2 m2 c2, .slice a3 m3 c3, .bool cx, .string y, .slice b1 n1 d1, .slice b2 n2 d2, .slice b3 n3 d3, .bool cy] T)) (some ⟨B, 0, none⟩) 2 [n, m] := by
  subst hx; subst hcx; subst hy; subst hcy; subst hB
  have hh := w.alloc_heap_new (.cells #[.string n.name, .slice a1 m1 c1, .slice a2 m2 c2, .slice a3 m3 c3, .bool n.cordon, .string m.name, .slice b1 n1 d1, .slice b2 n2 d2, .slice b3 n3 d3, .bool m.cordon] T)
  refine ⟨rfl, by decide, .inr ⟨_, 0, rfl, by simp, fun i z hi => ?_⟩⟩
  match i, hi with
  | 0, hi =>
    simp at hi; subst hi
    exact ⟨a1, m1, c1, a2, m2, c2, a3, m3, c3, by rw [Lib.cell_of_heap hh]; rfl, by rw [Lib.cell_of_heap hh]; rfl, by rw [Lib.cell_of_heap hh]; rfl, by rw [Lib.cell_of_heap hh]; rfl, by rw [Lib.cell_of_heap hh]; rfl, hn.kept (kept_alloc _ _)⟩
  | 1, hi =>
    simp at hi; subst hi
    exact ⟨b1, n1, d1, b2, n2, d2, b3, n3, d3, by rw [Lib.cell_of_heap hh]; rfl, by rw [Lib.cell_of_heap hh]; rfl, by rw [Lib.cell_of_heap hh]; rfl, by rw [Lib.cell_of_heap hh]; rfl, by rw [Lib.cell_of_heap hh]; rfl, hm.kept (kept_alloc _ _)⟩
  | i + 2, hi => simp at hi
theorem at_r {w : World} {v1 v2 v3 : Value} {n : Nod} {x : ByteArray} {cd : Bool} (h : NodAt w v1 v2 v3 n) (hx : n.name = x) (hc : n.cordon = cd) : NodR w (.agg #[.string x, v1, v2, v3, .bool cd]) n := by
  subst hx; subst hc; exact ⟨v1, v2, v3, rfl, h⟩

set_option maxRecDepth 100000 in
set_option maxHeartbeats 16000000 in
theorem known_any (w0 : World) (hE : Vec.EnvT w0) :
    Calls Tryz.prog 40 #[] w0 fun e w' => e = .returned (.bool true) ∧ Kept w0 w' := by
  have HE := Lib.hid hE
  have t0 : (kT1.toList == [110, 49, 32, 99, 112, 117, 61, 49, 48, 48, 44, 109, 101, 109, 61, 56, 32, 122, 111, 110, 101, 58, 97, 32, 103, 112, 117, 58, 121, 101, 115, 33, 32, 117, 112]) = true := by rw [Lib.toList_data]; rfl
  have K := Lib.hid (Kept.refl w0)
  clear hE
  go_enter Tryz.func40, Tryz.ntmps40
  go_wp2_with fail
  refine (parse_k (x := n1) (cd := false) (HE.out) (by decide) r1 rfl rfl).mono ?_
  rintro e w1 ⟨a11, m11, c11, a12, m12, c12, a13, m13, c13, rfl, h1, k⟩
  have K := Lib.hid (K.out.trans (k))
  have N1 := Lib.hid h1
  clear k h1
  go_wp2_with fail
  refine (parse_k (x := n2) (cd := true) (HE.out.kept (K.out.trans (kept_alloc _ _))) (by decide) r2 rfl rfl).mono ?_
  rintro e w2 ⟨a21, m21, c21, a22, m22, c22, a23, m23, c23, rfl, h2, k⟩
  have K := Lib.hid (K.out.trans (Kept.trans (kept_alloc _ _) k))
  have N1 := Lib.hid (N1.out.kept (Kept.trans (kept_alloc _ _) k))
  have C1 := Lib.hid (show Cells5 w1.heap.size _ _ _ _ _ w2 from fresh5 w1 _ _ _ _ _ _ w2 k)
  have N2 := Lib.hid h2
  clear k h2
  go_wp2_with fail
  refine (parse_k (x := ByteArray.empty) (cd := false) (HE.out.kept (K.out.trans (kept_alloc _ _))) (by decide) r3 rfl rfl).mono ?_
  rintro e w3 ⟨a31, m31, c31, a32, m32, c32, a33, m33, c33, rfl, h3, k⟩
  have K := Lib.hid (K.out.trans (Kept.trans (kept_alloc _ _) k))
  have N1 := Lib.hid (N1.out.kept (Kept.trans (kept_alloc _ _) k))
  have N2 := Lib.hid (N2.out.kept (Kept.trans (kept_alloc _ _) k))
  have C1 := Lib.hid (Cells5.kept C1.out (Kept.trans (kept_alloc _ _) k))
  have C2 := Lib.hid (show Cells5 w2.heap.size _ _ _ _ _ w3 from fresh5 w2 _ _ _ _ _ _ w3 k)
  clear k h3
  go_wp2_with fail
  refine (parse_k (x := ByteArray.empty) (cd := false) (HE.out.kept (K.out.trans (kept_alloc _ _))) (by decide) r4 rfl rfl).mono ?_
  rintro e w4 ⟨a41, m41, c41, a42, m42, c42, a43, m43, c43, rfl, h4, k⟩
  have K := Lib.hid (K.out.trans (Kept.trans (kept_alloc _ _) k))
  have N1 := Lib.hid (N1.out.kept (Kept.trans (kept_alloc _ _) k))
  have N2 := Lib.hid (N2.out.kept (Kept.trans (kept_alloc _ _) k))
  have C1 := Lib.hid (Cells5.kept C1.out (Kept.trans (kept_alloc _ _) k))
  have C2 := Lib.hid (Cells5.kept C2.out (Kept.trans (kept_alloc _ _) k))
  clear k h4
  go_wp2_with fail
  refine (parse_k (x := ByteArray.empty) (cd := false) (HE.out.kept (K.out.trans (kept_alloc _ _))) (by decide) r5 rfl rfl).mono ?_
  rintro e w5 ⟨a51, m51, c51, a52, m52, c52, a53, m53, c53, rfl, h5, k⟩
  have K := Lib.hid (K.out.trans (Kept.trans (kept_alloc _ _) k))
  have N1 := Lib.hid (N1.out.kept (Kept.trans (kept_alloc _ _) k))
  have N2 := Lib.hid (N2.out.kept (Kept.trans (kept_alloc _ _) k))
  have C1 := Lib.hid (Cells5.kept C1.out (Kept.trans (kept_alloc _ _) k))
  have C2 := Lib.hid (Cells5.kept C2.out (Kept.trans (kept_alloc _ _) k))
  clear k h5
  obtain ⟨W5, hW5⟩ : ∃ W, W = w5 := ⟨_, rfl⟩
  have k9 := kept_alloc w5 (.cells #[.string ByteArray.empty, .slice a51 m51 c51, .slice a52 m52 c52, .slice a53 m53 c53, .bool false] 53)
  have K := Lib.hid (K.out.trans (k9))
  have N1 := Lib.hid (N1.out.kept (k9))
  have N2 := Lib.hid (N2.out.kept (k9))
  have C1 := Lib.hid (Cells5.kept C1.out (k9))
  have C2 := Lib.hid (Cells5.kept C2.out (k9))
  clear k9
  obtain ⟨⟨yC10, yC11, yC12, yC13, yC14⟩, -⟩ := C1.out
  obtain ⟨⟨yC20, yC21, yC22, yC23, yC24⟩, -⟩ := C2.out
  go_wp2_with fail
  refine (find_k (n := k2) (x := n2) (cd := true) (b := true) (two_at _ _ _ k1 k2 n1 n2 false true _ _ _ _ _ _ _ _ _ _ _ _ _ _ _ _ _ _ rfl rfl rfl rfl (by simp) N1.out N2.out) lows f2a f2b rfl rfl).mono ?_
  rintro e w6 ⟨a61, m61, c61, a62, m62, c62, a63, m63, c63, rfl, h6, k⟩
  clear yC10 yC11 yC12 yC13 yC14
  clear yC20 yC21 yC22 yC23 yC24
  have K := Lib.hid (K.out.trans (Kept.trans (kept_alloc _ _) k))
  have N1 := Lib.hid (N1.out.kept (Kept.trans (kept_alloc _ _) k))
  have N2 := Lib.hid (N2.out.kept (Kept.trans (kept_alloc _ _) k))
  have C1 := Lib.hid (Cells5.kept C1.out (Kept.trans (kept_alloc _ _) k))
  have C2 := Lib.hid (Cells5.kept C2.out (Kept.trans (kept_alloc _ _) k))
  have N6 := Lib.hid h6
  clear k h6
  obtain ⟨W6, hW6⟩ : ∃ W, W = w6 := ⟨_, rfl⟩
  have k9 := kept_alloc w6 (.cells #[.string n2, .slice a61 m61 c61, .slice a62 m62 c62, .slice a63 m63 c63, .bool true] 53)
  have K := Lib.hid (K.out.trans (k9))
  have N1 := Lib.hid (N1.out.kept (k9))
  have N2 := Lib.hid (N2.out.kept (k9))
  have N6 := Lib.hid (N6.out.kept (k9))
  have C1 := Lib.hid (Cells5.kept C1.out (k9))
  have C2 := Lib.hid (Cells5.kept C2.out (k9))
  have C6 := (Lib.hid (fresh5 w6 (.string n2) (.slice a61 m61 c61) (.slice a62 m62 c62) (.slice a63 m63 c63) (.bool true) 53 _ (Kept.refl _)) : Hid (Cells5 w6.heap.size _ _ _ _ _ _))
  clear k9
  obtain ⟨⟨yC10, yC11, yC12, yC13, yC14⟩, -⟩ := C1.out
  obtain ⟨⟨yC20, yC21, yC22, yC23, yC24⟩, -⟩ := C2.out
  go_wp2_with fail
  refine (find_k (n := Nod.zero) (x := ByteArray.empty) (cd := false) (b := false) (two_at _ _ _ k1 k2 n1 n2 false true _ _ _ _ _ _ _ _ _ _ _ _ _ _ _ _ _ _ rfl rfl rfl rfl (by simp) N1.out N2.out) lows f3a f3b rfl rfl).mono ?_
  rintro e w7 ⟨a71, m71, c71, a72, m72, c72, a73, m73, c73, rfl, h7, k⟩
  clear yC10 yC11 yC12 yC13 yC14
  clear yC20 yC21 yC22 yC23 yC24
  have K := Lib.hid (K.out.trans (Kept.trans (kept_alloc _ _) k))
  have N1 := Lib.hid (N1.out.kept (Kept.trans (kept_alloc _ _) k))
  have N2 := Lib.hid (N2.out.kept (Kept.trans (kept_alloc _ _) k))
  have N6 := Lib.hid (N6.out.kept (Kept.trans (kept_alloc _ _) k))
  have C1 := Lib.hid (Cells5.kept C1.out (Kept.trans (kept_alloc _ _) k))
  have C2 := Lib.hid (Cells5.kept C2.out (Kept.trans (kept_alloc _ _) k))
  have C6 := Lib.hid (Cells5.kept C6.out (Kept.trans (kept_alloc _ _) k))
  clear k h7
  have k9 := kept_alloc w7 (.cells #[.string ByteArray.empty, .slice a71 m71 c71, .slice a72 m72 c72, .slice a73 m73 c73, .bool false] 53)
  have K := Lib.hid (K.out.trans (k9))
  have N1 := Lib.hid (N1.out.kept (k9))
  have N2 := Lib.hid (N2.out.kept (k9))
  have N6 := Lib.hid (N6.out.kept (k9))
  have C1 := Lib.hid (Cells5.kept C1.out (k9))
  have C2 := Lib.hid (Cells5.kept C2.out (k9))
  have C6 := Lib.hid (Cells5.kept C6.out (k9))
  clear k9
  obtain ⟨⟨yC10, yC11, yC12, yC13, yC14⟩, -⟩ := C1.out
  obtain ⟨⟨yC20, yC21, yC22, yC23, yC24⟩, -⟩ := C2.out
  obtain ⟨⟨yC60, yC61, yC62, yC63, yC64⟩, -⟩ := C6.out
  go_wp2_with fail
  refine (textNR (HE.out.kept K.out) (at_r N1.out rfl rfl) mid1 text1).mono ?_
  rintro e w8 ⟨rfl, k⟩
  clear yC10 yC11 yC12 yC13 yC14
  clear yC20 yC21 yC22 yC23 yC24
  clear yC60 yC61 yC62 yC63 yC64
  have K := Lib.hid (K.out.trans (k))
  have N1 := Lib.hid (N1.out.kept (k))
  have N2 := Lib.hid (N2.out.kept (k))
  have N6 := Lib.hid (N6.out.kept (k))
  have C1 := Lib.hid (Cells5.kept C1.out (k))
  have C2 := Lib.hid (Cells5.kept C2.out (k))
  have C6 := Lib.hid (Cells5.kept C6.out (k))
  clear k
  obtain ⟨⟨yC10, yC11, yC12, yC13, yC14⟩, -⟩ := C1.out
  obtain ⟨⟨yC20, yC21, yC22, yC23, yC24⟩, -⟩ := C2.out
  obtain ⟨⟨yC60, yC61, yC62, yC63, yC64⟩, -⟩ := C6.out
  go_wp2_with fail
  refine (sameNodR (at_r N6.out rfl rfl) (at_r N2.out rfl rfl) (sameN_self k2)).mono ?_
  rintro e w9 ⟨rfl, k⟩
  clear yC10 yC11 yC12 yC13 yC14
  clear yC20 yC21 yC22 yC23 yC24
  clear yC60 yC61 yC62 yC63 yC64
  have K := Lib.hid (K.out.trans (k))
  have N1 := Lib.hid (N1.out.kept (k))
  have N2 := Lib.hid (N2.out.kept (k))
  have N6 := Lib.hid (N6.out.kept (k))
  have C1 := Lib.hid (Cells5.kept C1.out (k))
  have C2 := Lib.hid (Cells5.kept C2.out (k))
  have C6 := Lib.hid (Cells5.kept C6.out (k))
  clear k
  obtain ⟨⟨yC10, yC11, yC12, yC13, yC14⟩, -⟩ := C1.out
  obtain ⟨⟨yC20, yC21, yC22, yC23, yC24⟩, -⟩ := C2.out
  obtain ⟨⟨yC60, yC61, yC62, yC63, yC64⟩, -⟩ := C6.out
  go_wp2_with fail
  refine (sameNodR (at_r N1.out rfl rfl) (at_r N2.out rfl rfl) same12).mono ?_
  rintro e w10 ⟨rfl, k⟩
  clear yC10 yC11 yC12 yC13 yC14
  clear yC20 yC21 yC22 yC23 yC24
  clear yC60 yC61 yC62 yC63 yC64
  have K := Lib.hid (K.out.trans (k))
  have N1 := Lib.hid (N1.out.kept (k))
  have N2 := Lib.hid (N2.out.kept (k))
  have N6 := Lib.hid (N6.out.kept (k))
  have C1 := Lib.hid (Cells5.kept C1.out (k))
  have C2 := Lib.hid (Cells5.kept C2.out (k))
  have C6 := Lib.hid (Cells5.kept C6.out (k))
  clear k
  obtain ⟨⟨yC10, yC11, yC12, yC13, yC14⟩, -⟩ := C1.out
  obtain ⟨⟨yC20, yC21, yC22, yC23, yC24⟩, -⟩ := C2.out
  obtain ⟨⟨yC60, yC61, yC62, yC63, yC64⟩, -⟩ := C6.out
  go_wp2_with fail
  refine (checkNR (at_r N1.out rfl rfl) chk1).mono ?_
  rintro e w11 ⟨rfl, k⟩
  clear yC10 yC11 yC12 yC13 yC14
  clear yC20 yC21 yC22 yC23 yC24
  clear yC60 yC61 yC62 yC63 yC64
  have K := Lib.hid (K.out.trans (k))
  have N1 := Lib.hid (N1.out.kept (k))
  have N2 := Lib.hid (N2.out.kept (k))
  have N6 := Lib.hid (N6.out.kept (k))
  have C1 := Lib.hid (Cells5.kept C1.out (k))
  have C2 := Lib.hid (Cells5.kept C2.out (k))
  have C6 := Lib.hid (Cells5.kept C6.out (k))
  clear k
  obtain ⟨⟨yC10, yC11, yC12, yC13, yC14⟩, -⟩ := C1.out
  obtain ⟨⟨yC20, yC21, yC22, yC23, yC24⟩, -⟩ := C2.out
  obtain ⟨⟨yC60, yC61, yC62, yC63, yC64⟩, -⟩ := C6.out
  go_wp2_with fail
  refine (checkAll_any _ 2 2 [k1, k2] _ (two_at _ _ _ k1 k2 n1 n2 false true _ _ _ _ _ _ _ _ _ _ _ _ _ _ _ _ _ _ rfl rfl rfl rfl (by simp) N1.out N2.out)).mono ?_
  rintro e w12 ⟨rfl, k⟩
  clear yC10 yC11 yC12 yC13 yC14
  clear yC20 yC21 yC22 yC23 yC24
  clear yC60 yC61 yC62 yC63 yC64
  have K := Lib.hid (K.out.trans (Kept.trans (kept_alloc _ _) k))
  have N1 := Lib.hid (N1.out.kept (Kept.trans (kept_alloc _ _) k))
  have N2 := Lib.hid (N2.out.kept (Kept.trans (kept_alloc _ _) k))
  have N6 := Lib.hid (N6.out.kept (Kept.trans (kept_alloc _ _) k))
  have C1 := Lib.hid (Cells5.kept C1.out (Kept.trans (kept_alloc _ _) k))
  have C2 := Lib.hid (Cells5.kept C2.out (Kept.trans (kept_alloc _ _) k))
  have C6 := Lib.hid (Cells5.kept C6.out (Kept.trans (kept_alloc _ _) k))
  clear k
  obtain ⟨⟨yC10, yC11, yC12, yC13, yC14⟩, -⟩ := C1.out
  obtain ⟨⟨yC20, yC21, yC22, yC23, yC24⟩, -⟩ := C2.out
  obtain ⟨⟨yC60, yC61, yC62, yC63, yC64⟩, -⟩ := C6.out
  rw [all12]
  go_wp2_with fail
  refine (checkAll_any _ 2 2 [k2, k1] _ (two_at _ _ _ k2 k1 n2 n1 true false _ _ _ _ _ _ _ _ _ _ _ _ _ _ _ _ _ _ rfl rfl rfl rfl (by simp) N2.out N1.out)).mono ?_
  rintro e w13 ⟨rfl, k⟩
  clear yC10 yC11 yC12 yC13 yC14
  clear yC20 yC21 yC22 yC23 yC24
  clear yC60 yC61 yC62 yC63 yC64
  have K := Lib.hid (K.out.trans (Kept.trans (kept_alloc _ _) k))
  have N1 := Lib.hid (N1.out.kept (Kept.trans (kept_alloc _ _) k))
  have N2 := Lib.hid (N2.out.kept (Kept.trans (kept_alloc _ _) k))
  have N6 := Lib.hid (N6.out.kept (Kept.trans (kept_alloc _ _) k))
  have C1 := Lib.hid (Cells5.kept C1.out (Kept.trans (kept_alloc _ _) k))
  have C2 := Lib.hid (Cells5.kept C2.out (Kept.trans (kept_alloc _ _) k))
  have C6 := Lib.hid (Cells5.kept C6.out (Kept.trans (kept_alloc _ _) k))
  clear k
  obtain ⟨⟨yC10, yC11, yC12, yC13, yC14⟩, -⟩ := C1.out
  obtain ⟨⟨yC20, yC21, yC22, yC23, yC24⟩, -⟩ := C2.out
  obtain ⟨⟨yC60, yC61, yC62, yC63, yC64⟩, -⟩ := C6.out
  rw [all21]
  go_wp2
  go_ret
  exact ⟨rfl, K.out⟩

end Go.Proofs.YtppbbgppooblfaaGreatDoor.Nk
