/- A node's text read: the reference. -/
import Derived.Test.YtppbbgppooblfaaGreatDoorNodB
import Derived.Test.YtppbbgppooblfaaGreatDoorLab
import Derived.Test.YtppbbgppooblfaaGreatDoorTai
import Derived.Test.YtppbbgppooblfaaGreatDoorResC
import Derived.BigRegion
namespace Go.Proofs.YtppbbgppooblfaaGreatDoor
open Go.RowKit
set_option linter.unusedVariables false

theorem five_split {s a b c d e : List UInt8} {w : World} {B : Nat} {v : Value} (ho : Own StrLay 9 w B v (splitB 32 s)) (hp : partsAt 32 s = [a, b, c, d, e]) :
    ∃ g cap, v = .slice (some ⟨g, 0, none⟩) 5 cap ∧ w.cell? ⟨g, 0, none⟩ = some (.string (bytes a)) ∧ w.cell? ⟨g, 1, none⟩ = some (.string (bytes b)) ∧ w.cell? ⟨g, 2, none⟩ = some (.string (bytes c)) ∧ w.cell? ⟨g, 3, none⟩ = some (.string (bytes d)) ∧ w.cell? ⟨g, 4, none⟩ = some (.string (bytes e)) := by
  have hs : splitB 32 s = [bytes a, bytes b, bytes c, bytes d, bytes e] := by unfold splitB; rw [hp]; rfl
  rw [hs] at ho
  obtain ⟨a', cap', e', -, -, h3⟩ := ho.at_
  rcases ho.1.2 with ⟨_, h0⟩ | ⟨g, cap, cur, e2, -⟩
  · cases h0
  · rw [e2] at e'
    injection e' with e1 e3 e4
    subst e1
    have hc : ∀ (k : Nat) x, [bytes a, bytes b, bytes c, bytes d, bytes e][k]? = some x → w.cell? ⟨g, k, none⟩ = some (.string x) := by
      intro k x hx
      have hk : k < [bytes a, bytes b, bytes c, bytes d, bytes e].length := (List.getElem?_eq_some_iff.1 hx).1
      obtain ⟨z, hz, _, _, _, h⟩ := h3.str hk
      rw [hx] at hz
      cases hz
      rw [Nat.zero_add] at h
      exact h
    exact ⟨g, cap, e2, hc 0 _ rfl, hc 1 _ rfl, hc 2 _ rfl, hc 3 _ rfl, hc 4 _ rfl⟩
/-- A node's own block holds no row: behind its one text stands a slice. -/
def NoRow (W : World) (N : Nat) : Prop := ∀ o x u, W.cell? ⟨N, o, none⟩ = some (.string x) → W.cell? ⟨N, o + 1, none⟩ = some u → ∃ a n c, u = .slice a n c
theorem no_row {W : World} {N : Nat} {x : ByteArray} {a1 a2 a3 : Option Addr} {m1 c1 m2 c2 m3 c3 : Nat} {b : Bool} {T : TypeId} {fr : Nat × Nat} (hh : W.heap[N]? = some (.cells #[.string x, .slice a1 m1 c1, .slice a2 m2 c2, .slice a3 m3 c3, .bool b] T fr)) : NoRow W N := by
  intro o y u h1 h2
  rw [Lib.cell_of_heap hh] at h1 h2
  match o, h1, h2 with
  | 0, _, h2 => exact ⟨a1, m1, c1, by simpa using h2.symm⟩
  | 1, h1, _ => simp at h1
  | 2, h1, _ => simp at h1
  | 3, h1, _ => simp at h1
  | 4, h1, _ => simp at h1
  | o + 5, h1, _ => simp at h1
theorem vec_past {w w' : World} {v : Value} {l : Vec.V} {N : Nat} (h : Vec.Reads w v l) (hs : w'.heap.size = w.heap.size) (hb : ∀ b, b ≠ N → w'.heap[b]? = w.heap[b]?) (hn : NoRow w N) : Vec.Reads w' v l := by
  obtain ⟨a, cap, rfl, h1, h2, h3, h4, h5, h6⟩ := h
  refine ⟨a, cap, rfl, h1, h2, h3, h4, h5, ?_⟩
  rcases h6 with h6 | ⟨b, off, rfl, hlt, hc⟩
  · exact .inl h6
  · by_cases h0 : l.length = 0
    · exact .inl h0
    · have hne : b ≠ N := by
        rintro rfl
        obtain ⟨c0, c1⟩ := hc 0 (by omega)
        obtain ⟨_, _, _, e⟩ := hn _ _ _ c0 c1
        cases e
      exact .inr ⟨b, off, rfl, by rw [hs]; exact hlt, fun i hi => ⟨(World.cell?_of_block (a := ⟨b, off + i * 2, none⟩) (hb b hne)).trans (hc i hi).1, (World.cell?_of_block (a := ⟨b, off + i * 2 + 1, none⟩) (hb b hne)).trans (hc i hi).2⟩⟩
theorem reads_past {α : Type} {L : Lay α} {w w' : World} {v : Value} {l : List α} {N : Nat} (hL : ∀ x, ∃ s t, (L.cs x)[0]? = some (.string s) ∧ (L.cs x)[1]? = some (.string t)) (h : Reads L w v l) (hs : w'.heap.size = w.heap.size) (hb : ∀ b, b ≠ N → w'.heap[b]? = w.heap[b]?) (hn : NoRow w N) : Reads L w' v l := by
  obtain ⟨a, cap, rfl, h1, h2, h3, h4, h5, h6⟩ := h
  refine ⟨a, cap, rfl, h1, h2, h3, h4, h5, ?_⟩
  rcases h6 with h6 | ⟨b, off, rfl, hlt, hc⟩
  · exact .inl h6
  · cases l with
    | nil => exact .inl rfl
    | cons x t =>
      have hne : b ≠ N := by
        rintro rfl
        obtain ⟨s, u, g0, g1⟩ := hL x
        have c0 := hc 0 x 0 _ rfl g0
        have c1 := hc 0 x 1 _ rfl g1
        obtain ⟨_, _, _, e⟩ := hn _ _ _ c0 c1
        cases e
      exact .inr ⟨b, off, rfl, by rw [hs]; exact hlt, fun i x j u hi hj => (World.cell?_of_block (a := ⟨b, off + i * L.m + j, none⟩) (hb b hne)).trans (hc i x j u hi hj)⟩
theorem past_P (x : ByteArray × ByteArray) : ∃ s t, (PairLay.cs x)[0]? = some (.string s) ∧ (PairLay.cs x)[1]? = some (.string t) := ⟨x.1, x.2, rfl, rfl⟩
theorem past_A (x : NT) : ∃ s t, (TaLay.cs x)[0]? = some (.string s) ∧ (TaLay.cs x)[1]? = some (.string t) := ⟨x.1, x.2.1, rfl, rfl⟩
theorem node_past {w w' : World} {v1 v2 v3 : Value} {n : Nod} {N : Nat} (h : NodAt w v1 v2 v3 n) (hs : w'.heap.size = w.heap.size) (hb : ∀ b, b ≠ N → w'.heap[b]? = w.heap[b]?) (hn : NoRow w N) : NodAt w' v1 v2 v3 n :=
  ⟨h.size, vec_past h.cap hs hb hn, reads_past past_P h.labels hs hb hn, reads_past past_A h.taints hs hb hn⟩
/-- What a call answers that reads a node's text. -/
def GotN (r : Int × Nod) (w : World) (e : Ending) (w' : World) : Prop := ∃ v, e = .returned (.tuple #[v, .int .i64 r.1]) ∧ NodR w' v r.2 ∧ Kept w w'
theorem parts_five {s : List UInt8} (h : (partsAt 32 s).length = 5) : ∃ a b c d e, partsAt 32 s = [a, b, c, d, e] := by
  match partsAt 32 s, h with
  | [a, b, c, d, e], _ => exact ⟨a, b, c, d, e, rfl⟩
theorem words_of {s a b c d e : List UInt8} (hp : partsAt 32 s = [a, b, c, d, e]) (h : lastOk e = true) : wordsL s = some [a, b, c, d, e] := by
  unfold wordsL; rw [hp, if_pos ⟨rfl, h⟩]
theorem words_no {s a b c d e : List UInt8} (hp : partsAt 32 s = [a, b, c, d, e]) (h : lastOk e = false) : wordsL s = none := by
  unfold wordsL; rw [hp, if_neg (fun x => by have := x.2; rw [show ([a, b, c, d, e] : List (List UInt8)).getD 4 [] = e from rfl, h] at this; cases this)]
theorem parts_sub {s a b c d e : List UInt8} (hp : partsAt 32 s = [a, b, c, d, e]) (h : lastOk e = true) : ∀ p ∈ [a, b, c, d, e], p.length ≤ s.length := by
  obtain ⟨a', b', c', d', e', h1, h2⟩ := words_five (words_of hp h)
  cases h1
  exact h2

set_option maxRecDepth 100000 in
set_option maxHeartbeats 8000000 in
theorem rparse_five {s a b c d e : List UInt8} (w : World) (hs : s.length ≤ 1000) (hp : partsAt 32 s = [a, b, c, d, e]) (cd : Bool) (t1 : (e == upL) = !cd) (t2 : (e == cordonL) = cd) :
    Calls Tryz.prog 50 #[.string (bytes s)] w (GotN (parseN s) w) := by
  have hlk : lastOk e = true := by unfold lastOk; rw [t1, t2]; cases cd <;> rfl
  have hlen := parts_sub hp hlk
  have hla := hlen a (by simp)
  have hlb := hlen b (by simp)
  have hlc := hlen c (by simp)
  have hld := hlen d (by simp)
  have HP := Lib.hid (show parseN s = fiveR a b c d e by unfold parseN; rw [words_of hp hlk])
  obtain ⟨e1, n1, he1⟩ : ∃ x y, Vec.parseV b = (x, y) := ⟨_, _, rfl⟩
  obtain ⟨e2, n2, he2⟩ : ∃ x y, parsedP c = (x, y) := ⟨_, _, rfl⟩
  obtain ⟨e3, n3, he3⟩ : ∃ x y, parsedA d = (x, y) := ⟨_, _, rfl⟩
  have H1 := Lib.hid (fun W => Vec.refParseR (w := W) (by omega) he1)
  have H2 := Lib.hid (fun W => refParseSet_any c W (by omega))
  have H3 := Lib.hid (fun W => refParseA_any d W (by omega))
  rw [he2] at H2
  rw [he3] at H3
  dsimp only at H2 H3
  have HNM := Lib.hid (show (bytes a).size ≤ maxLen by rw [bytes_size]; unfold maxLen; omega)
  have HSP := Lib.hid (fun W => splitR 32 s W (by omega) (v := .int .u8 32) rfl)
  have HPP := Lib.hid hp
  have t4 : ((bytes e).toList == [99, 111, 114, 100, 111, 110]) = cd := by rw [bytes_toList]; exact t2
  have t5 : ((bytes e).toList == [117, 112]) = !cd := by rw [bytes_toList]; exact t1
  have HFV := Lib.hid (show parseN s = if e1 ≠ 0 then (e1, Nod.zero) else if e2 ≠ 0 then (e2, Nod.zero) else if e3 ≠ 0 then (e3, Nod.zero) else if chkNod ⟨bytes a, n1, n2, n3, cd⟩ ≠ 0 then (chkNod ⟨bytes a, n1, n2, n3, cd⟩, Nod.zero) else (0, ⟨bytes a, n1, n2, n3, cd⟩) by rw [HP.out]; unfold fiveR madeNod; rw [he1, he2, he3, t2])
  clear hlk hlen hla hlb hlc hld he1 he2 he3 hs HP hp t1 t2
  cases cd with
  | true =>
    go_enter Tryz.func50, Tryz.ntmps50
    go_wp2_with fail
    refine (HSP.out _).mono ?_
    rintro ee w1 ⟨v, rfl, ho, k⟩
    obtain ⟨g, cap, rfl, h0, h1, h2, h3, h4⟩ := five_split ho HPP.out
    have K := Lib.hid ((kept_alloc _ _).trans k)
    have HQ := Lib.hid (fun W (kk : Kept w1 W) => show Cells5 w.heap.size (.string ⟨#[]⟩) (.slice none 0 0) (.slice none 0 0) (.slice none 0 0) (.bool false) W from fresh5 w _ _ _ _ _ 58 W (k.trans kk))
    have HLT := Lib.hid (show w.heap.size < w1.heap.size by have := k.size; rw [World.size_alloc] at this; exact this)
    have HB0 := Lib.hid ((k.block w.heap.size (by simp)).trans (w.alloc_heap_new _))
    have HC := Lib.hid (show ∀ W, Kept w1 W → W.cell? ⟨g, 1, none⟩ = some (.string (bytes b)) ∧ W.cell? ⟨g, 2, none⟩ = some (.string (bytes c)) ∧ W.cell? ⟨g, 3, none⟩ = some (.string (bytes d)) from fun W kk => ⟨cell_later kk h1, cell_later kk h2, cell_later kk h3⟩)
    have h0z := cell_later (kept_alloc w1 (.cells #[.string ⟨#[]⟩, .slice none 0 0, .slice none 0 0, .slice none 0 0, .bool false] 58)) h0
    have h4z := cell_later (kept_alloc w1 (.cells #[.string ⟨#[]⟩, .slice none 0 0, .slice none 0 0, .slice none 0 0, .bool false] 58)) h4
    clear k ho HSP HPP
    go_wp2
    go_big_region
    have k2 : Kept w1 ((w1.alloc (.cells #[.string (bytes a), .slice none 0 0, .slice none 0 0, .slice none 0 0, .bool true] 58)).drew) := (kept_alloc _ _).trans (Kept.drew _)
    have QN := Lib.hid (show Cells5 w1.heap.size (.string (bytes a)) (.slice none 0 0) (.slice none 0 0) (.slice none 0 0) (.bool true) _ from fresh5 w1 _ _ _ _ _ 58 _ (Kept.drew (w1.alloc (.cells #[.string (bytes a), .slice none 0 0, .slice none 0 0, .slice none 0 0, .bool true] 58))))
    have HH := Lib.hid ((Kept.drew (w1.alloc (.cells #[.string (bytes a), .slice none 0 0, .slice none 0 0, .slice none 0 0, .bool true] 58))).block w1.heap.size (by simp) |>.trans (w1.alloc_heap_new _))
    obtain ⟨W2, hW2⟩ : ∃ W, (w1.alloc (.cells #[.string (bytes a), .slice none 0 0, .slice none 0 0, .slice none 0 0, .bool true] 58)).drew = W := ⟨_, rfl⟩
    rw [hW2] at k2 QN HH ⊢
    have K2 := Lib.hid k2
    clear hW2 k2 h0 h1 h2 h3 h4 h0z h4z
    obtain ⟨h1, -⟩ := HC.out _ K2.out
    go_wp2_with fail
    refine (H1.out _).mono ?_
    rintro e9 w3 ⟨va, rfl, ra, k⟩
    have RA := Lib.hid ra
    have K2 := Lib.hid (K2.out.trans k)
    have HH := Lib.hid ((k.block w1.heap.size (Array.getElem?_eq_some_iff.1 HH.out).1).trans HH.out)
    have QN := Lib.hid (Cells5.kept QN.out k)
    clear k ra h1
    by_cases z1 : e1 = 0
    · subst z1
      obtain ⟨-, h2, -⟩ := HC.out _ K2.out
      go_wp2_with fail
      refine (H2.out _).mono ?_
      rintro e9 w4 ⟨vb, rfl, rb, k⟩
      have RB := Lib.hid rb
      have RA := Lib.hid (RA.out.kept k)
      have K2 := Lib.hid (K2.out.trans k)
      have HH := Lib.hid ((k.block w1.heap.size (Array.getElem?_eq_some_iff.1 HH.out).1).trans HH.out)
      have QN := Lib.hid (Cells5.kept QN.out k)
      clear k rb h2
      by_cases z2 : e2 = 0
      · subst z2
        obtain ⟨-, -, h3⟩ := HC.out _ K2.out
        go_wp2_with fail
        refine (H3.out _).mono ?_
        rintro e9 w5 ⟨vc, rfl, rc, k⟩
        have RC := Lib.hid rc
        have RA := Lib.hid (RA.out.kept k)
        have RB := Lib.hid (RB.out.kept k)
        have K2 := Lib.hid (K2.out.trans k)
        have HH := Lib.hid ((k.block w1.heap.size (Array.getElem?_eq_some_iff.1 HH.out).1).trans HH.out)
        have QN := Lib.hid (Cells5.kept QN.out k)
        clear k rc h3
        by_cases z3 : e3 = 0
        · subst z3
          have HVC := Lib.hid (show parseN s = if chkNod ⟨bytes a, n1, n2, n3, true⟩ ≠ 0 then (chkNod ⟨bytes a, n1, n2, n3, true⟩, Nod.zero) else (0, ⟨bytes a, n1, n2, n3, true⟩) by rw [HFV.out, if_neg (by decide), if_neg (by decide), if_neg (by decide)])
          obtain ⟨aa, ca, ea, -⟩ := RA.out
          subst ea
          obtain ⟨ab, cb, eb, -⟩ := RB.out
          subst eb
          obtain ⟨ac, cc, ec, -⟩ := RC.out
          subst ec
          have NA := Lib.hid (show NodAt w5 _ _ _ ⟨bytes a, n1, n2, n3, true⟩ from ⟨HNM.out, RA.out, RB.out, RC.out⟩)
          obtain ⟨l1, hl1⟩ : ∃ x, n1.length = x := ⟨_, rfl⟩
          obtain ⟨l2, hl2⟩ : ∃ x, n2.length = x := ⟨_, rfl⟩
          obtain ⟨l3, hl3⟩ : ∃ x, n3.length = x := ⟨_, rfl⟩
          rw [hl1, hl2, hl3] at NA
          rw [hl1, hl2, hl3]
          clear hl1 hl2 hl3 RA RB RC
          have Q1 := QN.out.set1 (.slice aa l1 ca)
          have Q2 := Q1.set2 (.slice ab l2 cb)
          have Q3 := Q2.set3 (.slice ac l3 cc)
          have NB := Lib.hid (node_past (w' := ((w5.setCell ⟨w1.heap.size, 1, none⟩ (.slice aa l1 ca)).setCell ⟨w1.heap.size, 2, none⟩ (.slice ab l2 cb)).setCell ⟨w1.heap.size, 3, none⟩ (.slice ac l3 cc)) NA.out (by simp [World.setCell]) (fun b hb => by rw [Below.heap_setCell _ _ _ b hb, Below.heap_setCell _ _ _ b hb, Below.heap_setCell _ _ _ b hb]) (no_row HH.out))
          have KK := Lib.hid (show Kept w1 (((w5.setCell ⟨w1.heap.size, 1, none⟩ (.slice aa l1 ca)).setCell ⟨w1.heap.size, 2, none⟩ (.slice ab l2 cb)).setCell ⟨w1.heap.size, 3, none⟩ (.slice ac l3 cc)) from ((K2.out.setCell (p := ⟨w1.heap.size, 1, none⟩) (Nat.le_refl _) _).setCell (p := ⟨w1.heap.size, 2, none⟩) (Nat.le_refl _) _).setCell (p := ⟨w1.heap.size, 3, none⟩) (Nat.le_refl _) _)
          obtain ⟨⟨y0, y1, y2, y3, y4⟩, x0, x1, x2, x3, x4⟩ := QN.out
          obtain ⟨⟨u0, u1, u2, u3, u4⟩, v0, v1, v2, v3, v4⟩ := Q1
          obtain ⟨⟨s0, s1, s2, s3, s4⟩, t0, t1, t2, t3, t6⟩ := Q2
          have QE := Lib.hid Q3
          obtain ⟨⟨r0, r1, r2, r3, r4⟩, o0, o1, o2, o3, o4⟩ := Q3
          clear K2 NA HFV
          go_wp2_with fail
          obtain ⟨W6, hW6⟩ : ∃ W, ((w5.setCell ⟨w1.heap.size, 1, none⟩ (.slice aa l1 ca)).setCell ⟨w1.heap.size, 2, none⟩ (.slice ab l2 cb)).setCell ⟨w1.heap.size, 3, none⟩ (.slice ac l3 cc) = W := ⟨_, rfl⟩
          rw [hW6] at NB KK QE ⊢
          clear hW6 y0 y1 y2 y3 y4 x0 x1 x2 x3 x4 u0 u1 u2 u3 u4 v0 v1 v2 v3 v4 s0 s1 s2 s3 s4 t0 t1 t2 t3 t6 r0 r1 r2 r3 r4 o0 o1 o2 o3 o4
          obtain ⟨ck, hck⟩ : ∃ x, chkNod ⟨bytes a, n1, n2, n3, true⟩ = x := ⟨_, rfl⟩
          rw [hck] at HVC
          refine (rcheckNR (n := ⟨bytes a, n1, n2, n3, true⟩) ⟨_, _, _, rfl, NB.out⟩ hck).mono ?_
          rintro e9 w7 ⟨rfl, k⟩
          have NC := Lib.hid (NB.out.kept k)
          have QE := Lib.hid (Cells5.kept QE.out k)
          have K2 := Lib.hid (KK.out.trans k)
          have HZ := Lib.hid (((K2.out).block w.heap.size HLT.out).trans HB0.out)
          clear k hck KK NB
          by_cases z4 : ck = 0
          · subst z4
            have HV := Lib.hid (show parseN s = (0, ⟨bytes a, n1, n2, n3, true⟩) by rw [HVC.out, if_neg (by decide)])
            obtain ⟨⟨y0, y1, y2, y3, y4⟩, x0, x1, x2, x3, x4⟩ := HQ.out _ K2.out
            obtain ⟨⟨r0, r1, r2, r3, r4⟩, -⟩ := QE.out
            have P := Lib.hid (put_at ⟨y0, y1, y2, y3, y4⟩ (bytes a) aa ab ac l1 ca l2 cb l3 cc true)
            go_wp2
            obtain ⟨WE, hWE⟩ : ∃ W, (((((w7.setCell ⟨w.heap.size, 0, none⟩ (.string (bytes a))).setCell ⟨w.heap.size, 1, none⟩ (.slice aa l1 ca)).setCell ⟨w.heap.size, 2, none⟩ (.slice ab l2 cb)).setCell ⟨w.heap.size, 3, none⟩ (.slice ac l3 cc)).setCell ⟨w.heap.size, 4, none⟩ (.bool true)) = W := ⟨_, rfl⟩
            rw [hWE] at P ⊢
            clear hWE y0 y1 y2 y3 y4 x0 x1 x2 x3 x4 r0 r1 r2 r3 r4
            obtain ⟨⟨d0, d1, d2, d3, d4⟩, hsz, hbl, hkp⟩ := P.out
            refine bodyPost_ret (by simp [results, Tryz.results50, go_sem, d0, d1, d2, d3, d4]; try rfl) rfl ?_
            rw [HV.out]
            exact ⟨_, rfl, ⟨_, _, _, rfl, node_past NC.out hsz hbl (no_row HZ.out)⟩, hkp _ _ (Nat.le_refl _) (K.out.trans K2.out)⟩
          · have HV := Lib.hid (show parseN s = (ck, Nod.zero) by rw [HVC.out, if_pos z4])
            have z4' : (ck != 0) = true := by simpa using z4
            obtain ⟨⟨y0, y1, y2, y3, y4⟩, x0, x1, x2, x3, x4⟩ := HQ.out _ K2.out
            have P := Lib.hid (put_at ⟨y0, y1, y2, y3, y4⟩ ⟨#[]⟩ none none none 0 0 0 0 0 0 false)
            go_wp2
            obtain ⟨WE, hWE⟩ : ∃ W, (((((w7.setCell ⟨w.heap.size, 0, none⟩ (.string ⟨#[]⟩)).setCell ⟨w.heap.size, 1, none⟩ (.slice none 0 0)).setCell ⟨w.heap.size, 2, none⟩ (.slice none 0 0)).setCell ⟨w.heap.size, 3, none⟩ (.slice none 0 0)).setCell ⟨w.heap.size, 4, none⟩ (.bool false)) = W := ⟨_, rfl⟩
            rw [hWE] at P ⊢
            clear hWE y0 y1 y2 y3 y4 x0 x1 x2 x3 x4
            obtain ⟨⟨d0, d1, d2, d3, d4⟩, hsz, hbl, hkp⟩ := P.out
            refine bodyPost_ret (by simp [results, Tryz.results50, go_sem, d0, d1, d2, d3, d4]; try rfl) rfl ?_
            rw [HV.out]
            exact ⟨_, rfl, (zero_reads 0 _).toR, hkp _ _ (Nat.le_refl _) (K.out.trans K2.out)⟩
        · have HV := Lib.hid (show parseN s = (e3, Nod.zero) by rw [HFV.out, if_neg (by decide), if_neg (by decide), if_pos z3])
          have z3' : (e3 != 0) = true := by simpa using z3
          obtain ⟨⟨y0, y1, y2, y3, y4⟩, x0, x1, x2, x3, x4⟩ := HQ.out _ K2.out
          have P := Lib.hid (put_at ⟨y0, y1, y2, y3, y4⟩ ⟨#[]⟩ none none none 0 0 0 0 0 0 false)
          go_wp2
          obtain ⟨WE, hWE⟩ : ∃ W, (((((w5.setCell ⟨w.heap.size, 0, none⟩ (.string ⟨#[]⟩)).setCell ⟨w.heap.size, 1, none⟩ (.slice none 0 0)).setCell ⟨w.heap.size, 2, none⟩ (.slice none 0 0)).setCell ⟨w.heap.size, 3, none⟩ (.slice none 0 0)).setCell ⟨w.heap.size, 4, none⟩ (.bool false)) = W := ⟨_, rfl⟩
          rw [hWE] at P ⊢
          clear hWE y0 y1 y2 y3 y4 x0 x1 x2 x3 x4
          obtain ⟨⟨d0, d1, d2, d3, d4⟩, hsz, hbl, hkp⟩ := P.out
          refine bodyPost_ret (by simp [results, Tryz.results50, go_sem, d0, d1, d2, d3, d4]; try rfl) rfl ?_
          rw [HV.out]
          exact ⟨_, rfl, (zero_reads 0 _).toR, hkp _ _ (Nat.le_refl _) (K.out.trans K2.out)⟩
      · have HV := Lib.hid (show parseN s = (e2, Nod.zero) by rw [HFV.out, if_neg (by decide), if_pos z2])
        have z2' : (e2 != 0) = true := by simpa using z2
        obtain ⟨⟨y0, y1, y2, y3, y4⟩, x0, x1, x2, x3, x4⟩ := HQ.out _ K2.out
        have P := Lib.hid (put_at ⟨y0, y1, y2, y3, y4⟩ ⟨#[]⟩ none none none 0 0 0 0 0 0 false)
        go_wp2
        obtain ⟨WE, hWE⟩ : ∃ W, (((((w4.setCell ⟨w.heap.size, 0, none⟩ (.string ⟨#[]⟩)).setCell ⟨w.heap.size, 1, none⟩ (.slice none 0 0)).setCell ⟨w.heap.size, 2, none⟩ (.slice none 0 0)).setCell ⟨w.heap.size, 3, none⟩ (.slice none 0 0)).setCell ⟨w.heap.size, 4, none⟩ (.bool false)) = W := ⟨_, rfl⟩
        rw [hWE] at P ⊢
        clear hWE y0 y1 y2 y3 y4 x0 x1 x2 x3 x4
        obtain ⟨⟨d0, d1, d2, d3, d4⟩, hsz, hbl, hkp⟩ := P.out
        refine bodyPost_ret (by simp [results, Tryz.results50, go_sem, d0, d1, d2, d3, d4]; try rfl) rfl ?_
        rw [HV.out]
        exact ⟨_, rfl, (zero_reads 0 _).toR, hkp _ _ (Nat.le_refl _) (K.out.trans K2.out)⟩
    · have HV := Lib.hid (show parseN s = (e1, Nod.zero) by rw [HFV.out, if_pos z1])
      have z1' : (e1 != 0) = true := by simpa using z1
      obtain ⟨⟨y0, y1, y2, y3, y4⟩, x0, x1, x2, x3, x4⟩ := HQ.out _ K2.out
      have P := Lib.hid (put_at ⟨y0, y1, y2, y3, y4⟩ ⟨#[]⟩ none none none 0 0 0 0 0 0 false)
      go_wp2
      obtain ⟨WE, hWE⟩ : ∃ W, (((((w3.setCell ⟨w.heap.size, 0, none⟩ (.string ⟨#[]⟩)).setCell ⟨w.heap.size, 1, none⟩ (.slice none 0 0)).setCell ⟨w.heap.size, 2, none⟩ (.slice none 0 0)).setCell ⟨w.heap.size, 3, none⟩ (.slice none 0 0)).setCell ⟨w.heap.size, 4, none⟩ (.bool false)) = W := ⟨_, rfl⟩
      rw [hWE] at P ⊢
      clear hWE y0 y1 y2 y3 y4 x0 x1 x2 x3 x4
      obtain ⟨⟨d0, d1, d2, d3, d4⟩, hsz, hbl, hkp⟩ := P.out
      refine bodyPost_ret (by simp [results, Tryz.results50, go_sem, d0, d1, d2, d3, d4]; try rfl) rfl ?_
      rw [HV.out]
      exact ⟨_, rfl, (zero_reads 0 _).toR, hkp _ _ (Nat.le_refl _) (K.out.trans K2.out)⟩
  | false =>
    go_enter Tryz.func50, Tryz.ntmps50
    go_wp2_with fail
    refine (HSP.out _).mono ?_
    rintro ee w1 ⟨v, rfl, ho, k⟩
    obtain ⟨g, cap, rfl, h0, h1, h2, h3, h4⟩ := five_split ho HPP.out
    have K := Lib.hid ((kept_alloc _ _).trans k)
    have HQ := Lib.hid (fun W (kk : Kept w1 W) => show Cells5 w.heap.size (.string ⟨#[]⟩) (.slice none 0 0) (.slice none 0 0) (.slice none 0 0) (.bool false) W from fresh5 w _ _ _ _ _ 58 W (k.trans kk))
    have HLT := Lib.hid (show w.heap.size < w1.heap.size by have := k.size; rw [World.size_alloc] at this; exact this)
    have HB0 := Lib.hid ((k.block w.heap.size (by simp)).trans (w.alloc_heap_new _))
    have HC := Lib.hid (show ∀ W, Kept w1 W → W.cell? ⟨g, 1, none⟩ = some (.string (bytes b)) ∧ W.cell? ⟨g, 2, none⟩ = some (.string (bytes c)) ∧ W.cell? ⟨g, 3, none⟩ = some (.string (bytes d)) from fun W kk => ⟨cell_later kk h1, cell_later kk h2, cell_later kk h3⟩)
    have h0z := cell_later (kept_alloc w1 (.cells #[.string ⟨#[]⟩, .slice none 0 0, .slice none 0 0, .slice none 0 0, .bool false] 58)) h0
    have h4z := cell_later (kept_alloc w1 (.cells #[.string ⟨#[]⟩, .slice none 0 0, .slice none 0 0, .slice none 0 0, .bool false] 58)) h4
    clear k ho HSP HPP
    go_wp2
    go_big_region
    have k2 : Kept w1 ((w1.alloc (.cells #[.string (bytes a), .slice none 0 0, .slice none 0 0, .slice none 0 0, .bool false] 58)).drew) := (kept_alloc _ _).trans (Kept.drew _)
    have QN := Lib.hid (show Cells5 w1.heap.size (.string (bytes a)) (.slice none 0 0) (.slice none 0 0) (.slice none 0 0) (.bool false) _ from fresh5 w1 _ _ _ _ _ 58 _ (Kept.drew (w1.alloc (.cells #[.string (bytes a), .slice none 0 0, .slice none 0 0, .slice none 0 0, .bool false] 58))))
    have HH := Lib.hid ((Kept.drew (w1.alloc (.cells #[.string (bytes a), .slice none 0 0, .slice none 0 0, .slice none 0 0, .bool false] 58))).block w1.heap.size (by simp) |>.trans (w1.alloc_heap_new _))
    obtain ⟨W2, hW2⟩ : ∃ W, (w1.alloc (.cells #[.string (bytes a), .slice none 0 0, .slice none 0 0, .slice none 0 0, .bool false] 58)).drew = W := ⟨_, rfl⟩
    rw [hW2] at k2 QN HH ⊢
    have K2 := Lib.hid k2
    clear hW2 k2 h0 h1 h2 h3 h4 h0z h4z
    obtain ⟨h1, -⟩ := HC.out _ K2.out
    go_wp2_with fail
    refine (H1.out _).mono ?_
    rintro e9 w3 ⟨va, rfl, ra, k⟩
    have RA := Lib.hid ra
    have K2 := Lib.hid (K2.out.trans k)
    have HH := Lib.hid ((k.block w1.heap.size (Array.getElem?_eq_some_iff.1 HH.out).1).trans HH.out)
    have QN := Lib.hid (Cells5.kept QN.out k)
    clear k ra h1
    by_cases z1 : e1 = 0
    · subst z1
      obtain ⟨-, h2, -⟩ := HC.out _ K2.out
      go_wp2_with fail
      refine (H2.out _).mono ?_
      rintro e9 w4 ⟨vb, rfl, rb, k⟩
      have RB := Lib.hid rb
      have RA := Lib.hid (RA.out.kept k)
      have K2 := Lib.hid (K2.out.trans k)
      have HH := Lib.hid ((k.block w1.heap.size (Array.getElem?_eq_some_iff.1 HH.out).1).trans HH.out)
      have QN := Lib.hid (Cells5.kept QN.out k)
      clear k rb h2
      by_cases z2 : e2 = 0
      · subst z2
        obtain ⟨-, -, h3⟩ := HC.out _ K2.out
        go_wp2_with fail
        refine (H3.out _).mono ?_
        rintro e9 w5 ⟨vc, rfl, rc, k⟩
        have RC := Lib.hid rc
        have RA := Lib.hid (RA.out.kept k)
        have RB := Lib.hid (RB.out.kept k)
        have K2 := Lib.hid (K2.out.trans k)
        have HH := Lib.hid ((k.block w1.heap.size (Array.getElem?_eq_some_iff.1 HH.out).1).trans HH.out)
        have QN := Lib.hid (Cells5.kept QN.out k)
        clear k rc h3
        by_cases z3 : e3 = 0
        · subst z3
          have HVC := Lib.hid (show parseN s = if chkNod ⟨bytes a, n1, n2, n3, false⟩ ≠ 0 then (chkNod ⟨bytes a, n1, n2, n3, false⟩, Nod.zero) else (0, ⟨bytes a, n1, n2, n3, false⟩) by rw [HFV.out, if_neg (by decide), if_neg (by decide), if_neg (by decide)])
          obtain ⟨aa, ca, ea, -⟩ := RA.out
          subst ea
          obtain ⟨ab, cb, eb, -⟩ := RB.out
          subst eb
          obtain ⟨ac, cc, ec, -⟩ := RC.out
          subst ec
          have NA := Lib.hid (show NodAt w5 _ _ _ ⟨bytes a, n1, n2, n3, false⟩ from ⟨HNM.out, RA.out, RB.out, RC.out⟩)
          obtain ⟨l1, hl1⟩ : ∃ x, n1.length = x := ⟨_, rfl⟩
          obtain ⟨l2, hl2⟩ : ∃ x, n2.length = x := ⟨_, rfl⟩
          obtain ⟨l3, hl3⟩ : ∃ x, n3.length = x := ⟨_, rfl⟩
          rw [hl1, hl2, hl3] at NA
          rw [hl1, hl2, hl3]
          clear hl1 hl2 hl3 RA RB RC
          have Q1 := QN.out.set1 (.slice aa l1 ca)
          have Q2 := Q1.set2 (.slice ab l2 cb)
          have Q3 := Q2.set3 (.slice ac l3 cc)
          have NB := Lib.hid (node_past (w' := ((w5.setCell ⟨w1.heap.size, 1, none⟩ (.slice aa l1 ca)).setCell ⟨w1.heap.size, 2, none⟩ (.slice ab l2 cb)).setCell ⟨w1.heap.size, 3, none⟩ (.slice ac l3 cc)) NA.out (by simp [World.setCell]) (fun b hb => by rw [Below.heap_setCell _ _ _ b hb, Below.heap_setCell _ _ _ b hb, Below.heap_setCell _ _ _ b hb]) (no_row HH.out))
          have KK := Lib.hid (show Kept w1 (((w5.setCell ⟨w1.heap.size, 1, none⟩ (.slice aa l1 ca)).setCell ⟨w1.heap.size, 2, none⟩ (.slice ab l2 cb)).setCell ⟨w1.heap.size, 3, none⟩ (.slice ac l3 cc)) from ((K2.out.setCell (p := ⟨w1.heap.size, 1, none⟩) (Nat.le_refl _) _).setCell (p := ⟨w1.heap.size, 2, none⟩) (Nat.le_refl _) _).setCell (p := ⟨w1.heap.size, 3, none⟩) (Nat.le_refl _) _)
          obtain ⟨⟨y0, y1, y2, y3, y4⟩, x0, x1, x2, x3, x4⟩ := QN.out
          obtain ⟨⟨u0, u1, u2, u3, u4⟩, v0, v1, v2, v3, v4⟩ := Q1
          obtain ⟨⟨s0, s1, s2, s3, s4⟩, t0, t1, t2, t3, t6⟩ := Q2
          have QE := Lib.hid Q3
          obtain ⟨⟨r0, r1, r2, r3, r4⟩, o0, o1, o2, o3, o4⟩ := Q3
          clear K2 NA HFV
          go_wp2_with fail
          obtain ⟨W6, hW6⟩ : ∃ W, ((w5.setCell ⟨w1.heap.size, 1, none⟩ (.slice aa l1 ca)).setCell ⟨w1.heap.size, 2, none⟩ (.slice ab l2 cb)).setCell ⟨w1.heap.size, 3, none⟩ (.slice ac l3 cc) = W := ⟨_, rfl⟩
          rw [hW6] at NB KK QE ⊢
          clear hW6 y0 y1 y2 y3 y4 x0 x1 x2 x3 x4 u0 u1 u2 u3 u4 v0 v1 v2 v3 v4 s0 s1 s2 s3 s4 t0 t1 t2 t3 t6 r0 r1 r2 r3 r4 o0 o1 o2 o3 o4
          obtain ⟨ck, hck⟩ : ∃ x, chkNod ⟨bytes a, n1, n2, n3, false⟩ = x := ⟨_, rfl⟩
          rw [hck] at HVC
          refine (rcheckNR (n := ⟨bytes a, n1, n2, n3, false⟩) ⟨_, _, _, rfl, NB.out⟩ hck).mono ?_
          rintro e9 w7 ⟨rfl, k⟩
          have NC := Lib.hid (NB.out.kept k)
          have QE := Lib.hid (Cells5.kept QE.out k)
          have K2 := Lib.hid (KK.out.trans k)
          have HZ := Lib.hid (((K2.out).block w.heap.size HLT.out).trans HB0.out)
          clear k hck KK NB
          by_cases z4 : ck = 0
          · subst z4
            have HV := Lib.hid (show parseN s = (0, ⟨bytes a, n1, n2, n3, false⟩) by rw [HVC.out, if_neg (by decide)])
            obtain ⟨⟨y0, y1, y2, y3, y4⟩, x0, x1, x2, x3, x4⟩ := HQ.out _ K2.out
            obtain ⟨⟨r0, r1, r2, r3, r4⟩, -⟩ := QE.out
            have P := Lib.hid (put_at ⟨y0, y1, y2, y3, y4⟩ (bytes a) aa ab ac l1 ca l2 cb l3 cc false)
            go_wp2
            obtain ⟨WE, hWE⟩ : ∃ W, (((((w7.setCell ⟨w.heap.size, 0, none⟩ (.string (bytes a))).setCell ⟨w.heap.size, 1, none⟩ (.slice aa l1 ca)).setCell ⟨w.heap.size, 2, none⟩ (.slice ab l2 cb)).setCell ⟨w.heap.size, 3, none⟩ (.slice ac l3 cc)).setCell ⟨w.heap.size, 4, none⟩ (.bool false)) = W := ⟨_, rfl⟩
            rw [hWE] at P ⊢
            clear hWE y0 y1 y2 y3 y4 x0 x1 x2 x3 x4 r0 r1 r2 r3 r4
            obtain ⟨⟨d0, d1, d2, d3, d4⟩, hsz, hbl, hkp⟩ := P.out
            refine bodyPost_ret (by simp [results, Tryz.results50, go_sem, d0, d1, d2, d3, d4]; try rfl) rfl ?_
            rw [HV.out]
            exact ⟨_, rfl, ⟨_, _, _, rfl, node_past NC.out hsz hbl (no_row HZ.out)⟩, hkp _ _ (Nat.le_refl _) (K.out.trans K2.out)⟩
          · have HV := Lib.hid (show parseN s = (ck, Nod.zero) by rw [HVC.out, if_pos z4])
            have z4' : (ck != 0) = true := by simpa using z4
            obtain ⟨⟨y0, y1, y2, y3, y4⟩, x0, x1, x2, x3, x4⟩ := HQ.out _ K2.out
            have P := Lib.hid (put_at ⟨y0, y1, y2, y3, y4⟩ ⟨#[]⟩ none none none 0 0 0 0 0 0 false)
            go_wp2
            obtain ⟨WE, hWE⟩ : ∃ W, (((((w7.setCell ⟨w.heap.size, 0, none⟩ (.string ⟨#[]⟩)).setCell ⟨w.heap.size, 1, none⟩ (.slice none 0 0)).setCell ⟨w.heap.size, 2, none⟩ (.slice none 0 0)).setCell ⟨w.heap.size, 3, none⟩ (.slice none 0 0)).setCell ⟨w.heap.size, 4, none⟩ (.bool false)) = W := ⟨_, rfl⟩
            rw [hWE] at P ⊢
            clear hWE y0 y1 y2 y3 y4 x0 x1 x2 x3 x4
            obtain ⟨⟨d0, d1, d2, d3, d4⟩, hsz, hbl, hkp⟩ := P.out
            refine bodyPost_ret (by simp [results, Tryz.results50, go_sem, d0, d1, d2, d3, d4]; try rfl) rfl ?_
            rw [HV.out]
            exact ⟨_, rfl, (zero_reads 0 _).toR, hkp _ _ (Nat.le_refl _) (K.out.trans K2.out)⟩
        · have HV := Lib.hid (show parseN s = (e3, Nod.zero) by rw [HFV.out, if_neg (by decide), if_neg (by decide), if_pos z3])
          have z3' : (e3 != 0) = true := by simpa using z3
          obtain ⟨⟨y0, y1, y2, y3, y4⟩, x0, x1, x2, x3, x4⟩ := HQ.out _ K2.out
          have P := Lib.hid (put_at ⟨y0, y1, y2, y3, y4⟩ ⟨#[]⟩ none none none 0 0 0 0 0 0 false)
          go_wp2
          obtain ⟨WE, hWE⟩ : ∃ W, (((((w5.setCell ⟨w.heap.size, 0, none⟩ (.string ⟨#[]⟩)).setCell ⟨w.heap.size, 1, none⟩ (.slice none 0 0)).setCell ⟨w.heap.size, 2, none⟩ (.slice none 0 0)).setCell ⟨w.heap.size, 3, none⟩ (.slice none 0 0)).setCell ⟨w.heap.size, 4, none⟩ (.bool false)) = W := ⟨_, rfl⟩
          rw [hWE] at P ⊢
          clear hWE y0 y1 y2 y3 y4 x0 x1 x2 x3 x4
          obtain ⟨⟨d0, d1, d2, d3, d4⟩, hsz, hbl, hkp⟩ := P.out
          refine bodyPost_ret (by simp [results, Tryz.results50, go_sem, d0, d1, d2, d3, d4]; try rfl) rfl ?_
          rw [HV.out]
          exact ⟨_, rfl, (zero_reads 0 _).toR, hkp _ _ (Nat.le_refl _) (K.out.trans K2.out)⟩
      · have HV := Lib.hid (show parseN s = (e2, Nod.zero) by rw [HFV.out, if_neg (by decide), if_pos z2])
        have z2' : (e2 != 0) = true := by simpa using z2
        obtain ⟨⟨y0, y1, y2, y3, y4⟩, x0, x1, x2, x3, x4⟩ := HQ.out _ K2.out
        have P := Lib.hid (put_at ⟨y0, y1, y2, y3, y4⟩ ⟨#[]⟩ none none none 0 0 0 0 0 0 false)
        go_wp2
        obtain ⟨WE, hWE⟩ : ∃ W, (((((w4.setCell ⟨w.heap.size, 0, none⟩ (.string ⟨#[]⟩)).setCell ⟨w.heap.size, 1, none⟩ (.slice none 0 0)).setCell ⟨w.heap.size, 2, none⟩ (.slice none 0 0)).setCell ⟨w.heap.size, 3, none⟩ (.slice none 0 0)).setCell ⟨w.heap.size, 4, none⟩ (.bool false)) = W := ⟨_, rfl⟩
        rw [hWE] at P ⊢
        clear hWE y0 y1 y2 y3 y4 x0 x1 x2 x3 x4
        obtain ⟨⟨d0, d1, d2, d3, d4⟩, hsz, hbl, hkp⟩ := P.out
        refine bodyPost_ret (by simp [results, Tryz.results50, go_sem, d0, d1, d2, d3, d4]; try rfl) rfl ?_
        rw [HV.out]
        exact ⟨_, rfl, (zero_reads 0 _).toR, hkp _ _ (Nat.le_refl _) (K.out.trans K2.out)⟩
    · have HV := Lib.hid (show parseN s = (e1, Nod.zero) by rw [HFV.out, if_pos z1])
      have z1' : (e1 != 0) = true := by simpa using z1
      obtain ⟨⟨y0, y1, y2, y3, y4⟩, x0, x1, x2, x3, x4⟩ := HQ.out _ K2.out
      have P := Lib.hid (put_at ⟨y0, y1, y2, y3, y4⟩ ⟨#[]⟩ none none none 0 0 0 0 0 0 false)
      go_wp2
      obtain ⟨WE, hWE⟩ : ∃ W, (((((w3.setCell ⟨w.heap.size, 0, none⟩ (.string ⟨#[]⟩)).setCell ⟨w.heap.size, 1, none⟩ (.slice none 0 0)).setCell ⟨w.heap.size, 2, none⟩ (.slice none 0 0)).setCell ⟨w.heap.size, 3, none⟩ (.slice none 0 0)).setCell ⟨w.heap.size, 4, none⟩ (.bool false)) = W := ⟨_, rfl⟩
      rw [hWE] at P ⊢
      clear hWE y0 y1 y2 y3 y4 x0 x1 x2 x3 x4
      obtain ⟨⟨d0, d1, d2, d3, d4⟩, hsz, hbl, hkp⟩ := P.out
      refine bodyPost_ret (by simp [results, Tryz.results50, go_sem, d0, d1, d2, d3, d4]; try rfl) rfl ?_
      rw [HV.out]
      exact ⟨_, rfl, (zero_reads 0 _).toR, hkp _ _ (Nat.le_refl _) (K.out.trans K2.out)⟩

set_option maxRecDepth 100000 in
set_option maxHeartbeats 4000000 in
theorem rparse_last {s a b c d e : List UInt8} (w : World) (hs : s.length ≤ 1000) (hp : partsAt 32 s = [a, b, c, d, e]) (t1 : (e == upL) = false) (t2 : (e == cordonL) = false) :
    Calls Tryz.prog 50 #[.string (bytes s)] w (GotN (parseN s) w) := by
  have HV := Lib.hid (show parseN s = (2, Nod.zero) by unfold parseN; rw [words_no hp (by unfold lastOk; rw [t1, t2]; rfl)])
  have HSP := Lib.hid (fun W => splitR 32 s W (by omega) (v := .int .u8 32) rfl)
  have HPP := Lib.hid hp
  have t4 : ((bytes e).toList == [99, 111, 114, 100, 111, 110]) = false := by rw [bytes_toList]; exact t2
  have t5 : ((bytes e).toList == [117, 112]) = false := by rw [bytes_toList]; exact t1
  clear hs hp t1 t2
  go_enter Tryz.func50, Tryz.ntmps50
  go_wp2_with fail
  refine (HSP.out _).mono ?_
  rintro ee w1 ⟨v, rfl, ho, k⟩
  obtain ⟨g, cap, rfl, -, -, -, -, h4⟩ := five_split ho HPP.out
  have K := Lib.hid ((kept_alloc _ _).trans k)
  have HQ := Lib.hid (fun W (kk : Kept w1 W) => show Cells5 w.heap.size (.string ⟨#[]⟩) (.slice none 0 0) (.slice none 0 0) (.slice none 0 0) (.bool false) W from fresh5 w _ _ _ _ _ 58 W (k.trans kk))
  clear k ho HSP HPP
  obtain ⟨⟨y0, y1, y2, y3, y4⟩, x0, x1, x2, x3, x4⟩ := HQ.out _ (Kept.refl _)
  have P := Lib.hid (put_at ⟨y0, y1, y2, y3, y4⟩ ⟨#[]⟩ none none none 0 0 0 0 0 0 false)
  go_wp2
  obtain ⟨WE, hWE⟩ : ∃ W, (((((w1.setCell ⟨w.heap.size, 0, none⟩ (.string ⟨#[]⟩)).setCell ⟨w.heap.size, 1, none⟩ (.slice none 0 0)).setCell ⟨w.heap.size, 2, none⟩ (.slice none 0 0)).setCell ⟨w.heap.size, 3, none⟩ (.slice none 0 0)).setCell ⟨w.heap.size, 4, none⟩ (.bool false)) = W := ⟨_, rfl⟩
  rw [hWE] at P ⊢
  clear hWE y0 y1 y2 y3 y4 x0 x1 x2 x3 x4
  obtain ⟨⟨d0, d1, d2, d3, d4⟩, hsz, hbl, hkp⟩ := P.out
  refine bodyPost_ret (by simp [results, Tryz.results50, go_sem, d0, d1, d2, d3, d4]; try rfl) rfl ?_
  rw [HV.out]
  exact ⟨_, rfl, (zero_reads 0 _).toR, hkp _ _ (Nat.le_refl _) K.out⟩

set_option maxRecDepth 100000 in
set_option maxHeartbeats 4000000 in
theorem rparse_many {s : List UInt8} (w : World) (hs : s.length ≤ 1000) (hp : (partsAt 32 s).length ≠ 5) :
    Calls Tryz.prog 50 #[.string (bytes s)] w (GotN (parseN s) w) := by
  have HV := Lib.hid (show parseN s = (2, Nod.zero) by unfold parseN wordsL; rw [if_neg (fun h => hp h.1)])
  have HSP := Lib.hid (fun W => splitR 32 s W (by omega) (v := .int .u8 32) rfl)
  have hln : (splitB 32 s).length ≠ 5 := by unfold splitB; rw [List.length_map]; exact hp
  have hll : (splitB 32 s).length ≤ 1001 := by have := splitB_len 32 s; omega
  clear hs hp
  go_enter Tryz.func50, Tryz.ntmps50
  go_wp2_with fail
  refine (HSP.out _).mono ?_
  rintro ee w1 ⟨v, rfl, ho, k⟩
  obtain ⟨a', cap, rfl, -, -, -⟩ := ho.at_
  obtain ⟨m, hm⟩ : ∃ m, (splitB 32 s).length = m := ⟨_, rfl⟩
  rw [hm] at hln hll ⊢
  have hln' : ((m : Int) != 5) = true := by simp; omega
  have hln2 : ¬ (m : Int) = 5 := by omega
  have K := Lib.hid ((kept_alloc _ _).trans k)
  have HQ := Lib.hid (fun W (kk : Kept w1 W) => show Cells5 w.heap.size (.string ⟨#[]⟩) (.slice none 0 0) (.slice none 0 0) (.slice none 0 0) (.bool false) W from fresh5 w _ _ _ _ _ 58 W (k.trans kk))
  clear k ho HSP hm
  obtain ⟨⟨y0, y1, y2, y3, y4⟩, x0, x1, x2, x3, x4⟩ := HQ.out _ (Kept.refl _)
  have P := Lib.hid (put_at ⟨y0, y1, y2, y3, y4⟩ ⟨#[]⟩ none none none 0 0 0 0 0 0 false)
  go_wp2
  obtain ⟨WE, hWE⟩ : ∃ W, (((((w1.setCell ⟨w.heap.size, 0, none⟩ (.string ⟨#[]⟩)).setCell ⟨w.heap.size, 1, none⟩ (.slice none 0 0)).setCell ⟨w.heap.size, 2, none⟩ (.slice none 0 0)).setCell ⟨w.heap.size, 3, none⟩ (.slice none 0 0)).setCell ⟨w.heap.size, 4, none⟩ (.bool false)) = W := ⟨_, rfl⟩
  rw [hWE] at P ⊢
  clear hWE y0 y1 y2 y3 y4 x0 x1 x2 x3 x4
  obtain ⟨⟨d0, d1, d2, d3, d4⟩, hsz, hbl, hkp⟩ := P.out
  refine bodyPost_ret (by simp [results, Tryz.results50, go_sem, d0, d1, d2, d3, d4]; try rfl) rfl ?_
  rw [HV.out]
  exact ⟨_, rfl, (zero_reads 0 _).toR, hkp _ _ (Nat.le_refl _) K.out⟩

theorem rparseN_any (s : List UInt8) (w : World) (hs : s.length ≤ 1000) : Calls Tryz.prog 50 #[.string (bytes s)] w (GotN (parseN s) w) := by
  by_cases h5 : (partsAt 32 s).length = 5
  · obtain ⟨a, b, c, d, e, hp⟩ := parts_five h5
    by_cases t2 : (e == cordonL) = true
    · refine rparse_five w hs hp true ?_ t2
      have : e = cordonL := beq_iff_eq.1 t2
      rw [this]; rfl
    · have t2 : (e == cordonL) = false := by simpa using t2
      by_cases t1 : (e == upL) = true
      · exact rparse_five w hs hp false t1 t2
      · exact rparse_last w hs hp (by simpa using t1) t2
  · exact rparse_many w hs h5
theorem rparseNR {s : List UInt8} {c : Int} {n : Nod} {w : World} (hs : s.length ≤ 1000) (h : parseN s = (c, n)) : Calls Tryz.prog 50 #[.string (bytes s)] w fun e w' => ∃ v, e = .returned (.tuple #[v, .int .i64 c]) ∧ NodR w' v n ∧ Kept w w' := by
  refine (rparseN_any s w hs).mono ?_
  rintro e w' ⟨v, rfl, hn, k⟩
  rw [h] at hn ⊢
  exact ⟨v, rfl, hn, k⟩

end Go.Proofs.YtppbbgppooblfaaGreatDoor
