/- parsed: the form of all parts, then their numbers, then what Check asks. -/
import Derived.Test.YtnnneimpdiadhaaDoorLabRange
import Derived.Test.YtnnneimpdiadhaaDoorLabParsedB
import Derived.Test.YtnnneimpdiadhaaDoorResOwned
import Derived.Test.YtnnneimpdiadhaaDoorResCatch
import Derived.Test.YtnnneimpdiadhaaDoorResEachMath
namespace Go.Proofs.YtnnneimpdiadhaaDoor.Vec
open Go.RowKit Go.Shelf
set_option linter.unusedVariables false
attribute [local go_sem] Oper.semAt_some

theorem OwnV.st {e : TypeId} {b2 D : Nat} {W W' : World} {v : Value} {l : V} (h : OwnV e W (D + 2) v l) (k : St b2 D W W') (h2 : b2 < D) : OwnV e W' (D + 2) v l := by
  obtain ⟨⟨h0, h1⟩, hf⟩ := h
  refine ⟨⟨h0, h1.imp id ?_⟩, hf⟩
  rintro ⟨g, cap, cur, rfl, hbg, hg, hn, hm, hs, ht⟩
  exact ⟨g, cap, cur, rfl, hbg, (k.block g (by omega) (by omega) (by omega)).trans hg, hn, hm, hs, ht⟩

/-- The box of the vector under way. -/
def VBox (B vb : Nat) (l : V) (W : World) : Prop := ∃ v, W.cell? ⟨vb, 0, none⟩ = some v ∧ W.frozen? ⟨vb, 0, none⟩ = false ∧ OwnV 38 W B v l
theorem VBox.st {b2 D vb : Nat} {W W' : World} {l : V} {B : Nat} (h : VBox B vb l W) (k : St b2 D W W') (hB : B = D + 2) (hvb : vb < b2) (h2 : b2 < D) : VBox B vb l W' := by
  subst hB
  obtain ⟨v, h1, h3, h4⟩ := h
  have hb := k.block vb (by omega) (by omega) (by omega)
  exact ⟨v, (World.cell?_of_block (a := ⟨vb, 0, none⟩) hb).trans h1, (World.frozen?_of_block (a := ⟨vb, 0, none⟩) hb).trans h3, h4.st k h2⟩

theorem OwnV.put {e : TypeId} {w : World} {B D : Nat} {v : Value} {l : V} (h : OwnV e w B v l) (hD : D < B) (o : Obj) : OwnV e (w.putObj D o) B v l := by
  obtain ⟨⟨h0, h1⟩, hf⟩ := h
  refine ⟨⟨h0, h1.imp id ?_⟩, hf⟩
  rintro ⟨g, cap, cur, rfl, hbg, hg, rest⟩
  exact ⟨g, cap, cur, rfl, hbg, (World.putObj_heap_other (by omega)).trans hg, rest⟩
theorem nextVal {ps : List (List UInt8)} {k : Nat} {p : List UInt8} (h : ∀ q ∈ ps.take k, valL (numOf' q) ≤ 9223372036854775807) (hp : ps[k]? = some p) (hv : valL (numOf' p) ≤ 9223372036854775807) :
    ∀ q ∈ ps.take (k + 1), valL (numOf' q) ≤ 9223372036854775807 := by
  intro q hq
  rw [List.take_add_one, hp] at hq
  rcases List.mem_append.1 hq with g | g
  · exact h q g
  · have : q = p := by simpa using g
    rw [this]; exact hv
theorem amt_size {p : List UInt8} (h : p.length ≤ 1000000) : (amtOf p).1.size ≤ maxLen := by
  have := name_le p
  show (bytes (nameOf p)).size ≤ _
  simp only [bytes, ByteArray.size, List.size_toArray]
  unfold maxLen
  omega

theorem news_two' (w : World) (o : Obj) (s : ByteArray) (n : Int) (T : TypeId) : ∀ j u, [Value.string s, .int .i64 n][j]? = some u →
    ((w.alloc o).alloc (.cells #[.string s, .int .i64 n] T)).cell? ((⟨w.heap.size + 1, 0, none⟩ : Addr).add j) = some u := by
  have := news_two (w.alloc o) s n T
  rw [World.size_alloc] at this
  exact this

theorem OwnV.row {e : TypeId} {w : World} {B n : Nat} {v : Value} {l : V} (h : OwnV e w B v l) (hn : l.length = n) : w.ownsRow B e 2 v n (cellsOf l) := hn ▸ h.1

/-- The first amounts, nine at most. -/
def accP (ps : List (List UInt8)) (k : Nat) : V := ((ps.take k).map amtOf).take 9
theorem accP_len {ps : List (List UInt8)} {k : Nat} (h : k ≤ ps.length) : (accP ps k).length = min 9 k := by
  unfold accP; rw [List.length_take, List.length_map, List.length_take]; omega
theorem accP_next {ps : List (List UInt8)} {k : Nat} {p : List UInt8} (hp : ps[k]? = some p) (h : (accP ps k).length ≤ 8) : accP ps (k + 1) = accP ps k ++ [amtOf p] := by
  have hk : k < ps.length := (List.getElem?_eq_some_iff.1 hp).1
  rw [accP_len (by omega)] at h
  unfold accP
  have e : ps.take (k + 1) = ps.take k ++ [p] := by rw [List.take_add_one, hp]; rfl
  rw [e, List.map_append, List.take_of_length_le (l := (ps.take k).map amtOf) (by simp; omega), List.take_of_length_le (by simp; omega)]
  rfl
theorem accP_full {ps : List (List UInt8)} {k : Nat} {p : List UInt8} (hp : ps[k]? = some p) (h : ¬ (accP ps k).length ≤ 8) : accP ps (k + 1) = accP ps k := by
  have hk : k < ps.length := (List.getElem?_eq_some_iff.1 hp).1
  rw [accP_len (by omega)] at h
  unfold accP
  have e : ps.take (k + 1) = ps.take k ++ [p] := by rw [List.take_add_one, hp]; rfl
  rw [e, List.map_append, List.take_append_of_le_length (by simp; omega)]

def formBad (ps : List (List UInt8)) : Bool := ps.any fun p => !isDecL (numOf' p)
def overBad (ps : List (List UInt8)) : Bool := ps.any fun p => decide (9223372036854775807 < valL (numOf' p))
def parsedV (s : List UInt8) : Int × V :=
  if formBad (partsOf s) = true then (2, [])
  else if overBad (partsOf s) = true then (5, [])
  else if checkV (((partsOf s).map amtOf).take 9) ≠ 0 then (checkV (((partsOf s).map amtOf).take 9), [])
  else (0, ((partsOf s).map amtOf).take 9)

set_option maxRecDepth 100000 in
set_option maxHeartbeats 1600000 in
theorem parsed_any (s : List UInt8) (w : World) (hE : Env w) (hs : s.length ≤ 1000000) :
    Calls Tryd.prog 37 #[.string (bytes s)] w (VecRes (parsedV s) w.heap.size w) := by
  refine calls_of_wpAt (n := 6) Tryd.func37 rfl ?_
  simp only [Tryd.ntmps37, List.size_toArray, List.length_cons, List.length_nil, Nat.reduceAdd, Nat.reduceSub, Array.replicate_succ, Array.replicate_zero, List.push_toArray, List.append_toArray, List.nil_append, List.cons_append]
  refine wpAt_seq (wpAt_of (n := 6) ?_)
  gi_wp2
  refine wpAt_seq (wpAt_seq (wpAt_of (n := 6) ?_))
  gi_wp2_with (refine ⟨trivial, ?_⟩; gi_at_call 50; refine (callsIn_wide.2 (splitseq_any s _)).mono ?_; rintro e w1 ⟨rfl, rfl⟩)
  refine wpAt_block ?_
  have HE := Lib.hid hE
  have HPL := Lib.hid (fun p (h : p ∈ partsOf s) => Nat.le_trans (part_len s p h) hs)
  have bc := boxes_cells w s
  have bsz := boxes_size w s
  refine wpAt_split (n := 6) Tryd.func37 (by decide) (w.heap.size + 1) w.heap.size (w.heap.size + 2) rfl s hs (by omega) (by omega) (by omega) (by omega) (by omega) bc.1 bc.2.1 bc.2.2.1 bc.2.2.2
    (fun k W => Below w.heap.size w W ∧ ∀ p ∈ (partsOf s).take k, isDecL (numOf' p) = true)
    (fun c W => c = [perr 2] ∧ Below w.heap.size w W ∧ formBad (partsOf s) = true)
    (fun k W W' h st => ⟨Below.st h.1 st (Nat.le_refl _) (by omega), h.2⟩) (fun k W h => (HE.out.kept h.1).base) ⟨boxes_kept w s, by simp⟩
    (fun x => { tmps := #[.string (bytes s), undef, .slice none 0 0, .string x, undef, undef, undef, .string (bytes s),
        .func (.func 68) #[] #[.pointer (some ⟨w.heap.size + 1, 0, none⟩), .pointer (some ⟨w.heap.size, 0, none⟩), .pointer (some ⟨w.heap.size + 2, 0, none⟩)], .string x,
        undef, undef, undef, undef, undef, undef, undef, undef, undef, undef, undef, undef, undef, undef, undef, undef, undef], defers := [] }) ?assign ?body ?done ?panic
  case assign =>
    intro l x W K hK
    gi_wp2
    exact hK
  case body =>
    rintro l k p W hp ⟨hB, hd⟩ _
    have HB := Lib.hid hB
    have HD := Lib.hid hd
    have HP := Lib.hid hp
    have hmem : p ∈ partsOf s := List.mem_of_getElem? hp
    have HM := Lib.hid hmem
    have hpl := HPL.out p hmem
    clear bc bsz hB hd hp hmem hE
    by_cases hdec : isDecL (numOf' p) = true
    · have HDEC := Lib.hid hdec
      clear hdec
      gi_wp2_with (refine ⟨trivial, ?_⟩; gi_at_call 51; refine (CallsIn.inRound l (callsIn_wide.2 (refuse_ok p _ (HE.out.kept HB.out) hpl HDEC.out))).mono ?_; rintro e W1 ⟨rfl, n, rfl⟩)
      refine ⟨KeptAt.drewN W n, below_drewN HB.out n, fun q hq => ?_⟩
      rw [List.take_add_one, HP.out] at hq
      rcases List.mem_append.1 hq with h | h
      · exact HD.out q h
      · have : q = p := by simpa using h
        rw [this]; exact HDEC.out
    · have HDEC := Lib.hid (show isDecL (numOf' p) = false by simpa using hdec)
      clear hdec
      gi_wp2_with (refine ⟨trivial, ?_⟩; gi_at_call 51; refine (CallsIn.inRound l (callsIn_wide.2 (refuse_bad p _ (HE.out.kept HB.out) hpl HDEC.out))).mono ?_; rintro e W1 ⟨rfl, n, rfl⟩)
      refine ⟨rfl, KeptAt.drewN W n, rfl, below_drewN HB.out n, ?_⟩
      unfold formBad
      rw [List.any_eq_true]
      exact ⟨p, HM.out, by rw [HDEC.out]; rfl⟩
  case panic =>
    rintro c W ⟨rfl, hB, hbad⟩ hk
    have HV := Lib.hid (show parsedV s = (2, []) by unfold parsedV; rw [if_pos hbad])
    refine ⟨by simp, .inl ⟨_, _, rfl, run_takeDeferred hk, ?_⟩⟩
    exact VecRes.bad (by rw [HV.out]) (by decide) (below_put hB (by omega))
  case done =>
    rintro W ⟨hB, hd⟩ hk
    have hform : formBad (partsOf s) = false := by
      unfold formBad
      rw [List.any_eq_false]
      intro p hp
      rw [hd p (by simpa using hp)]
      decide
    have HFORM := Lib.hid hform
    have HB1 := Lib.hid hB
    have HK1 := Lib.hid hk
    have HALL := Lib.hid (fun p (h : p ∈ partsOf s) => hd p (by simpa using h))
    have hsize := hB.size
    have hD1 : w.heap.size + 3 < W.heap.size := by have := (Array.getElem?_eq_some_iff.1 hk).1; rw [bsz] at this; exact this
    rw [bsz] at HK1 ⊢
    clear bc hB hd hk hE hform hsize bsz
    obtain ⟨m, hm⟩ : ∃ m, W.heap.size = m := ⟨_, rfl⟩
    have HM := Lib.hid hm
    refine wpAt_seq (wpAt_of (n := 6) ?_)
    gi_wp2
    obtain ⟨V0, hV0⟩ : ∃ V0, W.alloc (.cells #[.slice none 0 0] 23) = V0 := ⟨_, rfl⟩
    have HV0 := Lib.hid hV0
    have hv0s : V0.heap.size = m + 1 := by rw [← hV0, World.size_alloc, hm]
    have HV0S := Lib.hid hv0s
    have HV0K := Lib.hid (show Kept W V0 by rw [← hV0]; exact kept_alloc _ _)
    have HV0C := Lib.hid (show V0.cell? ⟨m, 0, none⟩ = some (.slice none 0 0) ∧ V0.frozen? ⟨m, 0, none⟩ = false by
      rw [← hV0, ← hm]; exact box_new W _ _)
    rw [hV0]
    clear hV0 hv0s hm
    refine wpAt_seq (wpAt_seq (wpAt_of (n := 6) ?_))
    gi_wp2_with (refine ⟨trivial, ?_⟩; gi_at_call 50; refine (callsIn_wide.2 (splitseq_any s _)).mono ?_; rintro e w1 ⟨rfl, rfl⟩)
    refine wpAt_block ?_
    have bc := boxes_cells V0 s
    have bsz := boxes_size V0 s
    rw [HV0S.out] at bc bsz ⊢
    have hB0 : Below W.heap.size W (boxes V0 s) := Kept.trans HV0K.out (boxes_kept V0 s)
    have hvc : (boxes V0 s).cell? ⟨m, 0, none⟩ = some (.slice none 0 0) := ((boxes_kept V0 s).cell (p := ⟨m, 0, none⟩) (by rw [HV0S.out]; exact Nat.lt_succ_self m)).trans HV0C.out.1
    have hvf : (boxes V0 s).frozen? ⟨m, 0, none⟩ = false := ((boxes_kept V0 s).frozen (p := ⟨m, 0, none⟩) (by rw [HV0S.out]; exact Nat.lt_succ_self m)).trans HV0C.out.2
    have hm0 : W.heap.size = m := HM.out
    refine wpAt_split (n := 6) Tryd.func37 (by decide) (m + 1 + 1) (m + 1) (m + 1 + 2) rfl s hs (by omega) (by omega) (by omega) (by omega) (by omega) bc.1 bc.2.1 bc.2.2.1 bc.2.2.2
      (fun k W' => Below W.heap.size W W' ∧ (∀ p ∈ (partsOf s).take k, valL (numOf' p) ≤ 9223372036854775807) ∧ VBox (m + 6) m (accP (partsOf s) k) W')
      (fun c W' => c = [perr 5] ∧ Below W.heap.size W W' ∧ overBad (partsOf s) = true)
      (fun k W1 W2 h st => ⟨Below.st h.1 st (by omega) (by omega), h.2.1, h.2.2.st st (by omega) (by omega) (by omega)⟩) (fun k W' h => ((HE.out.kept HB1.out).kept h.1).base) ⟨hB0, by simp, ⟨_, hvc, hvf, OwnV.nil _ _ _⟩⟩
      (fun x => { tmps := #[.string (bytes s), undef, .slice none 0 0, undef, .pointer (some ⟨m, 0, none⟩), .string x, undef, .string (bytes s),
          .func (.func 68) #[] #[.pointer (some ⟨w.heap.size + 1, 0, none⟩), .pointer (some ⟨w.heap.size, 0, none⟩), .pointer (some ⟨w.heap.size + 2, 0, none⟩)], undef, undef, undef, .string (bytes s),
          .func (.func 68) #[] #[.pointer (some ⟨m + 1 + 1, 0, none⟩), .pointer (some ⟨m + 1, 0, none⟩), .pointer (some ⟨m + 1 + 2, 0, none⟩)], .string x,
          undef, undef, undef, undef, undef, undef, undef, undef, undef, undef, undef, undef], defers := [] }) ?assign2 ?body2 ?done2 ?panic2
    case assign2 =>
      intro l x W' K hK
      gi_wp2
      exact hK
    case panic2 =>
      rintro c W' ⟨rfl, hB', hbad⟩ hk'
      have HV := Lib.hid (show parsedV s = (5, []) by unfold parsedV; rw [if_neg (by rw [HFORM.out]; decide), if_pos hbad])
      have hk1 : (W'.putObj (boxes V0 s).heap.size (.deferred none)).heap[w.heap.size + 3]? = some (.deferred (some [])) :=
        (World.putObj_heap_other (by rw [bsz]; omega)).trans ((hB'.block _ hD1).trans HK1.out)
      refine ⟨by simp, .inl ⟨_, _, rfl, run_takeDeferred hk', ?_⟩⟩
      refine ⟨by simp, .inl ⟨_, _, rfl, run_takeDeferred hk1, ?_⟩⟩
      exact VecRes.bad (by rw [HV.out]) (by decide) (below_put (below_put (HB1.out.trans (Below.mono hB' HB1.out.size)) (by rw [bsz]; have := HB1.out.size; omega)) (by omega))
    case body2 =>
      rintro l k p W' hp ⟨hB', hd', v, hvc', hvf', hvo⟩ hlt'
      have hmem : p ∈ partsOf s := List.mem_of_getElem? hp
      have HMEM := Lib.hid hmem
      have HDEC := Lib.hid (HALL.out p hmem)
      have hpl := HPL.out p hmem
      have HE' := Lib.hid ((HE.out.kept HB1.out).kept hB')
      have HB' := Lib.hid hB'
      have HD' := Lib.hid hd'
      have HP := Lib.hid hp
      have hmW : m < W'.heap.size := by rw [bsz] at hlt'; omega
      have HLT := Lib.hid (show m + 6 ≤ W'.heap.size by rw [bsz] at hlt'; omega)
      have HHD : Hid ((boxes V0 s).heap.size = m + 1 + 3) := Lib.hid bsz
      by_cases hval : valL (numOf' p) ≤ 9223372036854775807
      · have HVAL := Lib.hid hval
        obtain ⟨av, cv, rfl, q1, q2, q3⟩ := hvo.at_
        obtain ⟨n, hn⟩ : ∃ n, (accP (partsOf s) k).length = n := ⟨_, rfl⟩
        rw [hn] at hvo
        have HVO := Lib.hid hvo
        have HN := Lib.hid hn
        have hn9 : n ≤ 9 := by
          have := accP_len (show k ≤ (partsOf s).length from Nat.le_of_lt (List.getElem?_eq_some_iff.1 hp).1)
          omega
        rw [hn] at hvc'
        clear bc bsz hB' hd' hp hmem hlt' hval q3 hvo hn q1 q2 hvc hvf hB0
        gi_wp2_with (refine ⟨trivial, ?_⟩; gi_at_call 52; refine (CallsIn.inRound l (callsIn_wide.2 (amount_ok p _ HE'.out hpl HDEC.out HVAL.out))).mono ?_; rintro e W1 ⟨rfl, k1⟩; have K1 := Lib.hid k1; have hvc1 := cell_later k1 hvc'; have hvf1 := (k1.frozen (p := ⟨m, 0, none⟩) hmW).trans hvf'; have hm1 : m < W1.heap.size := Nat.lt_of_lt_of_le hmW k1.size; clear k1 hvc' hvf'; refine Hid.out ?_)
        refine Lib.hid ?_
        by_cases h8 : n ≤ 8
        · obtain ⟨i0, hi, hz0, hz1, hz2⟩ := info_parts resInfo
          gi_wp2_with (gi_at_builtin; go_must (refine wpListIn_append_own _ rfl (.tmp 20) (.tmp 22) _ rfl (m + 6) 38 i0 _ 2 24 Tryd.underlying23 hi hz0 hz1 hz2 rfl (by decide) _ n (cellsOf (accP (partsOf s) k)) rfl (((HVO.out.kept K1.out).kept (kept_two W1 (.cells #[.string (amtOf p).1, .int .i64 (amtOf p).2] 38) (.cells #[.string (amtOf p).1, .int .i64 (amtOf p).2] 38))).row HN.out) ⟨W1.heap.size + 1, 0, none⟩ 1 1 [.string (amtOf p).1, .int .i64 (amtOf p).2] rfl rfl (news_two' _ _ _ _ _) (cellsOf_one [amtOf p]) (by unfold maxLen; omega) (by omega) (by rw [World.size_alloc, World.size_alloc]; have := HLT.out; have := K1.out.size; omega) ?_); intro v' w2 hown' hgrow _; refine Hid.out ?_)
          refine Lib.hid ?_
          obtain ⟨g', cap', rfl⟩ := ownsRow_succ hown'
          have KA := Lib.hid (show Kept W' ((W1.alloc (.cells #[.string (amtOf p).1, .int .i64 (amtOf p).2] 38)).alloc (.cells #[.string (amtOf p).1, .int .i64 (amtOf p).2] 38)) from K1.out.trans (kept_two W1 _ _))
          have hrow : ∀ r, (Value.slice av n cv).ownBlock = some r → m + 6 ≤ r := fun r hr => (HVO.out.1.lt r hr).1
          have hbl : ∀ b, b < m + 6 → w2.heap[b]? = W'.heap[b]? := fun b hb => (hgrow.block b (Nat.lt_of_lt_of_le hb (Nat.le_trans HLT.out KA.out.size)) (fun e => by have := hrow b e.symm; omega)).trans (KA.out.block b (Nat.lt_of_lt_of_le hb HLT.out))
          have HBL := Lib.hid hbl
          have hvc2 : w2.cell? ⟨m, 0, none⟩ = some (.slice av n cv) := (World.cell?_of_block (a := ⟨m, 0, none⟩) (hgrow.block m (by simp; omega) (fun e => by have := hrow m e.symm; omega))).trans (by go_simp)
          have hvf2 : w2.frozen? ⟨m, 0, none⟩ = false := (World.frozen?_of_block (a := ⟨m, 0, none⟩) (hgrow.block m (by simp; omega) (fun e => by have := hrow m e.symm; omega))).trans (by go_simp)
          have HOWN := Lib.hid hown'
          have HGS := Lib.hid (show Below W.heap.size W w2 from ⟨hgrow.os.trans (KA.out.os.trans HB'.out.os), hgrow.tape.trans (KA.out.tape.trans HB'.out.tape), hgrow.output.trans (KA.out.output.trans HB'.out.output), Nat.le_trans HB'.out.size (Nat.le_trans KA.out.size hgrow.size), fun b hb => (HBL.out b (by have := HM.out; omega)).trans (HB'.out.block b hb)⟩)
          clear hvc1 hvf1 hown' hgrow hrow hbl hi hz0 hz1 hz2
          gi_wp2
          refine ⟨fun b hb => ?_, HGS.out.setCell (p := ⟨m, 0, none⟩) (by have := HM.out; show W.heap.size ≤ m; omega) _, nextVal HD'.out HP.out HVAL.out, ⟨_, World.cell?_setCell_same' _ _ _ (by rw [hvc2]; rfl), by rw [World.frozen?_setCell]; exact hvf2, ?_⟩⟩
          · have hbm : b < m + 6 ∧ b ≠ m := by have := HHD.out; rcases hb with h | h | h | h | h <;> omega
            exact (Below.heap_setCell w2 ⟨m, 0, none⟩ _ b hbm.2).trans (HBL.out b hbm.1)
          · have hl : (accP (partsOf s) (k + 1)).length = n + 1 := by rw [accP_next HP.out (by rw [HN.out]; exact h8), List.length_append, HN.out]; rfl
            have ho : OwnV 38 w2 (m + 6) (.slice (some ⟨g', 0, none⟩) (n + 1) cap') (accP (partsOf s) (k + 1)) := by
              refine ⟨?_, ?_⟩
              · rw [hl, accP_next HP.out (by rw [HN.out]; exact h8), cellsOf_append]; exact HOWN.out
              · rw [accP_next HP.out (by rw [HN.out]; exact h8)]
                exact HVO.out.2.snoc (amt_size hpl) (by show -9223372036854775808 ≤ (valL (numOf' p) : Int); omega) (by show (valL (numOf' p) : Int) ≤ _; have := HVAL.out; omega)
            exact ho.setCell_below (a := ⟨m, 0, none⟩) (by show m < m + 6; omega) _
        · have hfull := accP_full HP.out (by rw [HN.out]; exact h8)
          have HFULL := Lib.hid hfull
          have h9 : 8 < n := by omega
          clear hfull h8
          gi_wp2
          refine ⟨fun b hb => ?_, HB'.out.trans (Below.mono (Kept.trans K1.out (kept_alloc W1 _)) HB'.out.size), nextVal HD'.out HP.out HVAL.out, ⟨.slice av n cv, by go_simp, by go_simp, ?_⟩⟩
          · have hbm : b < m + 6 := by have := HHD.out; rcases hb with h | h | h | h | h <;> omega
            exact (Kept.trans K1.out (kept_alloc W1 _)).block b (Nat.lt_of_lt_of_le hbm HLT.out)
          · rw [HFULL.out]; exact HVO.out.kept (Kept.trans K1.out (kept_alloc W1 _))
      · have HVAL := Lib.hid hval
        clear bc bsz hB' hd' hp hmem hlt' hval hvo hvc' hvf' hvc hvf hB0
        gi_wp2_with (refine ⟨trivial, ?_⟩; gi_at_call 52; refine (CallsIn.inRound l (callsIn_wide.2 (amount_bad p _ HE'.out hpl HDEC.out HVAL.out))).mono ?_; rintro e W1 ⟨rfl, k1⟩; have K1 := Lib.hid k1; clear k1)
        refine ⟨rfl, fun b hb => ?_, rfl, HB'.out.trans (Below.mono K1.out HB'.out.size), ?_⟩
        · have hbm : b < m + 6 := by have := HHD.out; rcases hb with h | h | h | h | h <;> omega
          exact K1.out.block b (Nat.lt_of_lt_of_le hbm HLT.out)
        · unfold overBad
          rw [List.any_eq_true]
          exact ⟨p, HMEM.out, by have := HVAL.out; simp; omega⟩
    case done2 =>
      rintro W' ⟨hB', hd', v, hvc', hvf', hvo⟩ hk'
      have hover : overBad (partsOf s) = false := by
        unfold overBad
        rw [List.any_eq_false]
        intro p hp
        have := hd' p (by simpa using hp)
        simp only [decide_eq_true_eq]
        omega
      have hacc : accP (partsOf s) (partsOf s).length = ((partsOf s).map amtOf).take 9 := by unfold accP; rw [List.take_length]
      rw [hacc] at hvo
      obtain ⟨L, hL⟩ : ∃ L, ((partsOf s).map amtOf).take 9 = L := ⟨_, rfl⟩
      have HV := Lib.hid (show parsedV s = if checkV L ≠ 0 then (checkV L, []) else (0, L) by unfold parsedV; rw [if_neg (by rw [HFORM.out]; decide), if_neg (by rw [hover]; decide), hL])
      rw [hL] at hvo
      have hL9 : L.length ≤ 1000000 := by rw [← hL, List.length_take]; omega
      have HNS := Lib.hid (show ∀ k, k < L.length → (nm L k).size ≤ 281474976710656 by
        intro k hk
        have hmem := mem_at hk
        rw [← hL] at hmem
        obtain ⟨p, hp, he⟩ := List.mem_map.1 (List.mem_of_mem_take hmem)
        have h1 : (amtOf p).1 = nm L k := by rw [he, hL]
        rw [← h1]
        have h2 := amt_size (HPL.out p hp)
        have h3 := name_le p
        have h4 := HPL.out p hp
        show (bytes (nameOf p)).size ≤ _
        simp only [bytes, ByteArray.size, List.size_toArray]
        omega)
      have hk1 : W'.heap[w.heap.size + 3]? = some (.deferred (some [])) := (hB'.block _ hD1).trans HK1.out
      have HBS := Lib.hid bsz
      obtain ⟨av, cv, rfl, q1, q2, q3⟩ := hvo.at_
      have HVO := Lib.hid hvo
      have HQ3 := Lib.hid q3
      have HD1 := Lib.hid hk1
      have HD2 := Lib.hid hk'
      have HB' := Lib.hid hB'
      have HLT := Lib.hid (show m + 4 < W'.heap.size by have := (Array.getElem?_eq_some_iff.1 hk').1; rw [bsz] at this; exact this)
      clear bc bsz hB' hd' hk' hk1 hvo q3 q1 q2 hL hover hacc hvc hvf hB0
      refine wpAt_of (n := 6) ?_
      by_cases hc : checkV L = 0
      · have HC := Lib.hid hc
        clear hc
        gi_wp2_with (refine ⟨trivial, ?_⟩; gi_at_call 30; refine (callsIn_wide.2 (checked_any _ _ _ L _ HQ3.out)).mono ?_; rintro e1 w1 ⟨g1, _, k1⟩; obtain rfl := g1 HC.out; have K1 := Lib.hid k1; clear g1 k1; refine Hid.out ?_)
        refine Lib.hid ?_
        gi_wp2_with (refine ⟨trivial, ?_⟩; gi_at_call 53; refine (callsIn_wide.2 (owned_any _ _ (m + 5) L _ ((HVO.out.kept K1.out).base_le (by omega)) (by have := K1.out.size; have := HLT.out; omega) hL9 HNS.out)).mono ?_; rintro e2 w2 ⟨rfl, o2, b2⟩; have O2 := Lib.hid o2; have B2 := Lib.hid b2; clear o2 b2)
        have hsz := HM.out
        have hbs := HBS.out
        have e1 : w2.heap[(boxes V0 s).heap.size]? = some (.deferred (some [])) := (B2.out.block _ (by omega)).trans ((K1.out.block _ (by have := HLT.out; omega)).trans HD2.out)
        have e2 : w2.heap[w.heap.size + 3]? = some (.deferred (some [])) := (B2.out.block _ (by omega)).trans ((K1.out.block _ (by have := HLT.out; omega)).trans HD1.out)
        have e3 : (w2.putObj (boxes V0 s).heap.size (.deferred none)).heap[w.heap.size + 3]? = some (.deferred (some [])) := (World.putObj_heap_other (by omega)).trans e2
        refine ⟨by simp, .inl ⟨_, _, rfl, run_takeDeferred e1, ?_⟩⟩
        refine ⟨by simp, .inl ⟨_, _, rfl, run_takeDeferred e3, ?_⟩⟩
        refine ⟨_, results_tmp rfl _ _ _, ?_⟩
        refine VecRes.good (by rw [HV.out, if_neg (by rw [HC.out]; decide)]) (by rw [HV.out, if_neg (by rw [HC.out]; decide)]; exact ((O2.out.put (by omega) _).put (by omega) _).base_le (by omega)) ?_
        exact below_put (below_put ((HB1.out.trans (Below.mono (HB'.out.trans (Below.mono K1.out HB'.out.size)) HB1.out.size)).trans (Below.mono B2.out (by have := HB1.out.size; omega))) (by omega)) (by omega)
      · have HC := Lib.hid hc
        clear hc
        gi_wp2_with (refine ⟨trivial, ?_⟩; gi_at_call 30; refine (callsIn_wide.2 (checked_any _ _ _ L _ HQ3.out)).mono ?_; rintro e1 w1 ⟨_, g1, k1⟩; obtain rfl := g1 HC.out; have K1 := Lib.hid k1; clear g1 k1)
        have hsz := HM.out
        have hbs := HBS.out
        have e1 : w1.heap[(boxes V0 s).heap.size]? = some (.deferred (some [])) := (K1.out.block _ (by have := HLT.out; omega)).trans HD2.out
        have e2 : w1.heap[w.heap.size + 3]? = some (.deferred (some [])) := (K1.out.block _ (by have := HLT.out; omega)).trans HD1.out
        have e3 : (w1.putObj (boxes V0 s).heap.size (.deferred none)).heap[w.heap.size + 3]? = some (.deferred (some [])) := (World.putObj_heap_other (by omega)).trans e2
        refine ⟨by simp, .inl ⟨_, _, rfl, run_takeDeferred e1, ?_⟩⟩
        refine ⟨by simp, .inl ⟨_, _, rfl, run_takeDeferred e3, ?_⟩⟩
        exact VecRes.bad (by rw [HV.out, if_pos HC.out]) HC.out (below_put (below_put (HB1.out.trans (Below.mono (HB'.out.trans (Below.mono K1.out HB'.out.size)) HB1.out.size)) (by have := HB1.out.size; omega)) (by omega))

end Go.Proofs.YtnnneimpdiadhaaDoor.Vec
