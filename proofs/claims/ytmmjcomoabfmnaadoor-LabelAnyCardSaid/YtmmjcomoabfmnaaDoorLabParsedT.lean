/- parsed, at 25: every part's form, then the check. -/
import Derived.Test.YtmmjcomoabfmnaaDoorLabParsedB
import Derived.Test.YtmmjcomoabfmnaaDoorLabForm
namespace Go.Proofs.YtmmjcomoabfmnaaDoor
open Go.RowKit Go.Shelf
set_option linter.unusedVariables false
attribute [local go_sem] Oper.semAt_some

theorem infoT : (Tryd.prog.info? 60).map (fun i => (i.zero, i.size, i.bytes)) = some (some (.agg #[.int .i64 0, .string ByteArray.empty, .string ByteArray.empty]), 3, 40) := by kernel_rfl

theorem termL_fine {p : List UInt8} (h : p.length ≤ 1000000) : TermLay.fine (termL p) := by
  have h1 := (cut_le p [58]).1
  have h2 := (cut_le p [58]).2
  have h3 := (cut_le p [33]).1
  have h4 := (cut_le p [33]).2
  have h5 : (Lib.trimPrefix p [45]).length ≤ p.length := by unfold Lib.trimPrefix; split <;> simp
  have he : ByteArray.empty.size ≤ maxLen := Nat.zero_le _
  have mk : ∀ q : List UInt8, q.length ≤ p.length → (bytes q).size ≤ maxLen := fun q hq => by rw [bytes_size]; unfold maxLen; omega
  unfold termL
  split
  · exact ⟨⟨by dsimp only; omega, by dsimp only; omega⟩, mk _ h5, he⟩
  · split
    · exact ⟨⟨by dsimp only; omega, by dsimp only; omega⟩, mk _ (Nat.le_refl _), he⟩
    · split
      · exact ⟨⟨by dsimp only; omega, by dsimp only; omega⟩, mk _ h1, mk _ h2⟩
      · exact ⟨⟨by dsimp only; omega, by dsimp only; omega⟩, mk _ h3, mk _ h4⟩

def parsedT (s : List UInt8) := parsedG termBad termL chkL s

theorem parsedT_dash (w : World) :
    Calls Tryd.prog 46 #[.string (bytes [45]), .func (.func 47) #[] #[], .func (.func 16) #[] #[]] w (RowRes TermLay 60 (parsedT [45]) w.heap.size w) := by
  have e : ((bytes [45]).toList == [45]) = true := by rw [bytes_toList]; rfl
  go_enter Tryd.func46, Tryd.ntmps46
  go_wp2
  go_ret
  exact RowRes.good rfl (Own.nil _ _ _) (kept_alloc _ _)

set_option maxRecDepth 100000 in
set_option maxHeartbeats 1600000 in
theorem parsedT_any (s : List UInt8) (w : World) (hE : Env w) (hs : s.length ≤ 1000000) (hd : s ≠ [45]) :
    Calls Tryd.prog 46 #[.string (bytes s), .func (.func 47) #[] #[], .func (.func 16) #[] #[]] w (RowRes TermLay 60 (parsedT s) w.heap.size w) := by
  have hdash : ((bytes s).toList == [45]) = false := by rw [bytes_toList]; simpa using hd
  have HD0 := Lib.hid hd
  clear hd
  refine calls_of_wpAt (n := 6) Tryd.func46 rfl ?_
  simp only [Tryd.ntmps46, List.size_toArray, List.length_cons, List.length_nil, Nat.reduceAdd, Nat.reduceSub, Array.replicate_succ, Array.replicate_zero, List.push_toArray, List.append_toArray, List.nil_append, List.cons_append]
  refine wpAt_seq (wpAt_of (n := 6) ?_)
  gi_wp2
  refine wpAt_seq (wpAt_of (n := 6) ?_)
  gi_wp2
  refine wpAt_seq (wpAt_of (n := 6) ?_)
  gi_wp2
  obtain ⟨V0, hV0⟩ : ∃ V0, (w.alloc (.cells #[.func (.func 47) #[] #[]] 82)).alloc (.cells #[.slice none 0 0] 25) = V0 := ⟨_, rfl⟩
  have HV0S := Lib.hid (show V0.heap.size = w.heap.size + 2 by rw [← hV0]; simp)
  have HV0K := Lib.hid (show Kept w V0 by rw [← hV0]; exact kept_two _ _ _)
  have HV0C := Lib.hid (show V0.cell? ⟨w.heap.size + 1, 0, none⟩ = some (.slice none 0 0) ∧ V0.frozen? ⟨w.heap.size + 1, 0, none⟩ = false ∧ V0.cell? ⟨w.heap.size, 0, none⟩ = some (.func (.func 47) #[] #[]) by
    rw [← hV0]; exact two_cells w _ _ _ _)
  rw [hV0]
  clear hV0
  have HE := Lib.hid hE
  have HPL := Lib.hid (fun p (h : p ∈ partsOf s) => Nat.le_trans (part_len s p h) hs)
  have hcl : (bytes s).size ≤ 281474976710656 := by rw [bytes_size]; omega
  clear hE
  refine wpAt_seq (wpAt_seq (wpAt_of (n := 6) ?_))
  gi_wp2_with (first | (refine ⟨trivial, ?_⟩; gi_at_call 55; refine (callsIn_wide.2 (clone_any _ _ hcl)).mono ?_; rintro e w1 ⟨rfl, k1⟩; have K1 := Lib.hid k1; clear k1) | (refine ⟨trivial, ?_⟩; gi_at_call 54; refine (callsIn_wide.2 (splitseq_any s _)).mono ?_; rintro e w2 ⟨rfl, rfl⟩))
  refine wpAt_block ?_
  obtain ⟨m, hm⟩ : ∃ m, w1.heap.size = m := ⟨_, rfl⟩
  have bc := boxes_cells w1 s
  have bsz := boxes_size w1 s
  rw [hm] at bc bsz ⊢
  have HM := Lib.hid hm
  have hwm : w.heap.size + 2 ≤ m := by rw [← hm, ← HV0S.out]; exact K1.out.size
  have HWM := Lib.hid hwm
  have HB0 := Lib.hid (show Below w.heap.size w (boxes w1 s) from HV0K.out.trans (K1.out.trans (boxes_kept w1 s)))
  have HK0 := Lib.hid (show Kept V0 (boxes w1 s) from K1.out.trans (boxes_kept w1 s))
  have HC0 := Lib.hid (show (boxes w1 s).cell? ⟨w.heap.size + 1, 0, none⟩ = some (.slice none 0 0) ∧ (boxes w1 s).frozen? ⟨w.heap.size + 1, 0, none⟩ = false ∧ (boxes w1 s).cell? ⟨w.heap.size, 0, none⟩ = some (.func (.func 47) #[] #[]) from
    ⟨cell_later HK0.out HV0C.out.1, (HK0.out.frozen (p := ⟨w.heap.size + 1, 0, none⟩) (by rw [HV0S.out]; exact Nat.lt_succ_self _)).trans HV0C.out.2.1, cell_later HK0.out HV0C.out.2.2⟩)
  clear hm
  refine wpAt_split (n := 6) Tryd.func46 (by decide) (m + 1) m (m + 2) rfl s hs (by omega) (by omega) (by omega) (by omega) (by omega) bc.1 bc.2.1 bc.2.2.1 bc.2.2.2
    (fun k W' => Below w.heap.size w W' ∧ (∀ p ∈ (partsOf s).take k, termBad p = false) ∧ W'.cell? ⟨w.heap.size, 0, none⟩ = some (.func (.func 47) #[] #[]) ∧ VBox TermLay 60 (m + 5) (w.heap.size + 1) (accG termL (partsOf s) k) W')
    (fun c W' => c = [perr 2] ∧ Below w.heap.size w W' ∧ (partsOf s).any termBad = true)
    (fun k W1 W2 h st => ⟨Below.st h.1 st (by omega) (by omega), h.2.1, st_cell h.2.2.1 st (by omega) (by omega), h.2.2.2.st st (by omega) (by omega) (by omega)⟩) (fun k W' h => HE.out.kept h.1) ⟨HB0.out, by simp, HC0.out.2.2, ⟨_, HC0.out.1, HC0.out.2.1, Own.nil _ _ _⟩⟩
    (fun x => { tmps := #[.string (bytes s), .func (.func 47) #[] #[], .func (.func 16) #[] #[], undef, .pointer (some ⟨w.heap.size, 0, none⟩), undef, .slice none 0 0, .pointer (some ⟨w.heap.size + 1, 0, none⟩), .string x, undef, undef, .string (bytes s), .bool false, .string (bytes s), .string (bytes s),
        .func (.func 73) #[] #[.pointer (some ⟨m + 1, 0, none⟩), .pointer (some ⟨m, 0, none⟩), .pointer (some ⟨m + 2, 0, none⟩)], .string x,
        undef, undef, undef, undef, undef, undef, undef, undef, undef, undef, undef, undef, undef, undef, undef, undef, undef, undef], defers := [] }) ?assign ?body ?done ?panic
  case assign =>
    intro l x W' K hK
    gi_wp2
    exact hK
  case panic =>
    rintro c W' ⟨rfl, hB', hbad⟩ hk'
    have HV := Lib.hid (show parsedT s = (2, []) by unfold parsedT parsedG; rw [if_neg HD0.out, if_pos hbad])
    refine ⟨by simp, .inl ⟨_, _, rfl, run_takeDeferred hk', ?_⟩⟩
    exact RowRes.bad (by rw [HV.out]) (by decide) (below_put hB' (by omega))
  case body =>
    rintro l k p W' hp ⟨hB', hd', hfc, v, hvc', hvf', hvo⟩ hlt'
    have hmem : p ∈ partsOf s := List.mem_of_getElem? hp
    have HMEM := Lib.hid hmem
    have hpl := HPL.out p hmem
    have HE' := Lib.hid (HE.out.kept hB')
    have HB' := Lib.hid hB'
    have HD' := Lib.hid hd'
    have HP := Lib.hid hp
    have hvb : w.heap.size + 1 < W'.heap.size := by rw [bsz] at hlt'; omega
    have HLT := Lib.hid (show m + 5 ≤ W'.heap.size by rw [bsz] at hlt'; omega)
    have HHD : Hid ((boxes w1 s).heap.size = m + 3) := Lib.hid bsz
    by_cases hgood : termBad p = false
    · have HGOOD := Lib.hid hgood
      obtain ⟨o, x, y, hxy⟩ : ∃ o x y, termL p = (o, x, y) := ⟨_, _, _, rfl⟩
      have HXY := Lib.hid hxy
      have HCALL := Lib.hid (term_ok p W' HE'.out hpl hgood)
      rw [hxy] at HCALL
      obtain ⟨av, cv, rfl, q1, q2, q3⟩ := hvo.at_
      obtain ⟨n, hn⟩ : ∃ n, (accG termL (partsOf s) k).length = n := ⟨_, rfl⟩
      rw [hn] at hvo hvc'
      have HVO := Lib.hid hvo
      have HFC0 := Lib.hid hfc
      have HN := Lib.hid hn
      have hn9 : n ≤ 9 := by
        have := accG_len (f := termL) (show k ≤ (partsOf s).length from Nat.le_of_lt (List.getElem?_eq_some_iff.1 hp).1)
        omega
      clear bc bsz hB' hd' hp hmem hlt' q3 hvo hn q1 q2 hgood hxy
      gi_wp2_with (refine ⟨trivial, ?_⟩; gi_at_call 47; refine (CallsIn.inRound l (callsIn_wide.2 HCALL.out)).mono ?_; rintro e W1 ⟨rfl, k1⟩; have K1' := Lib.hid k1; have hvc1 := cell_later k1 hvc'; have hvf1 := (k1.frozen (p := ⟨w.heap.size + 1, 0, none⟩) hvb).trans hvf'; have hm1 : w.heap.size + 1 < W1.heap.size := Nat.lt_of_lt_of_le hvb k1.size; clear k1 hvc' hvf' hfc; refine Hid.out ?_)
      refine Lib.hid ?_
      by_cases h8 : n ≤ 8
      · obtain ⟨i0, hi, hz0, hz1, hz2⟩ := info_parts infoT
        gi_wp2_with (gi_at_builtin; go_must (refine wpListIn_append_own _ rfl (.tmp 23) (.tmp 25) _ rfl (m + 5) 60 i0 _ 3 40 Tryd.underlying25 hi hz0 hz1 hz2 rfl (by decide) _ n (rowCells TermLay (accG termL (partsOf s) k)) rfl (((HVO.out.kept K1'.out).kept (kept_two W1 (.cells #[.int .i64 o, .string x, .string y] 60) (.cells #[.int .i64 o, .string x, .string y] 60))).row HN.out) ⟨W1.heap.size + 1, 0, none⟩ 1 1 [.int .i64 o, .string x, .string y] rfl rfl (news3 _ _ (.int .i64 o) (.string x) (.string y) _) (one_iss o x y) (by unfold maxLen; omega) (by omega) (by rw [World.size_alloc, World.size_alloc]; have := HLT.out; have := K1'.out.size; omega) ?_); intro v' w2 hown' hgrow _; refine Hid.out ?_)
        refine Lib.hid ?_
        obtain ⟨g', cap', rfl⟩ := ownsRow_succ hown'
        have KA := Lib.hid (show Kept W' ((W1.alloc (.cells #[.int .i64 o, .string x, .string y] 60)).alloc (.cells #[.int .i64 o, .string x, .string y] 60)) from K1'.out.trans (kept_two W1 _ _))
        have hrow : ∀ r, (Value.slice av n cv).ownBlock = some r → m + 5 ≤ r := fun r hr => (HVO.out.1.lt r hr).1
        have hbl : ∀ b, b < m + 5 → w2.heap[b]? = W'.heap[b]? := fun b hb => (hgrow.block b (Nat.lt_of_lt_of_le hb (Nat.le_trans HLT.out KA.out.size)) (fun e => by have := hrow b e.symm; omega)).trans (KA.out.block b (Nat.lt_of_lt_of_le hb HLT.out))
        have HBL := Lib.hid hbl
        have hvc2 : w2.cell? ⟨w.heap.size + 1, 0, none⟩ = some (.slice av n cv) := (World.cell?_of_block (a := ⟨w.heap.size + 1, 0, none⟩) (hgrow.block (w.heap.size + 1) (by simp; omega) (fun e => by have := hrow _ e.symm; omega))).trans (cell_later (kept_two W1 _ _) hvc1)
        have hvf2 : w2.frozen? ⟨w.heap.size + 1, 0, none⟩ = false := (World.frozen?_of_block (a := ⟨w.heap.size + 1, 0, none⟩) (hgrow.block (w.heap.size + 1) (by simp; omega) (fun e => by have := hrow _ e.symm; omega))).trans (((kept_two W1 _ _).frozen (p := ⟨w.heap.size + 1, 0, none⟩) hm1).trans hvf1)
        have HOWN := Lib.hid hown'
        have HGS := Lib.hid (show Below w.heap.size w w2 from ⟨hgrow.os.trans (KA.out.os.trans HB'.out.os), hgrow.tape.trans (KA.out.tape.trans HB'.out.tape), hgrow.output.trans (KA.out.output.trans HB'.out.output), Nat.le_trans HB'.out.size (Nat.le_trans KA.out.size hgrow.size), fun b hb => (HBL.out b (by omega)).trans (HB'.out.block b hb)⟩)
        have HFC := Lib.hid (show w2.cell? ⟨w.heap.size, 0, none⟩ = some (.func (.func 47) #[] #[]) from (World.cell?_of_block (a := ⟨w.heap.size, 0, none⟩) (HBL.out w.heap.size (by omega))).trans HFC0.out)
        clear hvc1 hvf1 hown' hgrow hrow hbl hi hz0 hz1 hz2
        gi_wp2
        refine ⟨fun b hb => ?_, HGS.out.setCell (p := ⟨w.heap.size + 1, 0, none⟩) (by show w.heap.size ≤ w.heap.size + 1; omega) _, next_good HD'.out HP.out HGOOD.out, ?_, ⟨_, World.cell?_setCell_same' _ _ _ (by rw [hvc2]; rfl), by rw [World.frozen?_setCell]; exact hvf2, ?_⟩⟩
        · have hbm : b < m + 5 ∧ b ≠ w.heap.size + 1 := by have := HHD.out; rcases hb with h | h | h | h | h <;> omega
          exact (Below.heap_setCell w2 ⟨w.heap.size + 1, 0, none⟩ _ b hbm.2).trans (HBL.out b hbm.1)
        · rw [World.cell?_setCell_other _ _ _ _ (by intro e; injection e with e; omega)]; exact HFC.out
        · have hl : (accG termL (partsOf s) (k + 1)).length = n + 1 := by rw [accG_next HP.out (by rw [HN.out]; exact h8), List.length_append, HN.out]; rfl
          have ho : Own TermLay 60 w2 (m + 5) (.slice (some ⟨g', 0, none⟩) (n + 1) cap') (accG termL (partsOf s) (k + 1)) := by
            refine ⟨?_, ?_⟩
            · rw [hl, accG_next HP.out (by rw [HN.out]; exact h8), rowCells_append, HXY.out]; exact HOWN.out
            · rw [accG_next HP.out (by rw [HN.out]; exact h8)]
              intro z hz
              rcases List.mem_append.1 hz with g | g
              · exact HVO.out.2 z g
              · have : z = termL p := by simpa using g
                rw [this]; exact termL_fine hpl
          exact ho.setCell_below (a := ⟨w.heap.size + 1, 0, none⟩) (by show w.heap.size + 1 < m + 5; omega) _
      · have HFULL := Lib.hid (accG_full (f := termL) HP.out (by rw [HN.out]; exact h8))
        have h9 : 8 < n := by omega
        have HQ1 := Lib.hid (cell_later (kept_alloc W1 (.cells #[.int .i64 o, .string x, .string y] 60)) hvc1)
        have HQ2 := Lib.hid (((kept_alloc W1 (.cells #[.int .i64 o, .string x, .string y] 60)).frozen (p := ⟨w.heap.size + 1, 0, none⟩) hm1).trans hvf1)
        have HFC := Lib.hid (show (W1.alloc (.cells #[.int .i64 o, .string x, .string y] 60)).cell? ⟨w.heap.size, 0, none⟩ = some (.func (.func 47) #[] #[]) from cell_later (K1'.out.trans (kept_alloc W1 _)) HFC0.out)
        clear h8
        gi_wp2
        refine ⟨fun b hb => ?_, HB'.out.trans (Below.mono (Kept.trans K1'.out (kept_alloc W1 _)) HB'.out.size), next_good HD'.out HP.out HGOOD.out, HFC.out, ⟨.slice av n cv, HQ1.out, HQ2.out, ?_⟩⟩
        · have hbm : b < m + 5 := by have := HHD.out; rcases hb with h | h | h | h | h <;> omega
          exact (Kept.trans K1'.out (kept_alloc W1 _)).block b (Nat.lt_of_lt_of_le hbm HLT.out)
        · rw [HFULL.out]; exact HVO.out.kept (Kept.trans K1'.out (kept_alloc W1 _))
    · have HBAD := Lib.hid (show termBad p = true by simpa using hgood)
      clear bc bsz hB' hd' hp hmem hlt' hvo hvc' hvf' hgood
      gi_wp2_with (refine ⟨trivial, ?_⟩; gi_at_call 47; refine (CallsIn.inRound l (callsIn_wide.2 (term_bad p _ HE'.out hpl HBAD.out))).mono ?_; rintro e W1 ⟨rfl, k1⟩; have K1' := Lib.hid k1; clear k1)
      refine ⟨rfl, fun b hb => ?_, rfl, HB'.out.trans (Below.mono K1'.out HB'.out.size), ?_⟩
      · have hbm : b < m + 5 := by have := HHD.out; rcases hb with h | h | h | h | h <;> omega
        exact K1'.out.block b (Nat.lt_of_lt_of_le hbm HLT.out)
      · rw [List.any_eq_true]
        exact ⟨p, HMEM.out, HBAD.out⟩
  case done =>
    rintro W' ⟨hB', hd', hfc, v, hvc', hvf', hvo⟩ hk'
    have hany : (partsOf s).any termBad = false := by
      rw [List.any_eq_false]
      intro p hp
      rw [hd' p (by simpa using hp)]; decide
    have hacc : accG termL (partsOf s) (partsOf s).length = ((partsOf s).map termL).take 9 := by unfold accG; rw [List.take_length]
    rw [hacc] at hvo
    obtain ⟨R, hR⟩ : ∃ R, ((partsOf s).map termL).take 9 = R := ⟨_, rfl⟩
    have HV := Lib.hid (show parsedT s = if chkL R ≠ 0 then (chkL R, []) else (0, R) by unfold parsedT parsedG; rw [if_neg HD0.out, if_neg (by rw [hany]; decide), hR])
    rw [hR] at hvo
    obtain ⟨av, cv, rfl, q1, q2, q3⟩ := hvo.at_
    have HVO := Lib.hid hvo
    have HCHK := Lib.hid (checkSel_any av R.length cv R W' q3)
    have HDD := Lib.hid hk'
    have HB' := Lib.hid hB'
    have HLT := Lib.hid (show m + 3 < W'.heap.size by have := (Array.getElem?_eq_some_iff.1 hk').1; rw [bsz] at this; exact this)
    have HBS := Lib.hid bsz
    have hvb : w.heap.size + 1 < W'.heap.size := by have := HLT.out; omega
    clear bc bsz hB' hd' hk' hvo q3 q1 q2 hR hacc hany hfc
    refine wpAt_of (n := 6) ?_
    by_cases hc : chkL R = 0
    · have HC := Lib.hid hc
      have hc' : (chkL R != 0) = false := by simpa using hc
      clear hc
      gi_wp2_with (refine ⟨trivial, ?_⟩; gi_at_call 16; refine (callsIn_wide.2 HCHK.out).mono ?_; rintro e1 W1 ⟨rfl, k1⟩; have K1' := Lib.hid k1; have hvc1 := cell_later k1 hvc'; clear k1 hvc' hvf')
      have e1 : W1.heap[(boxes w1 s).heap.size]? = some (.deferred (some [])) := (K1'.out.block _ (by rw [HBS.out]; exact HLT.out)).trans HDD.out
      refine ⟨by simp, .inl ⟨_, _, rfl, run_takeDeferred e1, ?_⟩⟩
      refine ⟨_, results_tmp rfl _ _ _, ?_⟩
      refine RowRes.good (by rw [HV.out, if_neg (by rw [HC.out]; decide)]) (by rw [HV.out, if_neg (by rw [HC.out]; decide)]; exact ((HVO.out.kept K1'.out).put (by rw [HBS.out]; omega) _).base_le (by omega)) ?_
      exact below_put (HB'.out.trans (Below.mono K1'.out HB'.out.size)) (by rw [HBS.out]; omega)
    · have HC := Lib.hid hc
      have hc' : (chkL R != 0) = true := by simpa using hc
      clear hc
      gi_wp2_with (refine ⟨trivial, ?_⟩; gi_at_call 16; refine (callsIn_wide.2 HCHK.out).mono ?_; rintro e1 W1 ⟨rfl, k1⟩; have K1' := Lib.hid k1; have hvc1 := cell_later k1 hvc'; clear k1 hvc' hvf')
      have e1 : W1.heap[(boxes w1 s).heap.size]? = some (.deferred (some [])) := (K1'.out.block _ (by rw [HBS.out]; exact HLT.out)).trans HDD.out
      refine ⟨by simp, .inl ⟨_, _, rfl, run_takeDeferred e1, ?_⟩⟩
      exact RowRes.bad (by rw [HV.out, if_pos HC.out]) HC.out (below_put (HB'.out.trans (Below.mono K1'.out HB'.out.size)) (by rw [HBS.out]; omega))

end Go.Proofs.YtmmjcomoabfmnaaDoor
