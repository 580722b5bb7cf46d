/- A pod told, then read: the same. -/
import Derived.Test.YtflllkpnkcmegaaGreatDoorPodText
import Derived.Test.YtflllkpnkcmegaaGreatDoorPodParsed
import Derived.Test.YtflllkpnkcmegaaGreatDoorNodTold
namespace Go.Proofs.YtflllkpnkcmegaaGreatDoor
open Go.RowKit
set_option linter.unusedVariables false

theorem or_zero : ∀ {l : List Int}, orL l = 0 → ∀ x ∈ l, x = 0
  | [], _, _, h => by cases h
  | x :: t, h, y, hy => by
    unfold orL at h
    by_cases z : x = 0
    · rw [if_neg (fun g => g z)] at h
      rcases List.mem_cons.1 hy with rfl | hy
      · exact z
      · exact or_zero h y hy
    · rw [if_pos z] at h; exact absurd h z
theorem no_empty {x : ByteArray} (h : isNo x = true) : x = ByteArray.empty := eqS_iff.1 h
theorem nameOr_cases {x : ByteArray} (h : nameOr x = true) : (isNo x = true ∧ x = ByteArray.empty) ∨ (isNo x = false ∧ isName x = true) := by
  unfold nameOr at h
  cases hq : isNo x with
  | true => exact .inl ⟨rfl, no_empty hq⟩
  | false => rw [hq] at h; exact .inr ⟨rfl, by simpa using h⟩
theorem name_ne {x : ByteArray} (h : isName x = true) : x.data.toList ≠ [] ∧ x.data.toList ≠ [45] := by
  refine ⟨fun e => ?_, fun e => ?_⟩
  · have : x = ByteArray.empty := by rw [← bytes_data x, e]; rfl
    rw [this] at h; exact absurd h (by decide)
  · exact absurd (name_bytes h 45 (by rw [e]; simp)) (by decide)
theorem opt_told {x : ByteArray} (h : nameOr x = true) : optL (optT x).data.toList = some x ∧ (32 : UInt8) ∉ (optT x).data.toList := by
  rcases nameOr_cases h with ⟨h1, rfl⟩ | ⟨h1, h2⟩
  · have e : optT ByteArray.empty = ⟨#[45]⟩ := by unfold optT; rw [if_pos h1]
    rw [e]
    exact ⟨rfl, by decide⟩
  · have e : optT x = x := by unfold optT; rw [if_neg (by rw [h1]; decide)]
    rw [e]
    obtain ⟨n1, n2⟩ := name_ne h2
    exact ⟨by unfold optL; rw [if_neg n1, if_neg n2, bytes_data], name_sp h2⟩
theorem itoa_nat (u : Nat) : Lib.itoa (u : Int) = Lib.decDigits u := by
  unfold Lib.itoa
  rw [if_neg (by omega)]
  simp
theorem num_told {u : Nat} (h : u ≤ 2147483647) : numL (Lib.decDigits u) = some (u : Int) := by
  obtain ⟨h1, h2⟩ := Vec.dd_dec u
  unfold numL
  rw [if_pos ⟨h1, by omega⟩, h2]
theorem dd_ne {u : Nat} {b : UInt8} (h : Vec.okDigit b = false) : b ∉ Lib.decDigits u := fun e => by rw [Vec.dd_clean e] at h; cases h
theorem prio_told {p : Int} {b : Bool} (h : chkPrio p b = 0) : prioL (Lib.itoa p) = some p ∧ (32 : UInt8) ∉ Lib.itoa p := by
  unfold chkPrio prioBad at h
  split at h
  · cases h
  · rename_i g
    simp only [Bool.or_eq_true, decide_eq_true_eq, not_or] at g
    obtain ⟨g1, g2, -⟩ := g
    by_cases z : p = -1
    · subst z
      have e : Lib.itoa (-1) = [45, 49] := by simp [Lib.itoa, Lib.decDigits]
      rw [e]
      exact ⟨rfl, by decide⟩
    · obtain ⟨u, rfl⟩ : ∃ u : Nat, p = (u : Int) := ⟨p.toNat, by omega⟩
      rw [itoa_nat]
      refine ⟨?_, dd_ne (by decide)⟩
      unfold prioL
      rw [if_neg (fun e => dd_ne (u := u) (b := 45) (by decide) (by rw [e]; simp)), num_told (by omega)]
theorem cut_first : ∀ (x y : List UInt8), (47 : UInt8) ∉ x → Lib.cut (x ++ 47 :: y) [47] = (x, y, true) := fun _ y h => cut_mid y h
theorem spread_told {k : ByteArray} {m : Int} (h : chkSpread k m = 0) : spreadL (spreadT k m).data.toList = some (k, m) ∧ (32 : UInt8) ∉ (spreadT k m).data.toList := by
  unfold chkSpread at h
  by_cases q : nameOr k = false
  · rw [if_pos q] at h; cases h
  · rw [if_neg q] at h
    have q : nameOr k = true := by simpa using q
    split at h
    · cases h
    · rename_i g
      unfold spreadBad at g
      rcases nameOr_cases q with ⟨h1, rfl⟩ | ⟨h1, h2⟩
      · rw [if_pos h1] at g
        have : m = 0 := by simpa using g
        subst this
        have e : spreadT ByteArray.empty 0 = ⟨#[45]⟩ := by unfold spreadT; rw [if_pos h1]
        rw [e]
        exact ⟨rfl, by decide⟩
      · rw [if_neg (by rw [h1]; decide)] at g
        simp only [Bool.or_eq_true, decide_eq_true_eq, not_or] at g
        obtain ⟨u, rfl⟩ : ∃ u : Nat, m = (u : Int) := ⟨m.toNat, by omega⟩
        have e : (spreadT k (u : Int)).data.toList = k.data.toList ++ 47 :: Lib.decDigits u := by
          unfold spreadT
          rw [if_neg (by rw [h1]; decide), itoa_nat]
          simp [ByteArray.data_append, bytes]
        have s47 : (47 : UInt8) ∉ k.data.toList := fun e => absurd (name_bytes h2 _ e) (by decide)
        rw [e]
        refine ⟨?_, fun e => ?_⟩
        · unfold spreadL
          rw [if_neg (fun e => by
            have : (47 : UInt8) ∈ k.data.toList ++ 47 :: Lib.decDigits u := by simp
            rw [e] at this
            exact absurd this (by decide)), cut_first _ _ s47, if_neg (name_ne h2).1, num_told (by omega), bytes_data]
          rfl
        · rcases List.mem_append.1 e with e | e
          · exact name_sp h2 e
          · rcases List.mem_cons.1 e with e | e
            · exact absurd e (by decide)
            · exact dd_ne (by decide) e
theorem kind_told (b : Bool) : kindL (kindW b).data.toList = some b ∧ (32 : UInt8) ∉ (kindW b).data.toList := by cases b <;> decide
theorem chkLF_terms : ∀ {l : TL}, chkLF l = 0 → ∀ x ∈ l, chkT x = 0
  | [], _, _, h => by cases h
  | t :: r, h, x, hx => by
    unfold chkLF at h
    by_cases z : chkT t = 0
    · rw [if_neg (fun g => g z)] at h
      rcases List.mem_cons.1 hx with rfl | hx
      · exact z
      · exact chkLF_terms h x hx
    · rw [if_pos z] at h; exact absurd h z
theorem mid_sp {x y : ByteArray} {c : UInt8} (hx : (32 : UInt8) ∉ x.data.toList) (hy : (32 : UInt8) ∉ y.data.toList) (hc : c ≠ 32) : (32 : UInt8) ∉ (x ++ ⟨#[c]⟩ ++ y).data.toList := by
  intro e
  rw [mid_data] at e
  rcases List.mem_append.1 e with e | e
  · exact hx e
  · rcases List.mem_cons.1 e with e | e
    · exact hc e.symm
    · exact hy e
theorem sel_sp {l : TL} (h : chkL l = 0) : (32 : UInt8) ∉ (textL l).data.toList := by
  have h2 : chkLF l = 0 := by
    unfold chkL at h
    split at h
    · cases h
    · exact h
  intro e
  unfold textL at e
  by_cases h0 : l = []
  · rw [if_pos h0] at e
    exact absurd e (by decide)
  · rw [if_neg h0, joinB_data, List.map_map] at e
    rcases mem_join e with e | ⟨p, hp, e⟩
    · exact absurd e (by decide)
    · obtain ⟨x, hx, rfl⟩ := List.mem_map.1 hp
      have g := chkLF_terms h2 x hx
      have e' : (32 : UInt8) ∈ (termB x).data.toList := e
      unfold chkT at g
      unfold termB at e'
      by_cases o12 : x.1 = 1 ∨ x.1 = 2
      · rw [if_pos o12] at g
        split at g
        · rename_i g2
          rw [Bool.and_eq_true] at g2
          by_cases o1 : x.1 = 1
          · rw [if_pos o1] at e'
            exact mid_sp (name_sp g2.1) (name_sp g2.2) (by decide) e'
          · rw [if_neg o1, if_pos (o12.resolve_left o1)] at e'
            exact mid_sp (name_sp g2.1) (name_sp g2.2) (by decide) e'
        · cases g
      · rw [if_neg o12] at g
        rw [if_neg (fun a => o12 (.inl a)), if_neg (fun a => o12 (.inr a))] at e'
        by_cases o34 : x.1 = 3 ∨ x.1 = 4
        · rw [if_pos o34] at g
          split at g
          · rename_i g2
            rw [Bool.and_eq_true] at g2
            by_cases o4 : x.1 = 4
            · rw [if_pos o4, ByteArray.data_append, Array.toList_append] at e'
              rcases List.mem_append.1 e' with e | e
              · exact absurd e (by decide)
              · exact name_sp g2.1 e
            · rw [if_neg o4] at e'
              exact name_sp g2.1 e'
          · cases g
        · rw [if_neg o34] at g; cases g
theorem tol_sp {l : NL} (h : chkO l = 0) : (32 : UInt8) ∉ (textO l).data.toList := by
  intro e
  unfold textO at e
  by_cases h0 : l = []
  · rw [if_pos h0] at e
    exact absurd e (by decide)
  · rw [if_neg h0, joinB_data, List.map_map] at e
    rcases mem_join e with e | ⟨p, hp, e⟩
    · exact absurd e (by decide)
    · obtain ⟨x, hx, rfl⟩ := List.mem_map.1 hp
      have g := chkO_named h x hx
      have e' : (32 : UInt8) ∈ (tolB x).data.toList := e
      unfold namedN at g
      rw [Bool.and_eq_true] at g
      have st : (32 : UInt8) ∉ (starB x.1).data.toList := by
        unfold starB
        split
        · decide
        · rename_i q
          have g1 := g.1
          have q : isNo x.1 = false := by simpa using q
          rw [q] at g1
          exact name_sp (by simpa using g1)
      unfold tolB at e'
      by_cases m : x.2.2 = true
      · rw [if_pos m] at e'; exact st e'
      · rw [if_neg m] at e'
        have g2 := g.2
        rw [if_neg m] at g2
        exact mid_sp st (name_sp g2) (by decide) e'
/-- What may be, told, says itself. -/
theorem textPd_says {n : Pd} (h : chkPod n = 0) (hf : Vec.Fine n.need) : Says (textPd n).data.toList n := by
  have hz := or_zero h
  have c0 := hz _ (show chkNames n.name n.owner ∈ chkList n by simp [chkList])
  have c1 := hz _ (show chkPrio n.prio n.hold ∈ chkList n by simp [chkList])
  have c2 := hz _ (show Vec.checkV n.need ∈ chkList n by simp [chkList])
  have c3 := hz _ (show chkS n.labels ∈ chkList n by simp [chkList])
  have c4 := hz _ (show chkL n.sel ∈ chkList n by simp [chkList])
  have c5 := hz _ (show chkO n.tols ∈ chkList n by simp [chkList])
  have c6 := hz _ (show chkSpread n.key n.most ∈ chkList n by simp [chkList])
  have c7 := hz _ (show chkNode n.node ∈ chkList n by simp [chkList])
  have hn : isName n.name = true ∧ nameOr n.owner = true := by
    unfold chkNames at c0
    split at c0
    · assumption
    · cases c0
  have hd : nameOr n.node = true := by
    unfold chkNode at c7
    split at c7
    · assumption
    · cases c7
  obtain ⟨o1, o2⟩ := opt_told hn.2
  obtain ⟨p1, p2⟩ := prio_told c1
  obtain ⟨s1, s2⟩ := spread_told c6
  obtain ⟨d1, d2⟩ := opt_told hd
  obtain ⟨k1, k2⟩ := kind_told n.hold
  have hb : ∀ p : List UInt8, (bytes p).data.toList = p := fun p => by simp [bytes]
  have he : (textPd n).data.toList = n.name.data.toList ++ 32 :: ((optT n.owner).data.toList ++ 32 :: (Lib.itoa n.prio ++ 32 :: (Vec.textV n.need ++ 32 :: ((textS n.labels).data.toList ++ 32 :: ((textL n.sel).data.toList ++ 32 :: ((textO n.tols).data.toList ++ 32 :: ((spreadT n.key n.most).data.toList ++ 32 :: ((optT n.node).data.toList ++ 32 :: (kindW n.hold).data.toList)))))))) := by
    unfold textPd wordsT
    rw [join_ten]
    simp [ByteArray.data_append, bytes]
  refine ⟨n.name.data.toList, (optT n.owner).data.toList, Lib.itoa n.prio, Vec.textV n.need, (textS n.labels).data.toList, (textL n.sel).data.toList, (textO n.tols).data.toList, (spreadT n.key n.most).data.toList, (optT n.node).data.toList, (kindW n.hold).data.toList, ?_, (bytes_data _).symm, o1, p1, Vec.text_told c2 hf, text_told c3, selText_told c4, textO_told c5, s1, d1, k1⟩
  rw [he, at_app _ _ (name_sp hn.1), at_app _ _ o2, at_app _ _ p2, at_app _ _ (vec_sp c2), at_app _ _ (lab_sp c3), at_app _ _ (sel_sp c4), at_app _ _ (tol_sp c5), at_app _ _ s2, at_app _ _ d2, at_clean k2]
end Go.Proofs.YtflllkpnkcmegaaGreatDoor
