/- The reference's Split: a text's parts, between a byte. -/
import Derived.Test.YtmmjcomoabfmnaaDoorGJoin
import Derived.Test.YtmmjcomoabfmnaaDoorLabParsedB
namespace Go.Proofs.YtmmjcomoabfmnaaDoor
open Go.RowKit
set_option linter.unusedVariables false

/-- A text's parts between c. -/
def partsAt (c : UInt8) : List UInt8 → List (List UInt8)
  | [] => [[]]
  | b :: t => if b = c then [] :: partsAt c t else match partsAt c t with
      | [] => [[b]]
      | p :: ps => (b :: p) :: ps
theorem partsAt_comma : ∀ l, partsAt 44 l = partsOf l
  | [] => rfl
  | b :: t => by rw [partsAt, partsOf, partsAt_comma t]; rfl
theorem partsAt_ne (c : UInt8) (l : List UInt8) : partsAt c l ≠ [] := by
  cases l with
  | nil => simp [partsAt]
  | cons b t => unfold partsAt; split; simp; split <;> simp
theorem partsAt_cut (c : UInt8) : ∀ (t : List UInt8), partsAt c (t ++ [c]) = partsAt c t ++ [[]]
  | [] => by simp [partsAt]
  | b :: t => by
    rw [List.cons_append, partsAt, partsAt, partsAt_cut c t]
    split
    · rfl
    · cases h : partsAt c t with
      | nil => exact absurd h (partsAt_ne c t)
      | cons p ps => rfl
theorem partsAt_more (c b : UInt8) (hb : b ≠ c) : ∀ (t : List UInt8) (q : List (List UInt8)) (z : List UInt8), partsAt c t = q ++ [z] → partsAt c (t ++ [b]) = q ++ [z ++ [b]]
  | [], q, z, h => by
    have : q = [] ∧ z = [] := by
      cases q with
      | nil => simpa [partsAt] using h.symm
      | cons x q => simp [partsAt] at h
    obtain ⟨rfl, rfl⟩ := this
    simp [partsAt, hb]
  | d :: t, q, z, h => by
    obtain ⟨q', z', hq⟩ : ∃ q' z', partsAt c t = q' ++ [z'] := ⟨_, _, (List.dropLast_concat_getLast (partsAt_ne c t)).symm⟩
    have ih := partsAt_more c b hb t q' z' hq
    rw [List.cons_append, partsAt, ih]
    rw [partsAt, hq] at h
    split
    · rename_i e
      rw [if_pos e] at h
      have : q = [] :: q' ∧ z = z' := by
        have h' : ([] :: q') ++ [z'] = q ++ [z] := h
        have := List.append_inj' h' rfl
        exact ⟨this.1.symm, by simpa using this.2.symm⟩
      obtain ⟨rfl, rfl⟩ := this
      rfl
    · rename_i e
      rw [if_neg e] at h
      cases q' with
      | nil =>
        have h' : [] ++ [d :: z'] = q ++ [z] := h
        have := List.append_inj' h' rfl
        obtain ⟨h1, h2⟩ := this
        subst h1
        have : z = d :: z' := by simpa using h2.symm
        subst this
        rfl
      | cons p ps =>
        have h' : ((d :: p) :: ps) ++ [z'] = q ++ [z] := h
        have := List.append_inj' h' rfl
        obtain ⟨h1, h2⟩ := this
        subst h1
        have : z = z' := by simpa using h2.symm
        subst this
        rfl

/-- As texts. -/
def splitB (c : UInt8) (s : List UInt8) : List ByteArray := (partsAt c s).map bytes
theorem splitB_len (c : UInt8) : ∀ s : List UInt8, (splitB c s).length ≤ s.length + 1
  | [] => by simp [splitB, partsAt]
  | b :: t => by
    have ih := splitB_len c t
    unfold splitB at ih ⊢
    rw [partsAt]
    rw [List.length_map] at ih ⊢
    split
    · simp; omega
    · cases h : partsAt c t with
      | nil => simp
      | cons p ps => rw [h] at ih; simp at ih ⊢; omega
theorem splitB_cut (c : UInt8) (t : List UInt8) : splitB c (t ++ [c]) = splitB c t ++ [⟨#[]⟩] := by unfold splitB; rw [partsAt_cut, List.map_append]; rfl
theorem bytes_snoc (z : List UInt8) (b : UInt8) : bytes (z ++ [b]) = bytes z ++ ⟨#[b]⟩ := by
  apply Go.WideShapes.bytes_inj
  simp [bytes, ByteArray.data_append]
theorem partAt_len (c : UInt8) : ∀ (s : List UInt8) (p : List UInt8), p ∈ partsAt c s → p.length ≤ s.length
  | [], p, h => by
    have : p = [] := by simpa [partsAt] using h
    subst this; simp
  | b :: t, p, h => by
    rw [partsAt] at h
    split at h
    · rcases List.mem_cons.1 h with rfl | h
      · simp
      · have := partAt_len c t p h; simp; omega
    · cases hp : partsAt c t with
      | nil => exact absurd hp (partsAt_ne c t)
      | cons q qs =>
        rw [hp] at h
        rcases List.mem_cons.1 h with rfl | h
        · have := partAt_len c t q (by rw [hp]; simp); simp; omega
        · have := partAt_len c t p (by rw [hp]; simp [h]); simp; omega
theorem splitB_fine {c : UInt8} {s : List UInt8} (hs : s.length ≤ 1000000) : ∀ x ∈ splitB c s, StrLay.fine x := by
  intro x hx
  obtain ⟨p, hp, rfl⟩ := List.mem_map.1 hx
  have := partAt_len c s p hp
  show (bytes p).size ≤ maxLen
  rw [bytes_size]; unfold maxLen; omega

theorem row_set {A : List ByteArray} {m : Nat} {x v : ByteArray} (h : A.length = m) : (rowCells StrLay (A ++ [x])).set m (.string v) = rowCells StrLay (A ++ [v]) := by
  rw [rowCells_append, rowCells_append]
  have e : (rowCells StrLay A).length = m := by rw [rowCells_length, h]; exact Nat.mul_one m
  rw [List.set_append_right _ _ (by omega), e, Nat.sub_self]; rfl
theorem own_lit (w : World) (x : ByteArray) (hx : x.size ≤ maxLen) : Own StrLay 9 (w.alloc (.cells #[.string x] 9)) w.heap.size (.slice (some ⟨w.heap.size, 0, none⟩) 1 1) [x] :=
  ⟨⟨rfl, .inr ⟨w.heap.size, 1, #[.string x], rfl, Nat.le_refl _, World.alloc_heap_new w _, Nat.le_refl _, by decide, rfl, rfl⟩⟩, fun z hz => by
    have : z = x := by simpa using hz
    rw [this]; exact hx⟩

set_option maxRecDepth 100000 in
set_option maxHeartbeats 1600000 in
theorem refSplit_any (c : UInt8) (s : List UInt8) (w : World) (hs : s.length ≤ 1000000) :
    Calls Tryd.prog 48 #[.string (bytes s), .int .u8 (c.toNat : Int)] w (fun e w' => ∃ v, e = .returned v ∧ Own StrLay 9 w' w.heap.size v (splitB c s) ∧ Kept w w') := by
  have hsz : (bytes s).size = s.length := bytes_size s
  have HSZ := Lib.hid hsz
  have hlen : (bytes s).size ≤ 1000000 := by omega
  obtain ⟨i0, hi, hz0, hz1, hz2⟩ := info_parts strInfo
  go_enter Tryd.func48, Tryd.ntmps48
  go_wp2
  go_loopw [5, 6] (fun v i wr => ∃ k : Nat, k ≤ s.length ∧ i = .int .i64 k ∧ Own StrLay 9 wr w.heap.size v (splitB c (s.take k)) ∧ Kept w wr) (fun _ i _ => s.length - (intOf i).toNat)
  case atStart => exact ⟨0, Nat.zero_le _, rfl, own_lit w _ (by decide), kept_alloc _ _⟩
  case round =>
    obtain ⟨k, hk, rfl, ho, hB⟩ := hrel
    have HO := Lib.hid ho
    have HB := Lib.hid hB
    have hbs : w.heap.size ≤ wr.heap.size := hB.size
    by_cases hlt : k < s.length
    · have hlt' : k < (bytes s).size := by omega
      have hsk : s[k]? = some s[k] := List.getElem?_eq_getElem hlt
      have HSK := Lib.hid (show s.take (k + 1) = s.take k ++ [s[k]] from take_snoc hsk)
      have hbk : (bytes s)[k] = s[k] := by
        simp [bytes, ByteArray.getElem_eq_getElem_data]
        rfl
      obtain ⟨b, hb⟩ : ∃ b, s[k] = b := ⟨_, rfl⟩
      rw [hb] at HSK hbk
      obtain ⟨n, hn⟩ : ∃ n, (splitB c (s.take k)).length = n := ⟨_, rfl⟩
      have hn6 : n ≤ 1000001 := by have := splitB_len c (s.take k); rw [List.length_take] at this; omega
      have HN := Lib.hid hn
      clear ho hB hsk hb hn
      by_cases hbc : b = c
      · have e1 : (((bytes s)[k].toNat : Int) == (c.toNat : Int)) = true := by rw [hbk, hbc]; exact beq_self_eq_true _
        have HOWN := Lib.hid (show wr.ownsRow w.heap.size 9 1 u5 n (rowCells StrLay (splitB c (s.take k))) by have := HO.out.1; rw [HN.out] at this; exact this)
        have HBC := Lib.hid hbc
        clear hbk hbc
        go_wp2_with (at_builtin; refine wpList_append_lies _ rfl (.tmp 19) (.tmp 20) _ rfl w.heap.size 9 i0 _ 1 16 Tryd.underlying72 hi hz0 hz1 hz2 rfl (by decide) u5 n (rowCells StrLay (splitB c (s.take k))) rfl (HOWN.out.alloc _) ⟨wr.heap.size, 0, none⟩ 1 1 [.string ⟨#[]⟩] rfl rfl (World.news_of_block (cs := #[.string ⟨#[]⟩]) (t := 9) (fr := (0, 0)) (wr.alloc_heap_new _)) (one_s _) (by decide) (by unfold maxLen; omega) (by omega) (by rw [World.size_alloc]; omega) (wr.heap.size + 1) (World.size_alloc _ _) ?_; intro g cap w21 hown1 hgrow hg hlt1; have HOWN1 := Lib.hid hown1; have K21 := Lib.hid ((HB.out.trans (kept_alloc wr (.cells #[.string ⟨#[]⟩] 9))).grown hgrow (by rw [World.size_alloc]; omega) (fun k hk => (HOWN.out.lt k hk).1)); clear hown1 hgrow hg hlt1)
        go_roundw
        case rel => exact ⟨k + 1, by omega, by go_num, by rw [HSK.out, HBC.out, splitB_cut]; exact Own.snoc HOWN1.out (by rw [HN.out]) HO.out.2 (Nat.zero_le _), K21.out⟩
        case measure => simp [intOf]; omega
      · have e1 : (((bytes s)[k].toNat : Int) == (c.toNat : Int)) = false := by
          rw [hbk]
          have : (b.toNat : Int) ≠ (c.toNat : Int) := fun e => hbc (UInt8.toNat.inj (by omega))
          simpa using this
        obtain ⟨q, z, hq⟩ : ∃ q z, partsAt c (s.take k) = q ++ [z] := ⟨_, _, (List.dropLast_concat_getLast (partsAt_ne c _)).symm⟩
        have HQ := Lib.hid hq
        have HNEXT := Lib.hid (show splitB c (s.take k ++ [b]) = q.map bytes ++ [bytes z ++ ⟨#[b]⟩] by unfold splitB; rw [partsAt_more c b hbc _ q z hq, List.map_append]; simp [bytes_snoc])
        have HCUR := Lib.hid (show splitB c (s.take k) = q.map bytes ++ [bytes z] by unfold splitB; rw [hq, List.map_append]; rfl)
        obtain ⟨m, hm⟩ : ∃ m, q.length = m := ⟨_, rfl⟩
        have HM := Lib.hid hm
        have hnm : n = m + 1 := by rw [← HN.out, HCUR.out]; simp [hm]
        subst hnm
        have hown := HO.out.1
        rw [HN.out] at hown
        obtain ⟨g, cap, rfl⟩ := ownsRow_succ hown
        rw [HCUR.out] at hown
        have hlast : (rowCells StrLay (q.map bytes ++ [bytes z]))[m]? = some (.string (bytes z)) := by
          rw [rowCells_append]
          have e : (rowCells StrLay (q.map bytes)).length = m := by rw [rowCells_length, List.length_map, hm]; exact Nat.mul_one m
          rw [List.getElem?_append_right (by omega), e, Nat.sub_self]; rfl
        have c1 := row_at hown hlast
        have z1 := hown.frozenAt m
        have hgb := (hown.lt g rfl).1
        have HOWN := Lib.hid hown
        have hex : (bytes s).extract k (k + 1) = ⟨#[b]⟩ := by
          apply Go.WideShapes.bytes_inj
          have e : ((bytes s).extract k (k + 1)).data.toList = (s.take (k + 1)).drop k := by
            simp [bytes, ByteArray.data_extract]
            rw [List.drop_take, show k + 1 - k = 1 by omega]
          rw [e, HSK.out, List.drop_append_of_le_length (by rw [List.length_take]; omega), List.drop_of_length_le (by rw [List.length_take]; omega)]; rfl
        have hzl : (bytes z).size ≤ 1000000 := by
          rw [bytes_size]
          have := partAt_len c (s.take k) z (by rw [hq]; simp)
          rw [List.length_take] at this; omega
        have hk1 : (k : Int) + 1 ≤ ((bytes s).size : Int) := by omega
        have hk2 : ((k : Int) + 1).toNat = k + 1 := by omega
        clear hm hq hlast hown hbk hbc
        go_wp2
        go_region
        go_wp2
        go_roundw
        case rel =>
          refine ⟨k + 1, by omega, by go_num, ⟨?_, ?_⟩, ?_⟩
          · have := (HOWN.out.stored m (.string (bytes z ++ ⟨#[b]⟩))).1.drew
            rw [row_set (by rw [List.length_map]; exact HM.out)] at this
            rw [HSK.out, HNEXT.out, List.length_append, List.length_map, HM.out]
            exact this
          · rw [HSK.out, HNEXT.out]
            intro y hy
            rcases List.mem_append.1 hy with h | h
            · exact HO.out.2 y (by rw [HCUR.out]; exact List.mem_append.2 (.inl h))
            · have : y = bytes z ++ ⟨#[b]⟩ := by simpa using h
              rw [this]
              show (bytes z ++ ⟨#[b]⟩).size ≤ maxLen
              rw [ByteArray.size_append]
              have : (⟨#[b]⟩ : ByteArray).size = 1 := rfl
              unfold maxLen; omega
          · exact ((Below.setCell HB.out (p := ⟨g, m, none⟩) hgb _)).drew
        case measure => simp [intOf]; omega
    · have HK := Lib.hid (show s.take k = s from List.take_of_length_le (by omega))
      clear ho hB
      go_wp2
      go_ret
      exact ⟨_, rfl, by have h := HO.out; rw [HK.out] at h; exact h, HB.out⟩

theorem splitR (c : UInt8) (s : List UInt8) (w : World) (hs : s.length ≤ 1000000) {v : Value} (hv : v = .int .u8 (c.toNat : Int)) :
    Calls Tryd.prog 48 #[.string (bytes s), v] w (fun e w' => ∃ v, e = .returned v ∧ Own StrLay 9 w' w.heap.size v (splitB c s) ∧ Kept w w') := by
  subst hv; exact refSplit_any c s w hs

end Go.Proofs.YtmmjcomoabfmnaaDoor
