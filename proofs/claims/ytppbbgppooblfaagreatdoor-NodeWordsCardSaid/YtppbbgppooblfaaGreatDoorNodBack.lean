/- What is parsed as a node is told just so. -/
import Derived.Test.YtppbbgppooblfaaGreatDoorNodRefParse
import Derived.Test.YtppbbgppooblfaaGreatDoorNodA
import Derived.Test.YtppbbgppooblfaaGreatDoorLab
import Derived.Test.YtppbbgppooblfaaGreatDoorTai
import Derived.Test.YtppbbgppooblfaaGreatDoorResC
namespace Go.Proofs.YtppbbgppooblfaaGreatDoor
open Go.RowKit
set_option linter.unusedVariables false

def joinC (c : UInt8) : List (List UInt8) → List UInt8
  | [] => []
  | [x] => x
  | x :: y :: t => x ++ c :: joinC c (y :: t)
theorem joinC_head (c b : UInt8) (p : List UInt8) : ∀ q : List (List UInt8), joinC c ((b :: p) :: q) = b :: joinC c (p :: q)
  | [] => rfl
  | y :: t => rfl
theorem joinC_parts (c : UInt8) : ∀ s : List UInt8, joinC c (partsAt c s) = s
  | [] => rfl
  | b :: t => by
    have ih := joinC_parts c t
    have hne := partsAt_ne c t
    unfold partsAt
    by_cases h : b = c
    · rw [if_pos h]
      cases hp : partsAt c t with
      | nil => exact absurd hp hne
      | cons p q =>
        rw [hp] at ih
        show [] ++ c :: joinC c (p :: q) = b :: t
        rw [ih, h]; rfl
    · rw [if_neg h]
      cases hp : partsAt c t with
      | nil => exact absurd hp hne
      | cons p q =>
        rw [hp] at ih
        show joinC c ((b :: p) :: q) = b :: t
        rw [joinC_head, ih]
theorem parse_made {s : List UInt8} (h : (parseN s).1 = 0) : ∃ a b c d e, partsAt 32 s = [a, b, c, d, e] ∧ lastOk e = true ∧ (Vec.parseV b).1 = 0 ∧ (parsedP c).1 = 0 ∧ (parsedA d).1 = 0 ∧ (parseN s).2 = madeNod a b c d e ∧ chkNod (madeNod a b c d e) = 0 ∧ ∀ p ∈ [a, b, c, d, e], p.length ≤ s.length := by
  by_cases h5 : (partsAt 32 s).length = 5
  · obtain ⟨a, b, c, d, e, hp⟩ := parts_five h5
    cases hl : lastOk e with
    | false =>
      have : parseN s = (2, Nod.zero) := by unfold parseN; rw [words_no hp hl]
      rw [this] at h; cases h
    | true =>
      have e0 : parseN s = fiveR a b c d e := by unfold parseN; rw [words_of hp hl]
      refine ⟨a, b, c, d, e, hp, hl, ?_⟩
      rw [e0] at h ⊢
      unfold fiveR at h ⊢
      by_cases z1 : (Vec.parseV b).1 = 0
      · rw [if_neg (fun g => g z1)] at h ⊢
        by_cases z2 : (parsedP c).1 = 0
        · rw [if_neg (fun g => g z2)] at h ⊢
          by_cases z3 : (parsedA d).1 = 0
          · rw [if_neg (fun g => g z3)] at h ⊢
            by_cases z4 : chkNod (madeNod a b c d e) = 0
            · rw [if_neg (fun g => g z4)] at h ⊢
              exact ⟨z1, z2, z3, rfl, z4, parts_sub hp hl⟩
            · rw [if_pos z4] at h; exact absurd h z4
          · rw [if_pos z3] at h; exact absurd h z3
        · rw [if_pos z2] at h; exact absurd h z2
      · rw [if_pos z1] at h; exact absurd h z1
  · have : parseN s = (2, Nod.zero) := by unfold parseN wordsL; rw [if_neg (fun g => h5 g.1)]
    rw [this] at h; cases h
theorem last_back {e : List UInt8} (h : lastOk e = true) : lastB (e == cordonL) = bytes e := by
  unfold lastOk at h
  rw [Bool.or_eq_true] at h
  rcases h with h | h
  · have : e = upL := beq_iff_eq.1 h
    rw [this]; rfl
  · have : e = cordonL := beq_iff_eq.1 h
    rw [this]; rfl
theorem textN_back {s : List UInt8} (h : (parseN s).1 = 0) : textN (parseN s).2 = bytes s := by
  obtain ⟨a, b, c, d, e, hp, hl, z1, z2, z3, hm, -, -⟩ := parse_made h
  rw [hm]
  have hj := joinC_parts 32 s
  rw [hp] at hj
  unfold textN madeNod
  dsimp only
  rw [Vec.text_back b z1, text_back z2, textA_back z3, last_back hl, ← hj]
  apply Go.WideShapes.bytes_inj
  simp [bytes, ByteArray.data_append, joinC]
theorem low_parse (s : List UInt8) (hs : s.length ≤ 1000) : LowNod (parseN s).2 := by
  by_cases h : (parseN s).1 = 0
  · obtain ⟨a, b, c, d, e, hp, hl, z1, z2, z3, hm, -, -⟩ := parse_made h
    rw [hm]
    exact ⟨by have := Vec.check_len (Vec.parse_check z1); show (Vec.parseV b).2.length ≤ _; omega, by have := parsedG_len (bad := pairBad) (f := pairL) (chk := chkS) c; show (parsedG pairBad pairL chkS c).2.length ≤ _; omega, by have := parsedG_len (bad := readABad) (f := readA) (chk := chkA) d; show (parsedG readABad readA chkA d).2.length ≤ _; omega⟩
  · rw [parseN_none h]
    exact ⟨by decide, by decide, by decide⟩
theorem mid_parse {s : List UInt8} (hs : s.length ≤ 1000) (h : (parseN s).1 = 0) (hf : Vec.Fine (parseN s).2.cap) : MidNod (parseN s).2 := by
  have hlow := low_parse s hs
  obtain ⟨a, b, c, d, e, hp, hl, z1, z2, z3, hm, -, hlen⟩ := parse_made h
  have ha := hlen a (by simp)
  have hc := hlen c (by simp)
  have hd := hlen d (by simp)
  rw [hm] at hf hlow ⊢
  refine ⟨?_, Vec.few_check (Vec.parse_check z1) hf, ⟨hlow.labels, parsedP_mid (by omega)⟩, ⟨hlow.taints, parsedA_mid (by omega)⟩⟩
  show (bytes a).size ≤ 1000000
  rw [bytes_size]; omega

end Go.Proofs.YtppbbgppooblfaaGreatDoor
