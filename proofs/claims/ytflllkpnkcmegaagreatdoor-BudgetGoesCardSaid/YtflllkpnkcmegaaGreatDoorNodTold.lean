/- A node told, then parsed: the same. -/
import Derived.Test.YtflllkpnkcmegaaGreatDoorNodBack
import Derived.Test.YtflllkpnkcmegaaGreatDoorVecTold
import Derived.Test.YtflllkpnkcmegaaGreatDoorLab
namespace Go.Proofs.YtflllkpnkcmegaaGreatDoor
open Go.RowKit
set_option linter.unusedVariables false

theorem at_clean {c : UInt8} : ∀ {p : List UInt8}, c ∉ p → partsAt c p = [p]
  | [], _ => rfl
  | b :: t, h => by
    unfold partsAt
    rw [if_neg (by intro e; exact h (by simp [e])), at_clean (p := t) (by intro e; exact h (by simp [e]))]
theorem at_app {c : UInt8} : ∀ (x : List UInt8) (y : List UInt8), c ∉ x → partsAt c (x ++ c :: y) = x :: partsAt c y
  | [], y, _ => by
    rw [List.nil_append]
    show (if c = c then [] :: partsAt c y else _) = _
    rw [if_pos rfl]
  | b :: t, y, h => by
    rw [List.cons_append]
    show (if b = c then [] :: partsAt c (t ++ c :: y) else match partsAt c (t ++ c :: y) with
      | [] => [[b]]
      | p :: ps => (b :: p) :: ps) = (b :: t) :: partsAt c y
    rw [if_neg (by intro e; exact h (by simp [e])), at_app t y (by intro e; exact h (by simp [e]))]
theorem mem_join {b : UInt8} : ∀ {ts : List (List UInt8)}, b ∈ Lib.join ts [44] → b = 44 ∨ ∃ t ∈ ts, b ∈ t
  | [], h => by
    have e : Lib.join [] [44] = ([] : List UInt8) := rfl
    rw [e] at h; cases h
  | [p], h => by rw [Lib.join_one] at h; exact .inr ⟨p, by simp, h⟩
  | p :: q :: t, h => by
    rw [join_cons2] at h
    rcases List.mem_append.1 h with h | h
    · rcases List.mem_append.1 h with h | h
      · exact .inr ⟨p, by simp, h⟩
      · exact .inl (by simpa using h)
    · rcases mem_join h with h | ⟨z, hz, h⟩
      · exact .inl h
      · exact .inr ⟨z, by simp [hz], h⟩
theorem joinB_data (ts : List ByteArray) : (joinB ts).data.toList = Lib.join (ts.map fun x => x.data.toList) [44] := by
  unfold joinB
  rfl
theorem name_sp {x : ByteArray} (h : isName x = true) : (32 : UInt8) ∉ x.data.toList := fun e => absurd (name_bytes h _ e) (by decide)
theorem vec_sp {l : Vec.V} (h : Vec.checkV l = 0) : (32 : UInt8) ∉ Vec.textV l := by
  intro e
  by_cases h0 : l = []
  · subst h0
    exact absurd e (by decide)
  · rw [Vec.text_join h h0] at e
    rcases mem_join e with e | ⟨p, hp, e⟩
    · exact absurd e (by decide)
    · obtain ⟨x, hx, rfl⟩ := List.mem_map.1 hp
      have g := Vec.chk_parts h x hx
      unfold Vec.partOf at e
      rcases List.mem_append.1 e with e | e
      · exact name_sp g.1 e
      · rcases List.mem_cons.1 e with e | e
        · exact absurd e (by decide)
        · have hi : Lib.itoa x.2 = Lib.decDigits x.2.toNat := by
            have := g.2
            unfold Lib.itoa; rw [if_neg (by omega)]
          rw [hi] at e
          exact absurd (Vec.dd_clean e) (by decide)
theorem lab_sp {l : PL} (h : chkS l = 0) : (32 : UInt8) ∉ (textS l).data.toList := by
  intro e
  unfold textS at e
  by_cases h0 : l = []
  · rw [if_pos h0] at e
    exact absurd e (by decide)
  · rw [if_neg h0, joinB_data, List.map_map] at e
    rcases mem_join e with e | ⟨p, hp, e⟩
    · exact absurd e (by decide)
    · obtain ⟨x, hx, rfl⟩ := List.mem_map.1 hp
      have g := chk_names h x hx
      have e' : (32 : UInt8) ∈ (pairB x).data.toList := e
      unfold pairB at e'
      rw [mid_data] at e'
      rcases List.mem_append.1 e' with e | e
      · exact name_sp g.1 e
      · rcases List.mem_cons.1 e with e | e
        · exact absurd e (by decide)
        · exact name_sp g.2 e
end Go.Proofs.YtflllkpnkcmegaaGreatDoor
