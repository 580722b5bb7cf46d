/- Clusters: what the reference puts, drops, moves, in plain words; in order it is the same. -/
import Derived.Test.YtfpgekjhcfoohabGreatStD
namespace Go.Proofs.YtfpgekjhcfoohabGreat
open Go.RowKit
set_option linter.unusedVariables false

def rmoveP (x y : ByteArray) (l : List Pd) : List Pd := l.map fun p => if eqS p.name x = true then { p with node := y } else p
theorem rmove_asc {x y : ByteArray} : ∀ {l : List Pd}, Asc l → rmoveP x y l = moveP x y l
  | [], _ => rfl
  | q :: t, h => by
    obtain ⟨h1, h2⟩ := List.pairwise_cons.1 h
    have ih := rmove_asc (x := x) (y := y) h2
    unfold rmoveP at ih ⊢
    rw [List.map_cons]
    by_cases e : eqS q.name x = true
    · rw [moveP, if_pos e, if_pos e]
      congr 1
      refine (List.map_congr_left (g := id) fun r hr => ?_).trans (List.map_id _)
      have hlt := Vec.lt_ne (h1 r hr)
      rw [if_neg (fun g => hlt ((eqS_iff.1 e).trans (eqS_iff.1 g).symm))]
      rfl
    · rw [moveP, if_neg e, if_neg e, ih]
theorem move_len (x y : ByteArray) : ∀ l : List Pd, (moveP x y l).length = l.length
  | [] => rfl
  | p :: t => by
    rw [moveP]
    split
    · rfl
    · rw [List.length_cons, move_len x y t, List.length_cons]
theorem move_mem {x y : ByteArray} : ∀ {l : List Pd} {q : Pd}, q ∈ moveP x y l → q ∈ l ∨ ∃ p ∈ l, q = { p with node := y }
  | p :: t, q, h => by
    rw [moveP] at h
    split at h
    · rcases List.mem_cons.1 h with rfl | h
      · exact .inr ⟨p, List.mem_cons_self .., rfl⟩
      · exact .inl (List.mem_cons_of_mem _ h)
    · rcases List.mem_cons.1 h with rfl | h
      · exact .inl (List.mem_cons_self ..)
      · rcases move_mem h with h | ⟨p, hp, e⟩
        · exact .inl (List.mem_cons_of_mem _ h)
        · exact .inr ⟨p, List.mem_cons_of_mem _ hp, e⟩
theorem LowPd.moved {p : Pd} (h : LowPd p) (y : ByteArray) : LowPd { p with node := y } := ⟨h.need, h.labels, h.sel, h.tols⟩
theorem move_low {s : Clu} (h : LowClu s) (x y : ByteArray) : LowClu (moveSt s x y) :=
  ⟨h.nodes, fun q hq => by
    rcases move_mem hq with hq | ⟨p, hp, rfl⟩
    · exact h.pods q hq
    · exact (h.pods p hp).moved y, h.buds, h.nodesN, by
    have := move_len x y s.pods
    have h2 := h.podsN
    show (moveP x y s.pods).length ≤ _
    omega, h.budsN⟩

end Go.Proofs.YtfpgekjhcfoohabGreat
