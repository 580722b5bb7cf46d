/- Clusters: what the reference puts, drops, moves, in plain words; in order it is the same. -/
import Derived.Test.YtfpgekjhcfoohaaGreatStD
set_option linter.unusedVariables false
namespace Go.Proofs.YtfpgekjhcfoohaaGreat
open Go.RowKit
def lowP (x : ByteArray) : List Pd → Nat
 | [] => 0
 | q :: t => if ltS q.name x = true then lowP x t + 1 else 0
def hitP (x : ByteArray) (l : List Pd) (k : Nat) : Nat := match l[k]? with | none => 0 | some q => if eqS q.name x = true then 1 else 0
def rputP (p : Pd) (l : List Pd) : List Pd := l.take (lowP p.name l) ++ p :: l.drop (lowP p.name l + hitP p.name l (lowP p.name l))
def rdropP (x : ByteArray) (l : List Pd) : List Pd := l.filter fun p => !eqS p.name x
def rmoveP (x y : ByteArray) (l : List Pd) : List Pd := l.map fun p => if eqS p.name x = true then { p with node := y } else p
theorem lowP_le (x : ByteArray) : ∀ l : List Pd, lowP x l ≤ l.length
 | [] => Nat.le_refl _
 | q :: t => by
  have := lowP_le x t
  rw [lowP]
  split
  · rw [List.length_cons]; omega
  · exact Nat.zero_le _
theorem lowP_step {x : ByteArray} : ∀ {l : List Pd} {k : Nat} {q : Pd}, l[k]? = some q → k ≤ lowP x l → (ltS q.name x = true → k + 1 ≤ lowP x l) ∧ (ltS q.name x = false → lowP x l = k)
 | r :: t, 0, q, h, hk => by
  obtain rfl : r = q := by simpa using h
  rw [lowP]
  constructor
  · intro e; rw [if_pos e]; omega
  · intro e; rw [if_neg (by rw [e]; decide)]
 | r :: t, k + 1, q, h, hk => by
  rw [lowP] at hk ⊢
  split at hk
  · rename_i e
    rw [if_pos e]
    have := lowP_step (x := x) (l := t) (k := k) (q := q) (by simpa using h) (by omega)
    exact ⟨fun e => by have := this.1 e; omega, fun e => by have := this.2 e; omega⟩
  · omega
theorem hitP_at {x : ByteArray} {l : List Pd} {k : Nat} {q : Pd} (h : l[k]? = some q) : hitP x l k = if eqS q.name x = true then 1 else 0 := by unfold hitP; rw [h]
theorem hitP_end {x : ByteArray} {l : List Pd} {k : Nat} (h : l.length ≤ k) : hitP x l k = 0 := by unfold hitP; rw [List.getElem?_eq_none h]
theorem rput_asc {p : Pd} : ∀ {l : List Pd}, Asc l → rputP p l = insP p (dropP p.name l)
 | [], _ => rfl
 | q :: t, h => by
  obtain ⟨h1, h2⟩ := List.pairwise_cons.1 h
  have ih := rput_asc (p := p) h2
  unfold rputP at ih ⊢
  cases e : ltS q.name p.name with
  | true =>
   have hk : lowP p.name (q :: t) = lowP p.name t + 1 := by rw [lowP, if_pos e]
   have hh : hitP p.name (q :: t) (lowP p.name t + 1) = hitP p.name t (lowP p.name t) := by unfold hitP; rw [List.getElem?_cons_succ]
   have hn : ¬ eqS q.name p.name = true := fun g => Vec.lt_ne e (eqS_iff.1 g)
   rw [hk, hh, dropP, if_neg hn, insP, if_neg (fun g => Vec.lt_asymm' g e), ← ih, List.take_succ_cons, show lowP p.name t + 1 + hitP p.name t (lowP p.name t) = (lowP p.name t + hitP p.name t (lowP p.name t)) + 1 by omega, List.drop_succ_cons]
   rfl
  | false =>
   have hk : lowP p.name (q :: t) = 0 := by rw [lowP, if_neg (by rw [e]; decide)]
   rw [hk]
   by_cases g : eqS q.name p.name = true
   · have hh : hitP p.name (q :: t) 0 = 1 := by unfold hitP; rw [List.getElem?_cons_zero]; dsimp only; rw [if_pos g]
     rw [hh, dropP, if_pos g]
     cases t with
     | nil => rfl
     | cons r u =>
      have hr := h1 r (List.mem_cons_self ..)
      rw [eqS_iff.1 g] at hr
      rw [insP, if_pos hr]
      rfl
   · have hh : hitP p.name (q :: t) 0 = 0 := by unfold hitP; rw [List.getElem?_cons_zero]; dsimp only; rw [if_neg g]
     have hlt : ltS p.name q.name = true := by
      cases c : ltS p.name q.name with
      | true => rfl
      | false => exact absurd (eqS_iff.2 (Vec.lt_tri' e c)) g
     rw [hh, drop_non (x := p.name) (l := q :: t) (fun r hr => by
      rcases List.mem_cons.1 hr with rfl | hr
      · exact fun c => g (eqS_iff.2 c)
      · exact fun c => Vec.lt_ne (Vec.lt_trans' hlt (h1 r hr)) c.symm), insP, if_pos hlt]
     rfl
theorem rdrop_asc {x : ByteArray} : ∀ {l : List Pd}, Asc l → rdropP x l = dropP x l
 | [], _ => rfl
 | q :: t, h => by
  obtain ⟨h1, h2⟩ := List.pairwise_cons.1 h
  have ih := rdrop_asc (x := x) h2
  unfold rdropP at ih ⊢
  by_cases e : eqS q.name x = true
  · rw [dropP, if_pos e, List.filter_cons_of_neg (by rw [e]; decide)]
    refine List.filter_eq_self.2 fun r hr => ?_
    have hlt := Vec.lt_ne (h1 r hr)
    cases g : eqS r.name x with
    | false => rfl
    | true => exact absurd ((eqS_iff.1 e).trans (eqS_iff.1 g).symm) hlt
  · rw [dropP, if_neg e, List.filter_cons_of_pos (by simpa using e), ih]
theorem rmove_asc {x y : ByteArray} : ∀ {l : List Pd}, Asc l → rmoveP x y l = moveP x y l
 | [], _ => rfl
 | q :: t, h => by
  obtain ⟨h1, h2⟩ := List.pairwise_cons.1 h
  have ih := rmove_asc (x := x) (y := y) h2
  unfold rmoveP at ih ⊢
  rw [List.map_cons]
  by_cases e : eqS q.name x = true
  · rw [moveP, if_pos e, if_pos e]
    congr 1
    refine (List.map_congr_left (g := id) fun r hr => ?_).trans (List.map_id _)
    have hlt := Vec.lt_ne (h1 r hr)
    rw [if_neg (fun g => hlt ((eqS_iff.1 e).trans (eqS_iff.1 g).symm))]
    rfl
  · rw [moveP, if_neg e, if_neg e, ih]
def rputSt (s : Clu) (p : Pd) : Clu := { s with pods := rputP p s.pods }
def rdropSt (s : Clu) (x : ByteArray) : Clu := { s with pods := rdropP x s.pods }
def rmoveSt (s : Clu) (x y : ByteArray) : Clu := { s with pods := rmoveP x y s.pods }
theorem rputSt_asc {s : Clu} (h : Asc s.pods) (p : Pd) : rputSt s p = putSt s p := by unfold rputSt putSt; rw [rput_asc h]
theorem rdropSt_asc {s : Clu} (h : Asc s.pods) (x : ByteArray) : rdropSt s x = dropSt s x := by unfold rdropSt dropSt; rw [rdrop_asc h]
theorem rmoveSt_asc {s : Clu} (h : Asc s.pods) (x y : ByteArray) : rmoveSt s x y = moveSt s x y := by unfold rmoveSt moveSt; rw [rmove_asc h]
theorem move_len (x y : ByteArray) : ∀ l : List Pd, (moveP x y l).length = l.length
 | [] => rfl
 | p :: t => by
  rw [moveP]
  split
  · rfl
  · rw [List.length_cons, move_len x y t, List.length_cons]
theorem move_mem {x y : ByteArray} : ∀ {l : List Pd} {q : Pd}, q ∈ moveP x y l → q ∈ l ∨ ∃ p ∈ l, q = { p with node := y }
 | p :: t, q, h => by
  rw [moveP] at h
  split at h
  · rcases List.mem_cons.1 h with rfl | h
    · exact .inr ⟨p, List.mem_cons_self .., rfl⟩
    · exact .inl (List.mem_cons_of_mem _ h)
  · rcases List.mem_cons.1 h with rfl | h
    · exact .inl (List.mem_cons_self ..)
    · rcases move_mem h with h | ⟨p, hp, e⟩
      · exact .inl (List.mem_cons_of_mem _ h)
      · exact .inr ⟨p, List.mem_cons_of_mem _ hp, e⟩
theorem LowPd.moved {p : Pd} (h : LowPd p) (y : ByteArray) : LowPd { p with node := y } := ⟨h.need, h.labels, h.sel, h.tols⟩
theorem move_low {s : Clu} (h : LowClu s) (x y : ByteArray) : LowClu (moveSt s x y) :=
 ⟨h.nodes, fun q hq => by
  rcases move_mem hq with hq | ⟨p, hp, rfl⟩
  · exact h.pods q hq
  · exact (h.pods p hp).moved y, h.buds, h.nodesN, by
  have := move_len x y s.pods
  have h2 := h.podsN
  show (moveP x y s.pods).length ≤ _
  omega, h.budsN⟩
end Go.Proofs.YtfpgekjhcfoohaaGreat
