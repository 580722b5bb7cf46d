/- Clusters: what is in use, left, all in all, on a node: of all that reads so. -/
import Derived.Test.YtfpgekjhcfoohabGreatStA
import Derived.Test.YtfpgekjhcfoohabGreatStE
import Derived.Test.YtfpgekjhcfoohabGreatStD
import Derived.Test.YtfpgekjhcfoohabGreatStC
import Derived.Deep.RegionHeld3
namespace Go.Proofs.YtfpgekjhcfoohabGreat
open Go.RowKit
set_option linter.unusedVariables false

theorem merged_len (f : Int → Int → Int × Int) (l m : Vec.V) : (Vec.mergedV f l m).2.length ≤ 8 := by
  unfold Vec.mergedV
  split
  · exact Nat.zero_le _
  · split
    · exact Nat.zero_le _
    · dsimp only
      split
      · exact Nat.zero_le _
      · split
        · exact Nat.zero_le _
        · dsimp only; omega
theorem useV_len {x : ByteArray} : ∀ {l : List Pd} {v : Vec.V}, v.length ≤ 8 → (useV x l v).2.length ≤ 8
  | [], v, h => h
  | p :: t, v, h => by
    rw [useV]
    split
    · split
      · exact useV_len (merged_len _ _ _)
      · exact Nat.zero_le _
    · exact useV_len h
theorem totV_len : ∀ {l : List Nod} {v : Vec.V}, v.length ≤ 8 → (totV l v).2.length ≤ 8
  | [], v, h => h
  | p :: t, v, h => by
    rw [totV]
    split
    · exact totV_len (merged_len _ _ _)
    · exact Nat.zero_le _
theorem usedSt_len (s : Clu) (x : ByteArray) : (usedSt s x).2.length ≤ 8 := by
  unfold usedSt
  split
  · exact Nat.zero_le _
  · exact useV_len (Nat.zero_le _)
theorem freeSt_len (s : Clu) (x : ByteArray) : (freeSt s x).2.length ≤ 8 := by
  unfold freeSt
  split
  · exact Nat.zero_le _
  · split
    · exact merged_len _ _ _
    · exact Nat.zero_le _
theorem totalSt_len (s : Clu) : (totalSt s).2.length ≤ 8 := totV_len (Nat.zero_le _)
theorem done_told {r : Int × Vec.V} {w w' : World} {e : Ending} (h : Vec.Done r w e w') : RVec r w e w' := by
  obtain ⟨v, e, h, k⟩ := h
  exact ⟨v, e, h.at_, k⟩
theorem usedR {v : Value} {s : Clu} {w : World} (h : CluR w v s) (x : ByteArray) (hl : LowClu s) : Calls Tryz.prog 11 #[v, .string x] w (RVec (usedSt s x) w) := by
  obtain ⟨v1, v2, v3, rfl, ⟨a, cap, rfl, l1, m1, h1⟩, ⟨b, cp, rfl, l2, m2, h2⟩, ⟨d, cb, rfl, l3, m3, h3⟩⟩ := h
  exact (usedF_any a b d _ cap _ cp _ cb s.nodes s.pods x w h1 h2 hl.nodes).mono fun _ _ h => done_told h
theorem freeR {v : Value} {s : Clu} {w : World} (h : CluR w v s) (x : ByteArray) (hl : LowClu s) : Calls Tryz.prog 15 #[v, .string x] w (RVec (freeSt s x) w) := by
  obtain ⟨v1, v2, v3, rfl, ⟨a, cap, rfl, l1, m1, h1⟩, ⟨b, cp, rfl, l2, m2, h2⟩, ⟨d, cb, rfl, l3, m3, h3⟩⟩ := h
  exact (freeF_any a b d _ cap _ cp _ cb s.nodes s.pods x w h1 h2 hl.nodes).mono fun _ _ h => done_told h
theorem totalR {v : Value} {s : Clu} {w : World} (h : CluR w v s) : Calls Tryz.prog 17 #[v] w (RVec (totalSt s) w) := by
  obtain ⟨v1, v2, v3, rfl, ⟨a, cap, rfl, l1, m1, h1⟩, ⟨b, cp, rfl, l2, m2, h2⟩, ⟨d, cb, rfl, l3, m3, h3⟩⟩ := h
  exact (totalF_any a b d _ cap _ cp _ cb s.nodes s.pods w h1).mono fun _ _ h => done_told h
theorem onR {v : Value} {s : Clu} {w : World} (h : CluR w v s) (x : ByteArray) (hl : LowClu s) : Calls Tryz.prog 19 #[v, .string x] w fun e w' => ∃ y, e = .returned y ∧ PodsR w' y (onP x s.pods) ∧ Kept w w' := by
  obtain ⟨v1, v2, v3, rfl, ⟨a, cap, rfl, l1, m1, h1⟩, ⟨b, cp, rfl, l2, m2, h2⟩, ⟨d, cb, rfl, l3, m3, h3⟩⟩ := h
  exact onSt_any b a d _ cp _ cap _ cb s.pods x w h2 hl.pods hl.podsN
theorem ofVR {v : Value} {l : Vec.V} {w : World} (h : Vec.Reads w v l) (hf : l.length ≤ 8) : Calls Tryz.prog 14 #[v] w fun e w' => ∃ y, e = .returned y ∧ Vec.Reads w' y l ∧ Kept w w' := by
  refine (ofVO h (by omega)).mono ?_
  rintro e w' ⟨x, he, ho, k⟩
  exact ⟨x, he, ho.at_, k⟩
theorem sameVecR {v v' : Value} {l l' : Vec.V} {c : Bool} {w : World} (h : Vec.Reads w v l) (h' : Vec.Reads w v' l') (hc : Vec.sameFrom l l' = c) : Calls Tryz.prog 13 #[v, v'] w (Say (.bool c) w) := by
  subst hc
  obtain ⟨a, cap, rfl, -, -, h3⟩ := h
  obtain ⟨a', cap', rfl, -, -, h3'⟩ := h'
  exact Vec.rsame_any a a' _ cap _ cap' l l' w h3 h3'
theorem sameFrom_self : ∀ l : Vec.V, Vec.sameFrom l l = true
  | [] => rfl
  | x :: t => by
    unfold Vec.sameFrom
    rw [sameFrom_self t]
    simp [eqS_self]

end Go.Proofs.YtfpgekjhcfoohabGreat
