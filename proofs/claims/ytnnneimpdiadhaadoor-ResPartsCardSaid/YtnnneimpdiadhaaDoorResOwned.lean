/- Names taken anew in a row of the call's own. -/
import Derived.Test.YtnnneimpdiadhaaDoorResAmount
import Derived.Test.YtnnneimpdiadhaaDoorGStr
namespace Go.Proofs.YtnnneimpdiadhaaDoor.Vec
open Go.RowKit
set_option linter.unusedVariables false

/-- What owned does. -/
def Owned (v : Value) (l : V) (base : Nat) (w : World) (e : Ending) (w' : World) : Prop := e = .returned v ∧ OwnV 38 w' base v l ∧ Below base w w'

theorem OwnV.same_name {e : TypeId} {w : World} {base g cap : Nat} {l : V} (h : OwnV e w base (.slice (some ⟨g, 0, none⟩) l.length cap) l) {k : Nat} (hk : k < l.length) :
    OwnV e (w.setCell ⟨g, k * 2, none⟩ (.string (nm l k))) base (.slice (some ⟨g, 0, none⟩) l.length cap) l := by
  refine ⟨?_, h.2⟩
  have := h.1.stored (k * 2) (.string (nm l k))
  have c := (cellsOf_at l k hk).1
  obtain ⟨hlt, he⟩ := List.getElem?_eq_some_iff.1 c
  rw [← he, List.set_getElem_self] at this
  rw [← he]
  exact this.1

set_option maxHeartbeats 800000 in
theorem owned_any (a : Option Addr) (cap base : Nat) (l : V) (w : World) (h : OwnV 38 w base (.slice a l.length cap) l) (hb : base ≤ w.heap.size) (hl : l.length ≤ 1000000) (hs : ∀ k, k < l.length → (nm l k).size ≤ 281474976710656) :
    Calls Tryd.prog 53 #[.slice a l.length cap] w (Owned (.slice a l.length cap) l base w) := by
  by_cases h0 : l.length = 0
  · have HH := Lib.hid h
    have HB := Lib.hid hb
    clear h hs hb
    rw [h0] at HH ⊢
    go_enter Tryd.func53, Tryd.ntmps53
    go_wp2
    refine wp_loop_rounds 1 ?_
    rw [rounds_succ]
    go_wp2
    go_ret
    exact ⟨rfl, HH.out, Below.refl _ _⟩
  · have hform : ∃ g, a = some ⟨g, 0, none⟩ := by
      obtain ⟨_, h1⟩ := h.1
      rcases h1 with ⟨_, e⟩ | ⟨g, cap', cur, e, _⟩
      · exact absurd e h0
      · injection e with e; exact ⟨g, e⟩
    obtain ⟨g, rfl⟩ := hform
    have hbg := (h.1.lt g rfl).1
    obtain ⟨n, hn⟩ : ∃ n, l.length = n := ⟨_, rfl⟩
    have HN := Lib.hid hn
    have HH := Lib.hid h
    have HB := Lib.hid hb
    have HS := Lib.hid hs
    clear h hb hs
    rw [hn] at hl h0 ⊢
    clear hn
    go_enter Tryd.func53, Tryd.ntmps53
    go_wp2
    go_loopw [6] (fun i wr => ∃ k : Nat, k ≤ n ∧ i = .int .i64 k ∧ OwnV 38 wr base (.slice (some ⟨g, 0, none⟩) l.length cap) l ∧ Below base w wr) (fun i _ => n - (intOf i).toNat)
    case atStart => exact ⟨0, Nat.zero_le _, rfl, HH.out, Below.refl _ _⟩
    case round =>
      obtain ⟨k, hk, rfl, ho, hB⟩ := hrel
      have HO := Lib.hid ho
      have HB2 := Lib.hid hB
      by_cases hlt : k < n
      · have HI := Lib.hid (show k < l.length by rw [HN.out]; exact hlt)
        obtain ⟨a', cap', e, _, _, hv⟩ := ho.at_
        injection e with e1 e2 e3
        subst e1
        obtain ⟨_, c1, _⟩ := hv.cells HI.out
        simp only [Nat.zero_add] at c1
        clear ho hB hv e3
        go_wp2_with fail
        refine (clone_any _ _ (HS.out k HI.out)).mono ?_
        rintro e w1 ⟨rfl, hk1⟩
        have O1 := Lib.hid (HO.out.kept hk1)
        have d1 := cell_later hk1 c1
        have z1 := O1.out.1.frozenAt (k * 2)
        have B1 := Lib.hid (HB2.out.trans (Below.mono hk1 (Nat.le_trans HB.out HB2.out.size)))
        clear hk1 c1
        go_wp2
        go_roundw
        case rel => exact ⟨k + 1, by omega, by go_num, O1.out.same_name HI.out, B1.out.setCell (p := ⟨g, k * 2, none⟩) hbg _⟩
        case measure => simp [intOf]; omega
      · clear ho hB
        go_wp2
        go_ret
        exact ⟨rfl, by rw [← HN.out]; exact HO.out, HB2.out⟩

end Go.Proofs.YtnnneimpdiadhaaDoor.Vec
