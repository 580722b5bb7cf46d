/- Vectors made: a row of the call's own, one amount more; the foremost name, its amount taken. -/
import Derived.Test.YtnnneimpdiadhaaDoorResRead
import Derived.Laws.OwnMore
import Derived.Deep.AppendLies
import Derived.RangeFuncRecord
import Derived.OwnWalk
namespace Go.Proofs.YtnnneimpdiadhaaDoor.Vec
open Go.RowKit
set_option linter.unusedVariables false

def cellsOf : V → List Value
  | [] => []
  | x :: t => .string x.1 :: .int .i64 x.2 :: cellsOf t
theorem cellsOf_length : ∀ l : V, (cellsOf l).length = l.length * 2
  | [] => rfl
  | x :: t => by simp only [cellsOf, List.length_cons, cellsOf_length t]; omega
theorem cellsOf_append : ∀ l m : V, cellsOf (l ++ m) = cellsOf l ++ cellsOf m
  | [], _ => rfl
  | x :: t, m => by simp only [List.cons_append, cellsOf, cellsOf_append t m]
theorem nm_zero (x : ByteArray × Int) (t : V) : nm (x :: t) 0 = x.1 := rfl
theorem nm_succ (x : ByteArray × Int) (t : V) (i : Nat) : nm (x :: t) (i + 1) = nm t i := rfl
theorem qn_zero (x : ByteArray × Int) (t : V) : qn (x :: t) 0 = x.2 := rfl
theorem qn_succ (x : ByteArray × Int) (t : V) (i : Nat) : qn (x :: t) (i + 1) = qn t i := rfl
theorem cellsOf_at : ∀ (l : V) (i : Nat), i < l.length → (cellsOf l)[i * 2]? = some (.string (nm l i)) ∧ (cellsOf l)[i * 2 + 1]? = some (.int .i64 (qn l i))
  | [], i, h => absurd h (by simp)
  | x :: t, 0, _ => ⟨rfl, rfl⟩
  | x :: t, i + 1, h => by
    have := cellsOf_at t i (by simpa using h)
    rw [nm_succ, qn_succ, show (i + 1) * 2 = i * 2 + 1 + 1 from by omega]
    exact this
theorem cellsOf_one : ∀ (l : V) (u : Value), u ∈ cellsOf l → u.oneCell' = true
  | x :: t, u, h => by
    simp only [cellsOf, List.mem_cons] at h
    rcases h with rfl | rfl | h
    · rfl
    · rfl
    · exact cellsOf_one t u h

theorem Fine.cons {x : ByteArray × Int} {t : V} : Fine (x :: t) ↔ (x.1.size ≤ maxLen ∧ -9223372036854775808 ≤ x.2 ∧ x.2 ≤ 9223372036854775807) ∧ Fine t := by
  constructor
  · intro h
    exact ⟨h 0 (by simp), fun i hi => h (i + 1) (by simpa using hi)⟩
  · rintro ⟨h0, h⟩ i hi
    cases i with
    | zero => exact h0
    | succ i => exact h i (by simpa using hi)
theorem Fine.nil : Fine [] := fun i hi => absurd hi (by simp)
theorem Fine.snoc : ∀ {l : V} {s : ByteArray} {n : Int}, Fine l → s.size ≤ maxLen → -9223372036854775808 ≤ n → n ≤ 9223372036854775807 → Fine (l ++ [(s, n)])
  | [], s, n, _, h1, h2, h3 => Fine.cons.2 ⟨⟨h1, h2, h3⟩, Fine.nil⟩
  | x :: t, s, n, h, h1, h2, h3 => by
    rw [Fine.cons] at h
    exact Fine.cons.2 ⟨h.1, h.2.snoc h1 h2 h3⟩

/-- v is a row of the call's own (from block base on) that reads as l. -/
def OwnV (e : TypeId) (w : World) (base : Nat) (v : Value) (l : V) : Prop := w.ownsRow base e 2 v l.length (cellsOf l) ∧ Fine l

theorem OwnV.nil (e : TypeId) (w : World) (base : Nat) : OwnV e w base (.slice none 0 0) [] := ⟨World.ownsRow_nil w base e 2, Fine.nil⟩

theorem OwnV.at_ {e : TypeId} {w : World} {base : Nat} {v : Value} {l : V} (h : OwnV e w base v l) :
    ∃ a cap, v = .slice a l.length cap ∧ l.length ≤ cap ∧ cap ≤ maxLen ∧ VecAt w a l.length l := by
  obtain ⟨h, hf⟩ := h
  have h' := h
  obtain ⟨_, h1⟩ := h
  rcases h1 with ⟨rfl, h0⟩ | ⟨g, cap, cur, rfl, hbg, hg, hn, hm, hs, ht⟩
  · have : l = [] := List.eq_nil_of_length_eq_zero h0
    subst this
    exact ⟨none, 0, rfl, Nat.le_refl _, by decide, VecAt.nil w⟩
  · refine ⟨_, cap, rfl, hn, hm, rfl, Nat.le_trans hn hm, hf, .inr ⟨g, 0, rfl, ?_, fun i hi => ?_⟩⟩
    · rcases Nat.lt_or_ge g w.heap.size with hlt | hge
      · exact hlt
      · rw [Array.getElem?_eq_none hge] at hg; cases hg
    · have c := h'.cells (g := g) rfl
      have d := cellsOf_at l i hi
      have c1 := c _ _ d.1
      have c2 := c _ _ d.2
      constructor
      · rw [← c1]; congr 1; unfold Addr.add; split <;> simp_all
      · rw [← c2]; congr 1

theorem OwnV.kept {e : TypeId} {w w' : World} {base : Nat} {v : Value} {l : V} (h : OwnV e w base v l) (k : Kept w w') : OwnV e w' base v l := by
  obtain ⟨⟨h0, h1⟩, hf⟩ := h
  refine ⟨⟨h0, h1.imp id ?_⟩, hf⟩
  rintro ⟨g, cap, cur, rfl, hbg, hg, hn, hm, hs, ht⟩
  refine ⟨g, cap, cur, rfl, hbg, ?_, hn, hm, hs, ht⟩
  have hlt : g < w.heap.size := by
    rcases Nat.lt_or_ge g w.heap.size with hlt | hge
    · exact hlt
    · rw [Array.getElem?_eq_none hge] at hg; cases hg
  exact (k.block g hlt).trans hg

theorem resInfo : (Tryd.prog.info? 38).map (fun i => (i.zero, i.size, i.bytes)) = some (some (.agg #[.string ByteArray.empty, .int .i64 0]), 2, 24) := by kernel_rfl

/-- What comes of one amount more. -/
def Longer (base : Nat) (l : V) (w : World) (e : Ending) (w' : World) : Prop := ∃ v, e = .returned v ∧ OwnV 38 w' base v l ∧ Below base w w'

theorem news_two (w : World) (s : ByteArray) (n : Int) (T : TypeId) : ∀ j u, [Value.string s, .int .i64 n][j]? = some u →
    (w.alloc (.cells #[.string s, .int .i64 n] T)).cell? ((⟨w.heap.size, 0, none⟩ : Addr).add j) = some u :=
  World.news_of_block (cs := #[.string s, .int .i64 n]) (t := T) (fr := (0, 0)) (w.alloc_heap_new _)

theorem with_zero (v : Value) (s : ByteArray) (w : World) :
    Calls Tryd.prog 45 #[v, .string s, .int .i64 0] w fun e w' => e = .returned v ∧ w = w' := by
  go_enter Tryd.func45, Tryd.ntmps45
  go_wp2
  go_ret
  exact ⟨rfl, rfl⟩

set_option maxHeartbeats 800000 in
theorem with_more (v : Value) (s : ByteArray) (n : Int) (base : Nat) (l : V) (w : World) (h : OwnV 38 w base v l) (hn : n ≠ 0) (hs : s.size ≤ maxLen) (h1 : -9223372036854775808 ≤ n) (h2 : n ≤ 9223372036854775807)
    (hl : l.length ≤ 1000000) (hb : base ≤ w.heap.size) :
    Calls Tryd.prog 45 #[v, .string s, .int .i64 n] w (Longer base (l ++ [(s, n)]) w) := by
  have h3 : (n == 0) = false := by simpa using hn
  clear hn
  obtain ⟨i0, hi, hz0, hz1, hz2⟩ := info_parts resInfo
  obtain ⟨hown, hf⟩ := h
  have HF := Lib.hid (hf.snoc hs h1 h2)
  clear hf hs
  go_enter Tryd.func45, Tryd.ntmps45
  go_wp2_with (at_builtin; refine wpList_append_lies _ rfl (.tmp 10) (.tmp 14) _ rfl base 38 i0 _ 2 24 Tryd.underlying23 hi hz0 hz1 hz2 rfl (by decide) v l.length (cellsOf l) rfl (hown.alloc _) ⟨w.heap.size, 0, none⟩ 1 1 [.string s, .int .i64 n] rfl rfl (news_two _ _ _ _) (cellsOf_one [(s, n)]) (by decide) (by unfold maxLen; omega) (by omega) (by rw [World.size_alloc]; omega) (w.heap.size + 1) (World.size_alloc _ _) ?_; intro g cap w1 hown1 hgrow hg hlt; refine Hid.out ?_)
  refine Lib.hid ?_
  go_wp2
  go_ret
  refine ⟨_, rfl, ⟨?_, HF.out⟩, ((Below.refl _ w).alloc hb _).grown hgrow (by rw [World.size_alloc]; omega) (fun k hk => ?_)⟩
  · rw [List.length_append, cellsOf_append]; exact hown1
  · exact (hown.lt k hk).1

/-- Counted as the walk counts. -/
def takenV : V → ByteArray → Int × V
  | [], _ => (0, [])
  | x :: t, n => if eqS x.1 n = true then (x.2, t) else (0, x :: t)
def foremostV : V → V → ByteArray
  | [], [] => ByteArray.empty
  | [], y :: _ => y.1
  | x :: _, [] => x.1
  | x :: _, y :: _ => if ltS y.1 x.1 = true then y.1 else x.1

/-- A slice that reads as l. -/
def Reads (w : World) (v : Value) (l : V) : Prop := ∃ a cap, v = .slice a l.length cap ∧ l.length ≤ cap ∧ cap ≤ maxLen ∧ VecAt w a l.length l
theorem Reads.kept {w w' : World} {v : Value} {l : V} (h : Reads w v l) (k : Kept w w') : Reads w' v l := by
  obtain ⟨a, cap, e, h1, h2, h3⟩ := h
  exact ⟨a, cap, e, h1, h2, h3.kept k⟩

theorem sound_ok (n : Int) (w : World) : Calls Tryd.prog 46 #[.int .i64 n, .int .i64 0] w fun e w' => e = .returned (.int .i64 n) ∧ w = w' := by
  go_enter Tryd.func46, Tryd.ntmps46
  go_wp2
  go_ret
  exact ⟨rfl, rfl⟩
theorem sound_bad (n x : Int) (w : World) (h : x ≠ 0) : Calls Tryd.prog 46 #[.int .i64 n, .int .i64 x] w fun e w' => e = .panicked [perr x] ∧ w = w' := by
  have h3 : (x != 0) = true := by simpa using h
  clear h
  go_enter Tryd.func46, Tryd.ntmps46
  go_wp2
  exact ⟨rfl, rfl, rfl⟩

theorem VecAt.first {w : World} {b off len : Nat} {x : ByteArray × Int} {t : V} (h : VecAt w (some ⟨b, off, none⟩) len (x :: t)) :
    b < w.heap.size ∧ w.cell? ⟨b, off, none⟩ = some (.string x.1) ∧ w.cell? ⟨b, off + 1, none⟩ = some (.int .i64 x.2) := by
  have hl : 0 < len := by have := h.1; simp only [List.length_cons] at this; omega
  have := h.cells hl
  simpa [nm_zero, qn_zero] using this

set_option maxHeartbeats 800000 in
theorem foremost_any (a a' : Option Addr) (len cap len' cap' : Nat) (l l' : V) (w : World) (hr : VecAt w a len l) (hr' : VecAt w a' len' l') (hne : 0 < len + len') :
    Calls Tryd.prog 43 #[.slice a len cap, .slice a' len' cap'] w fun e w' => e = .returned (.string (foremostV l l')) ∧ Kept w w' := by
  have hl := hr.1
  have hm := hr.2.1
  have hl' := hr'.1
  have hm' := hr'.2.1
  unfold maxLen at hm hm'
  cases l with
  | nil =>
    obtain rfl : len = 0 := by simpa using hl.symm
    cases l' with
    | nil => exfalso; simp at hl'; omega
    | cons y t =>
      have h0 : 0 < len' := by omega
      rcases hr'.form with h | ⟨b, off, rfl⟩
      · omega
      obtain ⟨hb, c1, c2⟩ := hr'.first
      clear hr hr' hl hl'
      have h1 : decide (0 < len') = true := by simpa using h0
      go_enter Tryd.func43, Tryd.ntmps43
      go_wp2
      go_quiet (fail)
      go_wp2
      go_ret
      exact ⟨rfl, Kept.drewN _ _⟩
  | cons x s =>
    have h0 : 0 < len := by simp only [List.length_cons] at hl; omega
    have h0' : ((len : Int) == 0) = false := by
      have : (len : Int) ≠ 0 := by omega
      simpa using this
    rcases hr.form with h | ⟨b, off, rfl⟩
    · omega
    obtain ⟨hb, c1, c2⟩ := hr.first
    cases l' with
    | nil =>
      obtain rfl : len' = 0 := by simpa using hl'.symm
      clear hr hr' hl hl'
      go_enter Tryd.func43, Tryd.ntmps43
      go_wp2
      go_quiet (fail)
      go_wp2
      go_ret
      exact ⟨rfl, Kept.drewN _ _⟩
    | cons y t =>
      have g0 : 0 < len' := by simp only [List.length_cons] at hl'; omega
      have g1 : decide (0 < len') = true := by simpa using g0
      rcases hr'.form with h | ⟨b', off', rfl⟩
      · omega
      obtain ⟨hb', d1, d2⟩ := hr'.first
      clear hr hr' hl hl'
      by_cases e : ltS y.1 x.1 = true
      · have E := Lib.hid (show foremostV (x :: s) (y :: t) = y.1 by rw [foremostV, if_pos e])
        have e' : Op.bytesLess y.1.toList x.1.toList = true := e
        clear e
        go_enter Tryd.func43, Tryd.ntmps43
        go_wp2
        go_quiet (fail)
        go_wp2
        go_ret
        exact ⟨by rw [E.out]; rfl, Kept.drewN _ _⟩
      · have e : ltS y.1 x.1 = false := by simpa using e
        have E := Lib.hid (show foremostV (x :: s) (y :: t) = x.1 by rw [foremostV, if_neg (by rw [e]; decide)])
        have e' : Op.bytesLess y.1.toList x.1.toList = false := e
        clear e
        go_enter Tryd.func43, Tryd.ntmps43
        go_wp2
        go_quiet (fail)
        go_wp2
        go_ret
        exact ⟨by rw [E.out]; rfl, Kept.drewN _ _⟩

/-- What taken answers. -/
def Took (a : Option Addr) (len : Nat) (l : V) (n : ByteArray) (w : World) (e : Ending) (w' : World) : Prop :=
  ∃ A c, e = .returned (.tuple #[.int .i64 (takenV l n).1, .slice A (takenV l n).2.length c]) ∧ (takenV l n).2.length ≤ c ∧ c ≤ maxLen ∧ (∀ W, VecAt W a len l → VecAt W A (takenV l n).2.length (takenV l n).2) ∧ Kept w w'

theorem VecAt.tail {w : World} {b off len : Nat} {x : ByteArray × Int} {t : V} (h : VecAt w (some ⟨b, off, none⟩) len (x :: t)) : VecAt w (some ⟨b, off + 2, none⟩) (len - 1) t := by
  have hl := h.1
  simp only [List.length_cons] at hl
  refine ⟨by omega, by have := h.2.1; omega, (Fine.cons.1 h.2.2.1).2, ?_⟩
  by_cases h0 : len - 1 = 0
  · exact .inl h0
  · refine .inr ⟨b, off + 2, rfl, (h.cells (k := 0) (by omega)).1, fun i hi => ?_⟩
    have := (h.cells (k := i + 1) (by omega)).2
    rw [nm_succ, qn_succ, show off + (i + 1) * 2 = off + 2 + i * 2 from by omega] at this
    exact this
theorem VecAt.none_tail {w : World} {a : Option Addr} {len : Nat} {x : ByteArray × Int} {t : V} (h : VecAt w a len (x :: t)) (h1 : len = 1) : VecAt w a (len - 1) t := by
  have hl := h.1
  simp only [List.length_cons] at hl
  exact ⟨by omega, by have := h.2.1; omega, (Fine.cons.1 h.2.2.1).2, .inl (by omega)⟩

set_option maxHeartbeats 800000 in
theorem taken_any (a : Option Addr) (len cap : Nat) (l : V) (n : ByteArray) (w : World) (hr : VecAt w a len l) (hc : len ≤ cap) (hm : cap ≤ maxLen) :
    Calls Tryd.prog 44 #[.slice a len cap, .string n] w (Took a len l n w) := by
  have hl := hr.1
  have hm' := hm
  unfold maxLen at hm
  cases l with
  | nil =>
    obtain rfl : len = 0 := by simpa using hl.symm
    have HT := Lib.hid (show Took a 0 [] n w (.returned (.tuple #[.int .i64 0, .slice a 0 cap])) w from ⟨a, cap, rfl, hc, hm', fun _ h => h, Kept.refl _⟩)
    clear hr hl hm'
    go_enter Tryd.func44, Tryd.ntmps44
    go_wp2
    go_ret2
    exact HT.out
  | cons x s =>
    have h0 : 0 < len := by simp only [List.length_cons] at hl; omega
    have h0' : ((len : Int) == 0) = false := by
      have : (len : Int) ≠ 0 := by omega
      simpa using this
    rcases hr.form with h | ⟨b, off, rfl⟩
    · omega
    obtain ⟨hb, c1, c2⟩ := hr.first
    by_cases e : eqS x.1 n = true
    · have E := Lib.hid (show takenV (x :: s) n = (x.2, s) by rw [takenV, if_pos e])
      have e' : (x.1.toList == n.toList) = true := e
      have e'' : (x.1.toList != n.toList) = false := by rw [bne, e']; rfl
      have HR := Lib.hid hr
      have HM := Lib.hid hm'
      have HL := Lib.hid hl
      clear e hr hl hm'
      by_cases hcap : cap = 1
      · subst hcap
        obtain rfl : len = 1 := by omega
        obtain rfl : s = [] := by have := HL.out; simp only [List.length_cons] at this; exact List.eq_nil_of_length_eq_zero (by omega)
        have HT := Lib.hid (show ∀ k, Took (some ⟨b, off, none⟩) 1 [x] n w (.returned (.tuple #[.int .i64 x.2, .slice (some ⟨b, off, none⟩) 0 0])) (w.drewN k) from fun k => ⟨some ⟨b, off, none⟩, 0, by rw [E.out]; rfl, by rw [E.out]; exact Nat.le_refl _, by decide, by rw [E.out]; exact fun W h => h.none_tail rfl, Kept.drewN _ _⟩)
        go_enter Tryd.func44, Tryd.ntmps44
        go_wp2
        go_quiet (fail)
        go_wp2
        go_ret2
        exact HT.out _
      · have hc2 : 2 ≤ cap := by omega
        have hl1 : len - 1 = s.length := by have := HL.out; simp only [List.length_cons] at this; omega
        have HT := Lib.hid (show ∀ k, Took (some ⟨b, off, none⟩) len (x :: s) n w (.returned (.tuple #[.int .i64 x.2, .slice (some ⟨b, off + 2, none⟩) (len - 1) (cap - 1)])) (w.drewN k) from fun k =>
          ⟨some ⟨b, off + 2, none⟩, cap - 1, by rw [E.out, hl1], by rw [E.out]; show s.length ≤ cap - 1; omega, by unfold maxLen; omega, by rw [E.out]; intro W h; have := h.tail; rw [hl1] at this; exact this, Kept.drewN _ _⟩)
        clear hl1
        have hc3 : ¬ cap = 1 := hcap
        have hc4 : ¬ cap - 1 = 0 := by omega
        clear hcap
        go_enter Tryd.func44, Tryd.ntmps44
        go_wp2
        go_quiet (fail)
        go_wp2
        go_ret2
        exact HT.out _
    · have e : eqS x.1 n = false := by simpa using e
      have E := Lib.hid (show takenV (x :: s) n = (0, x :: s) by rw [takenV, if_neg (by rw [e]; decide)])
      have e' : (x.1.toList == n.toList) = false := e
      have e'' : (x.1.toList != n.toList) = true := by rw [bne, e']; rfl
      have HT := Lib.hid (show Took (some ⟨b, off, none⟩) len (x :: s) n w (.returned (.tuple #[.int .i64 0, .slice (some ⟨b, off, none⟩) len cap])) w from ⟨some ⟨b, off, none⟩, cap, by rw [E.out]; show _ = Ending.returned (.tuple #[_, Value.slice _ (x :: s).length _]); rw [hl], by rw [E.out]; show (x :: s).length ≤ cap; omega, hm', by rw [E.out]; intro W h; show VecAt W _ (x :: s).length (x :: s); rw [hl]; exact h, Kept.refl _⟩)
      clear e hr hl hm'
      go_enter Tryd.func44, Tryd.ntmps44
      go_wp2
      go_ret2
      exact HT.out

end Go.Proofs.YtnnneimpdiadhaaDoor.Vec
