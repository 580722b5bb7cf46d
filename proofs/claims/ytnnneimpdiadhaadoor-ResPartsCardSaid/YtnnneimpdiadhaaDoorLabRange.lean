/- 'for part := range SplitSeq(s, ",") { .. }' whose body may panic: one law. -/
import Derived.Test.YtnnneimpdiadhaaDoorGStr
import Derived.Test.YtnnneimpdiadhaaDoorResAt
namespace Go.Proofs.YtnnneimpdiadhaaDoor
open Go.RowKit Go.Shelf
set_option linter.unusedVariables false
attribute [local go_sem] Oper.semAt_some

/-- What the loop's own doings leave as it was: all blocks but the text's box b2 and the two records D, D + 1. -/
structure St (b2 D : Nat) (W W' : World) : Prop where
  os : W'.os = W.os
  tape : W'.tape = W.tape
  output : W'.output = W.output
  size : W.heap.size ≤ W'.heap.size
  block : ∀ b, b ≠ b2 → b ≠ D → b ≠ D + 1 → W'.heap[b]? = W.heap[b]?

theorem St.setCell {b2 D : Nat} (W : World) (v : Value) : St b2 D W (W.setCell ⟨b2, 0, none⟩ v) :=
  ⟨rfl, rfl, rfl, by show W.heap.size ≤ (W.heap.modify _ _).size; rw [Array.size_modify]; exact Nat.le_refl _, fun b h _ _ => Below.heap_setCell W ⟨b2, 0, none⟩ v b h⟩
theorem St.drewN {b2 D : Nat} (W : World) (n : Nat) : St b2 D W (W.drewN n) := ⟨rfl, rfl, rfl, Nat.le_refl _, fun _ _ _ _ => rfl⟩
theorem St.put {b2 D : Nat} (W : World) (o : Obj) : St b2 D W (W.putObj (D + 1) o) := ⟨rfl, rfl, rfl, by simp, fun b _ _ h => World.putObj_heap_other h⟩
theorem St.begin (b2 : Nat) (W : World) (o o' : Obj) : St b2 W.heap.size W ((W.alloc o).alloc o') :=
  ⟨rfl, rfl, rfl, by simp; omega, fun b _ h1 h2 => by
    by_cases h : b < W.heap.size
    · exact (Below.heap_alloc _ o' b (by simp; omega)).trans (Below.heap_alloc W o b h)
    · rw [Array.getElem?_eq_none (by simp; omega), Array.getElem?_eq_none (by omega)]⟩

/-- The blocks that a round must leave as they are. -/
def KeptAt (b1 b2 b3 D : Nat) (W W' : World) : Prop := ∀ b, b = b1 ∨ b = b2 ∨ b = b3 ∨ b = D ∨ b = D + 1 → W'.heap[b]? = W.heap[b]?
theorem KeptAt.trans {b1 b2 b3 D : Nat} {A B C : World} (h : KeptAt b1 b2 b3 D A B) (k : KeptAt b1 b2 b3 D B C) : KeptAt b1 b2 b3 D A C := fun b hb => (k b hb).trans (h b hb)
theorem KeptAt.drewN {b1 b2 b3 D : Nat} (W : World) (n : Nat) : KeptAt b1 b2 b3 D W (W.drewN n) := fun _ _ => rfl

/-- What the body is asked. -/
def BPost (b1 b2 b3 D k : Nat) (I : Nat → World → Prop) (JP : List PanicEntry → World → Prop) (W : World) : Exit → Act → World → Prop
  | .normal, _, W' => KeptAt b1 b2 b3 D W W' ∧ I (k + 1) W'
  | .panic c, a, W' => a.defers = [] ∧ KeptAt b1 b2 b3 D W W' ∧ JP c W'
  | _, _, _ => False

theorem iterKept_of {b1 b2 b3 : Nat} {W W' : World} (h : ∀ b, b = b1 ∨ b = b2 ∨ b = b3 → W'.heap[b]? = W.heap[b]?) : IterKept b1 b2 b3 W W' := fun b hb =>
  ⟨World.cell?_of_block (a := ⟨b, 0, none⟩) (h b hb), World.frozen?_of_block (a := ⟨b, 0, none⟩) (h b hb)⟩

theorem iter_of_keptAt {b1 b2 b3 D : Nat} {W W' : World} (h : KeptAt b1 b2 b3 D W W') : IterKept b1 b2 b3 W W' :=
  iterKept_of fun b hb => h b (by rcases hb with h | h | h <;> simp [h])

set_option maxHeartbeats 1600000 in
theorem wpAt_split {g : Operand} {t : Tmp} {assign body : Code} {Q : Exit → Act → World → Prop} {a : Act} {w : World} {n fid : Nat} {fn : Func} (hfn : Tryd.prog.funcs[fid]? = some fn) (hn : 2 ≤ n)
    (b1 b2 b3 : Nat) (hg : a.eval g = .func (.func 68) #[] #[.pointer (some ⟨b1, 0, none⟩), .pointer (some ⟨b2, 0, none⟩), .pointer (some ⟨b3, 0, none⟩)])
    (s : List UInt8) (hs : s.length ≤ 1000000) (h12 : b1 ≠ b2) (h32 : b3 ≠ b2) (hb1 : b1 < w.heap.size) (hb2 : b2 < w.heap.size) (hb3 : b3 < w.heap.size)
    (c1 : w.cell? ⟨b1, 0, none⟩ = some (.string ⟨#[44]⟩)) (c2 : w.cell? ⟨b2, 0, none⟩ = some (.string (bytes s))) (c3 : w.cell? ⟨b3, 0, none⟩ = some (.int .i64 0)) (z2 : w.frozen? ⟨b2, 0, none⟩ = false)
    (I : Nat → World → Prop) (JP : List PanicEntry → World → Prop) (hI : ∀ k W W', I k W → St b2 w.heap.size W W' → I k W') (hE : ∀ k W, I k W → Env W) (h0 : I 0 w) (a₁ : ByteArray → Act)
    (hassign : ∀ (l : Nat) (x : ByteArray) (W : World) (K : Act → World → Prop), K (a₁ x) W →
      assign.wpIn (Fence.wide.inRound l) (n - 1) Tryd.prog (Exit.then K (fun _ _ _ => False)) { tmps := (#[t].zip #[Value.string x]).foldl (fun tt (p, v) => tt.setIfInBounds p v) a.tmps, defers := [] } W)
    (hbody : ∀ (l k : Nat) (p : List UInt8) (W : World), (partsOf s)[k]? = some p → I k W → w.heap.size + 2 ≤ W.heap.size → body.wpIn (Fence.wide.inRound l) (n - 1) Tryd.prog (BPost b1 b2 b3 w.heap.size k I JP W) (a₁ (bytes p)) W)
    (hdone : ∀ (W : World), I (partsOf s).length W → W.heap[w.heap.size]? = some (.deferred (some [])) → Q .normal { a with defers := { target := .collected w.heap.size, args := #[] } :: a.defers } W)
    (hpanic : ∀ (c : List PanicEntry) (W : World), JP c W → W.heap[w.heap.size]? = some (.deferred (some [])) → Q (.panic c) { a with defers := { target := .collected w.heap.size, args := #[] } :: a.defers } W) :
    WpAt fid Tryd.prog (Code.rangeFunc g #[t] assign body) Q a w := by
  obtain ⟨rec, hrec⟩ : ∃ rec : LoopState → Option Code → Loop, rec = fun st pe => { state := st, pending := pe, fn := fid, tmps := a.tmps, params := #[t], assign, body, defers := w.heap.size } := ⟨_, rfl⟩
  obtain ⟨W1, hW1⟩ : ∃ W1, (w.alloc (.deferred (some []))).alloc (.loop (rec .ready none)) = W1 := ⟨_, rfl⟩
  have hL1 : W1.heap[w.heap.size + 1]? = some (.loop (rec .ready none)) := by
    rw [← hW1]; have := World.alloc_heap_new (w.alloc (.deferred (some []))) (.loop (rec .ready none)); rwa [World.size_alloc] at this
  have hK1 : W1.heap[w.heap.size]? = some (.deferred (some [])) := by
    rw [← hW1]; exact (Below.heap_alloc _ _ _ (by simp)).trans (World.alloc_heap_new w _)
  have hS1 : St b2 w.heap.size w W1 := by rw [← hW1]; exact St.begin b2 w _ _
  have hB1 : Below w.heap.size w W1 := by rw [← hW1]; exact (kept_alloc w _).trans (kept_alloc _ _)
  refine wpAt_rangeFunc (n := n) (l := w.heap.size + 1) (mark := [{ target := .collected w.heap.size, args := #[] }]) (w₁ := W1) (d := { target := .fn (.func 68) #[.pointer (some ⟨b1, 0, none⟩), .pointer (some ⟨b2, 0, none⟩), .pointer (some ⟨b3, 0, none⟩)], args := #[.func (.yield (w.heap.size + 1)) #[] #[]] })
    (f := 68) (args := #[.func (.yield (w.heap.size + 1)) #[] #[], .pointer (some ⟨b1, 0, none⟩), .pointer (some ⟨b2, 0, none⟩), .pointer (some ⟨b3, 0, none⟩)]) ?_ ?_ ?_ ?_
  · rw [← hW1, hrec]; exact run_enterLoop_outer _ _ _ _ _
  · simp only [resolve, hg]
    simp [go_sem]
  · have eg := enters_of (P := Tryd.prog) Tryd.func68 (by kernel_rfl) rfl
    simp [invoke, go_sem, eg]
  · refine (split_iter n (by omega) (w.heap.size + 1) b1 b2 b3 s hs
      (fun k W => I k W ∧ W.heap[w.heap.size + 1]? = some (.loop (rec .ready none)) ∧ W.heap[w.heap.size]? = some (.deferred (some [])))
      (fun c W => JP c W ∧ W.heap[w.heap.size]? = some (.deferred (some [])))
      ⟨?_, ?_, ?_, ?_⟩ h12 h32 W1 ((hB1.cell (p := ⟨b1, 0, none⟩) hb1).trans c1) ((hB1.cell (p := ⟨b2, 0, none⟩) hb2).trans c2) ((hB1.cell (p := ⟨b3, 0, none⟩) hb3).trans c3)
      ((hB1.frozen (p := ⟨b2, 0, none⟩) hb2).trans z2) ⟨hI 0 w W1 h0 hS1, hL1, hK1⟩).mono ?_
    · rintro k p W hp ⟨hi, hl, hk⟩
      have hlt : w.heap.size + 1 < W.heap.size := (Array.getElem?_eq_some_iff.1 hl).1
      have hy := run_yield (P := Tryd.prog) (args := #[.string (bytes p)]) hl (by rw [hrec]; rfl)
      rw [hrec] at hy
      refine ⟨fid, _, assign, body, hy, roundIn_of_wpIn_panic trivial hfn ?_⟩
      refine hassign _ (bytes p) W _ ?_
      refine ⟨_, run_beginRound hl (by rw [hrec]), ?_⟩
      have hl2 : (W.putObj (w.heap.size + 1) (.loop { rec .ready none with state := .busy })).heap[w.heap.size + 1]? = some (.loop { rec .ready none with state := .busy }) := World.putObj_heap_same hlt
      have hk2 : (W.putObj (w.heap.size + 1) (.loop { rec .ready none with state := .busy })).heap[w.heap.size]? = some (.deferred (some [])) := (World.putObj_heap_other (by omega)).trans hk
      refine wpIn_mono (hbody _ k p _ hp (hI k _ _ hi (St.put W _)) (by simp; omega)) ?_
      rintro e a3 W3 hp3
      cases e with
      | normal =>
        obtain ⟨hk3, hi3⟩ := hp3
        have hl3 := (hk3 (w.heap.size + 1) (by simp)).trans hl2
        have hr := run_endRound (P := Tryd.prog) none hl3
        refine ⟨_, _, hr, .inl ⟨rfl, ⟨hI _ _ _ hi3 (St.put W3 _), ?_, ?_⟩, ?_⟩⟩
        · rw [World.putObj_heap_same (Array.getElem?_eq_some_iff.1 hl3).1, hrec]; rfl
        · exact ((World.putObj_heap_other (by omega)).trans (hk3 w.heap.size (by simp))).trans hk2
        · refine iterKept_of fun b hb => ?_
          have hbl : b ≠ w.heap.size + 1 := by rcases hb with h | h | h <;> omega
          exact ((World.putObj_heap_other hbl).trans (hk3 b (by rcases hb with h | h | h <;> simp [h]))).trans (World.putObj_heap_other hbl)
      | panic c =>
        obtain ⟨hd, hk3, hj⟩ := hp3
        exact ⟨hd, .inr ⟨c, rfl, hj, (hk3 w.heap.size (by simp)).trans hk2⟩⟩
      | ret => exact hp3.elim
      | exit id => exact hp3.elim
      | goto t => exact hp3.elim
      | outgrown => exact hp3.elim
    · rintro k W x ⟨hi, hl, hk⟩
      exact ⟨hI _ _ _ hi (St.setCell W _), (Below.heap_setCell W ⟨b2, 0, none⟩ _ _ (by simp; omega)).trans hl, (Below.heap_setCell W ⟨b2, 0, none⟩ _ _ (by simp; omega)).trans hk⟩
    · rintro k W m ⟨hi, hl, hk⟩
      exact ⟨hI _ _ _ hi (St.drewN W _), hl, hk⟩
    · rintro k W ⟨hi, _, _⟩
      exact (hE k W hi).most
    · rintro e W2 (⟨⟨v, rfl⟩, hi, hl, hk⟩ | ⟨c, rfl, hj, hk⟩)
      · exact ⟨_, run_endLoop (P := Tryd.prog) hl (by rw [hrec]; simp) |>.trans (by rw [hrec]), hdone _ (hI _ _ _ hi (St.put W2 _)) ((World.putObj_heap_other (by omega)).trans hk)⟩
      · exact hpanic c W2 hj hk

end Go.Proofs.YtnnneimpdiadhaaDoor
