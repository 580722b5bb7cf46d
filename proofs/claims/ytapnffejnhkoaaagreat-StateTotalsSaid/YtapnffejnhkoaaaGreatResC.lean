/- Package by package: contracts of the functions that the laws call. -/
import Derived.Test.YtapnffejnhkoaaaGreatResB
import Derived.StillTailTactics
import Derived.Test.YtapnffejnhkoaaaGreatResA
import Derived.WideShapes
import Derived.IntWalk
import Derived.Test.YtapnffejnhkoaaaGreatBase
import Derived.Lib.ItoaNum
import Derived.Test.YtapnffejnhkoaaaGreatRows
import Derived.WalkKit
import Derived.ProofKit
import Derived.OpenShut
import Derived.ChangeOld
import Derived.Below
import Derived.Deep.Slices
import Derived.Deep.Fields
import Derived.ChangeSame
import Derived.Lib.LaidTab
import Derived.Stop.LaidErr
import Derived.Stop.Joined
import Derived.Shelf.Vars
import Derived.MakeChecks
import Derived.LaidLaws
import Derived.RowKitTokens

/- Two vectors, reckoned. -/
namespace Go.Proofs.YtapnffejnhkoaaaGreat.Vec
open Go.RowKit
set_option linter.unusedVariables false

def cpu : ByteArray := ⟨#[99, 112, 117]⟩
def gpu : ByteArray := ⟨#[103, 112, 117]⟩
def mem : ByteArray := ⟨#[109, 101, 109]⟩
def kA : V := [(cpu, 100), (mem, 5)]
def kS : V := [(cpu, 140), (gpu, 1), (mem, 5)]
end Go.Proofs.YtapnffejnhkoaaaGreat.Vec

/- What the laws know: two vectors. -/
namespace Go.Proofs.YtapnffejnhkoaaaGreat.Vec
open Go.RowKit
set_option linter.unusedVariables false

end Go.Proofs.YtapnffejnhkoaaaGreat.Vec

/- A vector as the document's: as it is. -/
namespace Go.Proofs.YtapnffejnhkoaaaGreat.Vec
open Go.RowKit
set_option linter.unusedVariables false

theorem refInfo : (Tryz.prog.info? 72).map (fun i => (i.zero, i.size, i.bytes)) = some (some (.agg #[.string ByteArray.empty, .int .i64 0]), 2, 24) := by kernel_rfl

theorem take_next {l : V} {k : Nat} (h : k < l.length) : l.take (k + 1) = l.take k ++ [(nm l k, qn l k)] := by
  rw [List.take_add_one]; congr 1
  have : l.getD k (ByteArray.empty, 0) = l[k] := by simp [List.getD, h]
  have e : (nm l k, qn l k) = l[k] := by simp only [nm, qn, this]
  rw [e]; simp [h]

set_option maxRecDepth 100000 in
set_option maxHeartbeats 1600000 in
theorem of_own (a : Option Addr) (len cap : Nat) (l : V) (w : World) (hr : VecAt w a len l) (hlen : len ≤ 1000000) :
    Calls Tryz.prog 8 #[.slice a len cap] w (fun e w' => ∃ x, e = .returned x ∧ OwnV 72 w' w.heap.size x l ∧ Kept w w') := by
  have hl := hr.1
  obtain ⟨i0, hi, hz0, hz1, hz2⟩ := info_parts refInfo
  rcases hr.form with h0 | ⟨b, off, rfl⟩
  · subst h0
    have hl0 : l = [] := List.eq_nil_of_length_eq_zero hl
    subst hl0
    clear hr hl hi hz0 hz1 hz2
    go_enter Tryz.func8, Tryz.ntmps8
    go_wp2
    refine wp_loop_rounds 1 ?_
    rw [rounds_succ]
    go_wp2
    go_ret
    exact ⟨_, rfl, OwnV.nil _ _ _, Kept.refl _⟩
  · have HR := Lib.hid hr
    have HL := Lib.hid hl
    have HF := Lib.hid hr.2.2.1
    clear hr hl
    go_enter Tryz.func8, Tryz.ntmps8
    go_wp2
    go_loopw [3, 4] (fun v i wr => ∃ k : Nat, k ≤ len ∧ i = .int .i64 k ∧ OwnV 72 wr w.heap.size v (l.take k) ∧ Below w.heap.size w wr) (fun _ i _ => len - (intOf i).toNat)
    case atStart => exact ⟨0, Nat.zero_le _, rfl, OwnV.nil _ _ _, Below.refl _ _⟩
    case round =>
      obtain ⟨k, hk, rfl, ho, hB⟩ := hrel
      have HO := Lib.hid ho
      have HB := Lib.hid hB
      have HT := Lib.hid (show (l.take k).length = k by rw [List.length_take, HL.out]; omega)
      have HOWN := Lib.hid (show wr.ownsRow w.heap.size 72 2 u3 k (cellsOf (l.take k)) by have := HO.out.1; rw [HT.out] at this; exact this)
      by_cases hlt : k < len
      · obtain ⟨hb, c1, c2⟩ := (HR.out.kept hB).cells hlt
        have HI := Lib.hid (show k < l.length by rw [HL.out]; exact hlt)
        have hbw : b < w.heap.size := (HR.out.cells hlt).1
        have hbase : w.heap.size ≤ wr.heap.size := hB.size
        have HNE := Lib.hid (show u3.ownBlock ≠ some b by
          intro e
          have := (HOWN.out.lt b e).1
          omega)
        have HBASE := Lib.hid (show w.heap.size ≤ (wr.alloc (.cells #[.string (nm l k), .int .i64 (qn l k)] 72)).drew.heap.size by simp; omega)
        have HBD := Lib.hid (show Below w.heap.size w ((wr.alloc (.cells #[.string (nm l k), .int .i64 (qn l k)] 72)).drew) from HB.out.trans (Below.mono ((kept_alloc wr _).trans (Kept.drewN _ 1)) hbase))
        have hk1 : (k : Int) < (len : Int) := by omega
        have HFK := Lib.hid (HF.out k HI.out)
        clear ho hB
        go_wp2_with fail
        go_region_held3 (fun W => W.cell? ⟨b, off + k * 2, none⟩ = some (.string (nm l k)) ∧ W.cell? ⟨b, off + k * 2 + 1, none⟩ = some (.int .i64 (qn l k)))
          (first
            | go_keep
            | (go_split_ands
               refine ⟨?_, ?_⟩
               · (refine (hgrow.cell_far ⟨b, off + k * 2, none⟩ (by simp; omega) (Ne.symm HNE.out)).trans ?_; assumption)
               · (refine (hgrow.cell_far ⟨b, off + k * 2 + 1, none⟩ (by simp; omega) (Ne.symm HNE.out)).trans ?_; assumption)))
          ((refine step_append_lies _ (by rfl) _ _ _ (by rfl) w.heap.size 72 i0 _ 2 24 Tryz.underlying43 hi hz0 hz1 hz2 rfl (by decide) u3 k (cellsOf (l.take k)) (by rfl) ((HOWN.out.alloc _).drew)
                ⟨wr.heap.size, 0, none⟩ 1 1 [.string (nm l k), .int .i64 (qn l k)] (by rfl) (by rfl) (World.news_of_block (cs := #[.string (nm l k), .int .i64 (qn l k)]) (t := 72) (fr := (0, 0)) (heap_alloc_new wr _)) (cellsOf_one [(nm l k, qn l k)])
                (by decide) (by unfold maxLen; omega) (by omega) (by simp; omega) (wr.heap.size + 1) (by simp) ?_; intro gg cap1 w1 hown1 hgrow hat hlt1))
        all_goals
          go_wp2
          go_roundw
          case rel => exact ⟨k + 1, by omega, by go_num, ⟨by rw [take_next HI.out, cellsOf_append, List.length_append, HT.out]; exact hown1, by rw [take_next HI.out]; exact HO.out.2.snoc HFK.out.1 HFK.out.2.1 HFK.out.2.2⟩, HBD.out.grown hgrow HBASE.out (fun j hj => (HOWN.out.lt j hj).1)⟩
          case measure => simp [intOf]; omega
      · have HK := Lib.hid (show l.take k = l by rw [List.take_of_length_le (by rw [HL.out]; omega)])
        clear ho hB
        go_wp2
        go_ret
        exact ⟨_, rfl, by have h := HO.out; rw [HK.out] at h; exact h, HB.out⟩
end Go.Proofs.YtapnffejnhkoaaaGreat.Vec

/- The algebra of vectors that may be: names in their order, numbers above 0. -/
namespace Go.Proofs.YtapnffejnhkoaaaGreat.Vec
open Go.RowKit
set_option linter.unusedVariables false

theorem less_irrefl : ∀ s : List UInt8, Op.bytesLess s s = false
  | [] => rfl
  | a :: s => by
    have : ¬ a < a := UInt8.lt_irrefl a
    simp [Op.bytesLess, less_irrefl s, this]
theorem less_trans : ∀ {a b c : List UInt8}, Op.bytesLess a b = true → Op.bytesLess b c = true → Op.bytesLess a c = true
  | _, _, [], _, h => by simp [Op.bytesLess] at h
  | [], _, _ :: _, _, _ => by simp [Op.bytesLess]
  | x :: a, [], z :: c, h, _ => by simp [Op.bytesLess] at h
  | x :: a, y :: b, z :: c, h, g => by
    simp only [Op.bytesLess, Bool.or_eq_true, Bool.and_eq_true, decide_eq_true_eq, beq_iff_eq] at h g ⊢
    rcases h with h | ⟨rfl, h⟩
    · rcases g with g | ⟨rfl, g⟩
      · exact .inl (UInt8.lt_trans h g)
      · exact .inl h
    · rcases g with g | ⟨rfl, g⟩
      · exact .inl g
      · exact .inr ⟨rfl, less_trans h g⟩
theorem less_tri : ∀ {a b : List UInt8}, Op.bytesLess a b = false → Op.bytesLess b a = false → a = b
  | [], [], _, _ => rfl
  | [], _ :: _, h, _ => by simp [Op.bytesLess] at h
  | _ :: _, [], _, h => by simp [Op.bytesLess] at h
  | x :: a, y :: b, h, g => by
    simp only [Op.bytesLess, Bool.or_eq_false_iff, decide_eq_false_iff_not, Bool.and_eq_false_iff, beq_eq_false_iff_ne] at h g
    have e : x = y := by
      have h1 := UInt8.not_lt.1 h.1
      have h2 := UInt8.not_lt.1 g.1
      exact UInt8.le_antisymm h2 h1
    subst e
    have h2 := h.2.resolve_left (by simp)
    have g2 := g.2.resolve_left (by simp)
    rw [less_tri h2 g2]

theorem lt_of (s t : ByteArray) : ltS s t = Op.bytesLess s.data.toList t.data.toList := by unfold ltS; rw [Lib.toList_data, Lib.toList_data]
theorem eqS_iff {s t : ByteArray} : eqS s t = true ↔ s = t := by
  unfold eqS; rw [Lib.toList_data, Lib.toList_data, beq_iff_eq]
  exact ⟨fun h => Go.WideShapes.bytes_inj h, fun h => by rw [h]⟩
theorem lt_irrefl' (s : ByteArray) : ltS s s = false := by rw [lt_of]; exact less_irrefl _
theorem lt_trans' {s t u : ByteArray} (h : ltS s t = true) (g : ltS t u = true) : ltS s u = true := by
  rw [lt_of] at *; exact less_trans h g
theorem lt_tri' {s t : ByteArray} (h : ltS s t = false) (g : ltS t s = false) : s = t := by
  rw [lt_of] at *; exact Go.WideShapes.bytes_inj (less_tri h g)
theorem lt_ne {s t : ByteArray} (h : ltS s t = true) : s ≠ t := by rintro rfl; rw [lt_irrefl'] at h; cases h
theorem lt_asymm' {s t : ByteArray} (h : ltS s t = true) (g : ltS t s = true) : False := lt_ne (lt_trans' h g) rfl

def Gd (l : V) : Prop := (∀ x ∈ l, isName x.1 = true ∧ 0 < x.2 ∧ x.2 ≤ 9223372036854775807) ∧ l.Pairwise (fun x y => ltS x.1 y.1 = true)
theorem Gd.nil : Gd [] := ⟨fun x hx => absurd hx (by simp), .nil⟩
theorem Gd.cons {x : ByteArray × Int} {t : V} : Gd (x :: t) ↔ (isName x.1 = true ∧ 0 < x.2 ∧ x.2 ≤ 9223372036854775807) ∧ (∀ y ∈ t, ltS x.1 y.1 = true) ∧ Gd t := by
  unfold Gd
  rw [List.pairwise_cons, List.forall_mem_cons]
  constructor
  · rintro ⟨⟨a, b⟩, c, d⟩; exact ⟨a, c, b, d⟩
  · rintro ⟨a, c, b, d⟩; exact ⟨⟨a, b⟩, c, d⟩

theorem get_same (x : ByteArray × Int) (t : V) : getV (x :: t) x.1 = x.2 := by rw [getV, if_pos (eqS_iff.2 rfl)]
theorem get_other {x : ByteArray × Int} {n : ByteArray} (t : V) (h : x.1 ≠ n) : getV (x :: t) n = getV t n := by rw [getV, if_neg (fun e => h (eqS_iff.1 e))]
theorem get_zero : ∀ {l : V} {n : ByteArray}, (∀ y ∈ l, y.1 ≠ n) → getV l n = 0
  | [], _, _ => rfl
  | x :: t, n, h => by rw [get_other t (h x (by simp))]; exact get_zero fun y hy => h y (by simp [hy])
theorem get_mem : ∀ {l : V} {n : ByteArray}, getV l n ≠ 0 → ∃ y ∈ l, y.1 = n
  | [], _, h => absurd rfl h
  | x :: t, n, h => by
    by_cases e : x.1 = n
    · exact ⟨x, by simp, e⟩
    · rw [get_other t e] at h
      obtain ⟨y, hy, hn⟩ := get_mem h
      exact ⟨y, by simp [hy], hn⟩
theorem get_bd : ∀ {l : V} (n : ByteArray), Gd l → 0 ≤ getV l n ∧ getV l n ≤ 9223372036854775807
  | [], _, _ => ⟨Int.le_refl _, (by decide : (0 : Int) ≤ 9223372036854775807)⟩
  | x :: t, n, h => by
    have h' := Gd.cons.1 h
    by_cases e : x.1 = n
    · subst e; rw [get_same]; omega
    · rw [get_other t e]; exact get_bd n h'.2.2
theorem get_in : ∀ {l : V} {x : ByteArray × Int}, Gd l → x ∈ l → getV l x.1 = x.2
  | [], _, _, h => absurd h (by simp)
  | y :: t, x, h, hx => by
    have h' := Gd.cons.1 h
    rcases List.mem_cons.1 hx with rfl | hx
    · exact get_same _ _
    · rw [get_other t (lt_ne (h'.2.1 x hx))]; exact get_in h'.2.2 hx
theorem behind_get {l : V} {n : ByteArray} (h : ∀ y ∈ l, ltS n y.1 = true) : getV l n = 0 := get_zero fun y hy => (lt_ne (h y hy)).symm

theorem Gd.ext : ∀ {a b : V}, Gd a → Gd b → (∀ n, getV a n = getV b n) → a = b
  | [], [], _, _, _ => rfl
  | [], y :: t, _, hb, h => by
    have := h y.1; rw [get_same] at this; have := (Gd.cons.1 hb).1; rw [show getV [] y.1 = 0 from rfl] at *; omega
  | x :: s, [], ha, _, h => by
    have := h x.1; rw [get_same] at this; have := (Gd.cons.1 ha).1; rw [show getV [] x.1 = 0 from rfl] at *; omega
  | x :: s, y :: t, ha, hb, h => by
    have ha' := Gd.cons.1 ha
    have hb' := Gd.cons.1 hb
    have e1 : ltS x.1 y.1 = false := by
      cases e : ltS x.1 y.1 with
      | false => rfl
      | true =>
        have hx := h x.1
        rw [get_same, behind_get (l := y :: t) (fun z hz => by
          rcases List.mem_cons.1 hz with rfl | hz
          · exact e
          · exact lt_trans' e (hb'.2.1 z hz))] at hx
        omega
    have e2 : ltS y.1 x.1 = false := by
      cases e : ltS y.1 x.1 with
      | false => rfl
      | true =>
        have hx := h y.1
        rw [get_same, behind_get (l := x :: s) (fun z hz => by
          rcases List.mem_cons.1 hz with rfl | hz
          · exact e
          · exact lt_trans' e (ha'.2.1 z hz))] at hx
        omega
    have e := lt_tri' e1 e2
    have hv : x.2 = y.2 := by have := h x.1; rw [get_same, e, get_same] at this; exact this
    have ht : s = t := Gd.ext ha'.2.2 hb'.2.2 fun n => by
      by_cases en : x.1 = n
      · rw [behind_get (fun z hz => en ▸ ha'.2.1 z hz), behind_get (fun z hz => en ▸ e ▸ hb'.2.1 z hz)]
      · have := h n
        rw [get_other s en, get_other t (by rw [← e]; exact en)] at this
        exact this
    obtain ⟨x1, x2⟩ := x
    obtain ⟨y1, y2⟩ := y
    cases e; cases hv; rw [ht]

theorem Gd.len : ∀ {b r : V}, Gd r → Gd b → (∀ n, getV r n ≠ 0 → getV b n ≠ 0) → r.length ≤ b.length
  | [], [], _, _, _ => Nat.le_refl _
  | [], x :: s, hr, _, h => by
    have := h x.1; rw [get_same] at this; have h1 := (Gd.cons.1 hr).1
    exact absurd rfl (this (by omega))
  | y :: t, [], _, _, _ => Nat.zero_le _
  | y :: t, x :: s, hr, hb, h => by
    have hr' := Gd.cons.1 hr
    have hb' := Gd.cons.1 hb
    have : s.length ≤ t.length := Gd.len hr'.2.2 hb'.2.2 fun n hn => by
      obtain ⟨z, hz, rfl⟩ := get_mem hn
      have hlt := hr'.2.1 z hz
      have hb2 := h z.1 (by rw [get_other s (lt_ne hlt)]; exact hn)
      by_cases e : y.1 = z.1
      · obtain ⟨u, hu, hux⟩ := get_mem (h x.1 (by rw [get_same]; omega))
        rcases List.mem_cons.1 hu with rfl | hu
        · rw [← hux, e, lt_irrefl'] at hlt; cases hlt
        · have := hb'.2.1 u hu
          rw [hux, e] at this
          exact (lt_asymm' hlt this).elim
      · rw [get_other t e] at hb2; exact hb2
    simp only [List.length_cons]; omega

theorem leS_false {s t : ByteArray} (h : leS s t = false) : ltS t s = true := by
  unfold leS at h
  rw [Bool.or_eq_false_iff] at h
  cases e : ltS t s with
  | true => rfl
  | false => rw [lt_tri' h.1 e, eqS_iff.2 rfl] at h; cases h.2
theorem leS_of_lt {s t : ByteArray} (h : ltS t s = true) : leS s t = false := by
  unfold leS
  rw [Bool.or_eq_false_iff]
  refine ⟨?_, ?_⟩
  · cases e : ltS s t with
    | false => rfl
    | true => exact (lt_asymm' h e).elim
  · cases e : eqS s t with
    | false => rfl
    | true => exact absurd (eqS_iff.1 e).symm (lt_ne h)

theorem check_good {l : V} (h : checkV l = 0) (hf : Fine l) : Gd l := by
  have h2 : checkFrom none l = 0 := by
    unfold checkV at h
    split at h
    · cases h
    · exact h
  have key : ∀ (l : V) (p : Option ByteArray), checkFrom p l = 0 → Fine l → Gd l ∧ (∀ x, p = some x → ∀ y ∈ l, ltS x y.1 = true) := by
    intro l
    induction l with
    | nil => intro p _ _; exact ⟨Gd.nil, fun _ _ y hy => absurd hy (by simp)⟩
    | cons x t ih =>
      intro p hc hf
      rw [Fine.cons] at hf
      unfold checkFrom at hc
      split at hc
      · cases hc
      · rename_i n1
        split at hc
        · cases hc
        · rename_i n2
          split at hc
          · cases hc
          · rename_i n3
            obtain ⟨hg, hall⟩ := ih _ hc hf.2
            have hx := hall x.1 rfl
            refine ⟨Gd.cons.2 ⟨⟨by simpa using n1, by omega, hf.1.2.2⟩, hx, hg⟩, ?_⟩
            rintro q rfl y hy
            have hq : ltS q x.1 = true := leS_false (by simpa [behindB] using n3)
            rcases List.mem_cons.1 hy with rfl | hy
            · exact hq
            · exact lt_trans' hq (hx y hy)
  exact (key l none h2 hf).1
theorem good_check {l : V} (h : Gd l) (hl : l.length ≤ 8) : checkV l = 0 := by
  have key : ∀ (l : V) (p : Option ByteArray), Gd l → (∀ x, p = some x → ∀ y ∈ l, ltS x y.1 = true) → checkFrom p l = 0 := by
    intro l
    induction l with
    | nil => intro p _ _; cases p <;> rfl
    | cons x t ih =>
      intro p hg hp
      have hg' := Gd.cons.1 hg
      rw [checkFrom, if_neg (by rw [hg'.1.1]; decide), if_neg (by omega), if_neg]
      · exact ih _ hg'.2.2 fun q e y hy => by cases e; exact hg'.2.1 y hy
      · cases p with
        | none => simp [behindB]
        | some q => rw [show behindB (some q) x.1 = leS x.1 q from rfl, leS_of_lt (hp q rfl x (by simp))]; decide
  unfold checkV
  rw [if_neg (by omega)]
  exact key l none h (fun _ e => by cases e)

end Go.Proofs.YtapnffejnhkoaaaGreat.Vec

/- What is merged, by its names' amounts. -/
namespace Go.Proofs.YtapnffejnhkoaaaGreat.Vec
open Go.RowKit
set_option linter.unusedVariables false

theorem take_spec {l : V} {s : ByteArray} (hg : Gd l) (h : ∀ y ∈ l, y.1 = s ∨ ltS s y.1 = true) :
    (takenV l s).1 = getV l s ∧ Gd (takenV l s).2 ∧ (∀ y ∈ (takenV l s).2, ltS s y.1 = true) ∧ (∀ n, n ≠ s → getV (takenV l s).2 n = getV l n) ∧ (∀ m, (∀ y ∈ l, ltS m y.1 = true) → ∀ y ∈ (takenV l s).2, ltS m y.1 = true) := by
  cases l with
  | nil => exact ⟨rfl, hg, fun y hy => absurd hy (by simp [takenV]), fun _ _ => rfl, fun _ _ y hy => absurd hy (by simp [takenV])⟩
  | cons x t =>
    have hg' := Gd.cons.1 hg
    rw [taken_cons]
    by_cases e : x.1 = s
    · rw [if_pos (eqS_iff.2 e)]
      subst e
      exact ⟨(get_same x t).symm, hg'.2.2, hg'.2.1, fun n hn => (get_other t (Ne.symm hn)).symm, fun m hm y hy => hm y (by simp [hy])⟩
    · rw [if_neg (fun c => e (eqS_iff.1 c))]
      have hx : ltS s x.1 = true := (h x (by simp)).resolve_left e
      have hall : ∀ y ∈ x :: t, ltS s y.1 = true := fun y hy => by
        rcases List.mem_cons.1 hy with rfl | hy
        · exact hx
        · exact lt_trans' hx (hg'.2.1 y hy)
      exact ⟨(behind_get hall).symm, hg, hall, fun _ _ => rfl, fun m hm => hm⟩

theorem foremost_spec {la lb : V} (ha : Gd la) (hb : Gd lb) (h : 0 < la.length + lb.length) :
    isName (foremostV la lb) = true ∧ (∀ y ∈ la, y.1 = foremostV la lb ∨ ltS (foremostV la lb) y.1 = true) ∧ (∀ y ∈ lb, y.1 = foremostV la lb ∨ ltS (foremostV la lb) y.1 = true) ∧
      (∀ m, (∀ y ∈ la, ltS m y.1 = true) → (∀ y ∈ lb, ltS m y.1 = true) → ltS m (foremostV la lb) = true) := by
  have own : ∀ {x : ByteArray × Int} {t : V}, Gd (x :: t) → ∀ y ∈ x :: t, y.1 = x.1 ∨ ltS x.1 y.1 = true := fun {x t} hg y hy => by
    rcases List.mem_cons.1 hy with rfl | hy
    · exact .inl rfl
    · exact .inr ((Gd.cons.1 hg).2.1 y hy)
  cases la with
  | nil =>
    cases lb with
    | nil => simp at h
    | cons y t => exact ⟨(Gd.cons.1 hb).1.1, fun z hz => absurd hz (by simp), own hb, fun m _ hm => hm y (by simp)⟩
  | cons x s =>
    cases lb with
    | nil => exact ⟨(Gd.cons.1 ha).1.1, own ha, fun z hz => absurd hz (by simp), fun m hm _ => hm x (by simp)⟩
    | cons y t =>
      rw [foremost_cons]
      by_cases e : ltS y.1 x.1 = true
      · rw [if_pos e]
        refine ⟨(Gd.cons.1 hb).1.1, fun z hz => .inr ?_, own hb, fun m _ hm => hm y (by simp)⟩
        rcases own ha z hz with hz | hz
        · rw [hz]; exact e
        · exact lt_trans' e hz
      · rw [if_neg e]
        refine ⟨(Gd.cons.1 ha).1.1, own ha, fun z hz => ?_, fun m hm _ => hm x (by simp)⟩
        have e' : ltS y.1 x.1 = false := by simpa using e
        have hxy : y.1 = x.1 ∨ ltS x.1 y.1 = true := by
          cases e2 : ltS x.1 y.1 with
          | true => exact .inr rfl
          | false => exact .inl (lt_tri' e' e2)
        rcases own hb z hz with hz | hz
        · rw [hz]; exact hxy
        · rcases hxy with hxy | hxy
          · rw [← hxy]; exact .inr hz
          · exact .inr (lt_trans' hxy hz)

structure Rk (f : Int → Int → Int × Int) : Prop where
  zero : f 0 0 = (0, 0)
  code : ∀ x y, 0 ≤ x ∧ x ≤ 9223372036854775807 → 0 ≤ y ∧ y ≤ 9223372036854775807 → (f x y).2 = 0 ∨ (f x y).2 = 5
  bd : ∀ x y, 0 ≤ x ∧ x ≤ 9223372036854775807 → 0 ≤ y ∧ y ≤ 9223372036854775807 → 0 ≤ (f x y).1 ∧ (f x y).1 ≤ 9223372036854775807

theorem rk_add : Rk addF := by
  refine ⟨by decide, fun x y hx hy => ?_, fun x y hx hy => addF_bd hx hy⟩
  unfold addF; split
  · exact .inl rfl
  · exact .inr rfl
theorem rk_sub : Rk subF := by
  refine ⟨by decide, fun x y hx hy => ?_, fun x y hx hy => subF_bd hx hy⟩
  unfold subF; split
  · exact .inl rfl
  · exact .inr rfl

def Made (f : ByteArray → Int) (r : V) : Prop := Gd r ∧ ∀ n, getV r n = f n

theorem plus_made {r : V} {s : ByteArray} {v : Int} {g g' : ByteArray → Int} (hr : Made g' r) (hs : isName s = true) (hv : 0 ≤ v ∧ v ≤ 9223372036854775807) (hall : ∀ y ∈ r, ltS s y.1 = true)
    (h1 : g s = v) (h2 : ∀ n, n ≠ s → g n = g' n) : ∃ r', (∀ acc, plusV acc s v ++ r = acc ++ r') ∧ Made g r' ∧ (∀ m, ltS m s = true → (∀ y ∈ r, ltS m y.1 = true) → ∀ y ∈ r', ltS m y.1 = true) ∧ r'.length ≤ r.length + 1 := by
  by_cases e : v = 0
  · refine ⟨r, fun acc => by unfold plusV; rw [if_pos e], ⟨hr.1, fun n => ?_⟩, fun m _ h => h, by omega⟩
    by_cases en : n = s
    · subst en; rw [behind_get hall, h1, e]
    · rw [hr.2 n, h2 n en]
  · refine ⟨(s, v) :: r, fun acc => by unfold plusV; rw [if_neg e]; simp, ⟨Gd.cons.2 ⟨⟨hs, by omega, hv.2⟩, hall, hr.1⟩, fun n => ?_⟩, fun m hm h y hy => ?_, by simp⟩
    · by_cases en : n = s
      · subst en; rw [get_same (n, v) r, h1]
      · rw [get_other (x := (s, v)) r (fun c => en c.symm), hr.2 n, h2 n en]
    · rcases List.mem_cons.1 hy with rfl | hy
      · exact hm
      · exact h y hy

theorem merge_spec {f : Int → Int → Int × Int} (hf : Rk f) : ∀ (fuel : Nat) (la lb : V), la.length + lb.length ≤ fuel → Gd la → Gd lb →
    ((∃ n, (f (getV la n) (getV lb n)).2 ≠ 0) ∧ ∀ acc, mergeAcc f fuel la lb acc = (5, [])) ∨
    ((∀ n, (f (getV la n) (getV lb n)).2 = 0) ∧ ∃ r, (∀ acc, mergeAcc f fuel la lb acc = (0, acc ++ r)) ∧ Made (fun n => (f (getV la n) (getV lb n)).1) r ∧
      (∀ m, (∀ y ∈ la, ltS m y.1 = true) → (∀ y ∈ lb, ltS m y.1 = true) → ∀ y ∈ r, ltS m y.1 = true)) := by
  intro fuel
  induction fuel with
  | zero =>
    intro la lb hl ha hb
    have e1 : la = [] := List.eq_nil_of_length_eq_zero (by omega)
    have e2 : lb = [] := List.eq_nil_of_length_eq_zero (by omega)
    subst e1; subst e2
    refine .inr ⟨fun n => by rw [show getV [] n = 0 from rfl, hf.zero], [], fun acc => by rw [mergeAcc, List.append_nil], ⟨Gd.nil, fun n => by show (0 : Int) = (f 0 0).1; rw [hf.zero]⟩, fun m _ _ y hy => absurd hy (by simp)⟩
  | succ fuel ih =>
    intro la lb hl ha hb
    by_cases h0 : la.length + lb.length = 0
    · have e1 : la = [] := List.eq_nil_of_length_eq_zero (by omega)
      have e2 : lb = [] := List.eq_nil_of_length_eq_zero (by omega)
      subst e1; subst e2
      refine .inr ⟨fun n => by rw [show getV [] n = 0 from rfl, hf.zero], [], fun acc => by rw [merge_end (by simp), List.append_nil], ⟨Gd.nil, fun n => by show (0 : Int) = (f 0 0).1; rw [hf.zero]⟩, fun m _ _ y hy => absurd hy (by simp)⟩
    · obtain ⟨hs, hsa, hsb, hsm⟩ := foremost_spec ha hb (by omega)
      have hless := merge_less (la := la) (lb := lb) (by omega)
      obtain ⟨s, es⟩ : ∃ s, foremostV la lb = s := ⟨_, rfl⟩
      have hstep : ∀ acc, mergeAcc f (fuel + 1) la lb acc = if (f (takenV la s).1 (takenV lb s).1).2 ≠ 0 then ((f (takenV la s).1 (takenV lb s).1).2, []) else mergeAcc f fuel (takenV la s).2 (takenV lb s).2 (plusV acc s (f (takenV la s).1 (takenV lb s).1).1) := fun acc => by
        rw [mergeAcc, if_neg h0]; dsimp only; rw [es]
      rw [es] at hs hsa hsb hsm hless
      obtain ⟨a1, a2, a3, a4, a5⟩ := take_spec ha hsa
      obtain ⟨b1, b2, b3, b4, b5⟩ := take_spec hb hsb
      rw [a1, b1] at hstep
      have hca := get_bd s ha
      have hcb := get_bd s hb
      by_cases hx : (f (getV la s) (getV lb s)).2 = 0
      · have hstep2 : ∀ acc, mergeAcc f (fuel + 1) la lb acc = mergeAcc f fuel (takenV la s).2 (takenV lb s).2 (plusV acc s (f (getV la s) (getV lb s)).1) := fun acc => by
          rw [hstep acc, if_neg (by rw [hx]; decide)]
        have e0 : ∀ n, n = s → f (getV (takenV la s).2 n) (getV (takenV lb s).2 n) = (0, 0) := fun n hn => by
          subst hn; rw [behind_get a3, behind_get b3, hf.zero]
        rcases ih (takenV la s).2 (takenV lb s).2 (by omega) a2 b2 with ⟨⟨n, hn⟩, hbad⟩ | ⟨hgood, r, hr, hm, hmin⟩
        · refine .inl ⟨⟨n, ?_⟩, fun acc => by rw [hstep2, hbad]⟩
          by_cases en : n = s
          · rw [e0 n en] at hn; exact absurd rfl hn
          · rw [a4 n en, b4 n en] at hn; exact hn
        · obtain ⟨r', h1, h2, h3, _⟩ := plus_made (s := s) (v := (f (getV la s) (getV lb s)).1) (g := fun n => (f (getV la n) (getV lb n)).1) hm hs (hf.bd _ _ hca hcb) (hmin s a3 b3) rfl
            (fun n hn => by show _ = _; rw [a4 n hn, b4 n hn])
          refine .inr ⟨fun n => ?_, r', fun acc => by rw [hstep2, hr, h1], h2, fun m hma hmb => h3 m (hsm m hma hmb) (hmin m (a5 m hma) (b5 m hmb))⟩
          by_cases en : n = s
          · rw [en]; exact hx
          · have := hgood n; rw [a4 n en, b4 n en] at this; exact this
      · refine .inl ⟨⟨s, hx⟩, fun acc => ?_⟩
        rw [hstep acc, if_pos hx, (hf.code _ _ hca hcb).resolve_left hx]

theorem merged_spec {f : Int → Int → Int × Int} (hf : Rk f) {l l' : V} (h : Gd l) (h' : Gd l') (hl : l.length ≤ 8) (hl' : l'.length ≤ 8) :
    ((∃ n, (f (getV l n) (getV l' n)).2 ≠ 0) ∧ mergedV f l l' = (5, [])) ∨
    ((∀ n, (f (getV l n) (getV l' n)).2 = 0) ∧ ∃ r, Made (fun n => (f (getV l n) (getV l' n)).1) r ∧ ((8 < r.length ∧ mergedV f l l' = (4, [])) ∨ (r.length ≤ 8 ∧ mergedV f l l' = (0, r)))) := by
  have e : mergedV f l l' = (let r := mergeAcc f (l.length + l'.length) l l' []; if r.1 ≠ 0 then (r.1, []) else if 8 < r.2.length then (4, []) else (0, r.2)) := by
    rw [mergedV, if_neg (by rw [good_check h hl]; decide), if_neg (by rw [good_check h' hl']; decide)]
  rcases merge_spec hf (l.length + l'.length) l l' (Nat.le_refl _) h h' with ⟨hn, hb⟩ | ⟨hn, r, hr, hm, _⟩
  · exact .inl ⟨hn, by rw [e, hb]; rfl⟩
  · refine .inr ⟨hn, r, hm, ?_⟩
    rw [e, hr]
    by_cases h8 : 8 < r.length
    · exact .inl ⟨h8, by simp [h8]⟩
    · exact .inr ⟨by omega, by simp [h8]⟩

end Go.Proofs.YtapnffejnhkoaaaGreat.Vec

/- What the laws say of vectors that may be. -/
namespace Go.Proofs.YtapnffejnhkoaaaGreat.Vec
open Go.RowKit
set_option linter.unusedVariables false

theorem fits_mem : ∀ {l h : V}, fitsFrom h l = true ↔ ∀ x ∈ l, x.2 ≤ getV h x.1
  | [], h => ⟨fun _ x hx => absurd hx (by simp), fun _ => rfl⟩
  | x :: t, h => by
    rw [fitsFrom, Bool.and_eq_true, decide_eq_true_eq, fits_mem, List.forall_mem_cons]
theorem fits_iff {l h : V} (hl : Gd l) (hh : Gd h) : fitsFrom h l = true ↔ ∀ n, getV l n ≤ getV h n := by
  rw [fits_mem]
  constructor
  · intro hx n
    by_cases e : getV l n = 0
    · rw [e]; exact (get_bd n hh).1
    · obtain ⟨x, hm, rfl⟩ := get_mem e
      rw [get_in hl hm]; exact hx x hm
  · intro hn x hx
    have := hn x.1
    rw [get_in hl hx] at this; exact this
theorem same_self : ∀ l : V, sameFrom l l = true
  | [] => rfl
  | x :: t => by rw [sameFrom, same_self t, eqS_iff.2 rfl]; simp
theorem subF_code (x y : Int) : (subF x y).2 = 0 ↔ y ≤ x := by
  unfold subF; split
  · simp only [true_iff]; assumption
  · constructor
    · intro h; cases h
    · intro h; contradiction
theorem addF_code (x y : Int) : (addF x y).2 = 0 ↔ x + y ≤ 9223372036854775807 := by
  unfold addF; split
  · simp only [true_iff]; assumption
  · constructor
    · intro h; cases h
    · intro h; contradiction
theorem subF_val {x y : Int} (h : y ≤ x) : subF x y = (x - y, 0) := by unfold subF; rw [if_pos h]
theorem addF_val {x y : Int} (h : x + y ≤ 9223372036854775807) : addF x y = (x + y, 0) := by unfold addF; rw [if_pos h]

theorem sub_made {l l' : V} (h : Gd l) (h' : Gd l') (hl : l.length ≤ 8) (hl' : l'.length ≤ 8) (hf : ∀ n, getV l' n ≤ getV l n) :
    ∃ r, mergedV subF l l' = (0, r) ∧ Made (fun n => getV l n - getV l' n) r ∧ r.length ≤ 8 := by
  rcases merged_spec rk_sub h h' hl hl' with ⟨⟨n, hn⟩, _⟩ | ⟨_, r, hm, hr⟩
  · exact absurd ((subF_code _ _).2 (hf n)) hn
  · have hm' : Made (fun n => getV l n - getV l' n) r := ⟨hm.1, fun n => by rw [hm.2 n]; show (subF _ _).1 = _; rw [subF_val (hf n)]⟩
    have hlen : r.length ≤ l.length := Gd.len hm.1 h fun n hn => by
      rw [hm'.2 n] at hn
      dsimp only at hn
      have h1 := get_bd n h
      have h2 := get_bd n h'
      have := hf n
      omega
    rcases hr with ⟨h8, _⟩ | ⟨h8, e⟩
    · omega
    · exact ⟨r, e, hm', h8⟩
theorem add_made {l l' r : V} (h : Gd l) (h' : Gd l') (hl : l.length ≤ 8) (hl' : l'.length ≤ 8) (hs : ∀ n, getV l n + getV l' n ≤ 9223372036854775807) (hr : Made (fun n => getV l n + getV l' n) r) (h8 : r.length ≤ 8) : mergedV addF l l' = (0, r) := by
  rcases merged_spec rk_add h h' hl hl' with ⟨⟨n, hn⟩, _⟩ | ⟨hn, q, hm, hq⟩
  · exact absurd ((addF_code _ _).2 (hs n)) hn
  · have e : q = r := Gd.ext hm.1 hr.1 fun n => by rw [hm.2 n, hr.2 n]; show (addF _ _).1 = _; rw [addF_val (hs n)]
    subst e
    rcases hq with ⟨h9, _⟩ | ⟨_, e⟩
    · omega
    · exact e
end Go.Proofs.YtapnffejnhkoaaaGreat.Vec

/- What the laws begin with. -/
namespace Go.Proofs.YtapnffejnhkoaaaGreat.Vec
open Go.RowKit
set_option linter.unusedVariables false

theorem Reads.fine {v : Value} {l : V} {w : World} (h : Reads w v l) : Fine l := by
  obtain ⟨a, cap, rfl, h1, h2, h3⟩ := h
  exact h3.2.2.1
end Go.Proofs.YtapnffejnhkoaaaGreat.Vec

/- The reference's quantities: what each call answers, said of whole numbers. -/
namespace Go.Proofs.YtapnffejnhkoaaaGreat.Vec
open Go.RowKit
set_option linter.unusedVariables false

theorem radd_over (a b : Int) (w : World) (ha : 0 ≤ a) (hb : 0 ≤ b) (hb' : b ≤ 9223372036854775807) (h : 9223372036854775807 < a + b) : Calls Tryz.prog 137 #[.int .i64 a, .int .i64 b] w (Pure2 0 5 w) := by
  go_enter Tryz.func137, Tryz.ntmps137
  go_wp2
  go_ret2
  exact ⟨rfl, rfl⟩
theorem radd_ok (a b : Int) (w : World) (ha : 0 ≤ a) (hb : 0 ≤ b) (h : a + b ≤ 9223372036854775807) : Calls Tryz.prog 137 #[.int .i64 a, .int .i64 b] w (Pure2 (a + b) 0 w) := by
  go_enter Tryz.func137, Tryz.ntmps137
  go_wp2
  go_ret2
  exact ⟨rfl, rfl⟩
end Go.Proofs.YtapnffejnhkoaaaGreat.Vec

/- The reference's vectors read: a name's amount, whether alike, whether the one fits the other. -/
namespace Go.Proofs.YtapnffejnhkoaaaGreat.Vec
open Go.RowKit
set_option linter.unusedVariables false

set_option maxHeartbeats 800000 in
theorem rget_any (a : Option Addr) (len cap : Nat) (l : V) (n : ByteArray) (w : World) (hr : VecAt w a len l) :
    Calls Tryz.prog 7 #[.slice a len cap, .string n] w fun e w' => e = .returned (.int .i64 (getV l n)) ∧ Kept w w' := by
  have hl := hr.1
  have hm := hr.2.1
  unfold maxLen at hm
  rcases hr.form with h0 | ⟨b, off, rfl⟩
  · subst h0
    have HE := Lib.hid (show getV l n = 0 by rw [List.eq_nil_of_length_eq_zero hl]; rfl)
    clear hr hl
    go_enter Tryz.func7, Tryz.ntmps7
    go_wp2
    refine wp_loop_rounds 1 ?_
    rw [rounds_succ]
    go_wp2
    go_ret
    exact ⟨ret_i64 HE.out.symm, Kept.refl _⟩
  · have HR := Lib.hid hr
    have HL := Lib.hid hl
    clear hr hl
    go_enter Tryz.func7, Tryz.ntmps7
    go_wp2
    go_loopw [5] (fun i wr => ∃ k : Nat, k ≤ len ∧ i = .int .i64 k ∧ getV (l.drop k) n = getV l n ∧ Kept w wr) (fun i _ => len - (intOf i).toNat)
    case atStart => exact ⟨0, Nat.zero_le _, rfl, rfl, Kept.refl _⟩
    case round =>
      obtain ⟨k, hk, rfl, hrest, hK⟩ := hrel
      have HK := Lib.hid hK
      have HS := Lib.hid hrest
      by_cases hlt : k < len
      · obtain ⟨hb, c1, c2⟩ := (HR.out.kept hK).cells hlt
        clear hK hrest
        have HI := Lib.hid (show k < l.length by rw [HL.out]; exact hlt)
        by_cases e : eqS (nm l k) n = true
        · have E := Lib.hid e
          have e' : ((nm l k).toList == n.toList) = true := e
          clear e
          go_wp2
          go_ret
          exact ⟨ret_i64 (HS.out.symm.trans (get_here HI.out E.out)).symm, HK.out⟩
        · have e : eqS (nm l k) n = false := by simpa using e
          have E := Lib.hid e
          have e' : ((nm l k).toList == n.toList) = false := e
          clear e
          go_wp2
          go_roundw
          case rel => exact ⟨k + 1, by omega, by go_num, (get_next HI.out E.out).symm.trans HS.out, HK.out⟩
          case measure => simp [intOf]; omega
      · have HI := Lib.hid (show ¬ k < l.length by rw [HL.out]; exact hlt)
        clear hK hrest
        go_wp2
        go_ret
        exact ⟨ret_i64 (HS.out.symm.trans (get_end HI.out)).symm, HK.out⟩

set_option maxHeartbeats 800000 in
theorem rfits_any (a a' : Option Addr) (len cap len' cap' : Nat) (l l' : V) (w : World) (hr : VecAt w a len l) (hr' : VecAt w a' len' l') :
    Calls Tryz.prog 56 #[.slice a len cap, .slice a' len' cap'] w fun e w' => e = .returned (.bool (fitsFrom l' l)) ∧ Kept w w' := by
  have hl := hr.1
  have hm := hr.2.1
  unfold maxLen at hm
  rcases hr.form with h0 | ⟨b, off, rfl⟩
  · subst h0
    have HE := Lib.hid (show fitsFrom l' l = true by rw [List.eq_nil_of_length_eq_zero hl]; rfl)
    clear hr hl hr'
    go_enter Tryz.func56, Tryz.ntmps56
    go_wp2
    refine wp_loop_rounds 1 ?_
    rw [rounds_succ]
    go_wp2
    go_ret
    exact ⟨ret_bool HE.out.symm, Kept.refl _⟩
  · have HR := Lib.hid hr
    have HL := Lib.hid hl
    have HR' := Lib.hid hr'
    clear hr hl hr'
    go_enter Tryz.func56, Tryz.ntmps56
    go_wp2
    go_loopw [5] (fun i wr => ∃ k : Nat, k ≤ len ∧ i = .int .i64 k ∧ fitsFrom l' (l.drop k) = fitsFrom l' l ∧ Kept w wr) (fun i _ => len - (intOf i).toNat)
    case atStart => exact ⟨0, Nat.zero_le _, rfl, rfl, Kept.refl _⟩
    case round =>
      obtain ⟨k, hk, rfl, hrest, hK⟩ := hrel
      have HS := Lib.hid hrest
      have HK := Lib.hid hK
      by_cases hlt : k < len
      · obtain ⟨hb, c1, c2⟩ := (HR.out.kept hK).cells hlt
        clear hrest hK
        have HI := Lib.hid (show k < l.length by rw [HL.out]; exact hlt)
        by_cases e : qn l k ≤ getV l' (nm l k)
        · have E := Lib.hid (show fitsFrom l' (l.drop k) = fitsFrom l' (l.drop (k + 1)) by rw [drop_cons HI.out, fitsFrom, decide_eq_true e]; rfl)
          go_wp2
          have f1 : wr.drew.cell? ⟨b, off + k * 2, none⟩ = some (.string (nm l k)) := c1
          have f2 : wr.drew.cell? ⟨b, off + k * 2 + 1, none⟩ = some (.int .i64 (qn l k)) := c2
          have f3 : Kept w wr.drew := HK.out.trans (Kept.drewN _ 1)
          go_region_held3 (fun W => W.cell? ⟨b, off + k * 2, none⟩ = some (.string (nm l k)) ∧ W.cell? ⟨b, off + k * 2 + 1, none⟩ = some (.int .i64 (qn l k)) ∧ Kept w W) (first | exact ⟨f1, f2, f3⟩ | assumption | exact held_step (by assumption) (by assumption))
            (first | (go_at_call 7; refine (rget_any _ _ _ l' _ _ (HR'.out.kept (held_kept (by assumption)))).mono ?_; rintro e W2 ⟨rfl, hk2⟩))
          all_goals
            go_wp2
            go_roundw
            case rel => exact ⟨k + 1, by omega, by go_num, E.out.symm.trans HS.out, held_kept (by assumption)⟩
            case measure => simp [intOf]; omega
        · have E := Lib.hid (show fitsFrom l' (l.drop k) = false by rw [drop_cons HI.out, fitsFrom, decide_eq_false e]; rfl)
          have e' : getV l' (nm l k) < qn l k := by omega
          clear e
          go_wp2
          have f1 : wr.drew.cell? ⟨b, off + k * 2, none⟩ = some (.string (nm l k)) := c1
          have f2 : wr.drew.cell? ⟨b, off + k * 2 + 1, none⟩ = some (.int .i64 (qn l k)) := c2
          have f3 : Kept w wr.drew := HK.out.trans (Kept.drewN _ 1)
          go_region_held3 (fun W => W.cell? ⟨b, off + k * 2, none⟩ = some (.string (nm l k)) ∧ W.cell? ⟨b, off + k * 2 + 1, none⟩ = some (.int .i64 (qn l k)) ∧ Kept w W) (first | exact ⟨f1, f2, f3⟩ | assumption | exact held_step (by assumption) (by assumption))
            (first | (go_at_call 7; refine (rget_any _ _ _ l' _ _ (HR'.out.kept (held_kept (by assumption)))).mono ?_; rintro e W2 ⟨rfl, hk2⟩))
          all_goals
            go_wp2
            go_ret
            exact ⟨ret_bool (HS.out.symm.trans E.out).symm, held_kept (by assumption)⟩
      · have E := Lib.hid (show fitsFrom l' (l.drop k) = true by rw [List.drop_of_length_le (by rw [HL.out]; omega), fitsFrom])
        clear hrest hK
        go_wp2
        go_ret
        exact ⟨ret_bool (HS.out.symm.trans E.out).symm, HK.out⟩

end Go.Proofs.YtapnffejnhkoaaaGreat.Vec

/- The reference's products and parts, as one answer each. -/
namespace Go.Proofs.YtapnffejnhkoaaaGreat.Vec
open Go.RowKit
set_option linter.unusedVariables false

def Told (c : Int) (m : V) (w : World) (e : Ending) (w' : World) : Prop := ∃ x, e = .returned (.tuple #[x, .int .i64 c]) ∧ OwnV 72 w' w.heap.size x m ∧ Kept w w'
theorem Told.none {c : Int} {w w' : World} (k : Kept w w') : Told c [] w (.returned (.tuple #[.slice none 0 0, .int .i64 c])) w' := ⟨_, rfl, OwnV.nil _ _ _, k⟩

end Go.Proofs.YtapnffejnhkoaaaGreat.Vec

/- The reference's decimals and what they spell. -/
namespace Go.Proofs.YtapnffejnhkoaaaGreat.Vec
open Go.RowKit
set_option linter.unusedVariables false

end Go.Proofs.YtapnffejnhkoaaaGreat.Vec

/- A part's form, told by every '=' as by the first; a decimal told back. -/
namespace Go.Proofs.YtapnffejnhkoaaaGreat.Vec
open Go.RowKit Go.Proofs.YtapnffejnhkoaaaGreat
set_option linter.unusedVariables false

end Go.Proofs.YtapnffejnhkoaaaGreat.Vec

/- A row of the call's own whose elements are rows of two strings each. -/
namespace Go.Proofs.YtapnffejnhkoaaaGreat.Vec
open Go.RowKit Go.Proofs.YtapnffejnhkoaaaGreat
set_option linter.unusedVariables false

def Inner (w : World) (v : Value) (vs : List (Nat × Nat)) (ps : List (List UInt8)) : Prop :=
  ∀ (i : Nat) (x : Nat × Nat) (p : List UInt8), vs[i]? = some x → ps[i]? = some p → x.1 < w.heap.size ∧ v.ownBlock ≠ some x.1 ∧
    w.cell? ⟨x.1, 0, none⟩ = some (.string (bytes (nameOf p))) ∧ w.cell? ⟨x.1, 1, none⟩ = some (.string (bytes (numOf' p)))
theorem Inner.nil (w : World) (v : Value) (ps : List (List UInt8)) : Inner w v [] ps := fun i x p h => by simp at h
theorem Inner.kept {w w' : World} {v : Value} {vs : List (Nat × Nat)} {ps : List (List UInt8)} (h : Inner w v vs ps) (k : Kept w w') : Inner w' v vs ps := fun i x p hx hp => by
  obtain ⟨h1, h2, h3, h4⟩ := h i x p hx hp
  exact ⟨Nat.lt_of_lt_of_le h1 k.size, h2, cell_later k h3, cell_later k h4⟩
theorem Inner.snoc {w w' : World} {v : Value} {vs : List (Nat × Nat)} {ps : List (List UInt8)} {g n cap b c : Nat} {p : List UInt8} (h : Inner w v vs ps) (hg : w.grownBy w' v.ownBlock) (hgo : v.ownBlock = some g ∨ g = w.heap.size)
    (hp : ps[vs.length]? = some p) (hb : b < w.heap.size) (hne : v.ownBlock ≠ some b)
    (c0 : w.cell? ⟨b, 0, none⟩ = some (.string (bytes (nameOf p)))) (c1 : w.cell? ⟨b, 1, none⟩ = some (.string (bytes (numOf' p)))) :
    Inner w' (.slice (some ⟨g, 0, none⟩) n cap) (vs ++ [(b, c)]) ps := by
  have far : ∀ d, d < w.heap.size → v.ownBlock ≠ some d → d < w'.heap.size ∧ (Value.slice (some ⟨g, 0, none⟩) n cap).ownBlock ≠ some d ∧ ∀ j, w'.cell? ⟨d, j, none⟩ = w.cell? ⟨d, j, none⟩ := fun d hd hn => by
    refine ⟨Nat.lt_of_lt_of_le hd hg.size, ?_, fun j => hg.cell_far ⟨d, j, none⟩ hd (fun e => hn e.symm)⟩
    show some g ≠ some d
    intro e
    have e' : g = d := Option.some.inj e
    rcases hgo with h1 | h1
    · exact hn (by rw [h1, e'])
    · omega
  intro i x q hx hq
  by_cases hi : i < vs.length
  · rw [List.getElem?_append_left hi] at hx
    obtain ⟨h1, h2, h3, h4⟩ := h i x q hx hq
    obtain ⟨f1, f2, f3⟩ := far x.1 h1 h2
    exact ⟨f1, f2, (f3 0).trans h3, (f3 1).trans h4⟩
  · have hi2 : i = vs.length := by
      have := (List.getElem?_eq_some_iff.1 hx).1
      simp at this; omega
    subst hi2
    have hxx : (b, c) = x := by simpa using hx
    have hqq : q = p := Option.some.inj (hq.symm.trans hp)
    subst hxx; subst hqq
    obtain ⟨f1, f2, f3⟩ := far b hb hne
    exact ⟨f1, f2, (f3 0).trans c0, (f3 1).trans c1⟩

end Go.Proofs.YtapnffejnhkoaaaGreat.Vec

/- The reference's Times. -/
namespace Go.Proofs.YtapnffejnhkoaaaGreat.Vec
open Go.RowKit
set_option linter.unusedVariables false

end Go.Proofs.YtapnffejnhkoaaaGreat.Vec

/- The names of both, rising, each once: plain words. -/
namespace Go.Proofs.YtapnffejnhkoaaaGreat.Vec
open Go.RowKit
set_option linter.unusedVariables false

def namesV : Nat → V → V → List ByteArray
  | 0, _, _ => []
  | fuel + 1, la, lb =>
    if la.length + lb.length = 0 then []
    else foremostV la lb :: namesV fuel (takenV la (foremostV la lb)).2 (takenV lb (foremostV la lb)).2

def foldAcc (f : Int → Int → Int × Int) (la lb : V) : List ByteArray → V → Int × V
  | [], acc => (0, acc)
  | n :: t, acc => if (f (getV la n) (getV lb n)).2 ≠ 0 then ((f (getV la n) (getV lb n)).2, []) else foldAcc f la lb t (plusV acc n (f (getV la n) (getV lb n)).1)

theorem taken_mem {l : V} {s : ByteArray} : ∀ y ∈ (takenV l s).2, y ∈ l := by
  cases l with
  | nil => intro y hy; exact hy
  | cons x t =>
    rw [taken_cons]
    split
    · exact fun y hy => List.mem_cons_of_mem _ hy
    · exact fun y hy => hy
theorem foremost_mem {la lb : V} (h : 0 < la.length + lb.length) : (∃ y ∈ la, y.1 = foremostV la lb) ∨ (∃ y ∈ lb, y.1 = foremostV la lb) := by
  cases la with
  | nil =>
    cases lb with
    | nil => simp at h
    | cons y t => exact .inr ⟨y, by simp, rfl⟩
  | cons x s =>
    cases lb with
    | nil => exact .inl ⟨x, by simp, rfl⟩
    | cons y t =>
      rw [foremost_cons]
      split
      · exact .inr ⟨y, by simp, rfl⟩
      · exact .inl ⟨x, by simp, rfl⟩

theorem fold_merge (f : Int → Int → Int × Int) (la0 lb0 : V) : ∀ (fuel : Nat) (la lb acc : V), Gd la → Gd lb →
    (∀ n, ((∃ y ∈ la, y.1 = n) ∨ (∃ y ∈ lb, y.1 = n)) → getV la0 n = getV la n ∧ getV lb0 n = getV lb n) →
    foldAcc f la0 lb0 (namesV fuel la lb) acc = mergeAcc f fuel la lb acc
  | 0, _, _, _, _, _, _ => rfl
  | fuel + 1, la, lb, acc, ha, hb, h => by
    unfold namesV mergeAcc
    by_cases h0 : la.length + lb.length = 0
    · rw [if_pos h0, if_pos h0]; rfl
    · rw [if_neg h0, if_neg h0]
      obtain ⟨hs, hsa, hsb, _⟩ := foremost_spec ha hb (by omega)
      have hm := h _ (foremost_mem (la := la) (lb := lb) (by omega))
      obtain ⟨s, es⟩ : ∃ s, foremostV la lb = s := ⟨_, rfl⟩
      rw [es] at hs hsa hsb hm ⊢
      obtain ⟨a1, a2, a3, a4, _⟩ := take_spec ha hsa
      obtain ⟨b1, b2, b3, b4, _⟩ := take_spec hb hsb
      rw [foldAcc]
      dsimp only
      rw [hm.1, hm.2, a1, b1]
      split
      · rfl
      · refine fold_merge f la0 lb0 fuel _ _ _ a2 b2 fun n hn => ?_
        have hne : n ≠ s := by
          rcases hn with ⟨y, hy, rfl⟩ | ⟨y, hy, rfl⟩
          · exact (lt_ne (a3 y hy)).symm
          · exact (lt_ne (b3 y hy)).symm
        rw [a4 n hne, b4 n hne]
        refine h n (hn.imp ?_ ?_)
        · rintro ⟨y, hy, e⟩; exact ⟨y, taken_mem y hy, e⟩
        · rintro ⟨y, hy, e⟩; exact ⟨y, taken_mem y hy, e⟩

theorem merged_fold (f : Int → Int → Int × Int) {l l' : V} (h : checkV l = 0) (h' : checkV l' = 0) (hf : Fine l) (hf' : Fine l') :
    mergedV f l l' = (let r := foldAcc f l l' (namesV (l.length + l'.length) l l') []; if r.1 ≠ 0 then (r.1, []) else if 8 < r.2.length then (4, []) else (0, r.2)) := by
  rw [mergedV, if_neg (by rw [h]; decide), if_neg (by rw [h']; decide), fold_merge f l l' _ l l' [] (check_good h hf) (check_good h' hf') (fun n _ => ⟨rfl, rfl⟩)]

theorem names_end {fuel : Nat} {la lb : V} (h : la.length + lb.length = 0) : namesV fuel la lb = [] := by
  cases fuel with
  | zero => rfl
  | succ n => rw [namesV, if_pos h]
theorem next_first {fuel : Nat} {l l' : V} {i k : Nat} (hi : i < l.length) (h : ¬ k < l'.length ∨ (k < l'.length ∧ ltS (nm l i) (nm l' k) = true)) :
    namesV (fuel + 1) (l.drop i) (l'.drop k) = nm l i :: namesV fuel (l.drop (i + 1)) (l'.drop k) := by
  rw [namesV, if_neg (by simp only [List.length_drop]; omega), drop_cons hi]
  rcases h with h | ⟨h, e⟩
  · rw [List.drop_of_length_le (l := l') (by omega)]
    have e1 : foremostV ((nm l i, qn l i) :: l.drop (i + 1)) [] = nm l i := rfl
    rw [e1, taken_cons, if_pos (eqS_iff.2 rfl)]; rfl
  · rw [drop_cons h]
    have e2 : ltS (nm l' k) (nm l i) = false := by
      cases e3 : ltS (nm l' k) (nm l i) with
      | false => rfl
      | true => exact (lt_asymm' e e3).elim
    rw [foremost_cons, if_neg (by rw [e2]; decide), taken_cons, if_pos (eqS_iff.2 rfl), taken_cons, if_neg (fun c => lt_ne e (eqS_iff.1 c).symm)]
theorem next_second {fuel : Nat} {l l' : V} {i k : Nat} (hk : k < l'.length) (h : ¬ i < l.length ∨ (i < l.length ∧ ltS (nm l' k) (nm l i) = true)) :
    namesV (fuel + 1) (l.drop i) (l'.drop k) = nm l' k :: namesV fuel (l.drop i) (l'.drop (k + 1)) := by
  rw [namesV, if_neg (by simp only [List.length_drop]; omega), drop_cons hk]
  rcases h with h | ⟨h, e⟩
  · rw [List.drop_of_length_le (l := l) (by omega)]
    have e1 : foremostV [] ((nm l' k, qn l' k) :: l'.drop (k + 1)) = nm l' k := rfl
    rw [e1, taken_cons, if_pos (eqS_iff.2 rfl)]; rfl
  · rw [drop_cons h]
    rw [foremost_cons, if_pos e, taken_cons (nm l' k, qn l' k), if_pos (eqS_iff.2 rfl), taken_cons, if_neg (fun c => lt_ne e (eqS_iff.1 c).symm)]
theorem next_both {fuel : Nat} {l l' : V} {i k : Nat} (hi : i < l.length) (hk : k < l'.length) (h1 : ltS (nm l i) (nm l' k) = false) (h2 : ltS (nm l' k) (nm l i) = false) :
    namesV (fuel + 1) (l.drop i) (l'.drop k) = nm l i :: namesV fuel (l.drop (i + 1)) (l'.drop (k + 1)) := by
  have e := lt_tri' h1 h2
  rw [namesV, if_neg (by simp only [List.length_drop]; omega), drop_cons hi, drop_cons hk]
  rw [foremost_cons, if_neg (by rw [h2]; decide), taken_cons, if_pos (eqS_iff.2 rfl), taken_cons, if_pos (eqS_iff.2 e.symm)]

end Go.Proofs.YtapnffejnhkoaaaGreat.Vec

/- The reference's ParseVec. -/
namespace Go.Proofs.YtapnffejnhkoaaaGreat.Vec
open Go.RowKit Go.Proofs.YtapnffejnhkoaaaGreat
set_option linter.unusedVariables false

end Go.Proofs.YtapnffejnhkoaaaGreat.Vec

/- The law's own comparison; what is checked is short; the reference's calls over whatever reads so. -/
namespace Go.Proofs.YtapnffejnhkoaaaGreat.Vec
open Go.RowKit Go.Proofs.YtapnffejnhkoaaaGreat
set_option linter.unusedVariables false

theorem OwnV.reads {e : TypeId} {w : World} {B : Nat} {v : Value} {l : V} (h : OwnV e w B v l) : Reads w v l := h.at_
theorem rnameR {n : ByteArray} {c : Bool} {w : World} (h : n.size ≤ maxLen) (e : isName n = c) :
    Calls Tryz.prog 129 #[.string n] w fun x w' => x = .returned (.bool c) ∧ w = w' := by
  subst e
  exact refName_any n w h
end Go.Proofs.YtapnffejnhkoaaaGreat.Vec

/- What a law of vectors is told: its arguments, the library's variables. -/
namespace Go.Proofs.YtapnffejnhkoaaaGreat.Vec
open Go.ChangeShapes Go.WideShapes Go.ChangeAt Go.RowKit Go.Deep
set_option linter.unusedVariables false

theorem cells2 : Tryz.prog.cellsOf 41 = 2 := by kernel_rfl
theorem cellsS : Tryz.prog.cellsOf 9 = 1 := by kernel_rfl
theorem cellsI : Tryz.prog.cellsOf 2 = 1 := by kernel_rfl

set_option maxRecDepth 100000 in
theorem amount_of_trod {H : Type} {enc : TypeId × Value → H} {w : World} {base fuel : Nat} {sp : Nat → Bool} {held : Bool} {cs : List Value} {x : DataW H × List MemPlace} (h : DataW.trod enc Tryz.prog w base sp held fuel 41 cs = some x) :
    ∃ (s : ByteArray) (n : Int), cs = [.string s, .int .i64 n] ∧ s.size ≤ maxLen ∧ -9223372036854775808 ≤ n ∧ n ≤ 9223372036854775807 := by
  obtain ⟨ys, m, -, -, hlen, hyl, hf⟩ := DataW.trod_struct Tryz.underlying41 h
  rw [cells2] at hlen
  match cs, hlen with
  | [c0, c1], _ =>
    have h0 : DataW.trod enc Tryz.prog w base sp held m 9 (([c0, c1].drop 0).take (Tryz.prog.cellsOf 9)) = ys[0]? := hf 0 _ rfl
    have h1 : DataW.trod enc Tryz.prog w base sp held m 2 (([c0, c1].drop 1).take (Tryz.prog.cellsOf 2)) = ys[1]? := hf 1 _ rfl
    rw [cellsS] at h0
    rw [cellsI] at h1
    obtain ⟨y0, e0⟩ : ∃ y, ys[0]? = some y := ⟨_, List.getElem?_eq_getElem (by rw [hyl]; decide)⟩
    obtain ⟨y1, e1⟩ : ∃ y, ys[1]? = some y := ⟨_, List.getElem?_eq_getElem (by rw [hyl]; decide)⟩
    rw [e0] at h0
    rw [e1] at h1
    obtain ⟨s, q0, -, hs⟩ := DataW.trod_string Tryz.underlying9 h0
    obtain ⟨n, q1, -, hn⟩ := DataW.trod_int Tryz.underlying2 h1
    simp only [List.drop_zero, List.take_succ_cons, List.take_zero, List.cons.injEq, and_true, List.drop_succ_cons] at q0 q1
    subst q0; subst q1
    have := bounds_i64 hn
    exact ⟨s, n, rfl, hs, this.1, this.2⟩

theorem nm_left {l m : V} {i : Nat} (h : i < l.length) : nm (l ++ m) i = nm l i ∧ qn (l ++ m) i = qn l i := by
  unfold nm qn
  simp [List.getD, List.getElem?_append_left h]
theorem nm_last (l : V) (s : ByteArray) (n : Int) : nm (l ++ [(s, n)]) l.length = s ∧ qn (l ++ [(s, n)]) l.length = n := by
  unfold nm qn
  simp [List.getD]

theorem reads_of_trod {H : Type} {enc : TypeId × Value → H} {w : World} {base fuel : Nat} {sp : Nat → Bool} {held : Bool} {v : Value} {x : DataW H × List MemPlace} (h : DataW.trod enc Tryz.prog w base sp held fuel 30 [v] = some x) :
    ∃ l, Reads w v l := by
  rcases open_slice Tryz.underlying30 h with ⟨hcs, -⟩ | ⟨a, len, cap, m, n, D, Pl, hcs, hb, hl, hm, hmm, hx, hi⟩
  · cases hcs; exact ⟨[], Reads.nil w⟩
  · cases hcs
    have hlm : len ≤ m := by rw [hmm]; split <;> omega
    have key : ∀ k, k ≤ len → ∃ l : V, l.length = k ∧ ∀ i, i < k → ((nm l i).size ≤ maxLen ∧ -9223372036854775808 ≤ qn l i ∧ qn l i ≤ 9223372036854775807) ∧
        w.cell? ((a.add (i * 2)).add 0) = some (.string (nm l i)) ∧ w.cell? ((a.add (i * 2)).add 1) = some (.int .i64 (qn l i)) := by
      intro k
      induction k with
      | zero => exact fun _ => ⟨[], rfl, fun i hi => absurd hi (by omega)⟩
      | succ k ih =>
        intro hk
        obtain ⟨l, e, hall⟩ := ih (by omega)
        obtain ⟨cs', hc, ht'⟩ := hi k (by omega)
        obtain ⟨s, q, rfl, b1, b2, b3⟩ := amount_of_trod ht'
        rw [cells2] at hc
        obtain ⟨-, -, hat⟩ := World.cells?_some hc
        refine ⟨l ++ [(s, q)], by simp [e], fun i hi => ?_⟩
        by_cases e2 : i = k
        · subst e2
          subst e
          rw [(nm_last l s q).1, (nm_last l s q).2]
          exact ⟨⟨b1, b2, b3⟩, hat 0 (by decide), hat 1 (by decide)⟩
        · rw [(nm_left (by omega)).1, (nm_left (by omega)).2]
          exact hall i (by omega)
    obtain ⟨l, e, hall⟩ := key len (Nat.le_refl _)
    subst e
    refine ⟨l, _, cap, rfl, hl, hm, rfl, Nat.le_trans hl hm, fun i hi => (hall i hi).1, ?_⟩
    by_cases h0 : l.length = 0
    · exact .inl h0
    · obtain ⟨b, off, spot⟩ := a
      have hc := (hall 0 (by omega)).2.1
      have hspot : spot = none := by simpa [Addr.add] using World.cell?_spot hc
      subst hspot
      have hcell : ∀ i, i < l.length → w.cell? ⟨b, off + i * 2, none⟩ = some (.string (nm l i)) ∧ w.cell? ⟨b, off + i * 2 + 1, none⟩ = some (.int .i64 (qn l i)) := fun i hi => by
        have c := (hall i hi).2
        by_cases hi0 : i = 0
        · subst hi0; simpa [Addr.add] using c
        · have h2 : ¬ i * 2 = 0 := by omega
          simpa [Addr.add, h2] using c
      exact .inr ⟨b, off, rfl, World.block_lt_of_cell? _ _ (hcell 0 (by omega)).1, hcell⟩

end Go.Proofs.YtapnffejnhkoaaaGreat.Vec
