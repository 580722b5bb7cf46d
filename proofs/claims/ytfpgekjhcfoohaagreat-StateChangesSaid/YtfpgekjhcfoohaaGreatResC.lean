/- Package by package: contracts of the functions that the laws call. -/
import Derived.Test.YtfpgekjhcfoohaaGreatShort
import Derived.Test.YtfpgekjhcfoohaaGreatResB
import Derived.StillTailTactics
import Derived.Test.YtfpgekjhcfoohaaGreatResA
import Derived.WideShapes
import Derived.IntWalk
import Derived.Test.YtfpgekjhcfoohaaGreatBase
import Derived.Lib.ItoaNum
import Derived.Test.YtfpgekjhcfoohaaGreatRows
import Derived.WalkKit
import Derived.ProofKit
import Derived.OpenShut
import Derived.ChangeOld
import Derived.Below
import Derived.Deep.Slices
import Derived.Deep.Fields
import Derived.ChangeSame
import Derived.Lib.LaidTab
import Derived.Stop.LaidErr
import Derived.Stop.Joined
import Derived.Shelf.Vars
import Derived.MakeChecks
import Derived.LaidLaws
import Derived.RowKitTokens
/- Two vectors, reckoned. -/
set_option linter.unusedVariables false
namespace Go.Proofs.YtfpgekjhcfoohaaGreat.Vec
open Go.RowKit
def cpu : ByteArray := ⟨#[99, 112, 117]⟩
def gpu : ByteArray := ⟨#[103, 112, 117]⟩
def mem : ByteArray := ⟨#[109, 101, 109]⟩
def kA : V := [(cpu, 100), (mem, 5)]
def kS : V := [(cpu, 140), (gpu, 1), (mem, 5)]
end Go.Proofs.YtfpgekjhcfoohaaGreat.Vec
/- What the laws know: two vectors. -/
namespace Go.Proofs.YtfpgekjhcfoohaaGreat.Vec
open Go.RowKit
end Go.Proofs.YtfpgekjhcfoohaaGreat.Vec
/- A vector as the document's: as it is. -/
namespace Go.Proofs.YtfpgekjhcfoohaaGreat.Vec
open Go.RowKit
theorem refInfo : (Tryz.prog.info? 193).map (fun i => (i.zero, i.size, i.bytes)) = some (some (.agg #[.string ByteArray.empty, .int .i64 0]), 2, 24) := by kernel_rfl
theorem take_next {l : V} {k : Nat} (h : k < l.length) : l.take (k + 1) = l.take k ++ [(nm l k, qn l k)] := by
 rw [List.take_add_one]; congr 1
 have : l.getD k (ByteArray.empty, 0) = l[k] := by simp [List.getD, h]
 have e : (nm l k, qn l k) = l[k] := by simp only [nm, qn, this]
 rw [e]; simp [h]
set_option maxRecDepth 100000 in
set_option maxHeartbeats 1600000 in
theorem of_own (a : Option Addr) (len cap : Nat) (l : V) (w : World) (hr : VecAt w a len l) (hlen : len ≤ 1000000) :
 Calls Tryz.prog 82 #[.slice a len cap] w (fun e w' => ∃ x, e = .returned x ∧ OwnV 193 w' w.heap.size x l ∧ Kept w w') := by
 have hl := hr.1
 obtain ⟨i0, hi, hz0, hz1, hz2⟩ := info_parts refInfo
 rcases hr.form with h0 | ⟨b, off, rfl⟩
 · subst h0
   have hl0 : l = [] := List.eq_nil_of_length_eq_zero hl
   subst hl0
   clear hr hl hi hz0 hz1 hz2
   go_enter Tryz.func82, Tryz.ntmps82
   go_wp2
   refine wp_loop_rounds 1 ?_
   rw [rounds_succ]
   go_wp2
   go_ret
   exact ⟨_, rfl, OwnV.nil _ _ _, Kept.refl _⟩
 · have HR := lH hr
   have HL := lH hl
   have HF := lH hr.2.2.1
   clear hr hl
   go_enter Tryz.func82, Tryz.ntmps82
   go_wp2
   go_loopw [3, 4] (fun v i wr => ∃ k : Nat, k ≤ len ∧ i = .int .i64 k ∧ OwnV 193 wr w.heap.size v (l.take k) ∧ Below w.heap.size w wr) (fun _ i _ => len - (intOf i).toNat)
   case atStart => exact ⟨0, Nat.zero_le _, rfl, OwnV.nil _ _ _, Below.refl _ _⟩
   case round =>
    obtain ⟨k, hk, rfl, ho, hB⟩ := hrel
    have HO := lH ho
    have HB := lH hB
    have HT := lH (show (l.take k).length = k by rw [List.length_take, HL.out]; omega)
    have HOWN := lH (show wr.ownsRow w.heap.size 193 2 u3 k (cellsOf (l.take k)) by have := HO.out.1; rw [HT.out] at this; exact this)
    by_cases hlt : k < len
    · obtain ⟨hb, c1, c2⟩ := (HR.out.kept hB).cells hlt
      have HI := lH (show k < l.length by rw [HL.out]; exact hlt)
      have hbw : b < w.heap.size := (HR.out.cells hlt).1
      have hbase : w.heap.size ≤ wr.heap.size := hB.size
      have HNE := lH (show u3.ownBlock ≠ some b by
       intro e
       have := (HOWN.out.lt b e).1
       omega)
      have HBASE := lH (show w.heap.size ≤ (wr.alloc (.cells #[.string (nm l k), .int .i64 (qn l k)] 193)).drew.heap.size by simp; omega)
      have HBD := lH (show Below w.heap.size w ((wr.alloc (.cells #[.string (nm l k), .int .i64 (qn l k)] 193)).drew) from HB.out.trans (Below.mono ((kept_alloc wr _).trans (Kept.drewN _ 1)) hbase))
      have hk1 : (k : Int) < (len : Int) := by omega
      have HFK := lH (HF.out k HI.out)
      clear ho hB
      go_wp2_with fail
      go_region_held3 (fun W => W.cell? ⟨b, off + k * 2, none⟩ = some (.string (nm l k)) ∧ W.cell? ⟨b, off + k * 2 + 1, none⟩ = some (.int .i64 (qn l k)))
       (first
         | go_keep
         | (go_split_ands
            refine ⟨?_, ?_⟩
            · (refine (hgrow.cell_far ⟨b, off + k * 2, none⟩ (by simp; omega) (Ne.symm HNE.out)).trans ?_; assumption)
            · (refine (hgrow.cell_far ⟨b, off + k * 2 + 1, none⟩ (by simp; omega) (Ne.symm HNE.out)).trans ?_; assumption)))
       ((refine step_append_lies _ (by rfl) _ _ _ (by rfl) w.heap.size 193 i0 _ 2 24 Tryz.underlying64 hi hz0 hz1 hz2 rfl (by decide) u3 k (cellsOf (l.take k)) (by rfl) ((HOWN.out.alloc _).drew)
          ⟨wr.heap.size, 0, none⟩ 1 1 [.string (nm l k), .int .i64 (qn l k)] (by rfl) (by rfl) (World.news_of_block (cs := #[.string (nm l k), .int .i64 (qn l k)]) (t := 193) (fr := (0, 0)) (heap_alloc_new wr _)) (cellsOf_one [(nm l k, qn l k)])
          (by decide) (by unfold maxLen; omega) (by omega) (by simp; omega) (wr.heap.size + 1) (by simp) ?_; intro gg cap1 w1 hown1 hgrow hat hlt1))
      all_goals
       go_wp2
       go_roundw
       case rel => exact ⟨k + 1, by omega, by go_num, ⟨by rw [take_next HI.out, cellsOf_append, List.length_append, HT.out]; exact hown1, by rw [take_next HI.out]; exact HO.out.2.snoc HFK.out.1 HFK.out.2.1 HFK.out.2.2⟩, HBD.out.grown hgrow HBASE.out (fun j hj => (HOWN.out.lt j hj).1)⟩
       case measure => simp [intOf]; omega
    · have HK := lH (show l.take k = l by rw [List.take_of_length_le (by rw [HL.out]; omega)])
      clear ho hB
      go_wp2
      go_ret
      exact ⟨_, rfl, by have h := HO.out; rw [HK.out] at h; exact h, HB.out⟩
end Go.Proofs.YtfpgekjhcfoohaaGreat.Vec
/- The algebra of vectors that may be: names in their order, numbers above 0. -/
namespace Go.Proofs.YtfpgekjhcfoohaaGreat.Vec
open Go.RowKit
theorem less_irrefl : ∀ s : List UInt8, Op.bytesLess s s = false
 | [] => rfl
 | a :: s => by
  have : ¬ a < a := UInt8.lt_irrefl a
  simp [Op.bytesLess, less_irrefl s, this]
theorem less_trans : ∀ {a b c : List UInt8}, Op.bytesLess a b = true → Op.bytesLess b c = true → Op.bytesLess a c = true
 | _, _, [], _, h => by simp [Op.bytesLess] at h
 | [], _, _ :: _, _, _ => by simp [Op.bytesLess]
 | x :: a, [], z :: c, h, _ => by simp [Op.bytesLess] at h
 | x :: a, y :: b, z :: c, h, g => by
  simp only [Op.bytesLess, Bool.or_eq_true, Bool.and_eq_true, decide_eq_true_eq, beq_iff_eq] at h g ⊢
  rcases h with h | ⟨rfl, h⟩
  · rcases g with g | ⟨rfl, g⟩
    · exact .inl (UInt8.lt_trans h g)
    · exact .inl h
  · rcases g with g | ⟨rfl, g⟩
    · exact .inl g
    · exact .inr ⟨rfl, less_trans h g⟩
theorem less_tri : ∀ {a b : List UInt8}, Op.bytesLess a b = false → Op.bytesLess b a = false → a = b
 | [], [], _, _ => rfl
 | [], _ :: _, h, _ => by simp [Op.bytesLess] at h
 | _ :: _, [], _, h => by simp [Op.bytesLess] at h
 | x :: a, y :: b, h, g => by
  simp only [Op.bytesLess, Bool.or_eq_false_iff, decide_eq_false_iff_not, Bool.and_eq_false_iff, beq_eq_false_iff_ne] at h g
  have e : x = y := by
   have h1 := UInt8.not_lt.1 h.1
   have h2 := UInt8.not_lt.1 g.1
   exact UInt8.le_antisymm h2 h1
  subst e
  have h2 := h.2.resolve_left (by simp)
  have g2 := g.2.resolve_left (by simp)
  rw [less_tri h2 g2]
theorem lt_of (s t : ByteArray) : ltS s t = Op.bytesLess s.data.toList t.data.toList := by unfold ltS; rw [Lib.toList_data, Lib.toList_data]
theorem eqS_iff {s t : ByteArray} : eqS s t = true ↔ s = t := by
 unfold eqS; rw [Lib.toList_data, Lib.toList_data, beq_iff_eq]
 exact ⟨fun h => Go.WideShapes.bytes_inj h, fun h => by rw [h]⟩
theorem lt_irrefl' (s : ByteArray) : ltS s s = false := by rw [lt_of]; exact less_irrefl _
theorem lt_trans' {s t u : ByteArray} (h : ltS s t = true) (g : ltS t u = true) : ltS s u = true := by
 rw [lt_of] at *; exact less_trans h g
theorem lt_tri' {s t : ByteArray} (h : ltS s t = false) (g : ltS t s = false) : s = t := by
 rw [lt_of] at *; exact Go.WideShapes.bytes_inj (less_tri h g)
theorem lt_ne {s t : ByteArray} (h : ltS s t = true) : s ≠ t := by rintro rfl; rw [lt_irrefl'] at h; cases h
theorem lt_asymm' {s t : ByteArray} (h : ltS s t = true) (g : ltS t s = true) : False := lt_ne (lt_trans' h g) rfl
def Gd (l : V) : Prop := (∀ x ∈ l, isName x.1 = true ∧ 0 < x.2 ∧ x.2 ≤ 9223372036854775807) ∧ l.Pairwise (fun x y => ltS x.1 y.1 = true)
theorem Gd.nil : Gd [] := ⟨fun x hx => absurd hx (by simp), .nil⟩
theorem Gd.cons {x : ByteArray × Int} {t : V} : Gd (x :: t) ↔ (isName x.1 = true ∧ 0 < x.2 ∧ x.2 ≤ 9223372036854775807) ∧ (∀ y ∈ t, ltS x.1 y.1 = true) ∧ Gd t := by
 unfold Gd
 rw [List.pairwise_cons, List.forall_mem_cons]
 constructor
 · rintro ⟨⟨a, b⟩, c, d⟩; exact ⟨a, c, b, d⟩
 · rintro ⟨a, c, b, d⟩; exact ⟨⟨a, b⟩, c, d⟩
theorem get_same (x : ByteArray × Int) (t : V) : getV (x :: t) x.1 = x.2 := by rw [getV, if_pos (eqS_iff.2 rfl)]
theorem get_other {x : ByteArray × Int} {n : ByteArray} (t : V) (h : x.1 ≠ n) : getV (x :: t) n = getV t n := by rw [getV, if_neg (fun e => h (eqS_iff.1 e))]
theorem get_zero : ∀ {l : V} {n : ByteArray}, (∀ y ∈ l, y.1 ≠ n) → getV l n = 0
 | [], _, _ => rfl
 | x :: t, n, h => by rw [get_other t (h x (by simp))]; exact get_zero fun y hy => h y (by simp [hy])
theorem get_mem : ∀ {l : V} {n : ByteArray}, getV l n ≠ 0 → ∃ y ∈ l, y.1 = n
 | [], _, h => absurd rfl h
 | x :: t, n, h => by
  by_cases e : x.1 = n
  · exact ⟨x, by simp, e⟩
  · rw [get_other t e] at h
    obtain ⟨y, hy, hn⟩ := get_mem h
    exact ⟨y, by simp [hy], hn⟩
theorem get_bd : ∀ {l : V} (n : ByteArray), Gd l → 0 ≤ getV l n ∧ getV l n ≤ 9223372036854775807
 | [], _, _ => ⟨Int.le_refl _, (by decide : (0 : Int) ≤ 9223372036854775807)⟩
 | x :: t, n, h => by
  have h' := Gd.cons.1 h
  by_cases e : x.1 = n
  · subst e; rw [get_same]; omega
  · rw [get_other t e]; exact get_bd n h'.2.2
theorem get_in : ∀ {l : V} {x : ByteArray × Int}, Gd l → x ∈ l → getV l x.1 = x.2
 | [], _, _, h => absurd h (by simp)
 | y :: t, x, h, hx => by
  have h' := Gd.cons.1 h
  rcases List.mem_cons.1 hx with rfl | hx
  · exact get_same _ _
  · rw [get_other t (lt_ne (h'.2.1 x hx))]; exact get_in h'.2.2 hx
theorem behind_get {l : V} {n : ByteArray} (h : ∀ y ∈ l, ltS n y.1 = true) : getV l n = 0 := get_zero fun y hy => (lt_ne (h y hy)).symm
theorem Gd.len : ∀ {b r : V}, Gd r → Gd b → (∀ n, getV r n ≠ 0 → getV b n ≠ 0) → r.length ≤ b.length
 | [], [], _, _, _ => Nat.le_refl _
 | [], x :: s, hr, _, h => by
  have := h x.1; rw [get_same] at this; have h1 := (Gd.cons.1 hr).1
  exact absurd rfl (this (by omega))
 | y :: t, [], _, _, _ => Nat.zero_le _
 | y :: t, x :: s, hr, hb, h => by
  have hr' := Gd.cons.1 hr
  have hb' := Gd.cons.1 hb
  have : s.length ≤ t.length := Gd.len hr'.2.2 hb'.2.2 fun n hn => by
   obtain ⟨z, hz, rfl⟩ := get_mem hn
   have hlt := hr'.2.1 z hz
   have hb2 := h z.1 (by rw [get_other s (lt_ne hlt)]; exact hn)
   by_cases e : y.1 = z.1
   · obtain ⟨u, hu, hux⟩ := get_mem (h x.1 (by rw [get_same]; omega))
     rcases List.mem_cons.1 hu with rfl | hu
     · rw [← hux, e, lt_irrefl'] at hlt; cases hlt
     · have := hb'.2.1 u hu
       rw [hux, e] at this
       exact (lt_asymm' hlt this).elim
   · rw [get_other t e] at hb2; exact hb2
  simp only [List.length_cons]; omega
theorem leS_false {s t : ByteArray} (h : leS s t = false) : ltS t s = true := by
 unfold leS at h
 rw [Bool.or_eq_false_iff] at h
 cases e : ltS t s with
 | true => rfl
 | false => rw [lt_tri' h.1 e, eqS_iff.2 rfl] at h; cases h.2
theorem leS_of_lt {s t : ByteArray} (h : ltS t s = true) : leS s t = false := by
 unfold leS
 rw [Bool.or_eq_false_iff]
 refine ⟨?_, ?_⟩
 · cases e : ltS s t with
   | false => rfl
   | true => exact (lt_asymm' h e).elim
 · cases e : eqS s t with
   | false => rfl
   | true => exact absurd (eqS_iff.1 e).symm (lt_ne h)
theorem check_good {l : V} (h : checkV l = 0) (hf : Fine l) : Gd l := by
 have h2 : checkFrom none l = 0 := by
  unfold checkV at h
  split at h
  · cases h
  · exact h
 have key : ∀ (l : V) (p : Option ByteArray), checkFrom p l = 0 → Fine l → Gd l ∧ (∀ x, p = some x → ∀ y ∈ l, ltS x y.1 = true) := by
  intro l
  induction l with
  | nil => intro p _ _; exact ⟨Gd.nil, fun _ _ y hy => absurd hy (by simp)⟩
  | cons x t ih =>
   intro p hc hf
   rw [Fine.cons] at hf
   unfold checkFrom at hc
   split at hc
   · cases hc
   · rename_i n1
     split at hc
     · cases hc
     · rename_i n2
       split at hc
       · cases hc
       · rename_i n3
         obtain ⟨hg, hall⟩ := ih _ hc hf.2
         have hx := hall x.1 rfl
         refine ⟨Gd.cons.2 ⟨⟨by simpa using n1, by omega, hf.1.2.2⟩, hx, hg⟩, ?_⟩
         rintro q rfl y hy
         have hq : ltS q x.1 = true := leS_false (by simpa [behindB] using n3)
         rcases List.mem_cons.1 hy with rfl | hy
         · exact hq
         · exact lt_trans' hq (hx y hy)
 exact (key l none h2 hf).1
end Go.Proofs.YtfpgekjhcfoohaaGreat.Vec
/- What is merged, by its names' amounts. -/
namespace Go.Proofs.YtfpgekjhcfoohaaGreat.Vec
open Go.RowKit
theorem take_spec {l : V} {s : ByteArray} (hg : Gd l) (h : ∀ y ∈ l, y.1 = s ∨ ltS s y.1 = true) :
 (takenV l s).1 = getV l s ∧ Gd (takenV l s).2 ∧ (∀ y ∈ (takenV l s).2, ltS s y.1 = true) ∧ (∀ n, n ≠ s → getV (takenV l s).2 n = getV l n) ∧ (∀ m, (∀ y ∈ l, ltS m y.1 = true) → ∀ y ∈ (takenV l s).2, ltS m y.1 = true) := by
 cases l with
 | nil => exact ⟨rfl, hg, fun y hy => absurd hy (by simp [takenV]), fun _ _ => rfl, fun _ _ y hy => absurd hy (by simp [takenV])⟩
 | cons x t =>
  have hg' := Gd.cons.1 hg
  rw [taken_cons]
  by_cases e : x.1 = s
  · rw [if_pos (eqS_iff.2 e)]
    subst e
    exact ⟨(get_same x t).symm, hg'.2.2, hg'.2.1, fun n hn => (get_other t (Ne.symm hn)).symm, fun m hm y hy => hm y (by simp [hy])⟩
  · rw [if_neg (fun c => e (eqS_iff.1 c))]
    have hx : ltS s x.1 = true := (h x (by simp)).resolve_left e
    have hall : ∀ y ∈ x :: t, ltS s y.1 = true := fun y hy => by
     rcases List.mem_cons.1 hy with rfl | hy
     · exact hx
     · exact lt_trans' hx (hg'.2.1 y hy)
    exact ⟨(behind_get hall).symm, hg, hall, fun _ _ => rfl, fun m hm => hm⟩
theorem foremost_spec {la lb : V} (ha : Gd la) (hb : Gd lb) (h : 0 < la.length + lb.length) :
 isName (foremostV la lb) = true ∧ (∀ y ∈ la, y.1 = foremostV la lb ∨ ltS (foremostV la lb) y.1 = true) ∧ (∀ y ∈ lb, y.1 = foremostV la lb ∨ ltS (foremostV la lb) y.1 = true) ∧
  (∀ m, (∀ y ∈ la, ltS m y.1 = true) → (∀ y ∈ lb, ltS m y.1 = true) → ltS m (foremostV la lb) = true) := by
 have own : ∀ {x : ByteArray × Int} {t : V}, Gd (x :: t) → ∀ y ∈ x :: t, y.1 = x.1 ∨ ltS x.1 y.1 = true := fun {x t} hg y hy => by
  rcases List.mem_cons.1 hy with rfl | hy
  · exact .inl rfl
  · exact .inr ((Gd.cons.1 hg).2.1 y hy)
 cases la with
 | nil =>
  cases lb with
  | nil => simp at h
  | cons y t => exact ⟨(Gd.cons.1 hb).1.1, fun z hz => absurd hz (by simp), own hb, fun m _ hm => hm y (by simp)⟩
 | cons x s =>
  cases lb with
  | nil => exact ⟨(Gd.cons.1 ha).1.1, own ha, fun z hz => absurd hz (by simp), fun m hm _ => hm x (by simp)⟩
  | cons y t =>
   rw [foremost_cons]
   by_cases e : ltS y.1 x.1 = true
   · rw [if_pos e]
     refine ⟨(Gd.cons.1 hb).1.1, fun z hz => .inr ?_, own hb, fun m _ hm => hm y (by simp)⟩
     rcases own ha z hz with hz | hz
     · rw [hz]; exact e
     · exact lt_trans' e hz
   · rw [if_neg e]
     refine ⟨(Gd.cons.1 ha).1.1, own ha, fun z hz => ?_, fun m hm _ => hm x (by simp)⟩
     have e' : ltS y.1 x.1 = false := by simpa using e
     have hxy : y.1 = x.1 ∨ ltS x.1 y.1 = true := by
      cases e2 : ltS x.1 y.1 with
      | true => exact .inr rfl
      | false => exact .inl (lt_tri' e' e2)
     rcases own hb z hz with hz | hz
     · rw [hz]; exact hxy
     · rcases hxy with hxy | hxy
       · rw [← hxy]; exact .inr hz
       · exact .inr (lt_trans' hxy hz)
end Go.Proofs.YtfpgekjhcfoohaaGreat.Vec
/- What the laws say of vectors that may be. -/
namespace Go.Proofs.YtfpgekjhcfoohaaGreat.Vec
open Go.RowKit
theorem same_self : ∀ l : V, sameFrom l l = true
 | [] => rfl
 | x :: t => by rw [sameFrom, same_self t, eqS_iff.2 rfl]; simp
end Go.Proofs.YtfpgekjhcfoohaaGreat.Vec
/- What the laws begin with. -/
namespace Go.Proofs.YtfpgekjhcfoohaaGreat.Vec
open Go.RowKit
theorem Reads.fine {v : Value} {l : V} {w : World} (h : Reads w v l) : Fine l := by
 obtain ⟨a, cap, rfl, h1, h2, h3⟩ := h
 exact h3.2.2.1
end Go.Proofs.YtfpgekjhcfoohaaGreat.Vec
/- The reference's quantities: what each call answers, said of whole numbers. -/
namespace Go.Proofs.YtfpgekjhcfoohaaGreat.Vec
open Go.RowKit
theorem radd_over (a b : Int) (w : World) (ha : 0 ≤ a) (hb : 0 ≤ b) (hb' : b ≤ 9223372036854775807) (h : 9223372036854775807 < a + b) : Calls Tryz.prog 180 #[.int .i64 a, .int .i64 b] w (Pure2 0 5 w) := by
 go_enter Tryz.func180, Tryz.ntmps180
 go_wp2
 go_ret2
 exact ⟨rfl, rfl⟩
theorem radd_ok (a b : Int) (w : World) (ha : 0 ≤ a) (hb : 0 ≤ b) (h : a + b ≤ 9223372036854775807) : Calls Tryz.prog 180 #[.int .i64 a, .int .i64 b] w (Pure2 (a + b) 0 w) := by
 go_enter Tryz.func180, Tryz.ntmps180
 go_wp2
 go_ret2
 exact ⟨rfl, rfl⟩
end Go.Proofs.YtfpgekjhcfoohaaGreat.Vec
/- The reference's vectors read: a name's amount, whether alike, whether the one fits the other. -/
namespace Go.Proofs.YtfpgekjhcfoohaaGreat.Vec
open Go.RowKit
set_option maxHeartbeats 800000 in
theorem rget_any (a : Option Addr) (len cap : Nat) (l : V) (n : ByteArray) (w : World) (hr : VecAt w a len l) :
 Calls Tryz.prog 157 #[.slice a len cap, .string n] w fun e w' => e = .returned (.int .i64 (getV l n)) ∧ Kept w w' := by
 have hl := hr.1
 have hm := hr.2.1
 unfold maxLen at hm
 rcases hr.form with h0 | ⟨b, off, rfl⟩
 · subst h0
   have HE := lH (show getV l n = 0 by rw [List.eq_nil_of_length_eq_zero hl]; rfl)
   clear hr hl
   go_enter Tryz.func157, Tryz.ntmps157
   go_wp2
   refine wp_loop_rounds 1 ?_
   rw [rounds_succ]
   go_wp2
   go_ret
   exact ⟨ret_i64 HE.out.symm, Kept.refl _⟩
 · have HR := lH hr
   have HL := lH hl
   clear hr hl
   go_enter Tryz.func157, Tryz.ntmps157
   go_wp2
   go_loopw [5] (fun i wr => ∃ k : Nat, k ≤ len ∧ i = .int .i64 k ∧ getV (l.drop k) n = getV l n ∧ Kept w wr) (fun i _ => len - (intOf i).toNat)
   case atStart => exact ⟨0, Nat.zero_le _, rfl, rfl, Kept.refl _⟩
   case round =>
    obtain ⟨k, hk, rfl, hrest, hK⟩ := hrel
    have HK := lH hK
    have HS := lH hrest
    by_cases hlt : k < len
    · obtain ⟨hb, c1, c2⟩ := (HR.out.kept hK).cells hlt
      clear hK hrest
      have HI := lH (show k < l.length by rw [HL.out]; exact hlt)
      by_cases e : eqS (nm l k) n = true
      · have E := lH e
        have e' : ((nm l k).toList == n.toList) = true := e
        clear e
        go_wp2
        go_ret
        exact ⟨ret_i64 (HS.out.symm.trans (get_here HI.out E.out)).symm, HK.out⟩
      · have e : eqS (nm l k) n = false := by simpa using e
        have E := lH e
        have e' : ((nm l k).toList == n.toList) = false := e
        clear e
        go_wp2
        go_roundw
        case rel => exact ⟨k + 1, by omega, by go_num, (get_next HI.out E.out).symm.trans HS.out, HK.out⟩
        case measure => simp [intOf]; omega
    · have HI := lH (show ¬ k < l.length by rw [HL.out]; exact hlt)
      clear hK hrest
      go_wp2
      go_ret
      exact ⟨ret_i64 (HS.out.symm.trans (get_end HI.out)).symm, HK.out⟩
set_option maxHeartbeats 800000 in
theorem rsame_any (a a' : Option Addr) (len cap len' cap' : Nat) (l l' : V) (w : World) (hr : VecAt w a len l) (hr' : VecAt w a' len' l') :
 Calls Tryz.prog 98 #[.slice a len cap, .slice a' len' cap'] w fun e w' => e = .returned (.bool (sameFrom l l')) ∧ Kept w w' := by
 have hl := hr.1
 have hm := hr.2.1
 have hl' := hr'.1
 have hm' := hr'.2.1
 unfold maxLen at hm hm'
 by_cases hll : len = len'
 · subst hll
   rcases hr.form with h0 | ⟨b, off, rfl⟩
   · subst h0
     have HE := lH (show sameFrom l l' = true by rw [List.eq_nil_of_length_eq_zero hl, List.eq_nil_of_length_eq_zero hl']; rfl)
     clear hr hl hr' hl'
     go_enter Tryz.func98, Tryz.ntmps98
     go_wp2
     refine wp_loop_rounds 1 ?_
     rw [rounds_succ]
     go_wp2
     go_ret
     exact ⟨ret_bool HE.out.symm, Kept.refl _⟩
   · rcases hr'.form with h0 | ⟨b', off', rfl⟩
     · subst h0
       have HE := lH (show sameFrom l l' = true by rw [List.eq_nil_of_length_eq_zero hl, List.eq_nil_of_length_eq_zero hl']; rfl)
       clear hr hl hr' hl'
       go_enter Tryz.func98, Tryz.ntmps98
       go_wp2
       refine wp_loop_rounds 1 ?_
       rw [rounds_succ]
       go_wp2
       go_ret
       exact ⟨ret_bool HE.out.symm, Kept.refl _⟩
     · have HR := lH hr
       have HL := lH hl
       have HR' := lH hr'
       have HL' := lH hl'
       clear hr hl hr' hl'
       go_enter Tryz.func98, Tryz.ntmps98
       go_wp2
       go_loopw [5] (fun i wr => ∃ k : Nat, k ≤ len ∧ i = .int .i64 k ∧ sameFrom (l.drop k) (l'.drop k) = sameFrom l l' ∧ Kept w wr) (fun i _ => len - (intOf i).toNat)
       case atStart => exact ⟨0, Nat.zero_le _, rfl, rfl, Kept.refl _⟩
       case round =>
        obtain ⟨k, hk, rfl, hrest, hK⟩ := hrel
        have HS := lH hrest
        have HK := lH hK
        by_cases hlt : k < len
        · obtain ⟨hb, c1, c2⟩ := (HR.out.kept hK).cells hlt
          obtain ⟨hb', d1, d2⟩ := (HR'.out.kept hK).cells hlt
          clear hrest hK
          have HI := lH (show k < l.length by rw [HL.out]; exact hlt)
          have HI' := lH (show k < l'.length by rw [HL'.out]; exact hlt)
          by_cases e1 : eqS (nm l k) (nm l' k) = true
          · have E1 := lH e1
            have e1' : ((nm l k).toList == (nm l' k).toList) = true := e1
            clear e1
            by_cases e2 : qn l k = qn l' k
            · have E := lH (show sameFrom (l.drop k) (l'.drop k) = sameFrom (l.drop (k + 1)) (l'.drop (k + 1)) by
               rw [drop_cons HI.out, drop_cons HI'.out, sameFrom, E1.out, decide_eq_true e2]; rfl)
              have e2' : (qn l k == qn l' k) = true := by simpa using e2
              clear e2
              go_wp2
              go_quiet (fail)
              go_wp2
              go_roundw
              case rel => exact ⟨k + 1, by omega, by go_num, E.out.symm.trans HS.out, HK.out.trans (Kept.drewN _ _)⟩
              case measure => simp [intOf]; omega
            · have E := lH (show sameFrom (l.drop k) (l'.drop k) = false by
               rw [drop_cons HI.out, drop_cons HI'.out, sameFrom, E1.out, decide_eq_false e2]; rfl)
              have e2' : (qn l k == qn l' k) = false := by simpa using e2
              clear e2
              go_wp2
              go_quiet (fail)
              go_wp2
              go_ret
              exact ⟨ret_bool (HS.out.symm.trans E.out).symm, HK.out.trans (Kept.drewN _ _)⟩
          · have e1 : eqS (nm l k) (nm l' k) = false := by simpa using e1
            have E := lH (show sameFrom (l.drop k) (l'.drop k) = false by
             rw [drop_cons HI.out, drop_cons HI'.out, sameFrom, e1]; rfl)
            have e1' : ((nm l k).toList == (nm l' k).toList) = false := e1
            clear e1
            go_wp2
            go_quiet (fail)
            go_wp2
            go_ret
            exact ⟨ret_bool (HS.out.symm.trans E.out).symm, HK.out.trans (Kept.drewN _ _)⟩
        · have E := lH (show sameFrom (l.drop k) (l'.drop k) = true by
           rw [List.drop_of_length_le (by rw [HL.out]; omega), List.drop_of_length_le (by rw [HL'.out]; omega), sameFrom])
          clear hrest hK
          go_wp2
          go_ret
          exact ⟨ret_bool (HS.out.symm.trans E.out).symm, HK.out⟩
 · have HV := lH (show sameFrom l l' = false from same_length (by omega))
   clear hr hl hr' hl'
   have hn : ((len : Int) != (len' : Int)) = true := by
    simp only [bne_iff_ne, ne_eq]; omega
   clear hll
   go_enter Tryz.func98, Tryz.ntmps98
   go_wp2
   go_ret
   exact ⟨ret_bool HV.out.symm, Kept.refl _⟩
set_option maxHeartbeats 800000 in
theorem rfits_any (a a' : Option Addr) (len cap len' cap' : Nat) (l l' : V) (w : World) (hr : VecAt w a len l) (hr' : VecAt w a' len' l') :
 Calls Tryz.prog 123 #[.slice a len cap, .slice a' len' cap'] w fun e w' => e = .returned (.bool (fitsFrom l' l)) ∧ Kept w w' := by
 have hl := hr.1
 have hm := hr.2.1
 unfold maxLen at hm
 rcases hr.form with h0 | ⟨b, off, rfl⟩
 · subst h0
   have HE := lH (show fitsFrom l' l = true by rw [List.eq_nil_of_length_eq_zero hl]; rfl)
   clear hr hl hr'
   go_enter Tryz.func123, Tryz.ntmps123
   go_wp2
   refine wp_loop_rounds 1 ?_
   rw [rounds_succ]
   go_wp2
   go_ret
   exact ⟨ret_bool HE.out.symm, Kept.refl _⟩
 · have HR := lH hr
   have HL := lH hl
   have HR' := lH hr'
   clear hr hl hr'
   go_enter Tryz.func123, Tryz.ntmps123
   go_wp2
   go_loopw [5] (fun i wr => ∃ k : Nat, k ≤ len ∧ i = .int .i64 k ∧ fitsFrom l' (l.drop k) = fitsFrom l' l ∧ Kept w wr) (fun i _ => len - (intOf i).toNat)
   case atStart => exact ⟨0, Nat.zero_le _, rfl, rfl, Kept.refl _⟩
   case round =>
    obtain ⟨k, hk, rfl, hrest, hK⟩ := hrel
    have HS := lH hrest
    have HK := lH hK
    by_cases hlt : k < len
    · obtain ⟨hb, c1, c2⟩ := (HR.out.kept hK).cells hlt
      clear hrest hK
      have HI := lH (show k < l.length by rw [HL.out]; exact hlt)
      by_cases e : qn l k ≤ getV l' (nm l k)
      · have E := lH (show fitsFrom l' (l.drop k) = fitsFrom l' (l.drop (k + 1)) by rw [drop_cons HI.out, fitsFrom, decide_eq_true e]; rfl)
        go_wp2
        have f1 : wr.drew.cell? ⟨b, off + k * 2, none⟩ = some (.string (nm l k)) := c1
        have f2 : wr.drew.cell? ⟨b, off + k * 2 + 1, none⟩ = some (.int .i64 (qn l k)) := c2
        have f3 : Kept w wr.drew := HK.out.trans (Kept.drewN _ 1)
        go_region_held3 (fun W => W.cell? ⟨b, off + k * 2, none⟩ = some (.string (nm l k)) ∧ W.cell? ⟨b, off + k * 2 + 1, none⟩ = some (.int .i64 (qn l k)) ∧ Kept w W) (first | exact ⟨f1, f2, f3⟩ | assumption | exact held_step (by assumption) (by assumption))
         (first | (go_at_call 157; refine (rget_any _ _ _ l' _ _ (HR'.out.kept (held_kept (by assumption)))).mono ?_; rintro e W2 ⟨rfl, hk2⟩))
        all_goals
         go_wp2
         go_roundw
         case rel => exact ⟨k + 1, by omega, by go_num, E.out.symm.trans HS.out, held_kept (by assumption)⟩
         case measure => simp [intOf]; omega
      · have E := lH (show fitsFrom l' (l.drop k) = false by rw [drop_cons HI.out, fitsFrom, decide_eq_false e]; rfl)
        have e' : getV l' (nm l k) < qn l k := by omega
        clear e
        go_wp2
        have f1 : wr.drew.cell? ⟨b, off + k * 2, none⟩ = some (.string (nm l k)) := c1
        have f2 : wr.drew.cell? ⟨b, off + k * 2 + 1, none⟩ = some (.int .i64 (qn l k)) := c2
        have f3 : Kept w wr.drew := HK.out.trans (Kept.drewN _ 1)
        go_region_held3 (fun W => W.cell? ⟨b, off + k * 2, none⟩ = some (.string (nm l k)) ∧ W.cell? ⟨b, off + k * 2 + 1, none⟩ = some (.int .i64 (qn l k)) ∧ Kept w W) (first | exact ⟨f1, f2, f3⟩ | assumption | exact held_step (by assumption) (by assumption))
         (first | (go_at_call 157; refine (rget_any _ _ _ l' _ _ (HR'.out.kept (held_kept (by assumption)))).mono ?_; rintro e W2 ⟨rfl, hk2⟩))
        all_goals
         go_wp2
         go_ret
         exact ⟨ret_bool (HS.out.symm.trans E.out).symm, held_kept (by assumption)⟩
    · have E := lH (show fitsFrom l' (l.drop k) = true by rw [List.drop_of_length_le (by rw [HL.out]; omega), fitsFrom])
      clear hrest hK
      go_wp2
      go_ret
      exact ⟨ret_bool (HS.out.symm.trans E.out).symm, HK.out⟩
end Go.Proofs.YtfpgekjhcfoohaaGreat.Vec
/- The reference's products and parts, as one answer each. -/
namespace Go.Proofs.YtfpgekjhcfoohaaGreat.Vec
open Go.RowKit
def Told (c : Int) (m : V) (w : World) (e : Ending) (w' : World) : Prop := ∃ x, e = .returned (.tuple #[x, .int .i64 c]) ∧ OwnV 193 w' w.heap.size x m ∧ Kept w w'
theorem Told.none {c : Int} {w w' : World} (k : Kept w w') : Told c [] w (.returned (.tuple #[.slice none 0 0, .int .i64 c])) w' := ⟨_, rfl, OwnV.nil _ _ _, k⟩
end Go.Proofs.YtfpgekjhcfoohaaGreat.Vec
/- The reference's decimals and what they spell. -/
namespace Go.Proofs.YtfpgekjhcfoohaaGreat.Vec
open Go.RowKit
end Go.Proofs.YtfpgekjhcfoohaaGreat.Vec
/- A part's form, told by every '=' as by the first; a decimal told back. -/
namespace Go.Proofs.YtfpgekjhcfoohaaGreat.Vec
open Go.RowKit Go.Proofs.YtfpgekjhcfoohaaGreat
end Go.Proofs.YtfpgekjhcfoohaaGreat.Vec
/- A row of the call's own whose elements are rows of two strings each. -/
namespace Go.Proofs.YtfpgekjhcfoohaaGreat.Vec
open Go.RowKit Go.Proofs.YtfpgekjhcfoohaaGreat
def Inner (w : World) (v : Value) (vs : List (Nat × Nat)) (ps : List (List UInt8)) : Prop :=
 ∀ (i : Nat) (x : Nat × Nat) (p : List UInt8), vs[i]? = some x → ps[i]? = some p → x.1 < w.heap.size ∧ v.ownBlock ≠ some x.1 ∧
  w.cell? ⟨x.1, 0, none⟩ = some (.string (bytes (nameOf p))) ∧ w.cell? ⟨x.1, 1, none⟩ = some (.string (bytes (numOf' p)))
theorem Inner.nil (w : World) (v : Value) (ps : List (List UInt8)) : Inner w v [] ps := fun i x p h => by simp at h
theorem Inner.kept {w w' : World} {v : Value} {vs : List (Nat × Nat)} {ps : List (List UInt8)} (h : Inner w v vs ps) (k : Kept w w') : Inner w' v vs ps := fun i x p hx hp => by
 obtain ⟨h1, h2, h3, h4⟩ := h i x p hx hp
 exact ⟨Nat.lt_of_lt_of_le h1 k.size, h2, cell_later k h3, cell_later k h4⟩
theorem Inner.snoc {w w' : World} {v : Value} {vs : List (Nat × Nat)} {ps : List (List UInt8)} {g n cap b c : Nat} {p : List UInt8} (h : Inner w v vs ps) (hg : w.grownBy w' v.ownBlock) (hgo : v.ownBlock = some g ∨ g = w.heap.size)
 (hp : ps[vs.length]? = some p) (hb : b < w.heap.size) (hne : v.ownBlock ≠ some b)
 (c0 : w.cell? ⟨b, 0, none⟩ = some (.string (bytes (nameOf p)))) (c1 : w.cell? ⟨b, 1, none⟩ = some (.string (bytes (numOf' p)))) :
 Inner w' (.slice (some ⟨g, 0, none⟩) n cap) (vs ++ [(b, c)]) ps := by
 have far : ∀ d, d < w.heap.size → v.ownBlock ≠ some d → d < w'.heap.size ∧ (Value.slice (some ⟨g, 0, none⟩) n cap).ownBlock ≠ some d ∧ ∀ j, w'.cell? ⟨d, j, none⟩ = w.cell? ⟨d, j, none⟩ := fun d hd hn => by
  refine ⟨Nat.lt_of_lt_of_le hd hg.size, ?_, fun j => hg.cell_far ⟨d, j, none⟩ hd (fun e => hn e.symm)⟩
  show some g ≠ some d
  intro e
  have e' : g = d := Option.some.inj e
  rcases hgo with h1 | h1
  · exact hn (by rw [h1, e'])
  · omega
 intro i x q hx hq
 by_cases hi : i < vs.length
 · rw [List.getElem?_append_left hi] at hx
   obtain ⟨h1, h2, h3, h4⟩ := h i x q hx hq
   obtain ⟨f1, f2, f3⟩ := far x.1 h1 h2
   exact ⟨f1, f2, (f3 0).trans h3, (f3 1).trans h4⟩
 · have hi2 : i = vs.length := by
    have := (List.getElem?_eq_some_iff.1 hx).1
    simp at this; omega
   subst hi2
   have hxx : (b, c) = x := by simpa using hx
   have hqq : q = p := Option.some.inj (hq.symm.trans hp)
   subst hxx; subst hqq
   obtain ⟨f1, f2, f3⟩ := far b hb hne
   exact ⟨f1, f2, (f3 0).trans c0, (f3 1).trans c1⟩
end Go.Proofs.YtfpgekjhcfoohaaGreat.Vec
/- The reference's Times. -/
namespace Go.Proofs.YtfpgekjhcfoohaaGreat.Vec
open Go.RowKit
end Go.Proofs.YtfpgekjhcfoohaaGreat.Vec
/- The names of both, rising, each once: plain words. -/
namespace Go.Proofs.YtfpgekjhcfoohaaGreat.Vec
open Go.RowKit
def namesV : Nat → V → V → List ByteArray
 | 0, _, _ => []
 | fuel + 1, la, lb =>
  if la.length + lb.length = 0 then []
  else foremostV la lb :: namesV fuel (takenV la (foremostV la lb)).2 (takenV lb (foremostV la lb)).2
def foldAcc (f : Int → Int → Int × Int) (la lb : V) : List ByteArray → V → Int × V
 | [], acc => (0, acc)
 | n :: t, acc => if (f (getV la n) (getV lb n)).2 ≠ 0 then ((f (getV la n) (getV lb n)).2, []) else foldAcc f la lb t (plusV acc n (f (getV la n) (getV lb n)).1)
theorem taken_mem {l : V} {s : ByteArray} : ∀ y ∈ (takenV l s).2, y ∈ l := by
 cases l with
 | nil => intro y hy; exact hy
 | cons x t =>
  rw [taken_cons]
  split
  · exact fun y hy => List.mem_cons_of_mem _ hy
  · exact fun y hy => hy
theorem foremost_mem {la lb : V} (h : 0 < la.length + lb.length) : (∃ y ∈ la, y.1 = foremostV la lb) ∨ (∃ y ∈ lb, y.1 = foremostV la lb) := by
 cases la with
 | nil =>
  cases lb with
  | nil => simp at h
  | cons y t => exact .inr ⟨y, by simp, rfl⟩
 | cons x s =>
  cases lb with
  | nil => exact .inl ⟨x, by simp, rfl⟩
  | cons y t =>
   rw [foremost_cons]
   split
   · exact .inr ⟨y, by simp, rfl⟩
   · exact .inl ⟨x, by simp, rfl⟩
theorem fold_merge (f : Int → Int → Int × Int) (la0 lb0 : V) : ∀ (fuel : Nat) (la lb acc : V), Gd la → Gd lb →
 (∀ n, ((∃ y ∈ la, y.1 = n) ∨ (∃ y ∈ lb, y.1 = n)) → getV la0 n = getV la n ∧ getV lb0 n = getV lb n) →
 foldAcc f la0 lb0 (namesV fuel la lb) acc = mergeAcc f fuel la lb acc
 | 0, _, _, _, _, _, _ => rfl
 | fuel + 1, la, lb, acc, ha, hb, h => by
  unfold namesV mergeAcc
  by_cases h0 : la.length + lb.length = 0
  · rw [if_pos h0, if_pos h0]; rfl
  · rw [if_neg h0, if_neg h0]
    obtain ⟨hs, hsa, hsb, _⟩ := foremost_spec ha hb (by omega)
    have hm := h _ (foremost_mem (la := la) (lb := lb) (by omega))
    obtain ⟨s, es⟩ : ∃ s, foremostV la lb = s := ⟨_, rfl⟩
    rw [es] at hs hsa hsb hm ⊢
    obtain ⟨a1, a2, a3, a4, _⟩ := take_spec ha hsa
    obtain ⟨b1, b2, b3, b4, _⟩ := take_spec hb hsb
    rw [foldAcc]
    dsimp only
    rw [hm.1, hm.2, a1, b1]
    split
    · rfl
    · refine fold_merge f la0 lb0 fuel _ _ _ a2 b2 fun n hn => ?_
      have hne : n ≠ s := by
       rcases hn with ⟨y, hy, rfl⟩ | ⟨y, hy, rfl⟩
       · exact (lt_ne (a3 y hy)).symm
       · exact (lt_ne (b3 y hy)).symm
      rw [a4 n hne, b4 n hne]
      refine h n (hn.imp ?_ ?_)
      · rintro ⟨y, hy, e⟩; exact ⟨y, taken_mem y hy, e⟩
      · rintro ⟨y, hy, e⟩; exact ⟨y, taken_mem y hy, e⟩
theorem merged_fold (f : Int → Int → Int × Int) {l l' : V} (h : checkV l = 0) (h' : checkV l' = 0) (hf : Fine l) (hf' : Fine l') :
 mergedV f l l' = (let r := foldAcc f l l' (namesV (l.length + l'.length) l l') []; if r.1 ≠ 0 then (r.1, []) else if 8 < r.2.length then (4, []) else (0, r.2)) := by
 rw [mergedV, if_neg (by rw [h]; decide), if_neg (by rw [h']; decide), fold_merge f l l' _ l l' [] (check_good h hf) (check_good h' hf') (fun n _ => ⟨rfl, rfl⟩)]
theorem names_end {fuel : Nat} {la lb : V} (h : la.length + lb.length = 0) : namesV fuel la lb = [] := by
 cases fuel with
 | zero => rfl
 | succ n => rw [namesV, if_pos h]
theorem next_first {fuel : Nat} {l l' : V} {i k : Nat} (hi : i < l.length) (h : ¬ k < l'.length ∨ (k < l'.length ∧ ltS (nm l i) (nm l' k) = true)) :
 namesV (fuel + 1) (l.drop i) (l'.drop k) = nm l i :: namesV fuel (l.drop (i + 1)) (l'.drop k) := by
 rw [namesV, if_neg (by simp only [List.length_drop]; omega), drop_cons hi]
 rcases h with h | ⟨h, e⟩
 · rw [List.drop_of_length_le (l := l') (by omega)]
   have e1 : foremostV ((nm l i, qn l i) :: l.drop (i + 1)) [] = nm l i := rfl
   rw [e1, taken_cons, if_pos (eqS_iff.2 rfl)]; rfl
 · rw [drop_cons h]
   have e2 : ltS (nm l' k) (nm l i) = false := by
    cases e3 : ltS (nm l' k) (nm l i) with
    | false => rfl
    | true => exact (lt_asymm' e e3).elim
   rw [foremost_cons, if_neg (by rw [e2]; decide), taken_cons, if_pos (eqS_iff.2 rfl), taken_cons, if_neg (fun c => lt_ne e (eqS_iff.1 c).symm)]
theorem next_second {fuel : Nat} {l l' : V} {i k : Nat} (hk : k < l'.length) (h : ¬ i < l.length ∨ (i < l.length ∧ ltS (nm l' k) (nm l i) = true)) :
 namesV (fuel + 1) (l.drop i) (l'.drop k) = nm l' k :: namesV fuel (l.drop i) (l'.drop (k + 1)) := by
 rw [namesV, if_neg (by simp only [List.length_drop]; omega), drop_cons hk]
 rcases h with h | ⟨h, e⟩
 · rw [List.drop_of_length_le (l := l) (by omega)]
   have e1 : foremostV [] ((nm l' k, qn l' k) :: l'.drop (k + 1)) = nm l' k := rfl
   rw [e1, taken_cons, if_pos (eqS_iff.2 rfl)]; rfl
 · rw [drop_cons h]
   rw [foremost_cons, if_pos e, taken_cons (nm l' k, qn l' k), if_pos (eqS_iff.2 rfl), taken_cons, if_neg (fun c => lt_ne e (eqS_iff.1 c).symm)]
theorem next_both {fuel : Nat} {l l' : V} {i k : Nat} (hi : i < l.length) (hk : k < l'.length) (h1 : ltS (nm l i) (nm l' k) = false) (h2 : ltS (nm l' k) (nm l i) = false) :
 namesV (fuel + 1) (l.drop i) (l'.drop k) = nm l i :: namesV fuel (l.drop (i + 1)) (l'.drop (k + 1)) := by
 have e := lt_tri' h1 h2
 rw [namesV, if_neg (by simp only [List.length_drop]; omega), drop_cons hi, drop_cons hk]
 rw [foremost_cons, if_neg (by rw [h2]; decide), taken_cons, if_pos (eqS_iff.2 rfl), taken_cons, if_pos (eqS_iff.2 e.symm)]
end Go.Proofs.YtfpgekjhcfoohaaGreat.Vec
/- The reference's ParseVec. -/
namespace Go.Proofs.YtfpgekjhcfoohaaGreat.Vec
open Go.RowKit Go.Proofs.YtfpgekjhcfoohaaGreat
end Go.Proofs.YtfpgekjhcfoohaaGreat.Vec
/- The law's own comparison; what is checked is short; the reference's calls over whatever reads so. -/
namespace Go.Proofs.YtfpgekjhcfoohaaGreat.Vec
open Go.RowKit Go.Proofs.YtfpgekjhcfoohaaGreat
theorem OwnV.reads {e : TypeId} {w : World} {B : Nat} {v : Value} {l : V} (h : OwnV e w B v l) : Reads w v l := h.at_
theorem rsameR {v v' : Value} {l l' : V} {c : Bool} {w : World} (h : Reads w v l) (h' : Reads w v' l') (e : sameFrom l l' = c) :
 Calls Tryz.prog 98 #[v, v'] w fun x w' => x = .returned (.bool c) ∧ Kept w w' := by
 subst e
 obtain ⟨a, cap, rfl, h1, h2, h3⟩ := h
 obtain ⟨a', cap', rfl, h1', h2', h3'⟩ := h'
 exact rsame_any a a' _ cap _ cap' l l' w h3 h3'
theorem rnameR {n : ByteArray} {c : Bool} {w : World} (h : n.size ≤ maxLen) (e : isName n = c) :
 Calls Tryz.prog 77 #[.string n] w fun x w' => x = .returned (.bool c) ∧ w = w' := by
 subst e
 exact refName_any n w h
end Go.Proofs.YtfpgekjhcfoohaaGreat.Vec
/- What a law of vectors is told: its arguments, the library's variables. -/
namespace Go.Proofs.YtfpgekjhcfoohaaGreat.Vec
open Go.ChangeShapes Go.WideShapes Go.ChangeAt Go.RowKit Go.Deep
theorem cells2 : Tryz.prog.cellsOf 103 = 2 := by kernel_rfl
theorem cellsS : Tryz.prog.cellsOf 9 = 1 := by kernel_rfl
theorem cellsI : Tryz.prog.cellsOf 2 = 1 := by kernel_rfl
set_option maxRecDepth 100000 in
theorem amount_of_trod {H : Type} {enc : TypeId × Value → H} {w : World} {base fuel : Nat} {sp : Nat → Bool} {held : Bool} {cs : List Value} {x : DataW H × List MemPlace} (h : DataW.trod enc Tryz.prog w base sp held fuel 103 cs = some x) :
 ∃ (s : ByteArray) (n : Int), cs = [.string s, .int .i64 n] ∧ s.size ≤ maxLen ∧ -9223372036854775808 ≤ n ∧ n ≤ 9223372036854775807 := by
 obtain ⟨ys, m, -, -, hlen, hyl, hf⟩ := DataW.trod_struct Tryz.underlying103 h
 rw [cells2] at hlen
 match cs, hlen with
 | [c0, c1], _ =>
  have h0 : DataW.trod enc Tryz.prog w base sp held m 9 (([c0, c1].drop 0).take (Tryz.prog.cellsOf 9)) = ys[0]? := hf 0 _ rfl
  have h1 : DataW.trod enc Tryz.prog w base sp held m 2 (([c0, c1].drop 1).take (Tryz.prog.cellsOf 2)) = ys[1]? := hf 1 _ rfl
  rw [cellsS] at h0
  rw [cellsI] at h1
  obtain ⟨y0, e0⟩ : ∃ y, ys[0]? = some y := ⟨_, List.getElem?_eq_getElem (by rw [hyl]; decide)⟩
  obtain ⟨y1, e1⟩ : ∃ y, ys[1]? = some y := ⟨_, List.getElem?_eq_getElem (by rw [hyl]; decide)⟩
  rw [e0] at h0
  rw [e1] at h1
  obtain ⟨s, q0, -, hs⟩ := DataW.trod_string Tryz.underlying9 h0
  obtain ⟨n, q1, -, hn⟩ := DataW.trod_int Tryz.underlying2 h1
  simp only [List.drop_zero, List.take_succ_cons, List.take_zero, List.cons.injEq, and_true, List.drop_succ_cons] at q0 q1
  subst q0; subst q1
  have := bounds_i64 hn
  exact ⟨s, n, rfl, hs, this.1, this.2⟩
theorem nm_left {l m : V} {i : Nat} (h : i < l.length) : nm (l ++ m) i = nm l i ∧ qn (l ++ m) i = qn l i := by
 unfold nm qn
 simp [List.getD, List.getElem?_append_left h]
theorem nm_last (l : V) (s : ByteArray) (n : Int) : nm (l ++ [(s, n)]) l.length = s ∧ qn (l ++ [(s, n)]) l.length = n := by
 unfold nm qn
 simp [List.getD]
theorem reads_of_trod {H : Type} {enc : TypeId × Value → H} {w : World} {base fuel : Nat} {sp : Nat → Bool} {held : Bool} {v : Value} {x : DataW H × List MemPlace} (h : DataW.trod enc Tryz.prog w base sp held fuel 38 [v] = some x) :
 ∃ l, Reads w v l := by
 rcases open_slice Tryz.underlying38 h with ⟨hcs, -⟩ | ⟨a, len, cap, m, n, D, Pl, hcs, hb, hl, hm, hmm, hx, hi⟩
 · cases hcs; exact ⟨[], Reads.nil w⟩
 · cases hcs
   have hlm : len ≤ m := by rw [hmm]; split <;> omega
   have key : ∀ k, k ≤ len → ∃ l : V, l.length = k ∧ ∀ i, i < k → ((nm l i).size ≤ maxLen ∧ -9223372036854775808 ≤ qn l i ∧ qn l i ≤ 9223372036854775807) ∧
    w.cell? ((a.add (i * 2)).add 0) = some (.string (nm l i)) ∧ w.cell? ((a.add (i * 2)).add 1) = some (.int .i64 (qn l i)) := by
    intro k
    induction k with
    | zero => exact fun _ => ⟨[], rfl, fun i hi => absurd hi (by omega)⟩
    | succ k ih =>
     intro hk
     obtain ⟨l, e, hall⟩ := ih (by omega)
     obtain ⟨cs', hc, ht'⟩ := hi k (by omega)
     obtain ⟨s, q, rfl, b1, b2, b3⟩ := amount_of_trod ht'
     rw [cells2] at hc
     obtain ⟨-, -, hat⟩ := World.cells?_some hc
     refine ⟨l ++ [(s, q)], by simp [e], fun i hi => ?_⟩
     by_cases e2 : i = k
     · subst e2
       subst e
       rw [(nm_last l s q).1, (nm_last l s q).2]
       exact ⟨⟨b1, b2, b3⟩, hat 0 (by decide), hat 1 (by decide)⟩
     · rw [(nm_left (by omega)).1, (nm_left (by omega)).2]
       exact hall i (by omega)
   obtain ⟨l, e, hall⟩ := key len (Nat.le_refl _)
   subst e
   refine ⟨l, _, cap, rfl, hl, hm, rfl, Nat.le_trans hl hm, fun i hi => (hall i hi).1, ?_⟩
   by_cases h0 : l.length = 0
   · exact .inl h0
   · obtain ⟨b, off, spot⟩ := a
     have hc := (hall 0 (by omega)).2.1
     have hspot : spot = none := by simpa [Addr.add] using World.cell?_spot hc
     subst hspot
     have hcell : ∀ i, i < l.length → w.cell? ⟨b, off + i * 2, none⟩ = some (.string (nm l i)) ∧ w.cell? ⟨b, off + i * 2 + 1, none⟩ = some (.int .i64 (qn l i)) := fun i hi => by
      have c := (hall i hi).2
      by_cases hi0 : i = 0
      · subst hi0; simpa [Addr.add] using c
      · have h2 : ¬ i * 2 = 0 := by omega
        simpa [Addr.add, h2] using c
     exact .inr ⟨b, off, rfl, World.block_lt_of_cell? _ _ (hcell 0 (by omega)).1, hcell⟩
end Go.Proofs.YtfpgekjhcfoohaaGreat.Vec
