/- The library's sequence of a text's parts, ranged over: whatever the rounds do, a panic of theirs let through. -/
import Derived.Test.YtnnneimpdiadhaaDoorGJoin
import Derived.Test.YtnnneimpdiadhaaDoorResRound
import Derived.RangeFuncNested
import Derived.RangeFuncBound
import Derived.RangeFuncCalls
import Derived.RangeFuncLeaves
import Derived.Shelf.Abstract
import Derived.Shelf.RegionOpen
import Derived.WalkKit
import Derived.OwnWalkIn
import Derived.TacticsInMore
import Derived.LoopNIn
import Derived.LoopIn
namespace Go.Proofs.YtnnneimpdiadhaaDoor
open Go.RowKit Go.Shelf
set_option linter.unusedVariables false

def bytes (l : List UInt8) : ByteArray := ⟨l.toArray⟩

/-- A text's parts between commas. -/
def partsOf : List UInt8 → List (List UInt8)
  | [] => [[]]
  | c :: t =>
    if c = 44 then [] :: partsOf t
    else match partsOf t with
      | [] => [[c]]
      | p :: ps => (c :: p) :: ps

theorem partsOf_cons (c : UInt8) (t : List UInt8) : partsOf (c :: t) = if c = 44 then [] :: partsOf t else match partsOf t with
      | [] => [[c]]
      | p :: ps => (c :: p) :: ps := rfl

theorem partsOf_ne (l : List UInt8) : partsOf l ≠ [] := by
  cases l with
  | nil => simp [partsOf]
  | cons c t => unfold partsOf; split; simp; split <;> simp

theorem index_comma (c : UInt8) (t : List UInt8) : Lib.index (c :: t) [44] = if c = 44 then 0 else if Lib.index t [44] == -1 then -1 else Lib.index t [44] + 1 := by
  rw [Lib.index]
  by_cases h : c = 44
  · subst h; rfl
  · rw [if_neg h, if_neg (by simp [List.isPrefixOf]; exact fun e => h e.symm)]

theorem parts_none : ∀ (l : List UInt8), Lib.index l [44] < 0 → partsOf l = [l]
  | [], _ => rfl
  | c :: t, h => by
    rw [index_comma] at h
    by_cases hc : c = 44
    · rw [if_pos hc] at h; omega
    · rw [if_neg hc] at h
      have ht : Lib.index t [44] < 0 := by
        split at h
        · rename_i e; have : Lib.index t [44] = -1 := by simpa using e
          omega
        · omega
      unfold partsOf
      rw [if_neg hc, parts_none t ht]

theorem parts_some : ∀ (l : List UInt8) (i : Nat), Lib.index l [44] = (i : Int) → i < l.length ∧ partsOf l = l.take i :: partsOf (l.drop (i + 1))
  | [], i, h => by simp [Lib.index] at h
  | c :: t, i, h => by
    rw [index_comma] at h
    by_cases hc : c = 44
    · rw [if_pos hc] at h
      obtain rfl : i = 0 := by omega
      refine ⟨by simp, ?_⟩
      rw [partsOf_cons, if_pos hc]; rfl
    · rw [if_neg hc] at h
      split at h
      · omega
      · rename_i e
        have hge := Lib.index_ge t [44]
        have hne : Lib.index t [44] ≠ -1 := by simpa using e
        obtain ⟨j, hj⟩ := Int.eq_ofNat_of_zero_le (show 0 ≤ Lib.index t [44] by omega)
        obtain ⟨h1, h2⟩ := parts_some t j hj
        obtain rfl : i = j + 1 := by omega
        refine ⟨by simpa using h1, ?_⟩
        rw [partsOf, if_neg hc, h2]
        simp

/-- What a round leaves the iterator. -/
def IterKept (b1 b2 b3 : Nat) (W W' : World) : Prop :=
  ∀ b, b = b1 ∨ b = b2 ∨ b = b3 → W'.cell? ⟨b, 0, none⟩ = W.cell? ⟨b, 0, none⟩ ∧ W'.frozen? ⟨b, 0, none⟩ = W.frozen? ⟨b, 0, none⟩

def strLen (w : World) (b : Nat) : Nat := match w.cell? ⟨b, 0, none⟩ with
  | some (.string s) => s.size
  | _ => 0

/-- What the iterator asks of the rounds. -/
structure Rounds (F : Fence) (n : Nat) (l b1 b2 b3 : Nat) (ps : List (List UInt8)) (J : Nat → World → Prop) (Jp : List PanicEntry → World → Prop) : Prop where
  yields : ∀ (k : Nat) (p : List UInt8) (W : World), ps[k]? = some p → J k W → YieldAt F (n - 1) Tryd.prog l #[.string (bytes p)] W fun e W' =>
    (e = .returned (.bool true) ∧ J (k + 1) W' ∧ IterKept b1 b2 b3 W W') ∨ (∃ c, e = .panicked c ∧ Jp c W')
  store : ∀ (k : Nat) (W : World) (s : ByteArray), J k W → J k (W.setCell ⟨b2, 0, none⟩ (.string s))
  drew : ∀ (k : Nat) (W : World) (n : Nat), J k W → J k (W.drewN n)
  env : ∀ (k : Nat) (W : World), J k W → ∃ m, W.cell? ⟨5, 0, none⟩ = some (.int .i64 m)

/-- How it ends. -/
def IterEnds (N : Nat) (J : Nat → World → Prop) (Jp : List PanicEntry → World → Prop) (e : Ending) (w' : World) : Prop :=
  ((∃ v, e = .returned v) ∧ J N w') ∨ (∃ c, e = .panicked c ∧ Jp c w')

set_option maxHeartbeats 1600000 in
theorem split_iter (n : Nat) (hn : 1 ≤ n) (l b1 b2 b3 : Nat) (s : List UInt8) (hs : s.length ≤ 1000000) (J : Nat → World → Prop) (Jp : List PanicEntry → World → Prop)
    (hY : Rounds Fence.wide n l b1 b2 b3 (partsOf s) J Jp) (h12 : b1 ≠ b2) (h32 : b3 ≠ b2) (W : World)
    (c1 : W.cell? ⟨b1, 0, none⟩ = some (.string ⟨#[44]⟩)) (c2 : W.cell? ⟨b2, 0, none⟩ = some (.string (bytes s))) (c3 : W.cell? ⟨b3, 0, none⟩ = some (.int .i64 0))
    (z2 : W.frozen? ⟨b2, 0, none⟩ = false) (h0 : J 0 W) :
    CallsIn Fence.wide n Tryd.prog 68 #[.func (.yield l) #[] #[], .pointer (some ⟨b1, 0, none⟩), .pointer (some ⟨b2, 0, none⟩), .pointer (some ⟨b3, 0, none⟩)] W (IterEnds (partsOf s).length J Jp) := by
  have HY := Lib.hid hY
  have H0 := Lib.hid h0
  clear hY h0
  refine callsIn_of_wp Tryd.func68 rfl trivial ?_ rfl
  simp only [Tryd.ntmps68, List.size_toArray, List.length_cons, List.length_nil, Nat.reduceAdd, Nat.reduceSub, Array.replicate_succ, Array.replicate_zero, List.push_toArray, List.append_toArray, List.nil_append, List.cons_append]
  gi_wp2
  gi_loopw [7] (fun i wr => ∃ (k : Nat) (rest : List UInt8), partsOf rest = (partsOf s).drop k ∧ rest.length ≤ s.length ∧ wr.cell? ⟨b1, 0, none⟩ = some (.string ⟨#[44]⟩) ∧ wr.cell? ⟨b2, 0, none⟩ = some (.string (bytes rest)) ∧ wr.cell? ⟨b3, 0, none⟩ = some (.int .i64 0) ∧ wr.frozen? ⟨b2, 0, none⟩ = false ∧ J k wr)
    (fun i wr => strLen wr b2)
  case atStart => exact ⟨0, s, rfl, Nat.le_refl _, c1, c2, c3, z2, H0.out⟩
  case round =>
    obtain ⟨k, rest, hp, hl, c1, c2, c3, z2, hJ⟩ := hrel
    have HJ := Lib.hid hJ
    have HP := Lib.hid hp
    have hl6 : rest.length ≤ 1000000 := Nat.le_trans hl hs
    have hsz : (bytes rest).size = rest.length := by simp [bytes, ByteArray.size]
    have HSZ := Lib.hid hsz
    obtain ⟨m, hm⟩ := HY.out.env k wr hJ
    by_cases hix : Lib.index rest [44] < 0
    · have hone := parts_none rest hix
      have IX := Lib.hid (show Calls Tryd.prog 70 #[.string (bytes rest), .string ⟨#[44]⟩] wr fun e w' => e = .returned (.int .i64 (Lib.index rest [44])) ∧ w' = wr from Tryd.strings_Index (bytes rest) ⟨#[44]⟩ m wr (by omega) hm)
      have hk : (partsOf s)[k]? = some rest := by
        have := congrArg (fun x => x[0]?) hp
        rw [hone] at this
        simpa using this.symm
      have HN := Lib.hid (show k + 1 = (partsOf s).length by
        have := congrArg List.length hp
        rw [hone, List.length_drop] at this
        simp only [List.length_cons, List.length_nil] at this
        omega)
      obtain ⟨fn, tmps, assign, body, hy, hR⟩ := HY.out.yields k rest wr hk hJ
      have HR := Lib.hid hR
      obtain ⟨ix, hixe⟩ : ∃ ix, Lib.index rest [44] = ix := ⟨_, rfl⟩
      rw [hixe] at IX hix
      clear hm hJ hp hone hk hR hsz hixe
      gi_wp2_with (refine ⟨trivial, ?_⟩; gi_at_call 70; refine (callsIn_wide.2 IX.out).mono ?_; rintro e w' ⟨rfl, rfl⟩)
      refine HR.out.mono ?_
      rintro e W' (⟨rfl, hJ', hk'⟩ | ⟨c, rfl, hp'⟩)
      · have HJ' := Lib.hid hJ'
        clear hJ' hk'
        gi_wp2
        go_end0
        exact .inl ⟨⟨_, rfl⟩, by rw [← HN.out]; exact HJ'.out⟩
      · have HP' := Lib.hid hp'
        clear hp'
        gi_wp2
        exact ⟨rfl, .inr ⟨c, rfl, HP'.out⟩⟩
    · obtain ⟨i, hi⟩ := Int.eq_ofNat_of_zero_le (show 0 ≤ Lib.index rest [44] by omega)
      obtain ⟨hlt, hsome⟩ := parts_some rest i hi
      have IX := Lib.hid (show Calls Tryd.prog 70 #[.string (bytes rest), .string ⟨#[44]⟩] wr fun e w' => e = .returned (.int .i64 (i : Int)) ∧ w' = wr by
        have := Tryd.strings_Index (bytes rest) ⟨#[44]⟩ m wr (by omega) hm
        rw [show Lib.index (bytes rest).data.toList [44] = (i : Int) from hi] at this
        exact this)
      have hk : (partsOf s)[k]? = some (rest.take i) := by
        have := congrArg (fun x => x[0]?) hp
        rw [hsome] at this
        simpa using this.symm
      have HN := Lib.hid (show partsOf (rest.drop (i + 1)) = (partsOf s).drop (k + 1) by
        have := congrArg (fun x => x.drop 1) hp
        rw [hsome] at this
        simpa [List.drop_drop] using this)
      obtain ⟨fn, tmps, assign, body, hy, hR⟩ := HY.out.yields k (rest.take i) wr hk hJ
      have HR := Lib.hid hR
      have hfrag : (bytes rest).extract 0 i = bytes (rest.take i) := by
        apply Go.WideShapes.bytes_inj
        simp [bytes, ByteArray.data_extract]
      have hrest : (bytes rest).extract (i + 1) rest.length = bytes (rest.drop (i + 1)) := by
        apply Go.WideShapes.bytes_inj
        simp [bytes, ByteArray.data_extract, List.take_of_length_le]
      have HREST := Lib.hid hrest
      have HJ2 := Lib.hid HY.out.store
      clear hm hJ hp hsome hk hR hix hi hrest
      have hi1 : (i : Int) ≤ ((bytes rest).size : Int) := by rw [hsz]; omega
      gi_wp2_with (refine ⟨trivial, ?_⟩; gi_at_call 70; refine (callsIn_wide.2 IX.out).mono ?_; rintro e w' ⟨rfl, rfl⟩)
      refine HR.out.mono ?_
      rintro e W' (⟨rfl, hJ', hk'⟩ | ⟨c, rfl, hp'⟩)
      · have HJ' := Lib.hid hJ'
        obtain ⟨d1, y1⟩ := hk' b1 (.inl rfl)
        obtain ⟨d2, y2⟩ := hk' b2 (.inr (.inl rfl))
        obtain ⟨d3, y3⟩ := hk' b3 (.inr (.inr rfl))
        have e1 := d1.trans c1
        have e2 := d2.trans c2
        have e3 := d3.trans c3
        have x2 := y2.trans z2
        have hsz' := HSZ.out
        have hrest := HREST.out
        have hi2 : ((i : Int) + 1) ≤ ((bytes rest).size : Int) := by rw [hsz']; omega
        have hi3 : ((i : Int) + 1).toNat = i + 1 := by omega
        have E1 := Lib.hid e1
        have E2 := Lib.hid e2
        have E3 := Lib.hid e3
        have X2 := Lib.hid x2
        have C2 := Lib.hid c2
        clear hJ' hk' d1 d2 d3 y1 y2 y3 c1 c2 c3 z2
        gi_wp2
        go_roundw
        case rel =>
          exact ⟨k + 1, rest.drop (i + 1), HN.out, by rw [List.length_drop]; omega,
            by rw [World.cell?_setCell_other _ _ _ _ (by intro e; injection e with e; exact h12 e.symm)]; exact E1.out,
            World.cell?_setCell_same' _ _ _ (by rw [E2.out]; rfl),
            by rw [World.cell?_setCell_other _ _ _ _ (by intro e; injection e with e; exact h32 e.symm)]; exact E3.out,
            by rw [World.frozen?_setCell]; exact X2.out, HJ2.out _ _ _ HJ'.out⟩
        case measure =>
          unfold strLen
          rw [World.cell?_setCell_same' _ _ _ (by rw [E2.out]; rfl), C2.out]
          simp [bytes, ByteArray.size]
          omega
      · have HP' := Lib.hid hp'
        clear hp'
        gi_wp2
        exact ⟨rfl, .inr ⟨c, rfl, HP'.out⟩⟩

end Go.Proofs.YtnnneimpdiadhaaDoor
