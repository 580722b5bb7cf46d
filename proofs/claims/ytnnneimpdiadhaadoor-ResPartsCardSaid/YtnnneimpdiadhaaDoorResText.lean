/- A vector in words. -/
import Derived.Test.YtnnneimpdiadhaaDoorResBuilder
import Derived.Test.YtnnneimpdiadhaaDoorResDec
import Derived.Lib.ItoaLen
import Derived.Lib.AppendIntMem
import Derived.Lib.SmallJoins
namespace Go.Proofs.YtnnneimpdiadhaaDoor.Vec
open Go.RowKit Go.Shelf
set_option linter.unusedVariables false

/-- .. and the table of powers that numbers are written by. -/
structure EnvT (w : World) : Prop extends Env w where
  tab : Lib.TabIs Tryd.prog w "internal/strconv.uint64pow10" .u64 Lib.pow10Tab

theorem tabName : Tryd.prog.globalNamed "internal/strconv.uint64pow10" = some 2 := by kernel_rfl
theorem EnvT.kept {w w' : World} (h : EnvT w) (k : Kept w w') : EnvT w' := by
  refine ⟨h.toEnv.kept k, Joins.tab_stays tabName h.tab k (Nat.le_refl _)⟩

def joinFrom (first : Bool) : V → List UInt8
  | [] => []
  | x :: t => (if first = true then [] else [44]) ++ (x.1.data.toList ++ ([61] ++ (Lib.itoa x.2 ++ joinFrom false t)))
def textV (l : V) : List UInt8 := if l = [] then [45] else joinFrom true l

theorem fewFrom_at : ∀ {l : V} {k : Nat}, fewFrom l = true → k < l.length → (nm l k).size ≤ 50
  | [], _, _, h => absurd h (by simp)
  | x :: t, 0, h, _ => by
    simp only [fewFrom, Bool.and_eq_true, decide_eq_true_eq] at h
    exact h.1
  | x :: t, k + 1, h, hk => by
    simp only [fewFrom, Bool.and_eq_true, decide_eq_true_eq] at h
    show (nm t k).size ≤ 50
    exact fewFrom_at h.2 (by simpa using hk)

theorem format_any (n : Int) (w : World) (hE : EnvT w) (h0 : -9223372036854775808 ≤ n) (h1 : n ≤ 9223372036854775807) :
    Calls Tryd.prog 39 #[.int .i64 n, .int .i64 10] w fun e w' => e = .returned (.string (bytes (Lib.itoa n))) ∧ Kept w w' := by
  refine (Tryd.strconv_FormatInt_10 n h0 h1 w hE.tab).mono ?_
  rintro e w' ⟨rfl, k, os, rfl⟩
  exact ⟨rfl, Lib.below_grow _ _ (Nat.le_refl _) _ _⟩

theorem bytes_size (l : List UInt8) : (bytes l).size = l.length := rfl

set_option maxHeartbeats 1600000 in
theorem text_any (a : Option Addr) (len cap : Nat) (l : V) (w : World) (hE : EnvT w) (hr : VecAt w a len l) (hfew : fewV l = true) :
    Calls Tryd.prog 18 #[.slice a len cap] w fun e w' => e = .returned (.string (bytes (textV l))) ∧ Kept w w' := by
  have hl := hr.1
  have hf := hr.2.2.1
  unfold fewV at hfew
  simp only [Bool.and_eq_true, decide_eq_true_eq] at hfew
  have h20 : len ≤ 20 := by omega
  rcases hr.form with h0 | ⟨b, off, rfl⟩
  · subst h0
    have HE := Lib.hid (show textV l = [45] by rw [List.eq_nil_of_length_eq_zero hl]; rfl)
    clear hr hl hf hfew hE
    go_enter Tryd.func18, Tryd.ntmps18
    go_wp2
    go_ret
    exact ⟨by rw [HE.out]; rfl, Kept.refl _⟩
  · by_cases h0 : len = 0
    · subst h0
      have HE := Lib.hid (show textV l = [45] by rw [List.eq_nil_of_length_eq_zero hl]; rfl)
      clear hr hl hf hfew hE
      go_enter Tryd.func18, Tryd.ntmps18
      go_wp2
      go_ret
      exact ⟨by rw [HE.out]; rfl, Kept.refl _⟩
    · have hne : ((len : Int) == 0) = false := by
        have : (len : Int) ≠ 0 := by omega
        simpa using this
      have HV := Lib.hid (show textV l = joinFrom true l by unfold textV; rw [if_neg (by intro e; rw [e] at hl; simp at hl; omega)])
      have HS := Lib.hid (fun k (hk : k < l.length) => fewFrom_at hfew.2 hk)
      have HF := Lib.hid hf
      have HR := Lib.hid hr
      have HL := Lib.hid hl
      have HE := Lib.hid hE
      clear hr hl hf hfew hE h0
      go_enter Tryd.func18, Tryd.ntmps18
      go_wp2
      go_loopw [11] (fun i wr => ∃ (k : Nat) (acc : List UInt8), k ≤ len ∧ i = .int .i64 k ∧ acc ++ joinFrom (decide (k = 0)) (l.drop k) = joinFrom true l ∧ acc.length ≤ k * 80 ∧ IsB w.heap.size w.heap.size acc wr ∧ Below w.heap.size w wr) (fun i _ => len - (intOf i).toNat)
      case atStart => exact ⟨0, [], Nat.zero_le _, rfl, rfl, Nat.le_refl _, Lib.fresh_isBuilder _ _ w, kept_alloc _ _⟩
      case round =>
        obtain ⟨k, acc, hk, rfl, hrest, hacc, hI, hB⟩ := hrel
        have HB := Lib.hid hB
        by_cases hlt : k < len
        · obtain ⟨hb, c1, c2⟩ := (HR.out.kept hB).cells hlt
          have HI := Lib.hid (show k < l.length by rw [HL.out]; exact hlt)
          have hs50 := HS.out k HI.out
          have hq := (HF.out k HI.out).2
          have HIT := Lib.hid (Lib.itoa_length_le (qn l k) hq.1 hq.2)
          have HREST := Lib.hid (show acc ++ (if decide (k = 0) = true then [] else [44]) ++ (nm l k).data.toList ++ [61] ++ Lib.itoa (qn l k) ++ joinFrom (decide (k + 1 = 0)) (l.drop (k + 1)) = joinFrom true l by
            rw [← hrest, drop_cons HI.out]; simp [joinFrom, List.append_assoc])
          have hszn : (nm l k).data.toList.length = (nm l k).size := by rw [Array.length_toList, ByteArray.size_data]
          have HSZ := Lib.hid hszn
          obtain ⟨W1, hW1⟩ : ∃ W1, wr.alloc (.cells #[.string (nm l k), .int .i64 (qn l k)] 38) = W1 := ⟨_, rfl⟩
          have I1 := Lib.hid (show IsB w.heap.size w.heap.size acc W1 by rw [← hW1]; exact hI.kept (kept_alloc wr _))
          have B1 := Lib.hid (show Below w.heap.size w W1 by rw [← hW1]; exact hB.trans (Below.mono (kept_alloc wr _) hB.size))
          have A1 := Lib.hid (show W1.heap[wr.heap.size]? = some (.cells #[.string (nm l k), .int .i64 (qn l k)] 38 (0, 0)) by rw [← hW1]; exact World.alloc_heap_new wr _)
          have hne2 : wr.heap.size ≠ w.heap.size := by have := hI.lt; omega
          have HW1 := Lib.hid hW1
          clear hrest hI hB hszn hW1
          by_cases hk0 : k = 0
          · have hd : decide (0 < k) = false := by subst hk0; decide
            have HREST := Lib.hid (show acc ++ (nm l k).data.toList ++ [61] ++ Lib.itoa (qn l k) ++ joinFrom (decide (k + 1 = 0)) (l.drop (k + 1)) = joinFrom true l by
              have := HREST.out; rw [decide_eq_true hk0] at this; simpa using this)
            clear hk0
            go_wp2_with fail
            rw [HW1.out]
            have a1 : W1.cell? ⟨wr.heap.size, 0, none⟩ = some (.string (nm l k)) := by rw [Lib.cell_of_heap A1.out]; rfl
            go_wp2_with fail
            refine (write_any w.heap.size w.heap.size acc (nm l k) _ I1.out (by omega) B1.out.size).mono ?_
            rintro e w2 ⟨rfl, i2, b2, o2⟩
            have B2 := Lib.hid (B1.out.trans b2)
            have I2 := Lib.hid i2
            have A2 := Lib.hid ((o2 _ _ _ hne2 A1.out).trans A1.out)
            clear i2 b2 o2 a1
            go_wp2_with fail
            refine (write_any w.heap.size w.heap.size (acc ++ (nm l k).data.toList) (bytes [61]) _ I2.out (by rw [List.length_append]; have e1 : (bytes [61]).size = 1 := rfl; have e3 := HSZ.out; omega) B2.out.size).mono ?_
            rintro e w3 ⟨rfl, i3, b3, o3⟩
            have B3 := Lib.hid (B2.out.trans b3)
            have I3 := Lib.hid (show IsB w.heap.size w.heap.size (acc ++ (nm l k).data.toList ++ [61]) w3 from i3)
            have A3 := Lib.hid ((o3 _ _ _ hne2 A2.out).trans A2.out)
            clear i3 b3 o3
            have a2 : w3.cell? ⟨wr.heap.size, 1, none⟩ = some (.int .i64 (qn l k)) := by rw [Lib.cell_of_heap A3.out]; rfl
            go_wp2_with fail
            refine (format_any (qn l k) _ (HE.out.kept B3.out) hq.1 hq.2).mono ?_
            rintro e w4 ⟨rfl, k4⟩
            have B4 := Lib.hid (B3.out.trans (Below.mono k4 B3.out.size))
            have I4 := Lib.hid (I3.out.kept k4)
            clear k4 a2
            have SZ4 := Lib.hid (show (acc ++ (nm l k).data.toList ++ [61]).length + (bytes (Lib.itoa (qn l k))).size ≤ 140737488355328 by
              have e1 : (bytes (Lib.itoa (qn l k))).size = (Lib.itoa (qn l k)).length := bytes_size _
              have e2 := HIT.out
              have e3 := HSZ.out
              simp only [List.length_append, List.length_cons, List.length_nil]
              omega)
            go_wp2_with fail
            refine (write_any w.heap.size w.heap.size (acc ++ (nm l k).data.toList ++ [61]) (bytes (Lib.itoa (qn l k))) _ I4.out SZ4.out B4.out.size).mono ?_
            rintro e w5 ⟨rfl, i5, b5, -⟩
            have B5 := Lib.hid (B4.out.trans b5)
            have I5 := Lib.hid (show IsB w.heap.size w.heap.size (acc ++ (nm l k).data.toList ++ [61] ++ Lib.itoa (qn l k)) w5 from i5)
            clear i5 b5
            go_wp2_with fail
            go_roundw
            case rel =>
              refine ⟨k + 1, acc ++ (nm l k).data.toList ++ [61] ++ Lib.itoa (qn l k), by omega, by go_num, HREST.out, ?_, I5.out, B5.out⟩
              have e2 := HIT.out
              have e3 := HSZ.out
              simp only [List.length_append, List.length_cons, List.length_nil]
              omega
            case measure => simp [intOf]; omega
          · have hd : decide (0 < k) = true := decide_eq_true (by omega)
            have HREST := Lib.hid (show acc ++ [44] ++ (nm l k).data.toList ++ [61] ++ Lib.itoa (qn l k) ++ joinFrom (decide (k + 1 = 0)) (l.drop (k + 1)) = joinFrom true l by
              have := HREST.out; rw [decide_eq_false hk0] at this; simpa using this)
            have hk0 : 0 < k := by omega
            go_wp2_with fail
            rw [HW1.out]
            refine (write_any w.heap.size w.heap.size acc (bytes [44]) _ I1.out (by have e1 : (bytes [44]).size = 1 := rfl; omega) B1.out.size).mono ?_
            rintro e w0 ⟨rfl, i0, b0, o0⟩
            have B1 := Lib.hid (B1.out.trans b0)
            have I1 := Lib.hid (show IsB w.heap.size w.heap.size (acc ++ [44]) w0 from i0)
            have A1 := Lib.hid ((o0 _ _ _ hne2 A1.out).trans A1.out)
            clear i0 b0 o0
            have SZ1 := Lib.hid (show (acc ++ [44]).length + (nm l k).size ≤ 140737488355328 by
              simp only [List.length_append, List.length_cons, List.length_nil]; omega)
            have SZ2 := Lib.hid (show (acc ++ [44] ++ (nm l k).data.toList).length + (bytes [61]).size ≤ 140737488355328 by
              have e1 : (bytes [61]).size = 1 := rfl
              have e3 := HSZ.out
              simp only [List.length_append, List.length_cons, List.length_nil]; omega)
            have a1 : w0.cell? ⟨wr.heap.size, 0, none⟩ = some (.string (nm l k)) := by rw [Lib.cell_of_heap A1.out]; rfl
            go_wp2_with fail
            refine (write_any w.heap.size w.heap.size (acc ++ [44]) (nm l k) _ I1.out SZ1.out B1.out.size).mono ?_
            rintro e w2 ⟨rfl, i2, b2, o2⟩
            have B2 := Lib.hid (B1.out.trans b2)
            have I2 := Lib.hid i2
            have A2 := Lib.hid ((o2 _ _ _ hne2 A1.out).trans A1.out)
            clear i2 b2 o2 a1
            go_wp2_with fail
            refine (write_any w.heap.size w.heap.size (acc ++ [44] ++ (nm l k).data.toList) (bytes [61]) _ I2.out SZ2.out B2.out.size).mono ?_
            rintro e w3 ⟨rfl, i3, b3, o3⟩
            have B3 := Lib.hid (B2.out.trans b3)
            have I3 := Lib.hid (show IsB w.heap.size w.heap.size (acc ++ [44] ++ (nm l k).data.toList ++ [61]) w3 from i3)
            have A3 := Lib.hid ((o3 _ _ _ hne2 A2.out).trans A2.out)
            clear i3 b3 o3
            have a2 : w3.cell? ⟨wr.heap.size, 1, none⟩ = some (.int .i64 (qn l k)) := by rw [Lib.cell_of_heap A3.out]; rfl
            go_wp2_with fail
            refine (format_any (qn l k) _ (HE.out.kept B3.out) hq.1 hq.2).mono ?_
            rintro e w4 ⟨rfl, k4⟩
            have B4 := Lib.hid (B3.out.trans (Below.mono k4 B3.out.size))
            have I4 := Lib.hid (I3.out.kept k4)
            clear k4 a2
            have SZ4 := Lib.hid (show (acc ++ [44] ++ (nm l k).data.toList ++ [61]).length + (bytes (Lib.itoa (qn l k))).size ≤ 140737488355328 by
              have e1 : (bytes (Lib.itoa (qn l k))).size = (Lib.itoa (qn l k)).length := bytes_size _
              have e2 := HIT.out
              have e3 := HSZ.out
              simp only [List.length_append, List.length_cons, List.length_nil]
              omega)
            go_wp2_with fail
            refine (write_any w.heap.size w.heap.size (acc ++ [44] ++ (nm l k).data.toList ++ [61]) (bytes (Lib.itoa (qn l k))) _ I4.out SZ4.out B4.out.size).mono ?_
            rintro e w5 ⟨rfl, i5, b5, -⟩
            have B5 := Lib.hid (B4.out.trans b5)
            have I5 := Lib.hid (show IsB w.heap.size w.heap.size (acc ++ [44] ++ (nm l k).data.toList ++ [61] ++ Lib.itoa (qn l k)) w5 from i5)
            clear i5 b5
            go_wp2_with fail
            go_roundw
            case rel =>
              refine ⟨k + 1, acc ++ [44] ++ (nm l k).data.toList ++ [61] ++ Lib.itoa (qn l k), by omega, by go_num, HREST.out, ?_, I5.out, B5.out⟩
              have e2 := HIT.out
              have e3 := HSZ.out
              simp only [List.length_append, List.length_cons, List.length_nil]
              omega
            case measure => simp [intOf]; omega
        · have HD := Lib.hid (show acc = joinFrom true l by rw [← hrest, List.drop_of_length_le (by rw [HL.out]; omega)]; simp [joinFrom])
          have HI := Lib.hid hI
          clear hrest hI hB
          go_wp2_with fail
          refine (Tryd.Builder_String_any w.heap.size w.heap.size acc _ HI.out HB.out.size).mono ?_
          rintro e w1 ⟨rfl, hb1⟩
          have HB1 := Lib.hid hb1
          clear hb1
          go_wp2
          go_ret
          exact ⟨by rw [HV.out, ← HD.out]; rfl, HB.out.trans HB1.out⟩

end Go.Proofs.YtnnneimpdiadhaaDoor.Vec
