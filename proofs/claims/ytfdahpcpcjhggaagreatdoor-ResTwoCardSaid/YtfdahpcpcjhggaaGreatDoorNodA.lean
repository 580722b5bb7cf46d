/- Package by package: contracts of the functions that the laws call. -/
import Derived.Test.YtfdahpcpcjhggaaGreatDoorResC
import Derived.Laws.BytesArg
import Derived.Deep.RegionHeld3

/- The reference's Decimal. -/
namespace Go.Proofs.YtfdahpcpcjhggaaGreatDoor.Vec
open Go.RowKit Go.Proofs.YtfdahpcpcjhggaaGreatDoor
set_option linter.unusedVariables false

/-- The digits ahead of the last. -/
def aheadD (u : Nat) : List UInt8 := if u < 10 then [] else Lib.decDigits (u / 10)
theorem ahead_last (u : Nat) : Lib.decDigits u = aheadD u ++ [UInt8.ofNat (48 + u % 10)] := by
  unfold aheadD
  by_cases h : u < 10
  · rw [Lib.decDigits, dif_pos h, if_pos h, Nat.mod_eq_of_lt h]; rfl
  · rw [Lib.decDigits, dif_neg h, if_neg h]
/-- A number's byte. -/
def dig (d : Int) : UInt8 := UInt8.ofNat d.toNat
theorem dig_nat (u : Nat) : dig (48 + (u : Int) % 10) = UInt8.ofNat (48 + u % 10) := by
  unfold dig
  rw [show (48 + (u : Int) % 10).toNat = 48 + u % 10 by omega]
/-- One byte as a text. -/
theorem conv_one (W : World) (d : Int) : Sem.run Tryz.prog (convert 53 9 (.slice (some ⟨W.heap.size, 0, none⟩) 1 1)) (W.alloc (.cells #[.int .u8 d] 5)) = .ok (.string (bytes [dig d])) (W.alloc (.cells #[.int .u8 d] 5)) :=
  run_convert_bytes_arg (W.alloc (.cells #[.int .u8 d] 5)) 53 5 Tryz.underlying53 Tryz.underlying5 W.heap.size 0 1 1 [d] rfl (fun i hi => by
    obtain rfl : i = 0 := by omega
    have hh := W.alloc_heap_new (.cells #[.int .u8 d] 5)
    rw [Lib.cell_of_heap hh]; rfl) 9 Tryz.underlying9
theorem dd_len : ∀ (k u : Nat), u < 10 ^ (k + 1) → (Lib.decDigits u).length ≤ k + 1
  | 0, u, h => by rw [Lib.decDigits, dif_pos (by simpa using h)]; simp
  | k + 1, u, h => by
    by_cases h10 : u < 10
    · rw [Lib.decDigits, dif_pos h10]; simp
    · rw [Lib.decDigits, dif_neg h10, List.length_append]
      have := dd_len k (u / 10) (by rw [Nat.pow_succ] at h; omega)
      simp; omega
theorem dd_short {u : Nat} (h : u ≤ 9223372036854775808) : (Lib.decDigits u).length ≤ 19 := dd_len 18 u (Nat.lt_of_le_of_lt h (by decide))
theorem bytes_app (x y : List UInt8) : bytes x ++ bytes y = bytes (x ++ y) := by
  apply Go.WideShapes.bytes_inj
  simp [bytes, ByteArray.data_append]

set_option maxRecDepth 100000 in
set_option maxHeartbeats 1600000 in
theorem dec_nat (u : Nat) (w : World) (hu : u ≤ 9223372036854775807) :
    Calls Tryz.prog 35 #[.int .i64 (u : Int)] w fun e w' => e = .returned (.string (bytes (Lib.decDigits u))) ∧ Kept w w' := by
  have hn : ¬ (u : Int) < 0 := by omega
  have cv := conv_one
  go_enter Tryz.func35, Tryz.ntmps35
  go_wp2
  go_loopw [0, 3] (fun n s wr => ∃ (v : Nat) (t : List UInt8), v ≤ u ∧ n = .int .i64 v ∧ s = .string (bytes t) ∧ Hid (Lib.decDigits u = aheadD v ++ t) ∧ Kept w wr) (fun n _ _ => (intOf n).toNat)
  case atStart =>
    refine ⟨u, [UInt8.ofNat (48 + u % 10)], Nat.le_refl _, rfl, ?_, Lib.hid (ahead_last u), kept_alloc _ _⟩
    rw [dig_nat]
  case round =>
    obtain ⟨v, t, hv, rfl, rfl, HT, hK⟩ := hrel
    have HK := Lib.hid hK
    clear hK
    by_cases h10 : v < 10
    · have HE := Lib.hid (show Lib.decDigits u = t by rw [HT]; unfold aheadD; rw [if_pos h10]; rfl)
      go_wp2
      go_ret
      rw [HE.out]
      exact ⟨rfl, HK.out⟩
    · obtain ⟨q, hq⟩ : ∃ q, v / 10 = q := ⟨_, rfl⟩
      have hqi : (v : Int) / 10 = (q : Int) := by omega
      have hge : (10 : Int) ≤ (v : Int) := by omega
      have hsz : (bytes [dig (48 + (q : Int) % 10)]).size = 1 := by simp [bytes, ByteArray.size]
      have hst : (bytes t).size = t.length := bytes_size t
      have hlen : t.length ≤ 19 := by
        have h1 := congrArg List.length HT
        rw [List.length_append] at h1
        have := dd_short (u := u) (by omega)
        omega
      have HN := Lib.hid (show Lib.decDigits u = aheadD q ++ (dig (48 + (q : Int) % 10) :: t) by
        rw [HT, dig_nat]
        have : aheadD v = Lib.decDigits q := by unfold aheadD; rw [if_neg h10, hq]
        rw [this, ahead_last q]; simp)
      clear HT
      go_wp2
      go_roundw
      case rel =>
        refine ⟨q, dig (48 + (q : Int) % 10) :: t, by omega, rfl, ?_, HN, HK.out.trans (kept_alloc _ _)⟩
        rw [bytes_app]; rfl
      case measure => simp [intOf]; omega

theorem itoa_least : bytes (Lib.itoa (-9223372036854775808)) = ⟨#[45, 57, 50, 50, 51, 51, 55, 50, 48, 51, 54, 56, 53, 52, 55, 55, 53, 56, 48, 56]⟩ := by
  simp [Lib.itoa, Lib.decDigits, bytes]
theorem decimal_any (n : Int) (w : World) (h1 : -9223372036854775808 ≤ n) (h2 : n ≤ 9223372036854775807) :
    Calls Tryz.prog 35 #[.int .i64 n] w fun e w' => e = .returned (.string (bytes (Lib.itoa n))) ∧ Kept w w' := by
  by_cases h0 : 0 ≤ n
  · obtain ⟨u, rfl⟩ : ∃ u : Nat, n = (u : Int) := ⟨n.toNat, by omega⟩
    have e : Lib.itoa (u : Int) = Lib.decDigits u := by unfold Lib.itoa; rw [if_neg (by omega)]; rfl
    rw [e]
    exact dec_nat u w (by omega)
  · by_cases hm : n = -9223372036854775808
    · subst hm
      have HV := Lib.hid itoa_least
      clear h0 h1 h2
      go_enter Tryz.func35, Tryz.ntmps35
      go_wp2
      go_ret
      rw [HV.out]
      exact ⟨rfl, Kept.refl _⟩
    · obtain ⟨u, hu⟩ : ∃ u : Nat, -n = (u : Int) := ⟨(-n).toNat, by omega⟩
      have e : Lib.itoa n = 45 :: Lib.decDigits u := by
        unfold Lib.itoa
        rw [if_pos (by omega), show n.natAbs = u by omega]
      have HE := Lib.hid e
      have hs : (0 : Int) - n = (u : Int) := by omega
      have hl := dd_short (u := u) (by omega)
      have hsz : (bytes (Lib.decDigits u)).size = (Lib.decDigits u).length := bytes_size _
      have hlt : n < 0 := by omega
      have hne : (n == -9223372036854775808) = false := by simpa using hm
      have HD := Lib.hid (fun W => dec_nat u W (by omega))
      have hw : IntKind.i64.wrap (0 - n) = (u : Int) := by rw [hs, IntKind.wrap_i64]; omega
      clear e hu h0
      go_enter Tryz.func35, Tryz.ntmps35
      go_wp2_with fail
      refine (HD.out _).mono ?_
      rintro e w1 ⟨rfl, k⟩
      have K := Lib.hid k
      clear k
      go_wp2
      go_ret
      rw [HE.out]
      exact ⟨by rw [show (⟨#[45]⟩ : ByteArray) = bytes [45] from rfl, bytes_app]; rfl, K.out⟩

end Go.Proofs.YtfdahpcpcjhggaaGreatDoor.Vec

/- The reference's VecText. -/
namespace Go.Proofs.YtfdahpcpcjhggaaGreatDoor.Vec
open Go.RowKit Go.Proofs.YtfdahpcpcjhggaaGreatDoor
set_option linter.unusedVariables false

theorem piece_eq (acc : List UInt8) (x : ByteArray) (n : Int) : bytes acc ++ x ++ ⟨#[61]⟩ ++ bytes (Lib.itoa n) = bytes (acc ++ (x.data.toList ++ ([61] ++ Lib.itoa n))) := by
  apply Go.WideShapes.bytes_inj
  simp [bytes, ByteArray.data_append]
theorem comma_eq (acc : List UInt8) : bytes acc ++ ⟨#[44]⟩ = bytes (acc ++ [44]) := by
  apply Go.WideShapes.bytes_inj
  simp [bytes, ByteArray.data_append]

set_option maxRecDepth 100000 in
set_option maxHeartbeats 1600000 in
theorem rtext_any (a : Option Addr) (len cap : Nat) (l : V) (w : World) (hr : VecAt w a len l) (hfew : fewV l = true) :
    Calls Tryz.prog 12 #[.slice a len cap] w fun e w' => e = .returned (.string (bytes (textV l))) ∧ Kept w w' := by
  have hl := hr.1
  have hf := hr.2.2.1
  unfold fewV at hfew
  simp only [Bool.and_eq_true, decide_eq_true_eq] at hfew
  have h20 : len ≤ 20 := by omega
  by_cases h0 : len = 0
  · subst h0
    have HE := Lib.hid (show textV l = [45] by rw [List.eq_nil_of_length_eq_zero hl]; rfl)
    clear hr hl hf hfew
    go_enter Tryz.func12, Tryz.ntmps12
    go_wp2
    go_ret
    exact ⟨by rw [HE.out]; rfl, Kept.refl _⟩
  · obtain ⟨b, off, rfl⟩ := hr.form.resolve_left h0
    have hne : ((len : Int) == 0) = false := by
      have : (len : Int) ≠ 0 := by omega
      simpa using this
    have HV := Lib.hid (show textV l = joinFrom true l by unfold textV; rw [if_neg (by intro e; rw [e] at hl; simp at hl; omega)])
    have HS := Lib.hid (fun k (hk : k < l.length) => fewFrom_at hfew.2 hk)
    have HF := Lib.hid hf
    have HR := Lib.hid hr
    have HL := Lib.hid hl
    clear hr hl hf hfew h0
    go_enter Tryz.func12, Tryz.ntmps12
    go_wp2
    go_loopw [3, 4] (fun s i wr => ∃ (k : Nat) (acc : List UInt8), k ≤ len ∧ i = .int .i64 k ∧ s = .string (bytes acc) ∧ acc ++ joinFrom (decide (k = 0)) (l.drop k) = joinFrom true l ∧ acc.length ≤ k * 80 ∧ Kept w wr) (fun _ i _ => len - (intOf i).toNat)
    case atStart => exact ⟨0, [], Nat.zero_le _, rfl, rfl, rfl, Nat.le_refl _, Kept.refl _⟩
    case round =>
      obtain ⟨k, acc, hk, rfl, rfl, hrest, hacc, hB⟩ := hrel
      have HB := Lib.hid hB
      by_cases hlt : k < len
      · have HI := Lib.hid (show k < l.length by rw [HL.out]; exact hlt)
        have hs50 := HS.out k HI.out
        have hq := (HF.out k HI.out).2
        have hit := Lib.itoa_length_le (qn l k) hq.1 hq.2
        have hszn : (nm l k).data.toList.length = (nm l k).size := by rw [Array.length_toList, ByteArray.size_data]
        obtain ⟨x, hx⟩ : ∃ x, nm l k = x := ⟨_, rfl⟩
        obtain ⟨n, hn⟩ : ∃ n, qn l k = n := ⟨_, rfl⟩
        have HREST := Lib.hid (show acc ++ (if decide (k = 0) = true then [] else [44]) ++ (x.data.toList ++ ([61] ++ Lib.itoa n)) ++ joinFrom (decide (k + 1 = 0)) (l.drop (k + 1)) = joinFrom true l by
          rw [← hrest, drop_cons HI.out, hx, hn]; simp [joinFrom, List.append_assoc])
        have HC := Lib.hid (show ∀ W, Kept wr W → W.cell? ⟨b, off + k * 2, none⟩ = some (.string x) ∧ W.cell? ⟨b, off + k * 2 + 1, none⟩ = some (.int .i64 n) from fun W kk => by
          have := ((HR.out.kept hB).kept kk).cells hlt
          rw [hx, hn] at this
          exact this.2)
        rw [hx] at hs50 hszn
        rw [hn] at hq hit
        have HD := Lib.hid (fun W => decimal_any n W hq.1 hq.2)
        have hk1 : (k : Int) < (len : Int) := by omega
        have hax : acc.length ≤ 2000 := by
          have : k * 80 ≤ 20 * 80 := Nat.mul_le_mul_right _ (by omega)
          omega
        have hsd : (bytes (Lib.itoa n)).size ≤ 21 := hit
        have hnew : ∀ z : List UInt8, z.length ≤ acc.length + 1 → (z ++ (x.data.toList ++ ([61] ++ Lib.itoa n))).length ≤ (k + 1) * 80 := fun z hz => by
          simp only [List.length_append, List.length_cons, List.length_nil, hszn]
          omega
        have HNEW := Lib.hid hnew
        clear hrest hB hx hn hszn hit hq hnew hk
        obtain ⟨c1, c2⟩ := HC.out _ (Kept.refl _)
        by_cases hk0 : k = 0
        · have hd : decide (0 < k) = false := by subst hk0; decide
          have HREST := Lib.hid (show acc ++ (x.data.toList ++ ([61] ++ Lib.itoa n)) ++ joinFrom (decide (k + 1 = 0)) (l.drop (k + 1)) = joinFrom true l by
            have := HREST.out; rw [decide_eq_true hk0] at this; simpa using this)
          have HLEN := Lib.hid (HNEW.out acc (by omega))
          have HP := Lib.hid (piece_eq acc x n)
          obtain ⟨S, hS⟩ : ∃ S, bytes acc = S := ⟨_, rfl⟩
          have hSs : S.size = acc.length := by rw [← hS]; exact bytes_size _
          rw [hS] at HP ⊢
          obtain ⟨D, hD⟩ : ∃ D, bytes (Lib.itoa n) = D := ⟨_, rfl⟩
          rw [hD] at HP hsd HD
          have adz : (⟨#[61]⟩ : ByteArray).size = 1 := rfl
          have ad1 : ∀ W, (Op.stringOp .add S x).run Tryz.prog W = .ok (.string (S ++ x)) W := fun W => run_string_add_sum W _ _ (by omega)
          have ad2 : ∀ W, (Op.stringOp .add (S ++ x) (⟨#[61]⟩ : ByteArray)).run Tryz.prog W = .ok (.string (S ++ x ++ (⟨#[61]⟩ : ByteArray))) W := fun W => run_string_add_sum W _ _ (by rw [ByteArray.size_append]; omega)
          have ad3 : ∀ W, (Op.stringOp .add (S ++ x ++ (⟨#[61]⟩ : ByteArray)) D).run Tryz.prog W = .ok (.string (S ++ x ++ (⟨#[61]⟩ : ByteArray) ++ D)) W := fun W => run_string_add_sum W _ _ (by rw [ByteArray.size_append, ByteArray.size_append]; omega)
          clear hS hD hSs adz hsd hs50 hax hk0 HNEW
          go_wp2
          go_region_held3 (fun W => W.cell? ⟨b, off + k * 2, none⟩ = some (.string x) ∧ W.cell? ⟨b, off + k * 2 + 1, none⟩ = some (.int .i64 n))
            (first | exact HC.out _ (Kept.drew _) | exact HC.out _ ((Kept.drew _).trans k1))
            (first | (go_at_call 35; refine (HD.out _).mono ?_; rintro e1 w1 ⟨rfl, k1⟩))
          go_wp2
          go_roundw
          case rel => exact ⟨k + 1, _, by omega, by go_num, congrArg Value.string HP.out, HREST.out, HLEN.out, HB.out.trans ((Kept.drew _).trans k1)⟩
          case measure => simp [intOf]; omega
        · have hd : decide (0 < k) = true := by simp; omega
          have HREST := Lib.hid (show (acc ++ [44]) ++ (x.data.toList ++ ([61] ++ Lib.itoa n)) ++ joinFrom (decide (k + 1 = 0)) (l.drop (k + 1)) = joinFrom true l by
            have := HREST.out; rw [decide_eq_false hk0] at this; simpa using this)
          have HLEN := Lib.hid (HNEW.out (acc ++ [44]) (by simp))
          have HP := Lib.hid (piece_eq (acc ++ [44]) x n)
          rw [← comma_eq] at HP
          obtain ⟨S, hS⟩ : ∃ S, bytes acc = S := ⟨_, rfl⟩
          have hSs : S.size = acc.length := by rw [← hS]; exact bytes_size _
          rw [hS] at HP ⊢
          obtain ⟨D, hD⟩ : ∃ D, bytes (Lib.itoa n) = D := ⟨_, rfl⟩
          rw [hD] at HP hsd HD
          have adz : (⟨#[61]⟩ : ByteArray).size = 1 := rfl
          have adc : (⟨#[44]⟩ : ByteArray).size = 1 := rfl
          have ad0 : ∀ W, (Op.stringOp .add S (⟨#[44]⟩ : ByteArray)).run Tryz.prog W = .ok (.string (S ++ (⟨#[44]⟩ : ByteArray))) W := fun W => run_string_add_sum W _ _ (by omega)
          have ad1 : ∀ W, (Op.stringOp .add (S ++ (⟨#[44]⟩ : ByteArray)) x).run Tryz.prog W = .ok (.string (S ++ (⟨#[44]⟩ : ByteArray) ++ x)) W := fun W => run_string_add_sum W _ _ (by rw [ByteArray.size_append]; omega)
          have ad2 : ∀ W, (Op.stringOp .add (S ++ (⟨#[44]⟩ : ByteArray) ++ x) (⟨#[61]⟩ : ByteArray)).run Tryz.prog W = .ok (.string (S ++ (⟨#[44]⟩ : ByteArray) ++ x ++ (⟨#[61]⟩ : ByteArray))) W := fun W => run_string_add_sum W _ _ (by rw [ByteArray.size_append, ByteArray.size_append]; omega)
          have ad3 : ∀ W, (Op.stringOp .add (S ++ (⟨#[44]⟩ : ByteArray) ++ x ++ (⟨#[61]⟩ : ByteArray)) D).run Tryz.prog W = .ok (.string (S ++ (⟨#[44]⟩ : ByteArray) ++ x ++ (⟨#[61]⟩ : ByteArray) ++ D)) W := fun W => run_string_add_sum W _ _ (by rw [ByteArray.size_append, ByteArray.size_append, ByteArray.size_append]; omega)
          clear hS hD adz adc hsd hs50 hk0 HNEW
          go_wp2
          go_region_held3 (fun W => W.cell? ⟨b, off + k * 2, none⟩ = some (.string x) ∧ W.cell? ⟨b, off + k * 2 + 1, none⟩ = some (.int .i64 n))
            (first | exact HC.out _ (Kept.drew _) | exact HC.out _ ((Kept.drew _).trans k1))
            (first | (go_at_call 35; refine (HD.out _).mono ?_; rintro e1 w1 ⟨rfl, k1⟩))
          go_wp2
          go_roundw
          case rel => exact ⟨k + 1, _, by omega, by go_num, congrArg Value.string HP.out, HREST.out, HLEN.out, HB.out.trans ((Kept.drew _).trans k1)⟩
          case measure => simp [intOf]; omega
      · have HE := Lib.hid (show textV l = acc by
          rw [HV.out, ← hrest, List.drop_of_length_le (by rw [HL.out]; omega), joinFrom, List.append_nil])
        clear hrest hB
        go_wp2
        go_ret
        exact ⟨congrArg (fun z => Ending.returned (.string (bytes z))) HE.out.symm, HB.out⟩
theorem rtextR {v : Value} {l : V} {s : List UInt8} {w : World} (h : Reads w v l) (hf : fewV l = true) (e : textV l = s) :
    Calls Tryz.prog 12 #[v] w fun x w' => x = .returned (.string (bytes s)) ∧ Kept w w' := by
  subst e
  obtain ⟨a, cap, rfl, h1, h2, h3⟩ := h
  exact rtext_any a _ cap l w h3 hf

end Go.Proofs.YtfdahpcpcjhggaaGreatDoor.Vec
