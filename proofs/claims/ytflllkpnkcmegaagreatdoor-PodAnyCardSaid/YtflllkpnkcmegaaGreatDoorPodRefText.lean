/- The reference's PodText. -/
import Derived.Test.YtflllkpnkcmegaaGreatDoorPodText
import Derived.Test.YtflllkpnkcmegaaGreatDoorLab
import Derived.Test.YtflllkpnkcmegaaGreatDoorLabRefTellT
import Derived.Test.YtflllkpnkcmegaaGreatDoorTaRefTellO
import Derived.Test.YtflllkpnkcmegaaGreatDoorNodA
import Derived.Test.YtflllkpnkcmegaaGreatDoorPodRefChk
namespace Go.Proofs.YtflllkpnkcmegaaGreatDoor
open Go.RowKit
set_option linter.unusedVariables false

theorem rdash_any (x : ByteArray) (w : World) : Calls Tryz.prog 87 #[.string x] w (Say (.string (optT x)) w) := by
  obtain ⟨q, hq⟩ : ∃ q, (x.toList == ([] : List UInt8)) = q := ⟨_, rfl⟩
  have HV := Lib.hid (show optT x = if q = true then ⟨#[45]⟩ else x by unfold optT; rw [no_iff, hq])
  cases q <;>
  (go_enter Tryz.func87, Tryz.ntmps87
   go_wp2
   go_ret
   exact ⟨ret_str HV.out.symm, Kept.refl _⟩)
theorem kind_hold (x : ByteArray) : x ++ ⟨#[32]⟩ ++ kindW true = x ++ (⟨#[32, 104, 111, 108, 100]⟩ : ByteArray) := by
  apply Go.WideShapes.bytes_inj
  simp [kindW, ByteArray.data_append]
theorem kind_real (x : ByteArray) : x ++ ⟨#[32]⟩ ++ kindW false = x ++ (⟨#[32, 114, 101, 97, 108]⟩ : ByteArray) := by
  apply Go.WideShapes.bytes_inj
  simp [kindW, ByteArray.data_append]
theorem pod_ops {n : Pd} (h : chkPod n = 0) : ∀ x ∈ n.sel, 1 ≤ x.1 ∧ x.1 ≤ 4 := by
  have hc := or_zero h _ (show chkL n.sel ∈ chkList n by simp [chkList])
  exact fun x hx => (term_told (chk_terms hc x hx)).2.2.2

set_option maxRecDepth 100000 in
set_option maxHeartbeats 8000000 in
theorem rtextPd_any (n : Pd) (v1 v2 v3 v4 : Value) (w : World) (h : PodAt w v1 v2 v3 v4 n) (hf : fewPd n = true) (ho : ∀ x ∈ n.sel, 1 ≤ x.1 ∧ x.1 ≤ 4) :
    Calls Tryz.prog 21 #[PodV n v1 v2 v3 v4] w (Say (.string (textPd n)) w) := by
  obtain ⟨x0, x1, x2, l1, l2, l3, l4, x3, x4, x5, x6⟩ := n
  obtain ⟨h1, h2, h3, h4, h5, h6, h7, h8⟩ := fewPd_parts hf
  have g6 := fewS_parts h6
  have g7 := fewL_parts h7
  have g8 := few_mid h8
  have a1 := optT_size h2
  have a2 := optT_size h4
  have a3 := textV_few h5 h.need.fine
  have a4 := textS_short h6
  have a5 := textL_few h7
  have a6 := textO_few h8
  have a9 := Lib.itoa_length_le x2 h.prio.1 h.prio.2
  have a10 := Lib.itoa_length_le x4 h.most.1 h.most.2
  have e := bytes_size (Vec.textV l1)
  have e2 := bytes_size (Lib.itoa x2)
  have e3 := bytes_size (Lib.itoa x4)
  dsimp only at h1 h2 h3 h4 h5 h6 h7 h8 g6 g7 g8 a1 a2 a3 a4 a5 a6 ho
  obtain ⟨W0, hW0⟩ : ∃ W0, w.alloc (.cells #[.string x0, .string x1, .int .i64 x2, v1, v2, v3, v4, .string x3, .int .i64 x4, .string x5, .bool x6] 38) = W0 := ⟨_, rfl⟩
  have hk0 : Kept w W0 := by rw [← hW0]; exact kept_alloc _ _
  have HC := Lib.hid (show ∀ W, Kept W0 W → W.cell? ⟨w.heap.size, 0, none⟩ = some (.string x0) ∧ W.cell? ⟨w.heap.size, 1, none⟩ = some (.string x1) ∧ W.cell? ⟨w.heap.size, 2, none⟩ = some (.int .i64 x2) ∧ W.cell? ⟨w.heap.size, 3, none⟩ = some (v1) ∧ W.cell? ⟨w.heap.size, 4, none⟩ = some (v2) ∧ W.cell? ⟨w.heap.size, 5, none⟩ = some (v3) ∧ W.cell? ⟨w.heap.size, 6, none⟩ = some (v4) ∧ W.cell? ⟨w.heap.size, 7, none⟩ = some (.string x3) ∧ W.cell? ⟨w.heap.size, 8, none⟩ = some (.int .i64 x4) ∧ W.cell? ⟨w.heap.size, 9, none⟩ = some (.string x5) ∧ W.cell? ⟨w.heap.size, 10, none⟩ = some (.bool x6) from fun W k => by
    have c := freshN w (.string x0) [.string x1, .int .i64 x2, v1, v2, v3, v4, .string x3, .int .i64 x4, .string x5, .bool x6] 38 W (by rw [hW0]; exact k)
    exact ⟨c.at_ 0 _ rfl, c.at_ 1 _ rfl, c.at_ 2 _ rfl, c.at_ 3 _ rfl, c.at_ 4 _ rfl, c.at_ 5 _ rfl, c.at_ 6 _ rfl, c.at_ 7 _ rfl, c.at_ 8 _ rfl, c.at_ 9 _ rfl, c.at_ 10 _ rfl⟩)
  have E1 := Lib.hid (fun W => rdash_any x1 W)
  have E2 := Lib.hid (fun W => Vec.decimal_any x2 W h.prio.1 h.prio.2)
  have E3 := Lib.hid (fun W (k : Kept W0 W) => Vec.rtextR (h.need.kept (hk0.trans k)) h5 rfl)
  have E4 := Lib.hid (fun W (k : Kept W0 W) => refTextR (h.labels.kept (hk0.trans k)) (fun x hx => ⟨Nat.le_trans (g6.2 x hx).1 (by decide), Nat.le_trans (g6.2 x hx).2 (by decide)⟩) (Nat.le_trans g6.1 (by decide)))
  have E5 := Lib.hid (fun W (k : Kept W0 W) => refSelTextR (h.sel.kept (hk0.trans k)) (fun x hx => ⟨Nat.le_trans (g7.2 x hx).1 (by decide), Nat.le_trans (g7.2 x hx).2 (by decide), ho x hx⟩) (Nat.le_trans g7.1 (by decide)))
  have E6 := Lib.hid (fun W (k : Kept W0 W) => refTextOR (h.tols.kept (hk0.trans k)) (fun x hx => ⟨Nat.le_trans (g8.2 x hx).1 (by decide), Nat.le_trans (g8.2 x hx).2 (by decide)⟩) (Nat.le_trans g8.1 (by decide)))
  have E7 := Lib.hid (fun W => Vec.decimal_any x4 W h.most.1 h.most.2)
  have E8 := Lib.hid (fun W => rdash_any x5 W)
  obtain ⟨q, hq⟩ : ∃ q, (x3.toList == ([] : List UInt8)) = q := ⟨_, rfl⟩
  have HV0 := Lib.hid (show textPd ⟨x0, x1, x2, l1, l2, l3, l4, x3, x4, x5, x6⟩ = x0 ++ ⟨#[32]⟩ ++ optT x1 ++ ⟨#[32]⟩ ++ bytes (Lib.itoa x2) ++ ⟨#[32]⟩ ++ bytes (Vec.textV l1) ++ ⟨#[32]⟩ ++ textS l2 ++ ⟨#[32]⟩ ++ textL l3 ++ ⟨#[32]⟩ ++ textO l4 ++ ⟨#[32]⟩ ++ (if q = true then ⟨#[45]⟩ else x3 ++ ⟨#[47]⟩ ++ bytes (Lib.itoa x4)) ++ ⟨#[32]⟩ ++ optT x5 ++ ⟨#[32]⟩ ++ kindW x6 by
    unfold textPd wordsT
    rw [join_ten]
    unfold spreadT
    rw [no_iff, hq])
  obtain ⟨t1, ht1⟩ : ∃ t, optT x1 = t := ⟨_, rfl⟩
  obtain ⟨t2, ht2⟩ : ∃ t, bytes (Lib.itoa x2) = t := ⟨_, rfl⟩
  obtain ⟨t3, ht3⟩ : ∃ t, bytes (Vec.textV l1) = t := ⟨_, rfl⟩
  obtain ⟨t4, ht4⟩ : ∃ t, textS l2 = t := ⟨_, rfl⟩
  obtain ⟨t5, ht5⟩ : ∃ t, textL l3 = t := ⟨_, rfl⟩
  obtain ⟨t6, ht6⟩ : ∃ t, textO l4 = t := ⟨_, rfl⟩
  obtain ⟨t9, ht9⟩ : ∃ t, bytes (Lib.itoa x4) = t := ⟨_, rfl⟩
  obtain ⟨t8, ht8⟩ : ∃ t, optT x5 = t := ⟨_, rfl⟩
  rw [ht1, ht2, ht3, ht4, ht5, ht6, ht8, ht9] at HV0
  rw [ht1] at E1 a1
  rw [ht2] at E2 e2
  rw [ht3] at E3 e
  rw [ht4] at E4 a4
  rw [ht5] at E5 a5
  rw [ht6] at E6 a6
  rw [ht9] at E7 e3
  rw [ht8] at E8 a2
  obtain ⟨RES, hRES⟩ : ∃ R, textPd ⟨x0, x1, x2, l1, l2, l3, l4, x3, x4, x5, x6⟩ = R := ⟨_, rfl⟩
  rw [hRES] at HV0
  have HK0 := Lib.hid hk0
  rw [hRES]
  clear ht1 ht2 ht3 ht4 ht5 ht6 ht8 ht9 hRES h4 h5 h6 h7 h8 g6 g7 g8 h hf ho hk0
  have z32 : (⟨#[32]⟩ : ByteArray).size = 1 := rfl
  have z47 : (⟨#[47]⟩ : ByteArray).size = 1 := rfl
  have zho : (⟨#[32, 104, 111, 108, 100]⟩ : ByteArray).size = 5 := rfl
  have zre : (⟨#[32, 114, 101, 97, 108]⟩ : ByteArray).size = 5 := rfl
  unfold PodV
  dsimp only
  obtain ⟨o0, o1, o2, o3, o4, o5, o6, o7, o8, o9, o10⟩ := HC.out _ (Kept.refl _)
  cases q with
  | true =>
    obtain ⟨t7, ht7⟩ : ∃ t : ByteArray, ⟨#[45]⟩ = t := ⟨_, rfl⟩
    have a7 : t7.size ≤ 200 := by rw [← ht7]; decide
    rw [if_pos rfl, ht7] at HV0
    go_enter Tryz.func21, Tryz.ntmps21
    go_wp2
    try rw [hW0]
    try rw [ht7]
    clear hW0 ht7
    have ad0 : ∀ W, (Op.stringOp .add (x0) ((⟨#[32]⟩ : ByteArray))).run Tryz.prog W = .ok (.string (x0 ++ (⟨#[32]⟩ : ByteArray))) W := fun W => run_string_add_sum W _ _ (by omega)
    have ad1 : ∀ W, (Op.stringOp .add (x0 ++ (⟨#[32]⟩ : ByteArray)) (t1)).run Tryz.prog W = .ok (.string (x0 ++ (⟨#[32]⟩ : ByteArray) ++ t1)) W := fun W => run_string_add_sum W _ _ (by rw [ByteArray.size_append]; omega)
    have ad2 : ∀ W, (Op.stringOp .add (x0 ++ (⟨#[32]⟩ : ByteArray) ++ t1) ((⟨#[32]⟩ : ByteArray))).run Tryz.prog W = .ok (.string (x0 ++ (⟨#[32]⟩ : ByteArray) ++ t1 ++ (⟨#[32]⟩ : ByteArray))) W := fun W => run_string_add_sum W _ _ (by rw [ByteArray.size_append, ByteArray.size_append]; omega)
    have ad3 : ∀ W, (Op.stringOp .add (x0 ++ (⟨#[32]⟩ : ByteArray) ++ t1 ++ (⟨#[32]⟩ : ByteArray)) (t2)).run Tryz.prog W = .ok (.string (x0 ++ (⟨#[32]⟩ : ByteArray) ++ t1 ++ (⟨#[32]⟩ : ByteArray) ++ t2)) W := fun W => run_string_add_sum W _ _ (by rw [ByteArray.size_append, ByteArray.size_append, ByteArray.size_append]; omega)
    have ad4 : ∀ W, (Op.stringOp .add (x0 ++ (⟨#[32]⟩ : ByteArray) ++ t1 ++ (⟨#[32]⟩ : ByteArray) ++ t2) ((⟨#[32]⟩ : ByteArray))).run Tryz.prog W = .ok (.string (x0 ++ (⟨#[32]⟩ : ByteArray) ++ t1 ++ (⟨#[32]⟩ : ByteArray) ++ t2 ++ (⟨#[32]⟩ : ByteArray))) W := fun W => run_string_add_sum W _ _ (by rw [ByteArray.size_append, ByteArray.size_append, ByteArray.size_append, ByteArray.size_append]; omega)
    have ad5 : ∀ W, (Op.stringOp .add (x0 ++ (⟨#[32]⟩ : ByteArray) ++ t1 ++ (⟨#[32]⟩ : ByteArray) ++ t2 ++ (⟨#[32]⟩ : ByteArray)) (t3)).run Tryz.prog W = .ok (.string (x0 ++ (⟨#[32]⟩ : ByteArray) ++ t1 ++ (⟨#[32]⟩ : ByteArray) ++ t2 ++ (⟨#[32]⟩ : ByteArray) ++ t3)) W := fun W => run_string_add_sum W _ _ (by rw [ByteArray.size_append, ByteArray.size_append, ByteArray.size_append, ByteArray.size_append, ByteArray.size_append]; omega)
    have ad6 : ∀ W, (Op.stringOp .add (x0 ++ (⟨#[32]⟩ : ByteArray) ++ t1 ++ (⟨#[32]⟩ : ByteArray) ++ t2 ++ (⟨#[32]⟩ : ByteArray) ++ t3) ((⟨#[32]⟩ : ByteArray))).run Tryz.prog W = .ok (.string (x0 ++ (⟨#[32]⟩ : ByteArray) ++ t1 ++ (⟨#[32]⟩ : ByteArray) ++ t2 ++ (⟨#[32]⟩ : ByteArray) ++ t3 ++ (⟨#[32]⟩ : ByteArray))) W := fun W => run_string_add_sum W _ _ (by rw [ByteArray.size_append, ByteArray.size_append, ByteArray.size_append, ByteArray.size_append, ByteArray.size_append, ByteArray.size_append]; omega)
    have ad7 : ∀ W, (Op.stringOp .add (x0 ++ (⟨#[32]⟩ : ByteArray) ++ t1 ++ (⟨#[32]⟩ : ByteArray) ++ t2 ++ (⟨#[32]⟩ : ByteArray) ++ t3 ++ (⟨#[32]⟩ : ByteArray)) (t4)).run Tryz.prog W = .ok (.string (x0 ++ (⟨#[32]⟩ : ByteArray) ++ t1 ++ (⟨#[32]⟩ : ByteArray) ++ t2 ++ (⟨#[32]⟩ : ByteArray) ++ t3 ++ (⟨#[32]⟩ : ByteArray) ++ t4)) W := fun W => run_string_add_sum W _ _ (by rw [ByteArray.size_append, ByteArray.size_append, ByteArray.size_append, ByteArray.size_append, ByteArray.size_append, ByteArray.size_append, ByteArray.size_append]; omega)
    have ad8 : ∀ W, (Op.stringOp .add (x0 ++ (⟨#[32]⟩ : ByteArray) ++ t1 ++ (⟨#[32]⟩ : ByteArray) ++ t2 ++ (⟨#[32]⟩ : ByteArray) ++ t3 ++ (⟨#[32]⟩ : ByteArray) ++ t4) ((⟨#[32]⟩ : ByteArray))).run Tryz.prog W = .ok (.string (x0 ++ (⟨#[32]⟩ : ByteArray) ++ t1 ++ (⟨#[32]⟩ : ByteArray) ++ t2 ++ (⟨#[32]⟩ : ByteArray) ++ t3 ++ (⟨#[32]⟩ : ByteArray) ++ t4 ++ (⟨#[32]⟩ : ByteArray))) W := fun W => run_string_add_sum W _ _ (by rw [ByteArray.size_append, ByteArray.size_append, ByteArray.size_append, ByteArray.size_append, ByteArray.size_append, ByteArray.size_append, ByteArray.size_append, ByteArray.size_append]; omega)
    have ad9 : ∀ W, (Op.stringOp .add (x0 ++ (⟨#[32]⟩ : ByteArray) ++ t1 ++ (⟨#[32]⟩ : ByteArray) ++ t2 ++ (⟨#[32]⟩ : ByteArray) ++ t3 ++ (⟨#[32]⟩ : ByteArray) ++ t4 ++ (⟨#[32]⟩ : ByteArray)) (t5)).run Tryz.prog W = .ok (.string (x0 ++ (⟨#[32]⟩ : ByteArray) ++ t1 ++ (⟨#[32]⟩ : ByteArray) ++ t2 ++ (⟨#[32]⟩ : ByteArray) ++ t3 ++ (⟨#[32]⟩ : ByteArray) ++ t4 ++ (⟨#[32]⟩ : ByteArray) ++ t5)) W := fun W => run_string_add_sum W _ _ (by rw [ByteArray.size_append, ByteArray.size_append, ByteArray.size_append, ByteArray.size_append, ByteArray.size_append, ByteArray.size_append, ByteArray.size_append, ByteArray.size_append, ByteArray.size_append]; omega)
    have ad10 : ∀ W, (Op.stringOp .add (x0 ++ (⟨#[32]⟩ : ByteArray) ++ t1 ++ (⟨#[32]⟩ : ByteArray) ++ t2 ++ (⟨#[32]⟩ : ByteArray) ++ t3 ++ (⟨#[32]⟩ : ByteArray) ++ t4 ++ (⟨#[32]⟩ : ByteArray) ++ t5) ((⟨#[32]⟩ : ByteArray))).run Tryz.prog W = .ok (.string (x0 ++ (⟨#[32]⟩ : ByteArray) ++ t1 ++ (⟨#[32]⟩ : ByteArray) ++ t2 ++ (⟨#[32]⟩ : ByteArray) ++ t3 ++ (⟨#[32]⟩ : ByteArray) ++ t4 ++ (⟨#[32]⟩ : ByteArray) ++ t5 ++ (⟨#[32]⟩ : ByteArray))) W := fun W => run_string_add_sum W _ _ (by rw [ByteArray.size_append, ByteArray.size_append, ByteArray.size_append, ByteArray.size_append, ByteArray.size_append, ByteArray.size_append, ByteArray.size_append, ByteArray.size_append, ByteArray.size_append, ByteArray.size_append]; omega)
    have ad11 : ∀ W, (Op.stringOp .add (x0 ++ (⟨#[32]⟩ : ByteArray) ++ t1 ++ (⟨#[32]⟩ : ByteArray) ++ t2 ++ (⟨#[32]⟩ : ByteArray) ++ t3 ++ (⟨#[32]⟩ : ByteArray) ++ t4 ++ (⟨#[32]⟩ : ByteArray) ++ t5 ++ (⟨#[32]⟩ : ByteArray)) (t6)).run Tryz.prog W = .ok (.string (x0 ++ (⟨#[32]⟩ : ByteArray) ++ t1 ++ (⟨#[32]⟩ : ByteArray) ++ t2 ++ (⟨#[32]⟩ : ByteArray) ++ t3 ++ (⟨#[32]⟩ : ByteArray) ++ t4 ++ (⟨#[32]⟩ : ByteArray) ++ t5 ++ (⟨#[32]⟩ : ByteArray) ++ t6)) W := fun W => run_string_add_sum W _ _ (by rw [ByteArray.size_append, ByteArray.size_append, ByteArray.size_append, ByteArray.size_append, ByteArray.size_append, ByteArray.size_append, ByteArray.size_append, ByteArray.size_append, ByteArray.size_append, ByteArray.size_append, ByteArray.size_append]; omega)
    have ad12 : ∀ W, (Op.stringOp .add (x0 ++ (⟨#[32]⟩ : ByteArray) ++ t1 ++ (⟨#[32]⟩ : ByteArray) ++ t2 ++ (⟨#[32]⟩ : ByteArray) ++ t3 ++ (⟨#[32]⟩ : ByteArray) ++ t4 ++ (⟨#[32]⟩ : ByteArray) ++ t5 ++ (⟨#[32]⟩ : ByteArray) ++ t6) ((⟨#[32]⟩ : ByteArray))).run Tryz.prog W = .ok (.string (x0 ++ (⟨#[32]⟩ : ByteArray) ++ t1 ++ (⟨#[32]⟩ : ByteArray) ++ t2 ++ (⟨#[32]⟩ : ByteArray) ++ t3 ++ (⟨#[32]⟩ : ByteArray) ++ t4 ++ (⟨#[32]⟩ : ByteArray) ++ t5 ++ (⟨#[32]⟩ : ByteArray) ++ t6 ++ (⟨#[32]⟩ : ByteArray))) W := fun W => run_string_add_sum W _ _ (by rw [ByteArray.size_append, ByteArray.size_append, ByteArray.size_append, ByteArray.size_append, ByteArray.size_append, ByteArray.size_append, ByteArray.size_append, ByteArray.size_append, ByteArray.size_append, ByteArray.size_append, ByteArray.size_append, ByteArray.size_append]; omega)
    have ad13 : ∀ W, (Op.stringOp .add (x0 ++ (⟨#[32]⟩ : ByteArray) ++ t1 ++ (⟨#[32]⟩ : ByteArray) ++ t2 ++ (⟨#[32]⟩ : ByteArray) ++ t3 ++ (⟨#[32]⟩ : ByteArray) ++ t4 ++ (⟨#[32]⟩ : ByteArray) ++ t5 ++ (⟨#[32]⟩ : ByteArray) ++ t6 ++ (⟨#[32]⟩ : ByteArray)) (t7)).run Tryz.prog W = .ok (.string (x0 ++ (⟨#[32]⟩ : ByteArray) ++ t1 ++ (⟨#[32]⟩ : ByteArray) ++ t2 ++ (⟨#[32]⟩ : ByteArray) ++ t3 ++ (⟨#[32]⟩ : ByteArray) ++ t4 ++ (⟨#[32]⟩ : ByteArray) ++ t5 ++ (⟨#[32]⟩ : ByteArray) ++ t6 ++ (⟨#[32]⟩ : ByteArray) ++ t7)) W := fun W => run_string_add_sum W _ _ (by rw [ByteArray.size_append, ByteArray.size_append, ByteArray.size_append, ByteArray.size_append, ByteArray.size_append, ByteArray.size_append, ByteArray.size_append, ByteArray.size_append, ByteArray.size_append, ByteArray.size_append, ByteArray.size_append, ByteArray.size_append, ByteArray.size_append]; omega)
    have ad14 : ∀ W, (Op.stringOp .add (x0 ++ (⟨#[32]⟩ : ByteArray) ++ t1 ++ (⟨#[32]⟩ : ByteArray) ++ t2 ++ (⟨#[32]⟩ : ByteArray) ++ t3 ++ (⟨#[32]⟩ : ByteArray) ++ t4 ++ (⟨#[32]⟩ : ByteArray) ++ t5 ++ (⟨#[32]⟩ : ByteArray) ++ t6 ++ (⟨#[32]⟩ : ByteArray) ++ t7) ((⟨#[32]⟩ : ByteArray))).run Tryz.prog W = .ok (.string (x0 ++ (⟨#[32]⟩ : ByteArray) ++ t1 ++ (⟨#[32]⟩ : ByteArray) ++ t2 ++ (⟨#[32]⟩ : ByteArray) ++ t3 ++ (⟨#[32]⟩ : ByteArray) ++ t4 ++ (⟨#[32]⟩ : ByteArray) ++ t5 ++ (⟨#[32]⟩ : ByteArray) ++ t6 ++ (⟨#[32]⟩ : ByteArray) ++ t7 ++ (⟨#[32]⟩ : ByteArray))) W := fun W => run_string_add_sum W _ _ (by rw [ByteArray.size_append, ByteArray.size_append, ByteArray.size_append, ByteArray.size_append, ByteArray.size_append, ByteArray.size_append, ByteArray.size_append, ByteArray.size_append, ByteArray.size_append, ByteArray.size_append, ByteArray.size_append, ByteArray.size_append, ByteArray.size_append, ByteArray.size_append]; omega)
    have ad15 : ∀ W, (Op.stringOp .add (x0 ++ (⟨#[32]⟩ : ByteArray) ++ t1 ++ (⟨#[32]⟩ : ByteArray) ++ t2 ++ (⟨#[32]⟩ : ByteArray) ++ t3 ++ (⟨#[32]⟩ : ByteArray) ++ t4 ++ (⟨#[32]⟩ : ByteArray) ++ t5 ++ (⟨#[32]⟩ : ByteArray) ++ t6 ++ (⟨#[32]⟩ : ByteArray) ++ t7 ++ (⟨#[32]⟩ : ByteArray)) (t8)).run Tryz.prog W = .ok (.string (x0 ++ (⟨#[32]⟩ : ByteArray) ++ t1 ++ (⟨#[32]⟩ : ByteArray) ++ t2 ++ (⟨#[32]⟩ : ByteArray) ++ t3 ++ (⟨#[32]⟩ : ByteArray) ++ t4 ++ (⟨#[32]⟩ : ByteArray) ++ t5 ++ (⟨#[32]⟩ : ByteArray) ++ t6 ++ (⟨#[32]⟩ : ByteArray) ++ t7 ++ (⟨#[32]⟩ : ByteArray) ++ t8)) W := fun W => run_string_add_sum W _ _ (by rw [ByteArray.size_append, ByteArray.size_append, ByteArray.size_append, ByteArray.size_append, ByteArray.size_append, ByteArray.size_append, ByteArray.size_append, ByteArray.size_append, ByteArray.size_append, ByteArray.size_append, ByteArray.size_append, ByteArray.size_append, ByteArray.size_append, ByteArray.size_append, ByteArray.size_append]; omega)
    have adh : ∀ W, (Op.stringOp .add (x0 ++ (⟨#[32]⟩ : ByteArray) ++ t1 ++ (⟨#[32]⟩ : ByteArray) ++ t2 ++ (⟨#[32]⟩ : ByteArray) ++ t3 ++ (⟨#[32]⟩ : ByteArray) ++ t4 ++ (⟨#[32]⟩ : ByteArray) ++ t5 ++ (⟨#[32]⟩ : ByteArray) ++ t6 ++ (⟨#[32]⟩ : ByteArray) ++ t7 ++ (⟨#[32]⟩ : ByteArray) ++ t8) ((⟨#[32, 104, 111, 108, 100]⟩ : ByteArray))).run Tryz.prog W = .ok (.string (x0 ++ (⟨#[32]⟩ : ByteArray) ++ t1 ++ (⟨#[32]⟩ : ByteArray) ++ t2 ++ (⟨#[32]⟩ : ByteArray) ++ t3 ++ (⟨#[32]⟩ : ByteArray) ++ t4 ++ (⟨#[32]⟩ : ByteArray) ++ t5 ++ (⟨#[32]⟩ : ByteArray) ++ t6 ++ (⟨#[32]⟩ : ByteArray) ++ t7 ++ (⟨#[32]⟩ : ByteArray) ++ t8 ++ (⟨#[32, 104, 111, 108, 100]⟩ : ByteArray))) W := fun W => run_string_add_sum W _ _ (by rw [ByteArray.size_append, ByteArray.size_append, ByteArray.size_append, ByteArray.size_append, ByteArray.size_append, ByteArray.size_append, ByteArray.size_append, ByteArray.size_append, ByteArray.size_append, ByteArray.size_append, ByteArray.size_append, ByteArray.size_append, ByteArray.size_append, ByteArray.size_append, ByteArray.size_append, ByteArray.size_append]; omega)
    have adr : ∀ W, (Op.stringOp .add (x0 ++ (⟨#[32]⟩ : ByteArray) ++ t1 ++ (⟨#[32]⟩ : ByteArray) ++ t2 ++ (⟨#[32]⟩ : ByteArray) ++ t3 ++ (⟨#[32]⟩ : ByteArray) ++ t4 ++ (⟨#[32]⟩ : ByteArray) ++ t5 ++ (⟨#[32]⟩ : ByteArray) ++ t6 ++ (⟨#[32]⟩ : ByteArray) ++ t7 ++ (⟨#[32]⟩ : ByteArray) ++ t8) ((⟨#[32, 114, 101, 97, 108]⟩ : ByteArray))).run Tryz.prog W = .ok (.string (x0 ++ (⟨#[32]⟩ : ByteArray) ++ t1 ++ (⟨#[32]⟩ : ByteArray) ++ t2 ++ (⟨#[32]⟩ : ByteArray) ++ t3 ++ (⟨#[32]⟩ : ByteArray) ++ t4 ++ (⟨#[32]⟩ : ByteArray) ++ t5 ++ (⟨#[32]⟩ : ByteArray) ++ t6 ++ (⟨#[32]⟩ : ByteArray) ++ t7 ++ (⟨#[32]⟩ : ByteArray) ++ t8 ++ (⟨#[32, 114, 101, 97, 108]⟩ : ByteArray))) W := fun W => run_string_add_sum W _ _ (by rw [ByteArray.size_append, ByteArray.size_append, ByteArray.size_append, ByteArray.size_append, ByteArray.size_append, ByteArray.size_append, ByteArray.size_append, ByteArray.size_append, ByteArray.size_append, ByteArray.size_append, ByteArray.size_append, ByteArray.size_append, ByteArray.size_append, ByteArray.size_append, ByteArray.size_append, ByteArray.size_append]; omega)
    obtain ⟨o0, o1, o2, o3, o4, o5, o6, o7, o8, o9, o10⟩ := HC.out _ (Kept.refl W0)
    go_wp2
    refine wp_region_held_drew (S := fun W => W.cell? ⟨w.heap.size, 0, none⟩ = some (.string x0) ∧ W.cell? ⟨w.heap.size, 1, none⟩ = some (.string x1) ∧ W.cell? ⟨w.heap.size, 2, none⟩ = some (.int .i64 x2) ∧ W.cell? ⟨w.heap.size, 3, none⟩ = some (v1) ∧ W.cell? ⟨w.heap.size, 4, none⟩ = some (v2) ∧ W.cell? ⟨w.heap.size, 5, none⟩ = some (v3) ∧ W.cell? ⟨w.heap.size, 6, none⟩ = some (v4) ∧ W.cell? ⟨w.heap.size, 7, none⟩ = some (.string x3) ∧ W.cell? ⟨w.heap.size, 8, none⟩ = some (.int .i64 x4) ∧ W.cell? ⟨w.heap.size, 9, none⟩ = some (.string x5) ∧ W.cell? ⟨w.heap.size, 10, none⟩ = some (.bool x6)) (by kernel_rfl) (HC.out _ ((Kept.refl W0).trans (Kept.drew _))) (fun hHeld => ?_)
    clear o0 o1 o2 o3 o4 o5 o6 o7 o8 o9 o10
    have JA := Lib.hid ((Kept.refl W0).trans (Kept.drew _))
    refine wpAnyH_take (i := 0) (v := ?_) (by rw [List.getElem?_toArray]; exact rfl) (by kernel_rfl) (by kernel_rfl) (by kernel_rfl) (by exact fun _ _ _ h => h) (Or.inl ⟨by rfl, (by intro W hSw; obtain ⟨o0, o1, o2, o3, o4, o5, o6, o7, o8, o9, o10⟩ := hSw; go_simp <;> with_reducible rfl)⟩) (by assumption) ?_
    try simp only [Act.put, List.setIfInBounds_toArray, List.set_cons_zero, List.set_cons_succ]
    refine wpAnyH_take (i := 1) (v := ?_) (by rw [List.getElem?_toArray]; exact rfl) (by kernel_rfl) (by kernel_rfl) (by kernel_rfl) (by exact fun _ _ _ h => h) (Or.inl ⟨by rfl, (by intro W hSw; obtain ⟨o0, o1, o2, o3, o4, o5, o6, o7, o8, o9, o10⟩ := hSw; go_simp <;> with_reducible rfl)⟩) (by assumption) ?_
    try simp only [Act.put, List.setIfInBounds_toArray, List.set_cons_zero, List.set_cons_succ]
    refine wpAnyH_take (i := 2) (v := ?_) (by rw [List.getElem?_toArray]; exact rfl) (by kernel_rfl) (by kernel_rfl) (by kernel_rfl) (by exact fun _ _ _ h => h) (Or.inl ⟨by rfl, (by intro W hSw; obtain ⟨o0, o1, o2, o3, o4, o5, o6, o7, o8, o9, o10⟩ := hSw; go_simp <;> with_reducible rfl)⟩) (by assumption) ?_
    try simp only [Act.put, List.setIfInBounds_toArray, List.set_cons_zero, List.set_cons_succ]
    refine wpAnyH_take (i := 3) (v := ?_) (by rw [List.getElem?_toArray]; exact rfl) (by kernel_rfl) (by kernel_rfl) (by kernel_rfl) (by exact fun _ _ _ h => h) (Or.inl ⟨by rfl, (by intro W hSw; obtain ⟨o0, o1, o2, o3, o4, o5, o6, o7, o8, o9, o10⟩ := hSw; go_simp <;> with_reducible rfl)⟩) (by assumption) ?_
    try simp only [Act.put, List.setIfInBounds_toArray, List.set_cons_zero, List.set_cons_succ]
    refine wpAnyH_take (i := 4) (v := ?_) (by rw [List.getElem?_toArray]; exact rfl) (by kernel_rfl) (by kernel_rfl) (by kernel_rfl) (by exact fun _ _ _ h => h) (Or.inl ⟨by rfl, (by intro W hSw; obtain ⟨o0, o1, o2, o3, o4, o5, o6, o7, o8, o9, o10⟩ := hSw; go_simp <;> with_reducible rfl)⟩) (by assumption) ?_
    try simp only [Act.put, List.setIfInBounds_toArray, List.set_cons_zero, List.set_cons_succ]
    refine wpAnyH_take (i := 8) (v := ?_) (by rw [List.getElem?_toArray]; exact rfl) (by kernel_rfl) (by kernel_rfl) (by kernel_rfl) (by exact fun _ _ _ h => h) (Or.inl ⟨by rfl, (by intro W hSw; obtain ⟨o0, o1, o2, o3, o4, o5, o6, o7, o8, o9, o10⟩ := hSw; go_simp <;> with_reducible rfl)⟩) (by assumption) ?_
    try simp only [Act.put, List.setIfInBounds_toArray, List.set_cons_zero, List.set_cons_succ]
    refine wpAnyH_take (i := 9) (v := ?_) (by rw [List.getElem?_toArray]; exact rfl) (by kernel_rfl) (by kernel_rfl) (by kernel_rfl) (by exact fun _ _ _ h => h) (Or.inl ⟨by rfl, (by intro W hSw; obtain ⟨o0, o1, o2, o3, o4, o5, o6, o7, o8, o9, o10⟩ := hSw; go_simp <;> with_reducible rfl)⟩) (by assumption) ?_
    try simp only [Act.put, List.setIfInBounds_toArray, List.set_cons_zero, List.set_cons_succ]
    refine wpAnyH_take (i := 13) (v := ?_) (by rw [List.getElem?_toArray]; exact rfl) (by kernel_rfl) (by kernel_rfl) (by kernel_rfl) (by exact fun _ _ _ h => h) (Or.inl ⟨by rfl, (by intro W hSw; obtain ⟨o0, o1, o2, o3, o4, o5, o6, o7, o8, o9, o10⟩ := hSw; go_simp <;> with_reducible rfl)⟩) (by assumption) ?_
    try simp only [Act.put, List.setIfInBounds_toArray, List.set_cons_zero, List.set_cons_succ]
    refine wpAnyH_take (i := 14) (v := ?_) (by rw [List.getElem?_toArray]; exact rfl) (by kernel_rfl) (by kernel_rfl) (by kernel_rfl) (by exact fun _ _ _ h => h) (Or.inl ⟨by rfl, (by intro W hSw; obtain ⟨o0, o1, o2, o3, o4, o5, o6, o7, o8, o9, o10⟩ := hSw; go_simp <;> with_reducible rfl)⟩) (by assumption) ?_
    try simp only [Act.put, List.setIfInBounds_toArray, List.set_cons_zero, List.set_cons_succ]
    refine wpAnyH_take (i := 18) (v := ?_) (by rw [List.getElem?_toArray]; exact rfl) (by kernel_rfl) (by kernel_rfl) (by kernel_rfl) (by exact fun _ _ _ h => h) (Or.inl ⟨by rfl, (by intro W hSw; obtain ⟨o0, o1, o2, o3, o4, o5, o6, o7, o8, o9, o10⟩ := hSw; go_simp <;> with_reducible rfl)⟩) (by assumption) ?_
    try simp only [Act.put, List.setIfInBounds_toArray, List.set_cons_zero, List.set_cons_succ]
    refine wpAnyH_take (i := 19) (v := ?_) (by rw [List.getElem?_toArray]; exact rfl) (by kernel_rfl) (by kernel_rfl) (by kernel_rfl) (by exact fun _ _ _ h => h) (Or.inl ⟨by rfl, (by intro W hSw; obtain ⟨o0, o1, o2, o3, o4, o5, o6, o7, o8, o9, o10⟩ := hSw; go_simp <;> with_reducible rfl)⟩) (by assumption) ?_
    try simp only [Act.put, List.setIfInBounds_toArray, List.set_cons_zero, List.set_cons_succ]
    refine wpAnyH_take (i := 23) (v := ?_) (by rw [List.getElem?_toArray]; exact rfl) (by kernel_rfl) (by kernel_rfl) (by kernel_rfl) (by exact fun _ _ _ h => h) (Or.inl ⟨by rfl, (by intro W hSw; obtain ⟨o0, o1, o2, o3, o4, o5, o6, o7, o8, o9, o10⟩ := hSw; go_simp <;> with_reducible rfl)⟩) (by assumption) ?_
    try simp only [Act.put, List.setIfInBounds_toArray, List.set_cons_zero, List.set_cons_succ]
    refine wpAnyH_take (i := 24) (v := ?_) (by rw [List.getElem?_toArray]; exact rfl) (by kernel_rfl) (by kernel_rfl) (by kernel_rfl) (by exact fun _ _ _ h => h) (Or.inl ⟨by rfl, (by intro W hSw; obtain ⟨o0, o1, o2, o3, o4, o5, o6, o7, o8, o9, o10⟩ := hSw; go_simp <;> with_reducible rfl)⟩) (by assumption) ?_
    try simp only [Act.put, List.setIfInBounds_toArray, List.set_cons_zero, List.set_cons_succ]
    refine wpAnyH_take (i := 28) (v := ?_) (by rw [List.getElem?_toArray]; exact rfl) (by kernel_rfl) (by kernel_rfl) (by kernel_rfl) (by exact fun _ _ _ h => h) (Or.inl ⟨by rfl, (by intro W hSw; obtain ⟨o0, o1, o2, o3, o4, o5, o6, o7, o8, o9, o10⟩ := hSw; go_simp <;> with_reducible rfl)⟩) (by assumption) ?_
    try simp only [Act.put, List.setIfInBounds_toArray, List.set_cons_zero, List.set_cons_succ]
    refine wpAnyH_take (i := 29) (v := ?_) (by rw [List.getElem?_toArray]; exact rfl) (by kernel_rfl) (by kernel_rfl) (by kernel_rfl) (by exact fun _ _ _ h => h) (Or.inl ⟨by rfl, (by intro W hSw; obtain ⟨o0, o1, o2, o3, o4, o5, o6, o7, o8, o9, o10⟩ := hSw; go_simp <;> with_reducible rfl)⟩) (by assumption) ?_
    try simp only [Act.put, List.setIfInBounds_toArray, List.set_cons_zero, List.set_cons_succ]
    refine wpAnyH_take (i := 33) (v := ?_) (by rw [List.getElem?_toArray]; exact rfl) (by kernel_rfl) (by kernel_rfl) (by kernel_rfl) (by exact fun _ _ _ h => h) (Or.inl ⟨by rfl, (by intro W hSw; obtain ⟨o0, o1, o2, o3, o4, o5, o6, o7, o8, o9, o10⟩ := hSw; go_simp <;> with_reducible rfl)⟩) (by assumption) ?_
    try simp only [Act.put, List.setIfInBounds_toArray, List.set_cons_zero, List.set_cons_succ]
    refine wpAnyH_take (i := 36) (v := ?_) (by rw [List.getElem?_toArray]; exact rfl) (by kernel_rfl) (by kernel_rfl) (by kernel_rfl) (by exact fun _ _ _ h => h) (Or.inl ⟨by rfl, (by intro W hSw; obtain ⟨o0, o1, o2, o3, o4, o5, o6, o7, o8, o9, o10⟩ := hSw; go_simp <;> with_reducible rfl)⟩) (by assumption) ?_
    try simp only [Act.put, List.setIfInBounds_toArray, List.set_cons_zero, List.set_cons_succ]
    refine wpAnyH_take (i := 37) (v := ?_) (by rw [List.getElem?_toArray]; exact rfl) (by kernel_rfl) (by kernel_rfl) (by kernel_rfl) (by exact fun _ _ _ h => h) (Or.inl ⟨by rfl, (by intro W hSw; obtain ⟨o0, o1, o2, o3, o4, o5, o6, o7, o8, o9, o10⟩ := hSw; go_simp <;> with_reducible rfl)⟩) (by assumption) ?_
    try simp only [Act.put, List.setIfInBounds_toArray, List.set_cons_zero, List.set_cons_succ]
    refine wpAnyH_ready (rs := [5]) (by kernel_rfl) (by simp) (AllReadyH.cons (by rw [List.getElem?_toArray]; exact rfl) (fun K9 hK9 => ?_) AllReadyH.nil)
    go_simp
    refine (E1.out _).mono ?_
    rintro e9 x9 ⟨rfl, kk⟩
    have JA := Lib.hid (JA.out.trans kk)
    clear kk
    refine hK9.out _ _ (HC.out _ JA.out) (fun hHeld1 => ?_)
    clear hK9 K9
    try simp only [Act.put, List.setIfInBounds_toArray, List.set_cons_zero, List.set_cons_succ]
    refine wpAnyH_take (i := 6) (v := ?_) (by rw [List.getElem?_toArray]; exact rfl) (by kernel_rfl) (by kernel_rfl) (by kernel_rfl) (by exact fun _ _ _ h => h) (Or.inl ⟨by rfl, (by intro W hSw; obtain ⟨o0, o1, o2, o3, o4, o5, o6, o7, o8, o9, o10⟩ := hSw; go_simp <;> with_reducible rfl)⟩) (by assumption) ?_
    try simp only [Act.put, List.setIfInBounds_toArray, List.set_cons_zero, List.set_cons_succ]
    refine wpAnyH_take (i := 7) (v := ?_) (by rw [List.getElem?_toArray]; exact rfl) (by kernel_rfl) (by kernel_rfl) (by kernel_rfl) (by exact fun _ _ _ h => h) (Or.inl ⟨by rfl, (by intro W hSw; obtain ⟨o0, o1, o2, o3, o4, o5, o6, o7, o8, o9, o10⟩ := hSw; go_simp <;> with_reducible rfl)⟩) (by assumption) ?_
    try simp only [Act.put, List.setIfInBounds_toArray, List.set_cons_zero, List.set_cons_succ]
    refine wpAnyH_ready (rs := [10]) (by kernel_rfl) (by simp) (AllReadyH.cons (by rw [List.getElem?_toArray]; exact rfl) (fun K9 hK9 => ?_) AllReadyH.nil)
    go_simp
    refine (E2.out _).mono ?_
    rintro e9 x9 ⟨rfl, kk⟩
    have JA := Lib.hid (JA.out.trans kk)
    clear kk
    refine hK9.out _ _ (HC.out _ JA.out) (fun hHeld2 => ?_)
    clear hK9 K9
    try simp only [Act.put, List.setIfInBounds_toArray, List.set_cons_zero, List.set_cons_succ]
    refine wpAnyH_take (i := 11) (v := ?_) (by rw [List.getElem?_toArray]; exact rfl) (by kernel_rfl) (by kernel_rfl) (by kernel_rfl) (by exact fun _ _ _ h => h) (Or.inl ⟨by rfl, (by intro W hSw; obtain ⟨o0, o1, o2, o3, o4, o5, o6, o7, o8, o9, o10⟩ := hSw; go_simp <;> with_reducible rfl)⟩) (by assumption) ?_
    try simp only [Act.put, List.setIfInBounds_toArray, List.set_cons_zero, List.set_cons_succ]
    refine wpAnyH_take (i := 12) (v := ?_) (by rw [List.getElem?_toArray]; exact rfl) (by kernel_rfl) (by kernel_rfl) (by kernel_rfl) (by exact fun _ _ _ h => h) (Or.inl ⟨by rfl, (by intro W hSw; obtain ⟨o0, o1, o2, o3, o4, o5, o6, o7, o8, o9, o10⟩ := hSw; go_simp <;> with_reducible rfl)⟩) (by assumption) ?_
    try simp only [Act.put, List.setIfInBounds_toArray, List.set_cons_zero, List.set_cons_succ]
    refine wpAnyH_ready (rs := [15]) (by kernel_rfl) (by simp) (AllReadyH.cons (by rw [List.getElem?_toArray]; exact rfl) (fun K9 hK9 => ?_) AllReadyH.nil)
    go_simp
    refine (E3.out _ JA.out).mono ?_
    rintro e9 x9 ⟨rfl, kk⟩
    have JA := Lib.hid (JA.out.trans kk)
    clear kk
    refine hK9.out _ _ (HC.out _ JA.out) (fun hHeld3 => ?_)
    clear hK9 K9
    try simp only [Act.put, List.setIfInBounds_toArray, List.set_cons_zero, List.set_cons_succ]
    refine wpAnyH_take (i := 16) (v := ?_) (by rw [List.getElem?_toArray]; exact rfl) (by kernel_rfl) (by kernel_rfl) (by kernel_rfl) (by exact fun _ _ _ h => h) (Or.inl ⟨by rfl, (by intro W hSw; obtain ⟨o0, o1, o2, o3, o4, o5, o6, o7, o8, o9, o10⟩ := hSw; go_simp <;> with_reducible rfl)⟩) (by assumption) ?_
    try simp only [Act.put, List.setIfInBounds_toArray, List.set_cons_zero, List.set_cons_succ]
    refine wpAnyH_take (i := 17) (v := ?_) (by rw [List.getElem?_toArray]; exact rfl) (by kernel_rfl) (by kernel_rfl) (by kernel_rfl) (by exact fun _ _ _ h => h) (Or.inl ⟨by rfl, (by intro W hSw; obtain ⟨o0, o1, o2, o3, o4, o5, o6, o7, o8, o9, o10⟩ := hSw; go_simp <;> with_reducible rfl)⟩) (by assumption) ?_
    try simp only [Act.put, List.setIfInBounds_toArray, List.set_cons_zero, List.set_cons_succ]
    refine wpAnyH_ready (rs := [20]) (by kernel_rfl) (by simp) (AllReadyH.cons (by rw [List.getElem?_toArray]; exact rfl) (fun K9 hK9 => ?_) AllReadyH.nil)
    go_simp
    refine (E4.out _ JA.out).mono ?_
    rintro e9 x9 ⟨rfl, kk⟩
    have JA := Lib.hid (JA.out.trans kk)
    clear kk
    refine hK9.out _ _ (HC.out _ JA.out) (fun hHeld4 => ?_)
    clear hK9 K9
    try simp only [Act.put, List.setIfInBounds_toArray, List.set_cons_zero, List.set_cons_succ]
    refine wpAnyH_take (i := 21) (v := ?_) (by rw [List.getElem?_toArray]; exact rfl) (by kernel_rfl) (by kernel_rfl) (by kernel_rfl) (by exact fun _ _ _ h => h) (Or.inl ⟨by rfl, (by intro W hSw; obtain ⟨o0, o1, o2, o3, o4, o5, o6, o7, o8, o9, o10⟩ := hSw; go_simp <;> with_reducible rfl)⟩) (by assumption) ?_
    try simp only [Act.put, List.setIfInBounds_toArray, List.set_cons_zero, List.set_cons_succ]
    refine wpAnyH_take (i := 22) (v := ?_) (by rw [List.getElem?_toArray]; exact rfl) (by kernel_rfl) (by kernel_rfl) (by kernel_rfl) (by exact fun _ _ _ h => h) (Or.inl ⟨by rfl, (by intro W hSw; obtain ⟨o0, o1, o2, o3, o4, o5, o6, o7, o8, o9, o10⟩ := hSw; go_simp <;> with_reducible rfl)⟩) (by assumption) ?_
    try simp only [Act.put, List.setIfInBounds_toArray, List.set_cons_zero, List.set_cons_succ]
    refine wpAnyH_ready (rs := [25]) (by kernel_rfl) (by simp) (AllReadyH.cons (by rw [List.getElem?_toArray]; exact rfl) (fun K9 hK9 => ?_) AllReadyH.nil)
    go_simp
    refine (E5.out _ JA.out).mono ?_
    rintro e9 x9 ⟨rfl, kk⟩
    have JA := Lib.hid (JA.out.trans kk)
    clear kk
    refine hK9.out _ _ (HC.out _ JA.out) (fun hHeld5 => ?_)
    clear hK9 K9
    try simp only [Act.put, List.setIfInBounds_toArray, List.set_cons_zero, List.set_cons_succ]
    refine wpAnyH_take (i := 26) (v := ?_) (by rw [List.getElem?_toArray]; exact rfl) (by kernel_rfl) (by kernel_rfl) (by kernel_rfl) (by exact fun _ _ _ h => h) (Or.inl ⟨by rfl, (by intro W hSw; obtain ⟨o0, o1, o2, o3, o4, o5, o6, o7, o8, o9, o10⟩ := hSw; go_simp <;> with_reducible rfl)⟩) (by assumption) ?_
    try simp only [Act.put, List.setIfInBounds_toArray, List.set_cons_zero, List.set_cons_succ]
    refine wpAnyH_take (i := 27) (v := ?_) (by rw [List.getElem?_toArray]; exact rfl) (by kernel_rfl) (by kernel_rfl) (by kernel_rfl) (by exact fun _ _ _ h => h) (Or.inl ⟨by rfl, (by intro W hSw; obtain ⟨o0, o1, o2, o3, o4, o5, o6, o7, o8, o9, o10⟩ := hSw; go_simp <;> with_reducible rfl)⟩) (by assumption) ?_
    try simp only [Act.put, List.setIfInBounds_toArray, List.set_cons_zero, List.set_cons_succ]
    refine wpAnyH_ready (rs := [30]) (by kernel_rfl) (by simp) (AllReadyH.cons (by rw [List.getElem?_toArray]; exact rfl) (fun K9 hK9 => ?_) AllReadyH.nil)
    go_simp
    refine (E6.out _ JA.out).mono ?_
    rintro e9 x9 ⟨rfl, kk⟩
    have JA := Lib.hid (JA.out.trans kk)
    clear kk
    refine hK9.out _ _ (HC.out _ JA.out) (fun hHeld6 => ?_)
    clear hK9 K9
    try simp only [Act.put, List.setIfInBounds_toArray, List.set_cons_zero, List.set_cons_succ]
    refine wpAnyH_take (i := 31) (v := ?_) (by rw [List.getElem?_toArray]; exact rfl) (by kernel_rfl) (by kernel_rfl) (by kernel_rfl) (by exact fun _ _ _ h => h) (Or.inl ⟨by rfl, (by intro W hSw; obtain ⟨o0, o1, o2, o3, o4, o5, o6, o7, o8, o9, o10⟩ := hSw; go_simp <;> with_reducible rfl)⟩) (by assumption) ?_
    try simp only [Act.put, List.setIfInBounds_toArray, List.set_cons_zero, List.set_cons_succ]
    refine wpAnyH_take (i := 32) (v := ?_) (by rw [List.getElem?_toArray]; exact rfl) (by kernel_rfl) (by kernel_rfl) (by kernel_rfl) (by exact fun _ _ _ h => h) (Or.inl ⟨by rfl, (by intro W hSw; obtain ⟨o0, o1, o2, o3, o4, o5, o6, o7, o8, o9, o10⟩ := hSw; go_simp <;> with_reducible rfl)⟩) (by assumption) ?_
    try simp only [Act.put, List.setIfInBounds_toArray, List.set_cons_zero, List.set_cons_succ]
    refine wpAnyH_take (i := 34) (v := ?_) (by rw [List.getElem?_toArray]; exact rfl) (by kernel_rfl) (by kernel_rfl) (by kernel_rfl) (by exact fun _ _ _ h => h) (Or.inl ⟨by rfl, (by intro W hSw; obtain ⟨o0, o1, o2, o3, o4, o5, o6, o7, o8, o9, o10⟩ := hSw; go_simp <;> with_reducible rfl)⟩) (by assumption) ?_
    try simp only [Act.put, List.setIfInBounds_toArray, List.set_cons_zero, List.set_cons_succ]
    refine wpAnyH_take (i := 35) (v := ?_) (by rw [List.getElem?_toArray]; exact rfl) (by kernel_rfl) (by kernel_rfl) (by kernel_rfl) (by exact fun _ _ _ h => h) (Or.inl ⟨by rfl, (by intro W hSw; obtain ⟨o0, o1, o2, o3, o4, o5, o6, o7, o8, o9, o10⟩ := hSw; go_simp <;> with_reducible rfl)⟩) (by assumption) ?_
    try simp only [Act.put, List.setIfInBounds_toArray, List.set_cons_zero, List.set_cons_succ]
    refine wpAnyH_ready (rs := [38]) (by kernel_rfl) (by simp) (AllReadyH.cons (by rw [List.getElem?_toArray]; exact rfl) (fun K9 hK9 => ?_) AllReadyH.nil)
    go_simp
    refine (E8.out _).mono ?_
    rintro e9 x9 ⟨rfl, kk⟩
    have JA := Lib.hid (JA.out.trans kk)
    clear kk
    refine hK9.out _ _ (HC.out _ JA.out) (fun hHeld7 => ?_)
    clear hK9 K9
    try simp only [Act.put, List.setIfInBounds_toArray, List.set_cons_zero, List.set_cons_succ]
    refine wpAnyH_take (i := 39) (v := ?_) (by rw [List.getElem?_toArray]; exact rfl) (by kernel_rfl) (by kernel_rfl) (by kernel_rfl) (by exact fun _ _ _ h => h) (Or.inl ⟨by rfl, (by intro W hSw; obtain ⟨o0, o1, o2, o3, o4, o5, o6, o7, o8, o9, o10⟩ := hSw; go_simp <;> with_reducible rfl)⟩) (by assumption) ?_
    try simp only [Act.put, List.setIfInBounds_toArray, List.set_cons_zero, List.set_cons_succ]
    refine wpAnyH_take (i := 40) (v := ?_) (by rw [List.getElem?_toArray]; exact rfl) (by kernel_rfl) (by kernel_rfl) (by kernel_rfl) (by exact fun _ _ _ h => h) (Or.inl ⟨by rfl, (by intro W hSw; obtain ⟨o0, o1, o2, o3, o4, o5, o6, o7, o8, o9, o10⟩ := hSw; go_simp <;> with_reducible rfl)⟩) (by assumption) ?_
    try simp only [Act.put, List.setIfInBounds_toArray, List.set_cons_zero, List.set_cons_succ]
    refine wpAnyH_done (by kernel_rfl) ?_ _
    obtain ⟨o0, o1, o2, o3, o4, o5, o6, o7, o8, o9, o10⟩ := HC.out _ JA.out
    cases x6 with
    | true =>
      have HW := Lib.hid (HV0.out.trans (kind_hold _))
      go_wp2
      go_ret
      exact ⟨ret_str HW.out.symm, HK0.out.trans JA.out⟩
    | false =>
      have HW := Lib.hid (HV0.out.trans (kind_real _))
      go_wp2
      go_ret
      exact ⟨ret_str HW.out.symm, HK0.out.trans JA.out⟩
  | false =>
    have adk : ∀ W, (Op.stringOp .add x3 (⟨#[47]⟩ : ByteArray)).run Tryz.prog W = .ok (.string (x3 ++ (⟨#[47]⟩ : ByteArray))) W := fun W => run_string_add_sum W _ _ (by omega)
    have adl : ∀ W, (Op.stringOp .add (x3 ++ (⟨#[47]⟩ : ByteArray)) t9).run Tryz.prog W = .ok (.string (x3 ++ (⟨#[47]⟩ : ByteArray) ++ t9)) W := fun W => run_string_add_sum W _ _ (by rw [ByteArray.size_append]; omega)
    have a7 : (x3 ++ (⟨#[47]⟩ : ByteArray) ++ t9).size ≤ 200 := by rw [ByteArray.size_append, ByteArray.size_append]; omega
    rw [if_neg (by decide)] at HV0
    go_enter Tryz.func21, Tryz.ntmps21
    go_wp2
    try rw [hW0]
    clear hW0
    refine wp_region_held_drew (S := fun W => W.cell? ⟨w.heap.size, 0, none⟩ = some (.string x0) ∧ W.cell? ⟨w.heap.size, 1, none⟩ = some (.string x1) ∧ W.cell? ⟨w.heap.size, 2, none⟩ = some (.int .i64 x2) ∧ W.cell? ⟨w.heap.size, 3, none⟩ = some (v1) ∧ W.cell? ⟨w.heap.size, 4, none⟩ = some (v2) ∧ W.cell? ⟨w.heap.size, 5, none⟩ = some (v3) ∧ W.cell? ⟨w.heap.size, 6, none⟩ = some (v4) ∧ W.cell? ⟨w.heap.size, 7, none⟩ = some (.string x3) ∧ W.cell? ⟨w.heap.size, 8, none⟩ = some (.int .i64 x4) ∧ W.cell? ⟨w.heap.size, 9, none⟩ = some (.string x5) ∧ W.cell? ⟨w.heap.size, 10, none⟩ = some (.bool x6)) (by kernel_rfl) (HC.out _ (Kept.drew _)) (fun hHeld => ?_)
    clear o0 o1 o2 o3 o4 o5 o6 o7 o8 o9 o10
    have JA := Lib.hid (Kept.drew W0)
    refine wpAnyH_take (i := 0) (v := ?_) (by rw [List.getElem?_toArray]; exact rfl) (by kernel_rfl) (by kernel_rfl) (by kernel_rfl) (by exact fun _ _ _ h => h) (Or.inl ⟨by rfl, (by intro W hSw; obtain ⟨o0, o1, o2, o3, o4, o5, o6, o7, o8, o9, o10⟩ := hSw; go_simp <;> with_reducible rfl)⟩) (by assumption) ?_
    try simp only [Act.put, List.setIfInBounds_toArray, List.set_cons_zero, List.set_cons_succ]
    refine wpAnyH_take (i := 1) (v := ?_) (by rw [List.getElem?_toArray]; exact rfl) (by kernel_rfl) (by kernel_rfl) (by kernel_rfl) (by exact fun _ _ _ h => h) (Or.inl ⟨by rfl, (by intro W hSw; obtain ⟨o0, o1, o2, o3, o4, o5, o6, o7, o8, o9, o10⟩ := hSw; go_simp <;> with_reducible rfl)⟩) (by assumption) ?_
    try simp only [Act.put, List.setIfInBounds_toArray, List.set_cons_zero, List.set_cons_succ]
    refine wpAnyH_take (i := 2) (v := ?_) (by rw [List.getElem?_toArray]; exact rfl) (by kernel_rfl) (by kernel_rfl) (by kernel_rfl) (by exact fun _ _ _ h => h) (Or.inl ⟨by rfl, (by intro W hSw; obtain ⟨o0, o1, o2, o3, o4, o5, o6, o7, o8, o9, o10⟩ := hSw; go_simp <;> with_reducible rfl)⟩) (by assumption) ?_
    try simp only [Act.put, List.setIfInBounds_toArray, List.set_cons_zero, List.set_cons_succ]
    refine wpAnyH_take (i := 3) (v := ?_) (by rw [List.getElem?_toArray]; exact rfl) (by kernel_rfl) (by kernel_rfl) (by kernel_rfl) (by exact fun _ _ _ h => h) (Or.inl ⟨by rfl, (by intro W hSw; obtain ⟨o0, o1, o2, o3, o4, o5, o6, o7, o8, o9, o10⟩ := hSw; go_simp <;> with_reducible rfl)⟩) (by assumption) ?_
    try simp only [Act.put, List.setIfInBounds_toArray, List.set_cons_zero, List.set_cons_succ]
    refine wpAnyH_take (i := 4) (v := ?_) (by rw [List.getElem?_toArray]; exact rfl) (by kernel_rfl) (by kernel_rfl) (by kernel_rfl) (by exact fun _ _ _ h => h) (Or.inl ⟨by rfl, (by intro W hSw; obtain ⟨o0, o1, o2, o3, o4, o5, o6, o7, o8, o9, o10⟩ := hSw; go_simp <;> with_reducible rfl)⟩) (by assumption) ?_
    try simp only [Act.put, List.setIfInBounds_toArray, List.set_cons_zero, List.set_cons_succ]
    refine wpAnyH_ready (rs := [5]) (by kernel_rfl) (by simp) (AllReadyH.cons (by rw [List.getElem?_toArray]; exact rfl) (fun K9 hK9 => ?_) AllReadyH.nil)
    go_simp
    refine (E7.out _).mono ?_
    rintro e9 x9 ⟨rfl, kk⟩
    have JA := Lib.hid (JA.out.trans kk)
    clear kk
    refine hK9.out _ _ (HC.out _ JA.out) (fun hHeld1 => ?_)
    clear hK9 K9
    try simp only [Act.put, List.setIfInBounds_toArray, List.set_cons_zero, List.set_cons_succ]
    refine wpAnyH_take (i := 6) (v := ?_) (by rw [List.getElem?_toArray]; exact rfl) (by kernel_rfl) (by kernel_rfl) (by kernel_rfl) (by exact fun _ _ _ h => h) (Or.inl ⟨by rfl, (by intro W hSw; obtain ⟨o0, o1, o2, o3, o4, o5, o6, o7, o8, o9, o10⟩ := hSw; go_simp <;> with_reducible rfl)⟩) (by assumption) ?_
    try simp only [Act.put, List.setIfInBounds_toArray, List.set_cons_zero, List.set_cons_succ]
    refine wpAnyH_take (i := 7) (v := ?_) (by rw [List.getElem?_toArray]; exact rfl) (by kernel_rfl) (by kernel_rfl) (by kernel_rfl) (by exact fun _ _ _ h => h) (Or.inl ⟨by rfl, (by intro W hSw; obtain ⟨o0, o1, o2, o3, o4, o5, o6, o7, o8, o9, o10⟩ := hSw; go_simp <;> with_reducible rfl)⟩) (by assumption) ?_
    try simp only [Act.put, List.setIfInBounds_toArray, List.set_cons_zero, List.set_cons_succ]
    refine wpAnyH_done (by kernel_rfl) ?_ _
    obtain ⟨t7, ht7⟩ : ∃ t, x3 ++ (⟨#[47]⟩ : ByteArray) ++ t9 = t := ⟨_, rfl⟩
    rw [ht7] at HV0 a7
    clear adk adl
    obtain ⟨o0, o1, o2, o3, o4, o5, o6, o7, o8, o9, o10⟩ := HC.out _ JA.out
    go_wp2
    try rw [ht7]
    clear ht7 o0 o1 o2 o3 o4 o5 o6 o7 o8 o9 o10
    have ad0 : ∀ W, (Op.stringOp .add (x0) ((⟨#[32]⟩ : ByteArray))).run Tryz.prog W = .ok (.string (x0 ++ (⟨#[32]⟩ : ByteArray))) W := fun W => run_string_add_sum W _ _ (by omega)
    have ad1 : ∀ W, (Op.stringOp .add (x0 ++ (⟨#[32]⟩ : ByteArray)) (t1)).run Tryz.prog W = .ok (.string (x0 ++ (⟨#[32]⟩ : ByteArray) ++ t1)) W := fun W => run_string_add_sum W _ _ (by rw [ByteArray.size_append]; omega)
    have ad2 : ∀ W, (Op.stringOp .add (x0 ++ (⟨#[32]⟩ : ByteArray) ++ t1) ((⟨#[32]⟩ : ByteArray))).run Tryz.prog W = .ok (.string (x0 ++ (⟨#[32]⟩ : ByteArray) ++ t1 ++ (⟨#[32]⟩ : ByteArray))) W := fun W => run_string_add_sum W _ _ (by rw [ByteArray.size_append, ByteArray.size_append]; omega)
    have ad3 : ∀ W, (Op.stringOp .add (x0 ++ (⟨#[32]⟩ : ByteArray) ++ t1 ++ (⟨#[32]⟩ : ByteArray)) (t2)).run Tryz.prog W = .ok (.string (x0 ++ (⟨#[32]⟩ : ByteArray) ++ t1 ++ (⟨#[32]⟩ : ByteArray) ++ t2)) W := fun W => run_string_add_sum W _ _ (by rw [ByteArray.size_append, ByteArray.size_append, ByteArray.size_append]; omega)
    have ad4 : ∀ W, (Op.stringOp .add (x0 ++ (⟨#[32]⟩ : ByteArray) ++ t1 ++ (⟨#[32]⟩ : ByteArray) ++ t2) ((⟨#[32]⟩ : ByteArray))).run Tryz.prog W = .ok (.string (x0 ++ (⟨#[32]⟩ : ByteArray) ++ t1 ++ (⟨#[32]⟩ : ByteArray) ++ t2 ++ (⟨#[32]⟩ : ByteArray))) W := fun W => run_string_add_sum W _ _ (by rw [ByteArray.size_append, ByteArray.size_append, ByteArray.size_append, ByteArray.size_append]; omega)
    have ad5 : ∀ W, (Op.stringOp .add (x0 ++ (⟨#[32]⟩ : ByteArray) ++ t1 ++ (⟨#[32]⟩ : ByteArray) ++ t2 ++ (⟨#[32]⟩ : ByteArray)) (t3)).run Tryz.prog W = .ok (.string (x0 ++ (⟨#[32]⟩ : ByteArray) ++ t1 ++ (⟨#[32]⟩ : ByteArray) ++ t2 ++ (⟨#[32]⟩ : ByteArray) ++ t3)) W := fun W => run_string_add_sum W _ _ (by rw [ByteArray.size_append, ByteArray.size_append, ByteArray.size_append, ByteArray.size_append, ByteArray.size_append]; omega)
    have ad6 : ∀ W, (Op.stringOp .add (x0 ++ (⟨#[32]⟩ : ByteArray) ++ t1 ++ (⟨#[32]⟩ : ByteArray) ++ t2 ++ (⟨#[32]⟩ : ByteArray) ++ t3) ((⟨#[32]⟩ : ByteArray))).run Tryz.prog W = .ok (.string (x0 ++ (⟨#[32]⟩ : ByteArray) ++ t1 ++ (⟨#[32]⟩ : ByteArray) ++ t2 ++ (⟨#[32]⟩ : ByteArray) ++ t3 ++ (⟨#[32]⟩ : ByteArray))) W := fun W => run_string_add_sum W _ _ (by rw [ByteArray.size_append, ByteArray.size_append, ByteArray.size_append, ByteArray.size_append, ByteArray.size_append, ByteArray.size_append]; omega)
    have ad7 : ∀ W, (Op.stringOp .add (x0 ++ (⟨#[32]⟩ : ByteArray) ++ t1 ++ (⟨#[32]⟩ : ByteArray) ++ t2 ++ (⟨#[32]⟩ : ByteArray) ++ t3 ++ (⟨#[32]⟩ : ByteArray)) (t4)).run Tryz.prog W = .ok (.string (x0 ++ (⟨#[32]⟩ : ByteArray) ++ t1 ++ (⟨#[32]⟩ : ByteArray) ++ t2 ++ (⟨#[32]⟩ : ByteArray) ++ t3 ++ (⟨#[32]⟩ : ByteArray) ++ t4)) W := fun W => run_string_add_sum W _ _ (by rw [ByteArray.size_append, ByteArray.size_append, ByteArray.size_append, ByteArray.size_append, ByteArray.size_append, ByteArray.size_append, ByteArray.size_append]; omega)
    have ad8 : ∀ W, (Op.stringOp .add (x0 ++ (⟨#[32]⟩ : ByteArray) ++ t1 ++ (⟨#[32]⟩ : ByteArray) ++ t2 ++ (⟨#[32]⟩ : ByteArray) ++ t3 ++ (⟨#[32]⟩ : ByteArray) ++ t4) ((⟨#[32]⟩ : ByteArray))).run Tryz.prog W = .ok (.string (x0 ++ (⟨#[32]⟩ : ByteArray) ++ t1 ++ (⟨#[32]⟩ : ByteArray) ++ t2 ++ (⟨#[32]⟩ : ByteArray) ++ t3 ++ (⟨#[32]⟩ : ByteArray) ++ t4 ++ (⟨#[32]⟩ : ByteArray))) W := fun W => run_string_add_sum W _ _ (by rw [ByteArray.size_append, ByteArray.size_append, ByteArray.size_append, ByteArray.size_append, ByteArray.size_append, ByteArray.size_append, ByteArray.size_append, ByteArray.size_append]; omega)
    have ad9 : ∀ W, (Op.stringOp .add (x0 ++ (⟨#[32]⟩ : ByteArray) ++ t1 ++ (⟨#[32]⟩ : ByteArray) ++ t2 ++ (⟨#[32]⟩ : ByteArray) ++ t3 ++ (⟨#[32]⟩ : ByteArray) ++ t4 ++ (⟨#[32]⟩ : ByteArray)) (t5)).run Tryz.prog W = .ok (.string (x0 ++ (⟨#[32]⟩ : ByteArray) ++ t1 ++ (⟨#[32]⟩ : ByteArray) ++ t2 ++ (⟨#[32]⟩ : ByteArray) ++ t3 ++ (⟨#[32]⟩ : ByteArray) ++ t4 ++ (⟨#[32]⟩ : ByteArray) ++ t5)) W := fun W => run_string_add_sum W _ _ (by rw [ByteArray.size_append, ByteArray.size_append, ByteArray.size_append, ByteArray.size_append, ByteArray.size_append, ByteArray.size_append, ByteArray.size_append, ByteArray.size_append, ByteArray.size_append]; omega)
    have ad10 : ∀ W, (Op.stringOp .add (x0 ++ (⟨#[32]⟩ : ByteArray) ++ t1 ++ (⟨#[32]⟩ : ByteArray) ++ t2 ++ (⟨#[32]⟩ : ByteArray) ++ t3 ++ (⟨#[32]⟩ : ByteArray) ++ t4 ++ (⟨#[32]⟩ : ByteArray) ++ t5) ((⟨#[32]⟩ : ByteArray))).run Tryz.prog W = .ok (.string (x0 ++ (⟨#[32]⟩ : ByteArray) ++ t1 ++ (⟨#[32]⟩ : ByteArray) ++ t2 ++ (⟨#[32]⟩ : ByteArray) ++ t3 ++ (⟨#[32]⟩ : ByteArray) ++ t4 ++ (⟨#[32]⟩ : ByteArray) ++ t5 ++ (⟨#[32]⟩ : ByteArray))) W := fun W => run_string_add_sum W _ _ (by rw [ByteArray.size_append, ByteArray.size_append, ByteArray.size_append, ByteArray.size_append, ByteArray.size_append, ByteArray.size_append, ByteArray.size_append, ByteArray.size_append, ByteArray.size_append, ByteArray.size_append]; omega)
    have ad11 : ∀ W, (Op.stringOp .add (x0 ++ (⟨#[32]⟩ : ByteArray) ++ t1 ++ (⟨#[32]⟩ : ByteArray) ++ t2 ++ (⟨#[32]⟩ : ByteArray) ++ t3 ++ (⟨#[32]⟩ : ByteArray) ++ t4 ++ (⟨#[32]⟩ : ByteArray) ++ t5 ++ (⟨#[32]⟩ : ByteArray)) (t6)).run Tryz.prog W = .ok (.string (x0 ++ (⟨#[32]⟩ : ByteArray) ++ t1 ++ (⟨#[32]⟩ : ByteArray) ++ t2 ++ (⟨#[32]⟩ : ByteArray) ++ t3 ++ (⟨#[32]⟩ : ByteArray) ++ t4 ++ (⟨#[32]⟩ : ByteArray) ++ t5 ++ (⟨#[32]⟩ : ByteArray) ++ t6)) W := fun W => run_string_add_sum W _ _ (by rw [ByteArray.size_append, ByteArray.size_append, ByteArray.size_append, ByteArray.size_append, ByteArray.size_append, ByteArray.size_append, ByteArray.size_append, ByteArray.size_append, ByteArray.size_append, ByteArray.size_append, ByteArray.size_append]; omega)
    have ad12 : ∀ W, (Op.stringOp .add (x0 ++ (⟨#[32]⟩ : ByteArray) ++ t1 ++ (⟨#[32]⟩ : ByteArray) ++ t2 ++ (⟨#[32]⟩ : ByteArray) ++ t3 ++ (⟨#[32]⟩ : ByteArray) ++ t4 ++ (⟨#[32]⟩ : ByteArray) ++ t5 ++ (⟨#[32]⟩ : ByteArray) ++ t6) ((⟨#[32]⟩ : ByteArray))).run Tryz.prog W = .ok (.string (x0 ++ (⟨#[32]⟩ : ByteArray) ++ t1 ++ (⟨#[32]⟩ : ByteArray) ++ t2 ++ (⟨#[32]⟩ : ByteArray) ++ t3 ++ (⟨#[32]⟩ : ByteArray) ++ t4 ++ (⟨#[32]⟩ : ByteArray) ++ t5 ++ (⟨#[32]⟩ : ByteArray) ++ t6 ++ (⟨#[32]⟩ : ByteArray))) W := fun W => run_string_add_sum W _ _ (by rw [ByteArray.size_append, ByteArray.size_append, ByteArray.size_append, ByteArray.size_append, ByteArray.size_append, ByteArray.size_append, ByteArray.size_append, ByteArray.size_append, ByteArray.size_append, ByteArray.size_append, ByteArray.size_append, ByteArray.size_append]; omega)
    have ad13 : ∀ W, (Op.stringOp .add (x0 ++ (⟨#[32]⟩ : ByteArray) ++ t1 ++ (⟨#[32]⟩ : ByteArray) ++ t2 ++ (⟨#[32]⟩ : ByteArray) ++ t3 ++ (⟨#[32]⟩ : ByteArray) ++ t4 ++ (⟨#[32]⟩ : ByteArray) ++ t5 ++ (⟨#[32]⟩ : ByteArray) ++ t6 ++ (⟨#[32]⟩ : ByteArray)) (t7)).run Tryz.prog W = .ok (.string (x0 ++ (⟨#[32]⟩ : ByteArray) ++ t1 ++ (⟨#[32]⟩ : ByteArray) ++ t2 ++ (⟨#[32]⟩ : ByteArray) ++ t3 ++ (⟨#[32]⟩ : ByteArray) ++ t4 ++ (⟨#[32]⟩ : ByteArray) ++ t5 ++ (⟨#[32]⟩ : ByteArray) ++ t6 ++ (⟨#[32]⟩ : ByteArray) ++ t7)) W := fun W => run_string_add_sum W _ _ (by rw [ByteArray.size_append, ByteArray.size_append, ByteArray.size_append, ByteArray.size_append, ByteArray.size_append, ByteArray.size_append, ByteArray.size_append, ByteArray.size_append, ByteArray.size_append, ByteArray.size_append, ByteArray.size_append, ByteArray.size_append, ByteArray.size_append]; omega)
    have ad14 : ∀ W, (Op.stringOp .add (x0 ++ (⟨#[32]⟩ : ByteArray) ++ t1 ++ (⟨#[32]⟩ : ByteArray) ++ t2 ++ (⟨#[32]⟩ : ByteArray) ++ t3 ++ (⟨#[32]⟩ : ByteArray) ++ t4 ++ (⟨#[32]⟩ : ByteArray) ++ t5 ++ (⟨#[32]⟩ : ByteArray) ++ t6 ++ (⟨#[32]⟩ : ByteArray) ++ t7) ((⟨#[32]⟩ : ByteArray))).run Tryz.prog W = .ok (.string (x0 ++ (⟨#[32]⟩ : ByteArray) ++ t1 ++ (⟨#[32]⟩ : ByteArray) ++ t2 ++ (⟨#[32]⟩ : ByteArray) ++ t3 ++ (⟨#[32]⟩ : ByteArray) ++ t4 ++ (⟨#[32]⟩ : ByteArray) ++ t5 ++ (⟨#[32]⟩ : ByteArray) ++ t6 ++ (⟨#[32]⟩ : ByteArray) ++ t7 ++ (⟨#[32]⟩ : ByteArray))) W := fun W => run_string_add_sum W _ _ (by rw [ByteArray.size_append, ByteArray.size_append, ByteArray.size_append, ByteArray.size_append, ByteArray.size_append, ByteArray.size_append, ByteArray.size_append, ByteArray.size_append, ByteArray.size_append, ByteArray.size_append, ByteArray.size_append, ByteArray.size_append, ByteArray.size_append, ByteArray.size_append]; omega)
    have ad15 : ∀ W, (Op.stringOp .add (x0 ++ (⟨#[32]⟩ : ByteArray) ++ t1 ++ (⟨#[32]⟩ : ByteArray) ++ t2 ++ (⟨#[32]⟩ : ByteArray) ++ t3 ++ (⟨#[32]⟩ : ByteArray) ++ t4 ++ (⟨#[32]⟩ : ByteArray) ++ t5 ++ (⟨#[32]⟩ : ByteArray) ++ t6 ++ (⟨#[32]⟩ : ByteArray) ++ t7 ++ (⟨#[32]⟩ : ByteArray)) (t8)).run Tryz.prog W = .ok (.string (x0 ++ (⟨#[32]⟩ : ByteArray) ++ t1 ++ (⟨#[32]⟩ : ByteArray) ++ t2 ++ (⟨#[32]⟩ : ByteArray) ++ t3 ++ (⟨#[32]⟩ : ByteArray) ++ t4 ++ (⟨#[32]⟩ : ByteArray) ++ t5 ++ (⟨#[32]⟩ : ByteArray) ++ t6 ++ (⟨#[32]⟩ : ByteArray) ++ t7 ++ (⟨#[32]⟩ : ByteArray) ++ t8)) W := fun W => run_string_add_sum W _ _ (by rw [ByteArray.size_append, ByteArray.size_append, ByteArray.size_append, ByteArray.size_append, ByteArray.size_append, ByteArray.size_append, ByteArray.size_append, ByteArray.size_append, ByteArray.size_append, ByteArray.size_append, ByteArray.size_append, ByteArray.size_append, ByteArray.size_append, ByteArray.size_append, ByteArray.size_append]; omega)
    have adh : ∀ W, (Op.stringOp .add (x0 ++ (⟨#[32]⟩ : ByteArray) ++ t1 ++ (⟨#[32]⟩ : ByteArray) ++ t2 ++ (⟨#[32]⟩ : ByteArray) ++ t3 ++ (⟨#[32]⟩ : ByteArray) ++ t4 ++ (⟨#[32]⟩ : ByteArray) ++ t5 ++ (⟨#[32]⟩ : ByteArray) ++ t6 ++ (⟨#[32]⟩ : ByteArray) ++ t7 ++ (⟨#[32]⟩ : ByteArray) ++ t8) ((⟨#[32, 104, 111, 108, 100]⟩ : ByteArray))).run Tryz.prog W = .ok (.string (x0 ++ (⟨#[32]⟩ : ByteArray) ++ t1 ++ (⟨#[32]⟩ : ByteArray) ++ t2 ++ (⟨#[32]⟩ : ByteArray) ++ t3 ++ (⟨#[32]⟩ : ByteArray) ++ t4 ++ (⟨#[32]⟩ : ByteArray) ++ t5 ++ (⟨#[32]⟩ : ByteArray) ++ t6 ++ (⟨#[32]⟩ : ByteArray) ++ t7 ++ (⟨#[32]⟩ : ByteArray) ++ t8 ++ (⟨#[32, 104, 111, 108, 100]⟩ : ByteArray))) W := fun W => run_string_add_sum W _ _ (by rw [ByteArray.size_append, ByteArray.size_append, ByteArray.size_append, ByteArray.size_append, ByteArray.size_append, ByteArray.size_append, ByteArray.size_append, ByteArray.size_append, ByteArray.size_append, ByteArray.size_append, ByteArray.size_append, ByteArray.size_append, ByteArray.size_append, ByteArray.size_append, ByteArray.size_append, ByteArray.size_append]; omega)
    have adr : ∀ W, (Op.stringOp .add (x0 ++ (⟨#[32]⟩ : ByteArray) ++ t1 ++ (⟨#[32]⟩ : ByteArray) ++ t2 ++ (⟨#[32]⟩ : ByteArray) ++ t3 ++ (⟨#[32]⟩ : ByteArray) ++ t4 ++ (⟨#[32]⟩ : ByteArray) ++ t5 ++ (⟨#[32]⟩ : ByteArray) ++ t6 ++ (⟨#[32]⟩ : ByteArray) ++ t7 ++ (⟨#[32]⟩ : ByteArray) ++ t8) ((⟨#[32, 114, 101, 97, 108]⟩ : ByteArray))).run Tryz.prog W = .ok (.string (x0 ++ (⟨#[32]⟩ : ByteArray) ++ t1 ++ (⟨#[32]⟩ : ByteArray) ++ t2 ++ (⟨#[32]⟩ : ByteArray) ++ t3 ++ (⟨#[32]⟩ : ByteArray) ++ t4 ++ (⟨#[32]⟩ : ByteArray) ++ t5 ++ (⟨#[32]⟩ : ByteArray) ++ t6 ++ (⟨#[32]⟩ : ByteArray) ++ t7 ++ (⟨#[32]⟩ : ByteArray) ++ t8 ++ (⟨#[32, 114, 101, 97, 108]⟩ : ByteArray))) W := fun W => run_string_add_sum W _ _ (by rw [ByteArray.size_append, ByteArray.size_append, ByteArray.size_append, ByteArray.size_append, ByteArray.size_append, ByteArray.size_append, ByteArray.size_append, ByteArray.size_append, ByteArray.size_append, ByteArray.size_append, ByteArray.size_append, ByteArray.size_append, ByteArray.size_append, ByteArray.size_append, ByteArray.size_append, ByteArray.size_append]; omega)
    obtain ⟨o0, o1, o2, o3, o4, o5, o6, o7, o8, o9, o10⟩ := HC.out _ JA.out
    skip
    refine wp_region_held_drew (S := fun W => W.cell? ⟨w.heap.size, 0, none⟩ = some (.string x0) ∧ W.cell? ⟨w.heap.size, 1, none⟩ = some (.string x1) ∧ W.cell? ⟨w.heap.size, 2, none⟩ = some (.int .i64 x2) ∧ W.cell? ⟨w.heap.size, 3, none⟩ = some (v1) ∧ W.cell? ⟨w.heap.size, 4, none⟩ = some (v2) ∧ W.cell? ⟨w.heap.size, 5, none⟩ = some (v3) ∧ W.cell? ⟨w.heap.size, 6, none⟩ = some (v4) ∧ W.cell? ⟨w.heap.size, 7, none⟩ = some (.string x3) ∧ W.cell? ⟨w.heap.size, 8, none⟩ = some (.int .i64 x4) ∧ W.cell? ⟨w.heap.size, 9, none⟩ = some (.string x5) ∧ W.cell? ⟨w.heap.size, 10, none⟩ = some (.bool x6)) (by kernel_rfl) (HC.out _ (JA.out.trans (Kept.drew _))) (fun hHeld => ?_)
    clear o0 o1 o2 o3 o4 o5 o6 o7 o8 o9 o10
    have JA := Lib.hid (JA.out.trans (Kept.drew _))
    refine wpAnyH_take (i := 0) (v := ?_) (by rw [List.getElem?_toArray]; exact rfl) (by kernel_rfl) (by kernel_rfl) (by kernel_rfl) (by exact fun _ _ _ h => h) (Or.inl ⟨by rfl, (by intro W hSw; obtain ⟨o0, o1, o2, o3, o4, o5, o6, o7, o8, o9, o10⟩ := hSw; go_simp <;> with_reducible rfl)⟩) (by assumption) ?_
    try simp only [Act.put, List.setIfInBounds_toArray, List.set_cons_zero, List.set_cons_succ]
    refine wpAnyH_take (i := 1) (v := ?_) (by rw [List.getElem?_toArray]; exact rfl) (by kernel_rfl) (by kernel_rfl) (by kernel_rfl) (by exact fun _ _ _ h => h) (Or.inl ⟨by rfl, (by intro W hSw; obtain ⟨o0, o1, o2, o3, o4, o5, o6, o7, o8, o9, o10⟩ := hSw; go_simp <;> with_reducible rfl)⟩) (by assumption) ?_
    try simp only [Act.put, List.setIfInBounds_toArray, List.set_cons_zero, List.set_cons_succ]
    refine wpAnyH_take (i := 2) (v := ?_) (by rw [List.getElem?_toArray]; exact rfl) (by kernel_rfl) (by kernel_rfl) (by kernel_rfl) (by exact fun _ _ _ h => h) (Or.inl ⟨by rfl, (by intro W hSw; obtain ⟨o0, o1, o2, o3, o4, o5, o6, o7, o8, o9, o10⟩ := hSw; go_simp <;> with_reducible rfl)⟩) (by assumption) ?_
    try simp only [Act.put, List.setIfInBounds_toArray, List.set_cons_zero, List.set_cons_succ]
    refine wpAnyH_take (i := 3) (v := ?_) (by rw [List.getElem?_toArray]; exact rfl) (by kernel_rfl) (by kernel_rfl) (by kernel_rfl) (by exact fun _ _ _ h => h) (Or.inl ⟨by rfl, (by intro W hSw; obtain ⟨o0, o1, o2, o3, o4, o5, o6, o7, o8, o9, o10⟩ := hSw; go_simp <;> with_reducible rfl)⟩) (by assumption) ?_
    try simp only [Act.put, List.setIfInBounds_toArray, List.set_cons_zero, List.set_cons_succ]
    refine wpAnyH_take (i := 4) (v := ?_) (by rw [List.getElem?_toArray]; exact rfl) (by kernel_rfl) (by kernel_rfl) (by kernel_rfl) (by exact fun _ _ _ h => h) (Or.inl ⟨by rfl, (by intro W hSw; obtain ⟨o0, o1, o2, o3, o4, o5, o6, o7, o8, o9, o10⟩ := hSw; go_simp <;> with_reducible rfl)⟩) (by assumption) ?_
    try simp only [Act.put, List.setIfInBounds_toArray, List.set_cons_zero, List.set_cons_succ]
    refine wpAnyH_take (i := 8) (v := ?_) (by rw [List.getElem?_toArray]; exact rfl) (by kernel_rfl) (by kernel_rfl) (by kernel_rfl) (by exact fun _ _ _ h => h) (Or.inl ⟨by rfl, (by intro W hSw; obtain ⟨o0, o1, o2, o3, o4, o5, o6, o7, o8, o9, o10⟩ := hSw; go_simp <;> with_reducible rfl)⟩) (by assumption) ?_
    try simp only [Act.put, List.setIfInBounds_toArray, List.set_cons_zero, List.set_cons_succ]
    refine wpAnyH_take (i := 9) (v := ?_) (by rw [List.getElem?_toArray]; exact rfl) (by kernel_rfl) (by kernel_rfl) (by kernel_rfl) (by exact fun _ _ _ h => h) (Or.inl ⟨by rfl, (by intro W hSw; obtain ⟨o0, o1, o2, o3, o4, o5, o6, o7, o8, o9, o10⟩ := hSw; go_simp <;> with_reducible rfl)⟩) (by assumption) ?_
    try simp only [Act.put, List.setIfInBounds_toArray, List.set_cons_zero, List.set_cons_succ]
    refine wpAnyH_take (i := 13) (v := ?_) (by rw [List.getElem?_toArray]; exact rfl) (by kernel_rfl) (by kernel_rfl) (by kernel_rfl) (by exact fun _ _ _ h => h) (Or.inl ⟨by rfl, (by intro W hSw; obtain ⟨o0, o1, o2, o3, o4, o5, o6, o7, o8, o9, o10⟩ := hSw; go_simp <;> with_reducible rfl)⟩) (by assumption) ?_
    try simp only [Act.put, List.setIfInBounds_toArray, List.set_cons_zero, List.set_cons_succ]
    refine wpAnyH_take (i := 14) (v := ?_) (by rw [List.getElem?_toArray]; exact rfl) (by kernel_rfl) (by kernel_rfl) (by kernel_rfl) (by exact fun _ _ _ h => h) (Or.inl ⟨by rfl, (by intro W hSw; obtain ⟨o0, o1, o2, o3, o4, o5, o6, o7, o8, o9, o10⟩ := hSw; go_simp <;> with_reducible rfl)⟩) (by assumption) ?_
    try simp only [Act.put, List.setIfInBounds_toArray, List.set_cons_zero, List.set_cons_succ]
    refine wpAnyH_take (i := 18) (v := ?_) (by rw [List.getElem?_toArray]; exact rfl) (by kernel_rfl) (by kernel_rfl) (by kernel_rfl) (by exact fun _ _ _ h => h) (Or.inl ⟨by rfl, (by intro W hSw; obtain ⟨o0, o1, o2, o3, o4, o5, o6, o7, o8, o9, o10⟩ := hSw; go_simp <;> with_reducible rfl)⟩) (by assumption) ?_
    try simp only [Act.put, List.setIfInBounds_toArray, List.set_cons_zero, List.set_cons_succ]
    refine wpAnyH_take (i := 19) (v := ?_) (by rw [List.getElem?_toArray]; exact rfl) (by kernel_rfl) (by kernel_rfl) (by kernel_rfl) (by exact fun _ _ _ h => h) (Or.inl ⟨by rfl, (by intro W hSw; obtain ⟨o0, o1, o2, o3, o4, o5, o6, o7, o8, o9, o10⟩ := hSw; go_simp <;> with_reducible rfl)⟩) (by assumption) ?_
    try simp only [Act.put, List.setIfInBounds_toArray, List.set_cons_zero, List.set_cons_succ]
    refine wpAnyH_take (i := 23) (v := ?_) (by rw [List.getElem?_toArray]; exact rfl) (by kernel_rfl) (by kernel_rfl) (by kernel_rfl) (by exact fun _ _ _ h => h) (Or.inl ⟨by rfl, (by intro W hSw; obtain ⟨o0, o1, o2, o3, o4, o5, o6, o7, o8, o9, o10⟩ := hSw; go_simp <;> with_reducible rfl)⟩) (by assumption) ?_
    try simp only [Act.put, List.setIfInBounds_toArray, List.set_cons_zero, List.set_cons_succ]
    refine wpAnyH_take (i := 24) (v := ?_) (by rw [List.getElem?_toArray]; exact rfl) (by kernel_rfl) (by kernel_rfl) (by kernel_rfl) (by exact fun _ _ _ h => h) (Or.inl ⟨by rfl, (by intro W hSw; obtain ⟨o0, o1, o2, o3, o4, o5, o6, o7, o8, o9, o10⟩ := hSw; go_simp <;> with_reducible rfl)⟩) (by assumption) ?_
    try simp only [Act.put, List.setIfInBounds_toArray, List.set_cons_zero, List.set_cons_succ]
    refine wpAnyH_take (i := 28) (v := ?_) (by rw [List.getElem?_toArray]; exact rfl) (by kernel_rfl) (by kernel_rfl) (by kernel_rfl) (by exact fun _ _ _ h => h) (Or.inl ⟨by rfl, (by intro W hSw; obtain ⟨o0, o1, o2, o3, o4, o5, o6, o7, o8, o9, o10⟩ := hSw; go_simp <;> with_reducible rfl)⟩) (by assumption) ?_
    try simp only [Act.put, List.setIfInBounds_toArray, List.set_cons_zero, List.set_cons_succ]
    refine wpAnyH_take (i := 29) (v := ?_) (by rw [List.getElem?_toArray]; exact rfl) (by kernel_rfl) (by kernel_rfl) (by kernel_rfl) (by exact fun _ _ _ h => h) (Or.inl ⟨by rfl, (by intro W hSw; obtain ⟨o0, o1, o2, o3, o4, o5, o6, o7, o8, o9, o10⟩ := hSw; go_simp <;> with_reducible rfl)⟩) (by assumption) ?_
    try simp only [Act.put, List.setIfInBounds_toArray, List.set_cons_zero, List.set_cons_succ]
    refine wpAnyH_take (i := 33) (v := ?_) (by rw [List.getElem?_toArray]; exact rfl) (by kernel_rfl) (by kernel_rfl) (by kernel_rfl) (by exact fun _ _ _ h => h) (Or.inl ⟨by rfl, (by intro W hSw; obtain ⟨o0, o1, o2, o3, o4, o5, o6, o7, o8, o9, o10⟩ := hSw; go_simp <;> with_reducible rfl)⟩) (by assumption) ?_
    try simp only [Act.put, List.setIfInBounds_toArray, List.set_cons_zero, List.set_cons_succ]
    refine wpAnyH_take (i := 36) (v := ?_) (by rw [List.getElem?_toArray]; exact rfl) (by kernel_rfl) (by kernel_rfl) (by kernel_rfl) (by exact fun _ _ _ h => h) (Or.inl ⟨by rfl, (by intro W hSw; obtain ⟨o0, o1, o2, o3, o4, o5, o6, o7, o8, o9, o10⟩ := hSw; go_simp <;> with_reducible rfl)⟩) (by assumption) ?_
    try simp only [Act.put, List.setIfInBounds_toArray, List.set_cons_zero, List.set_cons_succ]
    refine wpAnyH_take (i := 37) (v := ?_) (by rw [List.getElem?_toArray]; exact rfl) (by kernel_rfl) (by kernel_rfl) (by kernel_rfl) (by exact fun _ _ _ h => h) (Or.inl ⟨by rfl, (by intro W hSw; obtain ⟨o0, o1, o2, o3, o4, o5, o6, o7, o8, o9, o10⟩ := hSw; go_simp <;> with_reducible rfl)⟩) (by assumption) ?_
    try simp only [Act.put, List.setIfInBounds_toArray, List.set_cons_zero, List.set_cons_succ]
    refine wpAnyH_ready (rs := [5]) (by kernel_rfl) (by simp) (AllReadyH.cons (by rw [List.getElem?_toArray]; exact rfl) (fun K9 hK9 => ?_) AllReadyH.nil)
    go_simp
    refine (E1.out _).mono ?_
    rintro e9 x9 ⟨rfl, kk⟩
    have JA := Lib.hid (JA.out.trans kk)
    clear kk
    refine hK9.out _ _ (HC.out _ JA.out) (fun hHeld1 => ?_)
    clear hK9 K9
    try simp only [Act.put, List.setIfInBounds_toArray, List.set_cons_zero, List.set_cons_succ]
    refine wpAnyH_take (i := 6) (v := ?_) (by rw [List.getElem?_toArray]; exact rfl) (by kernel_rfl) (by kernel_rfl) (by kernel_rfl) (by exact fun _ _ _ h => h) (Or.inl ⟨by rfl, (by intro W hSw; obtain ⟨o0, o1, o2, o3, o4, o5, o6, o7, o8, o9, o10⟩ := hSw; go_simp <;> with_reducible rfl)⟩) (by assumption) ?_
    try simp only [Act.put, List.setIfInBounds_toArray, List.set_cons_zero, List.set_cons_succ]
    refine wpAnyH_take (i := 7) (v := ?_) (by rw [List.getElem?_toArray]; exact rfl) (by kernel_rfl) (by kernel_rfl) (by kernel_rfl) (by exact fun _ _ _ h => h) (Or.inl ⟨by rfl, (by intro W hSw; obtain ⟨o0, o1, o2, o3, o4, o5, o6, o7, o8, o9, o10⟩ := hSw; go_simp <;> with_reducible rfl)⟩) (by assumption) ?_
    try simp only [Act.put, List.setIfInBounds_toArray, List.set_cons_zero, List.set_cons_succ]
    refine wpAnyH_ready (rs := [10]) (by kernel_rfl) (by simp) (AllReadyH.cons (by rw [List.getElem?_toArray]; exact rfl) (fun K9 hK9 => ?_) AllReadyH.nil)
    go_simp
    refine (E2.out _).mono ?_
    rintro e9 x9 ⟨rfl, kk⟩
    have JA := Lib.hid (JA.out.trans kk)
    clear kk
    refine hK9.out _ _ (HC.out _ JA.out) (fun hHeld2 => ?_)
    clear hK9 K9
    try simp only [Act.put, List.setIfInBounds_toArray, List.set_cons_zero, List.set_cons_succ]
    refine wpAnyH_take (i := 11) (v := ?_) (by rw [List.getElem?_toArray]; exact rfl) (by kernel_rfl) (by kernel_rfl) (by kernel_rfl) (by exact fun _ _ _ h => h) (Or.inl ⟨by rfl, (by intro W hSw; obtain ⟨o0, o1, o2, o3, o4, o5, o6, o7, o8, o9, o10⟩ := hSw; go_simp <;> with_reducible rfl)⟩) (by assumption) ?_
    try simp only [Act.put, List.setIfInBounds_toArray, List.set_cons_zero, List.set_cons_succ]
    refine wpAnyH_take (i := 12) (v := ?_) (by rw [List.getElem?_toArray]; exact rfl) (by kernel_rfl) (by kernel_rfl) (by kernel_rfl) (by exact fun _ _ _ h => h) (Or.inl ⟨by rfl, (by intro W hSw; obtain ⟨o0, o1, o2, o3, o4, o5, o6, o7, o8, o9, o10⟩ := hSw; go_simp <;> with_reducible rfl)⟩) (by assumption) ?_
    try simp only [Act.put, List.setIfInBounds_toArray, List.set_cons_zero, List.set_cons_succ]
    refine wpAnyH_ready (rs := [15]) (by kernel_rfl) (by simp) (AllReadyH.cons (by rw [List.getElem?_toArray]; exact rfl) (fun K9 hK9 => ?_) AllReadyH.nil)
    go_simp
    refine (E3.out _ JA.out).mono ?_
    rintro e9 x9 ⟨rfl, kk⟩
    have JA := Lib.hid (JA.out.trans kk)
    clear kk
    refine hK9.out _ _ (HC.out _ JA.out) (fun hHeld3 => ?_)
    clear hK9 K9
    try simp only [Act.put, List.setIfInBounds_toArray, List.set_cons_zero, List.set_cons_succ]
    refine wpAnyH_take (i := 16) (v := ?_) (by rw [List.getElem?_toArray]; exact rfl) (by kernel_rfl) (by kernel_rfl) (by kernel_rfl) (by exact fun _ _ _ h => h) (Or.inl ⟨by rfl, (by intro W hSw; obtain ⟨o0, o1, o2, o3, o4, o5, o6, o7, o8, o9, o10⟩ := hSw; go_simp <;> with_reducible rfl)⟩) (by assumption) ?_
    try simp only [Act.put, List.setIfInBounds_toArray, List.set_cons_zero, List.set_cons_succ]
    refine wpAnyH_take (i := 17) (v := ?_) (by rw [List.getElem?_toArray]; exact rfl) (by kernel_rfl) (by kernel_rfl) (by kernel_rfl) (by exact fun _ _ _ h => h) (Or.inl ⟨by rfl, (by intro W hSw; obtain ⟨o0, o1, o2, o3, o4, o5, o6, o7, o8, o9, o10⟩ := hSw; go_simp <;> with_reducible rfl)⟩) (by assumption) ?_
    try simp only [Act.put, List.setIfInBounds_toArray, List.set_cons_zero, List.set_cons_succ]
    refine wpAnyH_ready (rs := [20]) (by kernel_rfl) (by simp) (AllReadyH.cons (by rw [List.getElem?_toArray]; exact rfl) (fun K9 hK9 => ?_) AllReadyH.nil)
    go_simp
    refine (E4.out _ JA.out).mono ?_
    rintro e9 x9 ⟨rfl, kk⟩
    have JA := Lib.hid (JA.out.trans kk)
    clear kk
    refine hK9.out _ _ (HC.out _ JA.out) (fun hHeld4 => ?_)
    clear hK9 K9
    try simp only [Act.put, List.setIfInBounds_toArray, List.set_cons_zero, List.set_cons_succ]
    refine wpAnyH_take (i := 21) (v := ?_) (by rw [List.getElem?_toArray]; exact rfl) (by kernel_rfl) (by kernel_rfl) (by kernel_rfl) (by exact fun _ _ _ h => h) (Or.inl ⟨by rfl, (by intro W hSw; obtain ⟨o0, o1, o2, o3, o4, o5, o6, o7, o8, o9, o10⟩ := hSw; go_simp <;> with_reducible rfl)⟩) (by assumption) ?_
    try simp only [Act.put, List.setIfInBounds_toArray, List.set_cons_zero, List.set_cons_succ]
    refine wpAnyH_take (i := 22) (v := ?_) (by rw [List.getElem?_toArray]; exact rfl) (by kernel_rfl) (by kernel_rfl) (by kernel_rfl) (by exact fun _ _ _ h => h) (Or.inl ⟨by rfl, (by intro W hSw; obtain ⟨o0, o1, o2, o3, o4, o5, o6, o7, o8, o9, o10⟩ := hSw; go_simp <;> with_reducible rfl)⟩) (by assumption) ?_
    try simp only [Act.put, List.setIfInBounds_toArray, List.set_cons_zero, List.set_cons_succ]
    refine wpAnyH_ready (rs := [25]) (by kernel_rfl) (by simp) (AllReadyH.cons (by rw [List.getElem?_toArray]; exact rfl) (fun K9 hK9 => ?_) AllReadyH.nil)
    go_simp
    refine (E5.out _ JA.out).mono ?_
    rintro e9 x9 ⟨rfl, kk⟩
    have JA := Lib.hid (JA.out.trans kk)
    clear kk
    refine hK9.out _ _ (HC.out _ JA.out) (fun hHeld5 => ?_)
    clear hK9 K9
    try simp only [Act.put, List.setIfInBounds_toArray, List.set_cons_zero, List.set_cons_succ]
    refine wpAnyH_take (i := 26) (v := ?_) (by rw [List.getElem?_toArray]; exact rfl) (by kernel_rfl) (by kernel_rfl) (by kernel_rfl) (by exact fun _ _ _ h => h) (Or.inl ⟨by rfl, (by intro W hSw; obtain ⟨o0, o1, o2, o3, o4, o5, o6, o7, o8, o9, o10⟩ := hSw; go_simp <;> with_reducible rfl)⟩) (by assumption) ?_
    try simp only [Act.put, List.setIfInBounds_toArray, List.set_cons_zero, List.set_cons_succ]
    refine wpAnyH_take (i := 27) (v := ?_) (by rw [List.getElem?_toArray]; exact rfl) (by kernel_rfl) (by kernel_rfl) (by kernel_rfl) (by exact fun _ _ _ h => h) (Or.inl ⟨by rfl, (by intro W hSw; obtain ⟨o0, o1, o2, o3, o4, o5, o6, o7, o8, o9, o10⟩ := hSw; go_simp <;> with_reducible rfl)⟩) (by assumption) ?_
    try simp only [Act.put, List.setIfInBounds_toArray, List.set_cons_zero, List.set_cons_succ]
    refine wpAnyH_ready (rs := [30]) (by kernel_rfl) (by simp) (AllReadyH.cons (by rw [List.getElem?_toArray]; exact rfl) (fun K9 hK9 => ?_) AllReadyH.nil)
    go_simp
    refine (E6.out _ JA.out).mono ?_
    rintro e9 x9 ⟨rfl, kk⟩
    have JA := Lib.hid (JA.out.trans kk)
    clear kk
    refine hK9.out _ _ (HC.out _ JA.out) (fun hHeld6 => ?_)
    clear hK9 K9
    try simp only [Act.put, List.setIfInBounds_toArray, List.set_cons_zero, List.set_cons_succ]
    refine wpAnyH_take (i := 31) (v := ?_) (by rw [List.getElem?_toArray]; exact rfl) (by kernel_rfl) (by kernel_rfl) (by kernel_rfl) (by exact fun _ _ _ h => h) (Or.inl ⟨by rfl, (by intro W hSw; obtain ⟨o0, o1, o2, o3, o4, o5, o6, o7, o8, o9, o10⟩ := hSw; go_simp <;> with_reducible rfl)⟩) (by assumption) ?_
    try simp only [Act.put, List.setIfInBounds_toArray, List.set_cons_zero, List.set_cons_succ]
    refine wpAnyH_take (i := 32) (v := ?_) (by rw [List.getElem?_toArray]; exact rfl) (by kernel_rfl) (by kernel_rfl) (by kernel_rfl) (by exact fun _ _ _ h => h) (Or.inl ⟨by rfl, (by intro W hSw; obtain ⟨o0, o1, o2, o3, o4, o5, o6, o7, o8, o9, o10⟩ := hSw; go_simp <;> with_reducible rfl)⟩) (by assumption) ?_
    try simp only [Act.put, List.setIfInBounds_toArray, List.set_cons_zero, List.set_cons_succ]
    refine wpAnyH_take (i := 34) (v := ?_) (by rw [List.getElem?_toArray]; exact rfl) (by kernel_rfl) (by kernel_rfl) (by kernel_rfl) (by exact fun _ _ _ h => h) (Or.inl ⟨by rfl, (by intro W hSw; obtain ⟨o0, o1, o2, o3, o4, o5, o6, o7, o8, o9, o10⟩ := hSw; go_simp <;> with_reducible rfl)⟩) (by assumption) ?_
    try simp only [Act.put, List.setIfInBounds_toArray, List.set_cons_zero, List.set_cons_succ]
    refine wpAnyH_take (i := 35) (v := ?_) (by rw [List.getElem?_toArray]; exact rfl) (by kernel_rfl) (by kernel_rfl) (by kernel_rfl) (by exact fun _ _ _ h => h) (Or.inl ⟨by rfl, (by intro W hSw; obtain ⟨o0, o1, o2, o3, o4, o5, o6, o7, o8, o9, o10⟩ := hSw; go_simp <;> with_reducible rfl)⟩) (by assumption) ?_
    try simp only [Act.put, List.setIfInBounds_toArray, List.set_cons_zero, List.set_cons_succ]
    refine wpAnyH_ready (rs := [38]) (by kernel_rfl) (by simp) (AllReadyH.cons (by rw [List.getElem?_toArray]; exact rfl) (fun K9 hK9 => ?_) AllReadyH.nil)
    go_simp
    refine (E8.out _).mono ?_
    rintro e9 x9 ⟨rfl, kk⟩
    have JA := Lib.hid (JA.out.trans kk)
    clear kk
    refine hK9.out _ _ (HC.out _ JA.out) (fun hHeld7 => ?_)
    clear hK9 K9
    try simp only [Act.put, List.setIfInBounds_toArray, List.set_cons_zero, List.set_cons_succ]
    refine wpAnyH_take (i := 39) (v := ?_) (by rw [List.getElem?_toArray]; exact rfl) (by kernel_rfl) (by kernel_rfl) (by kernel_rfl) (by exact fun _ _ _ h => h) (Or.inl ⟨by rfl, (by intro W hSw; obtain ⟨o0, o1, o2, o3, o4, o5, o6, o7, o8, o9, o10⟩ := hSw; go_simp <;> with_reducible rfl)⟩) (by assumption) ?_
    try simp only [Act.put, List.setIfInBounds_toArray, List.set_cons_zero, List.set_cons_succ]
    refine wpAnyH_take (i := 40) (v := ?_) (by rw [List.getElem?_toArray]; exact rfl) (by kernel_rfl) (by kernel_rfl) (by kernel_rfl) (by exact fun _ _ _ h => h) (Or.inl ⟨by rfl, (by intro W hSw; obtain ⟨o0, o1, o2, o3, o4, o5, o6, o7, o8, o9, o10⟩ := hSw; go_simp <;> with_reducible rfl)⟩) (by assumption) ?_
    try simp only [Act.put, List.setIfInBounds_toArray, List.set_cons_zero, List.set_cons_succ]
    refine wpAnyH_done (by kernel_rfl) ?_ _
    obtain ⟨o0, o1, o2, o3, o4, o5, o6, o7, o8, o9, o10⟩ := HC.out _ JA.out
    cases x6 with
    | true =>
      have HW := Lib.hid (HV0.out.trans (kind_hold _))
      go_wp2
      go_ret
      exact ⟨ret_str HW.out.symm, HK0.out.trans JA.out⟩
    | false =>
      have HW := Lib.hid (HV0.out.trans (kind_real _))
      go_wp2
      go_ret
      exact ⟨ret_str HW.out.symm, HK0.out.trans JA.out⟩
theorem rtextPdR {v : Value} {n : Pd} {t : ByteArray} {w : World} (h : PodR w v n) (hf : fewPd n = true) (ho : ∀ x ∈ n.sel, 1 ≤ x.1 ∧ x.1 ≤ 4) (ht : textPd n = t) : Calls Tryz.prog 21 #[v] w (Say (.string t) w) := by
  subst ht
  obtain ⟨v1, v2, v3, v4, rfl, h⟩ := h
  exact rtextPd_any n v1 v2 v3 v4 w h hf ho

end Go.Proofs.YtflllkpnkcmegaaGreatDoor
