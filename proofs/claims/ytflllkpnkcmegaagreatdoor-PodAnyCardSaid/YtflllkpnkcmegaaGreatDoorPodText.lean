/- A pod in words. -/
import Derived.Test.YtflllkpnkcmegaaGreatDoorPodBase
import Derived.Test.YtflllkpnkcmegaaGreatDoorNodShort
import Derived.Test.YtflllkpnkcmegaaGreatDoorBase
import Derived.Test.YtflllkpnkcmegaaGreatDoorTai
namespace Go.Proofs.YtflllkpnkcmegaaGreatDoor
open Go.RowKit
set_option linter.unusedVariables false

def optT (x : ByteArray) : ByteArray := if isNo x = true then ⟨#[45]⟩ else x
def spreadT (k : ByteArray) (m : Int) : ByteArray := if isNo k = true then ⟨#[45]⟩ else k ++ ⟨#[47]⟩ ++ bytes (Lib.itoa m)
def kindW (b : Bool) : ByteArray := if b = true then ⟨#[104, 111, 108, 100]⟩ else ⟨#[114, 101, 97, 108]⟩
def wordsT (n : Pd) : List ByteArray := [n.name, optT n.owner, bytes (Lib.itoa n.prio), bytes (Vec.textV n.need), textS n.labels, textL n.sel, textO n.tols, spreadT n.key n.most, optT n.node, kindW n.hold]
def textPd (n : Pd) : ByteArray := ⟨(Lib.join ((wordsT n).map (·.data.toList)) [32]).toArray⟩
/-- Is it short? -/
def fewPd (n : Pd) : Bool := decide (n.name.size ≤ 50) && (decide (n.owner.size ≤ 50) && (decide (n.key.size ≤ 50) && (decide (n.node.size ≤ 50) && (Vec.fewV n.need && (fewS n.labels && (fewL n.sel && fewN n.tols))))))
theorem fewPd_parts {n : Pd} (h : fewPd n = true) : n.name.size ≤ 50 ∧ n.owner.size ≤ 50 ∧ n.key.size ≤ 50 ∧ n.node.size ≤ 50 ∧ Vec.fewV n.need = true ∧ fewS n.labels = true ∧ fewL n.sel = true ∧ fewN n.tols = true := by
  unfold fewPd at h
  simpa only [Bool.and_eq_true, decide_eq_true_eq] using h
theorem textL_few {l : TL} (h : fewL l = true) : (textL l).size ≤ 5000 := by
  obtain ⟨h1, h2⟩ := fewL_parts h
  unfold textL
  split
  · decide
  · have := joinB_short (ts := l.map termB) (B := 101) (fun z hz => by
      obtain ⟨x, hx, rfl⟩ := List.mem_map.1 hz
      have := h2 x hx
      have e1 : (⟨#[58]⟩ : ByteArray).size = 1 := rfl
      have e2 : (⟨#[33]⟩ : ByteArray).size = 1 := rfl
      have e3 : (⟨#[45]⟩ : ByteArray).size = 1 := rfl
      unfold termB
      split
      · rw [ByteArray.size_append, ByteArray.size_append]; omega
      · split
        · rw [ByteArray.size_append, ByteArray.size_append]; omega
        · split
          · rw [ByteArray.size_append]; omega
          · omega)
    rw [List.length_map] at this
    omega
theorem star_size {x : ByteArray} (h : x.size ≤ 50) : (starB x).size ≤ 50 := by
  unfold starB
  split
  · exact (by decide : (⟨#[42]⟩ : ByteArray).size ≤ 50)
  · exact h
theorem textO_few {l : NL} (h : fewN l = true) : (textO l).size ≤ 5000 := by
  obtain ⟨h1, h2⟩ := few_mid h
  unfold textO
  split
  · decide
  · have := joinB_short (ts := l.map tolB) (B := 101) (fun z hz => by
      obtain ⟨x, hx, rfl⟩ := List.mem_map.1 hz
      have := h2 x hx
      have hs := star_size this.1
      have e1 : (⟨#[58]⟩ : ByteArray).size = 1 := rfl
      unfold tolB
      split
      · omega
      · rw [ByteArray.size_append, ByteArray.size_append]; omega)
    rw [List.length_map] at this
    omega
theorem optT_size {x : ByteArray} (h : x.size ≤ 50) : (optT x).size ≤ 50 := by
  unfold optT
  split
  · exact (by decide : (⟨#[45]⟩ : ByteArray).size ≤ 50)
  · exact h
theorem spreadT_size {k : ByteArray} {m : Int} (h : k.size ≤ 50) (h0 : -9223372036854775808 ≤ m) (h1 : m ≤ 9223372036854775807) : (spreadT k m).size ≤ 100 := by
  have hi := Lib.itoa_length_le m h0 h1
  have e : (bytes (Lib.itoa m)).size = (Lib.itoa m).length := bytes_size _
  have e1 : (⟨#[47]⟩ : ByteArray).size = 1 := rfl
  unfold spreadT
  split
  · exact (by decide : (⟨#[45]⟩ : ByteArray).size ≤ 100)
  · rw [ByteArray.size_append, ByteArray.size_append]; omega
theorem kindW_size (b : Bool) : (kindW b).size ≤ 4 := by cases b <;> decide
theorem join_ten (a b c d e f g h i j : ByteArray) : (⟨(Lib.join ([a, b, c, d, e, f, g, h, i, j].map (·.data.toList)) [32]).toArray⟩ : ByteArray) = a ++ ⟨#[32]⟩ ++ b ++ ⟨#[32]⟩ ++ c ++ ⟨#[32]⟩ ++ d ++ ⟨#[32]⟩ ++ e ++ ⟨#[32]⟩ ++ f ++ ⟨#[32]⟩ ++ g ++ ⟨#[32]⟩ ++ h ++ ⟨#[32]⟩ ++ i ++ ⟨#[32]⟩ ++ j := by
  apply Go.WideShapes.bytes_inj
  simp [Lib.join, List.intercalate, ByteArray.data_append]
theorem textPd_size {n : Pd} (h : fewPd n = true) (hv : Vec.Fine n.need) (hp : -9223372036854775808 ≤ n.prio ∧ n.prio ≤ 9223372036854775807) (hm : -9223372036854775808 ≤ n.most ∧ n.most ≤ 9223372036854775807) : (textPd n).size ≤ 900000 := by
  obtain ⟨h1, h2, h3, h4, h5, h6, h7, h8⟩ := fewPd_parts h
  have a1 := optT_size h2
  have a2 := optT_size h4
  have a3 := textV_few h5 hv
  have a4 := textS_short h6
  have a5 := textL_few h7
  have a6 := textO_few h8
  have a7 := spreadT_size h3 hm.1 hm.2
  have a8 := kindW_size n.hold
  have a9 := Lib.itoa_length_le n.prio hp.1 hp.2
  have e : (bytes (Vec.textV n.need)).size = (Vec.textV n.need).length := bytes_size _
  have e2 : (bytes (Lib.itoa n.prio)).size = (Lib.itoa n.prio).length := bytes_size _
  unfold textPd wordsT
  rw [join_ten]
  simp only [ByteArray.size_append, one_size]
  omega

theorem itoa_any (n : Int) (w : World) (hE : Vec.EnvT w) (h0 : -9223372036854775808 ≤ n) (h1 : n ≤ 9223372036854775807) :
    Calls Tryz.prog 79 #[.int .i64 n] w fun e w' => e = .returned (.string (bytes (Lib.itoa n))) ∧ Kept w w' := by
  refine (Tryz.strconv_Itoa n h0 h1 w hE.tab).mono ?_
  rintro e w' ⟨rfl, k, os, rfl⟩
  exact ⟨rfl, Lib.below_grow _ _ (Nat.le_refl _) _ _⟩
theorem optT_any (x : ByteArray) (w : World) : Calls Tryz.prog 78 #[.string x] w fun e w' => e = .returned (.string (optT x)) ∧ w = w' := by
  obtain ⟨q, hq⟩ : ∃ q, (x.toList == ([] : List UInt8)) = q := ⟨_, rfl⟩
  have HV := Lib.hid (show optT x = if q = true then ⟨#[45]⟩ else x by unfold optT; rw [no_iff, hq])
  cases q <;>
  (go_enter Tryz.func78, Tryz.ntmps78
   go_wp2
   go_ret
   exact ⟨ret_str HV.out.symm, rfl⟩)
theorem kindW_any (b : Bool) (w : World) : Calls Tryz.prog 85 #[.bool b] w fun e w' => e = .returned (.string (kindW b)) ∧ w = w' := by
  cases b <;>
  (go_enter Tryz.func85, Tryz.ntmps85
   go_wp2
   go_ret
   exact ⟨rfl, rfl⟩)
theorem spreadT_any (k : ByteArray) (m : Int) (w : World) (hE : Vec.EnvT w) (hk : k.size ≤ 50) (h0 : -9223372036854775808 ≤ m) (h1 : m ≤ 9223372036854775807) : Calls Tryz.prog 84 #[.string k, .int .i64 m] w fun e w' => e = .returned (.string (spreadT k m)) ∧ Kept w w' := by
  obtain ⟨q, hq⟩ : ∃ q, (k.toList == ([] : List UInt8)) = q := ⟨_, rfl⟩
  have HV := Lib.hid (show spreadT k m = if q = true then ⟨#[45]⟩ else k ++ ⟨#[47]⟩ ++ bytes (Lib.itoa m) by unfold spreadT; rw [no_iff, hq])
  have HI := Lib.hid (itoa_any m w hE h0 h1)
  have hi := Lib.itoa_length_le m h0 h1
  have e : (bytes (Lib.itoa m)).size = (Lib.itoa m).length := bytes_size _
  have hsz : (bytes (Lib.itoa m)).size ≤ 100 := by rw [e]; omega
  obtain ⟨t, ht⟩ : ∃ t, bytes (Lib.itoa m) = t := ⟨_, rfl⟩
  rw [ht] at HI HV hsz
  clear hE e hi ht
  cases q with
  | true =>
    go_enter Tryz.func84, Tryz.ntmps84
    go_wp2
    go_ret
    exact ⟨ret_str HV.out.symm, Kept.refl _⟩
  | false =>
    have s1 : k.size + (⟨#[47]⟩ : ByteArray).size ≤ 140737488355328 := by have : (⟨#[47]⟩ : ByteArray).size = 1 := rfl; omega
    have s2 : (k ++ (⟨#[47]⟩ : ByteArray)).size + t.size ≤ 140737488355328 := by have : (⟨#[47]⟩ : ByteArray).size = 1 := rfl; rw [ByteArray.size_append]; omega
    go_enter Tryz.func84, Tryz.ntmps84
    go_wp2_with fail
    refine HI.out.mono ?_
    rintro e w' ⟨rfl, k1⟩
    have K := Lib.hid k1
    clear k1
    go_wp2
    go_ret
    exact ⟨ret_str HV.out.symm, K.out⟩
theorem ten_cells (W : World) (a0 a1 a2 a3 a4 a5 a6 a7 a8 a9 : ByteArray) (T : TypeId) (i : Nat) (z : ByteArray) (hi : ([a0, a1, a2, a3, a4, a5, a6, a7, a8, a9] : List ByteArray)[i]? = some z) :
    (W.alloc (.cells #[.string a0, .string a1, .string a2, .string a3, .string a4, .string a5, .string a6, .string a7, .string a8, .string a9] T)).cell? ⟨W.heap.size, i, none⟩ = some (.string z) := by
  refine (freshN W (.string a0) [.string a1, .string a2, .string a3, .string a4, .string a5, .string a6, .string a7, .string a8, .string a9] T _ (Kept.refl _)).at_ i _ ?_
  match i, hi with
  | 0, h => simpa using h
  | 1, h => simpa using h
  | 2, h => simpa using h
  | 3, h => simpa using h
  | 4, h => simpa using h
  | 5, h => simpa using h
  | 6, h => simpa using h
  | 7, h => simpa using h
  | 8, h => simpa using h
  | 9, h => simpa using h
  | j + 10, h => simp at h
set_option maxRecDepth 100000 in
set_option maxHeartbeats 4000000 in
theorem textPd_any (n : Pd) (v1 v2 v3 v4 : Value) (w : World) (hE : Vec.EnvT w) (h : PodAt w v1 v2 v3 v4 n) (hf : fewPd n = true) :
    Calls Tryz.prog 20 #[PodV n v1 v2 v3 v4] w (Say (.string (textPd n)) w) := by
  obtain ⟨x0, x1, x2, l1, l2, l3, l4, x3, x4, x5, x6⟩ := n
  have hsz := textPd_size hf h.need.fine h.prio h.most
  obtain ⟨f1, f2, f3, f4, f5, f6, f7, f8⟩ := fewPd_parts hf
  have g6 := fewS_parts f6
  have g7 := fewL_parts f7
  have g8 := few_mid f8
  dsimp only at f1 f2 f3 f4 f5 f6 f7 f8 g6 g7 g8
  obtain ⟨W0, hW0⟩ : ∃ W0, w.alloc (.cells #[.string x0, .string x1, .int .i64 x2, v1, v2, v3, v4, .string x3, .int .i64 x4, .string x5, .bool x6] 30) = W0 := ⟨_, rfl⟩
  have hk0 : Kept w W0 := by rw [← hW0]; exact kept_alloc _ _
  have HC := Lib.hid (show ∀ W, Kept W0 W → W.cell? ⟨w.heap.size, 0, none⟩ = some (.string x0) ∧ W.cell? ⟨w.heap.size, 1, none⟩ = some (.string x1) ∧ W.cell? ⟨w.heap.size, 2, none⟩ = some (.int .i64 x2) ∧ W.cell? ⟨w.heap.size, 3, none⟩ = some (v1) ∧ W.cell? ⟨w.heap.size, 4, none⟩ = some (v2) ∧ W.cell? ⟨w.heap.size, 5, none⟩ = some (v3) ∧ W.cell? ⟨w.heap.size, 6, none⟩ = some (v4) ∧ W.cell? ⟨w.heap.size, 7, none⟩ = some (.string x3) ∧ W.cell? ⟨w.heap.size, 8, none⟩ = some (.int .i64 x4) ∧ W.cell? ⟨w.heap.size, 9, none⟩ = some (.string x5) ∧ W.cell? ⟨w.heap.size, 10, none⟩ = some (.bool x6) from fun W k => by
    have c := freshN w (.string x0) [.string x1, .int .i64 x2, v1, v2, v3, v4, .string x3, .int .i64 x4, .string x5, .bool x6] 30 W (by rw [hW0]; exact k)
    exact ⟨c.at_ 0 _ rfl, c.at_ 1 _ rfl, c.at_ 2 _ rfl, c.at_ 3 _ rfl, c.at_ 4 _ rfl, c.at_ 5 _ rfl, c.at_ 6 _ rfl, c.at_ 7 _ rfl, c.at_ 8 _ rfl, c.at_ 9 _ rfl, c.at_ 10 _ rfl⟩)
  have E1 := Lib.hid (fun W => optT_any x1 W)
  have E2 := Lib.hid (fun W (k : Kept W0 W) => itoa_any x2 W (hE.kept (hk0.trans k)) h.prio.1 h.prio.2)
  have E3 := Lib.hid (fun W (k : Kept W0 W) => Vec.textR (hE.kept (hk0.trans k)) (h.need.kept (hk0.trans k)) f5 rfl)
  have E4 := Lib.hid (fun W (k : Kept W0 W) => textR (h.labels.kept (hk0.trans k)) (fun x hx => ⟨Nat.le_trans (g6.2 x hx).1 (by decide), Nat.le_trans (g6.2 x hx).2 (by decide)⟩) (Nat.le_trans g6.1 (by decide)) rfl)
  have E5 := Lib.hid (fun W (k : Kept W0 W) => selTextR (h.sel.kept (hk0.trans k)) (fun x hx => ⟨Nat.le_trans (g7.2 x hx).1 (by decide), Nat.le_trans (g7.2 x hx).2 (by decide)⟩) (Nat.le_trans g7.1 (by decide)) rfl)
  have E6 := Lib.hid (fun W (k : Kept W0 W) => textOR (h.tols.kept (hk0.trans k)) (fun x hx => ⟨Nat.le_trans (g8.2 x hx).1 (by decide), Nat.le_trans (g8.2 x hx).2 (by decide)⟩) (Nat.le_trans g8.1 (by decide)) rfl)
  have E7 := Lib.hid (fun W (k : Kept W0 W) => spreadT_any x3 x4 W (hE.kept (hk0.trans k)) f3 h.most.1 h.most.2)
  have E8 := Lib.hid (fun W => optT_any x5 W)
  have E9 := Lib.hid (fun W => kindW_any x6 W)
  have HV0 := Lib.hid (show textPd ⟨x0, x1, x2, l1, l2, l3, l4, x3, x4, x5, x6⟩ = ⟨(Lib.join ([x0, optT x1, bytes (Lib.itoa x2), bytes (Vec.textV l1), textS l2, textL l3, textO l4, spreadT x3 x4, optT x5, kindW x6].map (·.data.toList)) [32]).toArray⟩ from rfl)
  obtain ⟨t1, ht1⟩ : ∃ t, optT x1 = t := ⟨_, rfl⟩
  obtain ⟨t2, ht2⟩ : ∃ t, bytes (Lib.itoa x2) = t := ⟨_, rfl⟩
  obtain ⟨t3, ht3⟩ : ∃ t, bytes (Vec.textV l1) = t := ⟨_, rfl⟩
  obtain ⟨t4, ht4⟩ : ∃ t, textS l2 = t := ⟨_, rfl⟩
  obtain ⟨t5, ht5⟩ : ∃ t, textL l3 = t := ⟨_, rfl⟩
  obtain ⟨t6, ht6⟩ : ∃ t, textO l4 = t := ⟨_, rfl⟩
  obtain ⟨t7, ht7⟩ : ∃ t, spreadT x3 x4 = t := ⟨_, rfl⟩
  obtain ⟨t8, ht8⟩ : ∃ t, optT x5 = t := ⟨_, rfl⟩
  obtain ⟨t9, ht9⟩ : ∃ t, kindW x6 = t := ⟨_, rfl⟩
  rw [ht1, ht2, ht3, ht4, ht5, ht6, ht7, ht8, ht9] at HV0
  rw [ht1] at E1
  rw [ht2] at E2
  rw [ht3] at E3
  rw [ht4] at E4
  rw [ht5] at E5
  rw [ht6] at E6
  rw [ht7] at E7
  rw [ht8] at E8
  rw [ht9] at E9
  obtain ⟨RES, hRES⟩ : ∃ R, textPd ⟨x0, x1, x2, l1, l2, l3, l4, x3, x4, x5, x6⟩ = R := ⟨_, rfl⟩
  have HJ := Lib.hid (show (Lib.join ([x0, t1, t2, t3, t4, t5, t6, t7, t8, t9].map (·.data.toList)) [32]).length ≤ 140737488355328 by
    have e : (⟨(Lib.join ([x0, t1, t2, t3, t4, t5, t6, t7, t8, t9].map (·.data.toList)) [32]).toArray⟩ : ByteArray).size = (Lib.join ([x0, t1, t2, t3, t4, t5, t6, t7, t8, t9].map (·.data.toList)) [32]).length := by simp [ByteArray.size]
    rw [← e, ← HV0.out]; omega)
  have HJC := Lib.hid (fun W : World => pjoin_of (Tryz.strings_Join W.heap.size 0 10 [x0, t1, t2, t3, t4, t5, t6, t7, t8, t9] ⟨#[32]⟩ (W.alloc (.cells #[.string x0, .string t1, .string t2, .string t3, .string t4, .string t5, .string t6, .string t7, .string t8, .string t9] 9)) (fun j z hj => (by rw [Nat.zero_add]; exact ten_cells W x0 t1 t2 t3 t4 t5 t6 t7 t8 t9 9 j z hj)) (by simp) (by simp) (by simp) HJ.out))
  rw [← HV0.out, hRES] at HJC
  have HK0 := Lib.hid hk0
  rw [hRES]
  clear ht1 ht2 ht3 ht4 ht5 ht6 ht7 ht8 ht9 hRES HJ HV0 hsz f1 f2 f3 f4 f5 f6 f7 f8 g6 g7 g8 h hE hf hk0
  obtain ⟨c0, c1, c2, c3, c4, c5, c6, c7, c8, c9, c10⟩ := HC.out _ (Kept.refl _)
  unfold PodV
  dsimp only
  go_enter Tryz.func20, Tryz.ntmps20
  go_wp2
  try rw [hW0]
  clear hW0
  go_region_held3 (fun W => W.cell? ⟨w.heap.size, 0, none⟩ = some (.string x0) ∧ W.cell? ⟨w.heap.size, 1, none⟩ = some (.string x1) ∧ W.cell? ⟨w.heap.size, 2, none⟩ = some (.int .i64 x2) ∧ W.cell? ⟨w.heap.size, 3, none⟩ = some (v1) ∧ W.cell? ⟨w.heap.size, 4, none⟩ = some (v2) ∧ W.cell? ⟨w.heap.size, 5, none⟩ = some (v3) ∧ W.cell? ⟨w.heap.size, 6, none⟩ = some (v4) ∧ W.cell? ⟨w.heap.size, 7, none⟩ = some (.string x3) ∧ W.cell? ⟨w.heap.size, 8, none⟩ = some (.int .i64 x4) ∧ W.cell? ⟨w.heap.size, 9, none⟩ = some (.string x5) ∧ W.cell? ⟨w.heap.size, 10, none⟩ = some (.bool x6))
    (first | exact HC.out _ (Kept.drew _) | exact HC.out _ K2.out | exact HC.out _ K3.out | exact HC.out _ K4.out | exact HC.out _ K5.out | exact HC.out _ K6.out | exact HC.out _ K7.out | exact HC.out _ (K7.out.trans (kept_alloc _ _)) | exact HC.out _ K10.out)
    (first | (go_at_call 78; refine (E1.out _).mono ?_; rintro e1 w1 ⟨rfl, rfl⟩)
           | (go_at_call 79; refine (E2.out _ (Kept.drew _)).mono ?_; rintro e2 w2 ⟨rfl, k2⟩; have K2 := Lib.hid ((Kept.drew _).trans k2); clear k2)
           | (go_at_call 80; refine (E3.out _ K2.out).mono ?_; rintro e3 w3 ⟨rfl, k3⟩; have K3 := Lib.hid (K2.out.trans k3); clear k3)
           | (go_at_call 81; refine (E4.out _ K3.out).mono ?_; rintro e4 w4 ⟨rfl, k4⟩; have K4 := Lib.hid (K3.out.trans k4); clear k4)
           | (go_at_call 82; refine (E5.out _ K4.out).mono ?_; rintro e5 w5 ⟨rfl, k5⟩; have K5 := Lib.hid (K4.out.trans k5); clear k5)
           | (go_at_call 83; refine (E6.out _ K5.out).mono ?_; rintro e6 w6 ⟨rfl, k6⟩; have K6 := Lib.hid (K5.out.trans k6); clear k6)
           | (go_at_call 84; refine (E7.out _ K6.out).mono ?_; rintro e7 w7 ⟨rfl, k7⟩; have K7 := Lib.hid (K6.out.trans k7); clear k7)
           | (go_at_call 78; refine (E8.out _).mono ?_; rintro e8 w8 ⟨rfl, rfl⟩)
           | (go_at_call 85; refine (E9.out _).mono ?_; rintro e9 w9 ⟨rfl, rfl⟩)
           | (go_at_call 77; refine (HJC.out _).mono ?_; rintro e10 w10 ⟨rfl, k10⟩; have K10 := Lib.hid ((K7.out.trans (kept_alloc _ _)).trans k10); clear k10))
  go_wp2
  go_ret
  exact ⟨rfl, HK0.out.trans K10.out⟩
theorem textPdR {v : Value} {n : Pd} {t : ByteArray} {w : World} (hE : Vec.EnvT w) (h : PodR w v n) (hf : fewPd n = true) (ht : textPd n = t) : Calls Tryz.prog 20 #[v] w (Say (.string t) w) := by
  subst ht
  obtain ⟨v1, v2, v3, v4, rfl, h⟩ := h
  exact textPd_any n v1 v2 v3 v4 w hE h hf

end Go.Proofs.YtflllkpnkcmegaaGreatDoor
