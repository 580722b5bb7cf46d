/- A pod's text read: parsed. -/
import Derived.Test.YtflllkpnkcmegaaGreatDoorPodWords
import Derived.Test.YtflllkpnkcmegaaGreatDoorNodParsed
import Derived.Test.YtflllkpnkcmegaaGreatDoorBase
import Derived.Deep.RegionHeld3
import Derived.Handy
import Derived.Deep.CutRange
import Derived.Laws.ResultCell
namespace Go.Proofs.YtflllkpnkcmegaaGreatDoor
open Go.RowKit
set_option linter.unusedVariables false

/-- A text says a pod: its ten words, each of its form. -/
def Says (s : List UInt8) (n : Pd) : Prop := ∃ a b c d e f g h i j : List UInt8, partsAt 32 s = [a, b, c, d, e, f, g, h, i, j] ∧ n.name = bytes a ∧ optL b = some n.owner ∧ prioL c = some n.prio ∧ Vec.parseV d = (0, n.need) ∧ parsedP e = (0, n.labels) ∧ parsedT f = (0, n.sel) ∧ parsedO g = (0, n.tols) ∧ spreadL h = some (n.key, n.most) ∧ optL i = some n.node ∧ kindL j = some n.hold
/-- What a call does that makes a pod, or panics. -/
def PodRes (c : Int) (n : Pd) (w : World) (e : Ending) (w' : World) : Prop := (c = 0 → ∃ v, e = .returned v ∧ PodRB w.heap.size w' v n) ∧ (c ≠ 0 → e = .panicked [perr c]) ∧ Kept w w'
theorem PodRes.bad {c : Int} {n : Pd} {w w' : World} (hc : c ≠ 0) (hb : Kept w w') : PodRes c n w (.panicked [perr c]) w' := ⟨fun g => absurd g hc, fun _ => rfl, hb⟩
theorem soundPd_ok (x0 x1 x3 x5 : ByteArray) (x2 x4 : Int) (x6 : Bool) (b1 b2 b3 b4 : Option Addr) (n1 d1 n2 d2 n3 d3 n4 d4 : Nat) (w : World) : Calls Tryz.prog 129 #[.agg #[.string x0, .string x1, .int .i64 x2, .slice b1 n1 d1, .slice b2 n2 d2, .slice b3 n3 d3, .slice b4 n4 d4, .string x3, .int .i64 x4, .string x5, .bool x6], .int .i64 0] w fun e w' => e = .returned (.agg #[.string x0, .string x1, .int .i64 x2, .slice b1 n1 d1, .slice b2 n2 d2, .slice b3 n3 d3, .slice b4 n4 d4, .string x3, .int .i64 x4, .string x5, .bool x6]) ∧ Kept w w' := by
  go_enter Tryz.func129, Tryz.ntmps129
  go_wp2
  go_returns
  exact ⟨rfl, kept_two _ _ _⟩
theorem soundPd_bad (x0 x1 x3 x5 : ByteArray) (x2 x4 : Int) (x6 : Bool) (b1 b2 b3 b4 : Option Addr) (n1 d1 n2 d2 n3 d3 n4 d4 : Nat) (c : Int) (w : World) (h : c ≠ 0) : Calls Tryz.prog 129 #[.agg #[.string x0, .string x1, .int .i64 x2, .slice b1 n1 d1, .slice b2 n2 d2, .slice b3 n3 d3, .slice b4 n4 d4, .string x3, .int .i64 x4, .string x5, .bool x6], .int .i64 c] w fun e w' => e = .panicked [perr c] ∧ Kept w w' := by
  have h3 : (c != 0) = true := by simpa using h
  clear h
  go_enter Tryz.func129, Tryz.ntmps129
  go_wp2
  exact ⟨rfl, rfl, kept_two _ _ _⟩
theorem eleven_past {W : World} {q p : Nat} {c0 c1 c2 c3 c4 c5 c6 c7 c8 c9 c10 u0 u1 u2 u3 u4 u5 u6 u7 u8 u9 u10 : Value} (h : (W).cell? ⟨q, 0, none⟩ = some (c0) ∧ (W).cell? ⟨q, 1, none⟩ = some (c1) ∧ (W).cell? ⟨q, 2, none⟩ = some (c2) ∧ (W).cell? ⟨q, 3, none⟩ = some (c3) ∧ (W).cell? ⟨q, 4, none⟩ = some (c4) ∧ (W).cell? ⟨q, 5, none⟩ = some (c5) ∧ (W).cell? ⟨q, 6, none⟩ = some (c6) ∧ (W).cell? ⟨q, 7, none⟩ = some (c7) ∧ (W).cell? ⟨q, 8, none⟩ = some (c8) ∧ (W).cell? ⟨q, 9, none⟩ = some (c9) ∧ (W).cell? ⟨q, 10, none⟩ = some (c10)) (hne : q ≠ p) :
    ((((((((((((W.setCell ⟨p, 0, none⟩ u0).setCell ⟨p, 1, none⟩ u1).setCell ⟨p, 2, none⟩ u2).setCell ⟨p, 3, none⟩ u3).setCell ⟨p, 4, none⟩ u4).setCell ⟨p, 5, none⟩ u5).setCell ⟨p, 6, none⟩ u6).setCell ⟨p, 7, none⟩ u7).setCell ⟨p, 8, none⟩ u8).setCell ⟨p, 9, none⟩ u9).setCell ⟨p, 10, none⟩ u10)).cell? ⟨q, 0, none⟩ = some (c0) ∧ ((((((((((((W.setCell ⟨p, 0, none⟩ u0).setCell ⟨p, 1, none⟩ u1).setCell ⟨p, 2, none⟩ u2).setCell ⟨p, 3, none⟩ u3).setCell ⟨p, 4, none⟩ u4).setCell ⟨p, 5, none⟩ u5).setCell ⟨p, 6, none⟩ u6).setCell ⟨p, 7, none⟩ u7).setCell ⟨p, 8, none⟩ u8).setCell ⟨p, 9, none⟩ u9).setCell ⟨p, 10, none⟩ u10)).cell? ⟨q, 1, none⟩ = some (c1) ∧ ((((((((((((W.setCell ⟨p, 0, none⟩ u0).setCell ⟨p, 1, none⟩ u1).setCell ⟨p, 2, none⟩ u2).setCell ⟨p, 3, none⟩ u3).setCell ⟨p, 4, none⟩ u4).setCell ⟨p, 5, none⟩ u5).setCell ⟨p, 6, none⟩ u6).setCell ⟨p, 7, none⟩ u7).setCell ⟨p, 8, none⟩ u8).setCell ⟨p, 9, none⟩ u9).setCell ⟨p, 10, none⟩ u10)).cell? ⟨q, 2, none⟩ = some (c2) ∧ ((((((((((((W.setCell ⟨p, 0, none⟩ u0).setCell ⟨p, 1, none⟩ u1).setCell ⟨p, 2, none⟩ u2).setCell ⟨p, 3, none⟩ u3).setCell ⟨p, 4, none⟩ u4).setCell ⟨p, 5, none⟩ u5).setCell ⟨p, 6, none⟩ u6).setCell ⟨p, 7, none⟩ u7).setCell ⟨p, 8, none⟩ u8).setCell ⟨p, 9, none⟩ u9).setCell ⟨p, 10, none⟩ u10)).cell? ⟨q, 3, none⟩ = some (c3) ∧ ((((((((((((W.setCell ⟨p, 0, none⟩ u0).setCell ⟨p, 1, none⟩ u1).setCell ⟨p, 2, none⟩ u2).setCell ⟨p, 3, none⟩ u3).setCell ⟨p, 4, none⟩ u4).setCell ⟨p, 5, none⟩ u5).setCell ⟨p, 6, none⟩ u6).setCell ⟨p, 7, none⟩ u7).setCell ⟨p, 8, none⟩ u8).setCell ⟨p, 9, none⟩ u9).setCell ⟨p, 10, none⟩ u10)).cell? ⟨q, 4, none⟩ = some (c4) ∧ ((((((((((((W.setCell ⟨p, 0, none⟩ u0).setCell ⟨p, 1, none⟩ u1).setCell ⟨p, 2, none⟩ u2).setCell ⟨p, 3, none⟩ u3).setCell ⟨p, 4, none⟩ u4).setCell ⟨p, 5, none⟩ u5).setCell ⟨p, 6, none⟩ u6).setCell ⟨p, 7, none⟩ u7).setCell ⟨p, 8, none⟩ u8).setCell ⟨p, 9, none⟩ u9).setCell ⟨p, 10, none⟩ u10)).cell? ⟨q, 5, none⟩ = some (c5) ∧ ((((((((((((W.setCell ⟨p, 0, none⟩ u0).setCell ⟨p, 1, none⟩ u1).setCell ⟨p, 2, none⟩ u2).setCell ⟨p, 3, none⟩ u3).setCell ⟨p, 4, none⟩ u4).setCell ⟨p, 5, none⟩ u5).setCell ⟨p, 6, none⟩ u6).setCell ⟨p, 7, none⟩ u7).setCell ⟨p, 8, none⟩ u8).setCell ⟨p, 9, none⟩ u9).setCell ⟨p, 10, none⟩ u10)).cell? ⟨q, 6, none⟩ = some (c6) ∧ ((((((((((((W.setCell ⟨p, 0, none⟩ u0).setCell ⟨p, 1, none⟩ u1).setCell ⟨p, 2, none⟩ u2).setCell ⟨p, 3, none⟩ u3).setCell ⟨p, 4, none⟩ u4).setCell ⟨p, 5, none⟩ u5).setCell ⟨p, 6, none⟩ u6).setCell ⟨p, 7, none⟩ u7).setCell ⟨p, 8, none⟩ u8).setCell ⟨p, 9, none⟩ u9).setCell ⟨p, 10, none⟩ u10)).cell? ⟨q, 7, none⟩ = some (c7) ∧ ((((((((((((W.setCell ⟨p, 0, none⟩ u0).setCell ⟨p, 1, none⟩ u1).setCell ⟨p, 2, none⟩ u2).setCell ⟨p, 3, none⟩ u3).setCell ⟨p, 4, none⟩ u4).setCell ⟨p, 5, none⟩ u5).setCell ⟨p, 6, none⟩ u6).setCell ⟨p, 7, none⟩ u7).setCell ⟨p, 8, none⟩ u8).setCell ⟨p, 9, none⟩ u9).setCell ⟨p, 10, none⟩ u10)).cell? ⟨q, 8, none⟩ = some (c8) ∧ ((((((((((((W.setCell ⟨p, 0, none⟩ u0).setCell ⟨p, 1, none⟩ u1).setCell ⟨p, 2, none⟩ u2).setCell ⟨p, 3, none⟩ u3).setCell ⟨p, 4, none⟩ u4).setCell ⟨p, 5, none⟩ u5).setCell ⟨p, 6, none⟩ u6).setCell ⟨p, 7, none⟩ u7).setCell ⟨p, 8, none⟩ u8).setCell ⟨p, 9, none⟩ u9).setCell ⟨p, 10, none⟩ u10)).cell? ⟨q, 9, none⟩ = some (c9) ∧ ((((((((((((W.setCell ⟨p, 0, none⟩ u0).setCell ⟨p, 1, none⟩ u1).setCell ⟨p, 2, none⟩ u2).setCell ⟨p, 3, none⟩ u3).setCell ⟨p, 4, none⟩ u4).setCell ⟨p, 5, none⟩ u5).setCell ⟨p, 6, none⟩ u6).setCell ⟨p, 7, none⟩ u7).setCell ⟨p, 8, none⟩ u8).setCell ⟨p, 9, none⟩ u9).setCell ⟨p, 10, none⟩ u10)).cell? ⟨q, 10, none⟩ = some (c10) := by
  have e : (W.setCells p 0 [u0, u1, u2, u3, u4, u5, u6, u7, u8, u9, u10]).heap[q]? = W.heap[q]? := setCells_block p _ 0 W q hne
  have c : ∀ j, ((((((((((((W.setCell ⟨p, 0, none⟩ u0).setCell ⟨p, 1, none⟩ u1).setCell ⟨p, 2, none⟩ u2).setCell ⟨p, 3, none⟩ u3).setCell ⟨p, 4, none⟩ u4).setCell ⟨p, 5, none⟩ u5).setCell ⟨p, 6, none⟩ u6).setCell ⟨p, 7, none⟩ u7).setCell ⟨p, 8, none⟩ u8).setCell ⟨p, 9, none⟩ u9).setCell ⟨p, 10, none⟩ u10)).cell? ⟨q, j, none⟩ = W.cell? ⟨q, j, none⟩ := fun j => World.cell?_of_block (a := ⟨q, j, none⟩) e
  simp only [c]
  exact h
theorem opt_size {p : List UInt8} {x : ByteArray} (h : optL p = some x) (hp : p.length ≤ 1000000) : x.size ≤ maxLen := by
  unfold optL at h
  split at h
  · cases h
  · split at h
    · obtain rfl := Option.some.inj h; exact (by decide : (0 : Nat) ≤ maxLen)
    · obtain rfl := Option.some.inj h; rw [bytes_size]; unfold maxLen; omega
theorem num_fine {p : List UInt8} {n : Int} (h : numL p = some n) : -9223372036854775808 ≤ n ∧ n ≤ 9223372036854775807 := by
  obtain ⟨_, h2, rfl⟩ := num_parts h; omega
theorem prio_fine {p : List UInt8} {n : Int} (h : prioL p = some n) : -9223372036854775808 ≤ n ∧ n ≤ 9223372036854775807 := by
  unfold prioL at h
  split at h
  · obtain rfl := Option.some.inj h; decide
  · exact num_fine h
theorem spread_size {p : List UInt8} {x : ByteArray} {m : Int} (h : spreadL p = some (x, m)) (hp : p.length ≤ 1000000) : x.size ≤ maxLen ∧ (-9223372036854775808 ≤ m ∧ m ≤ 9223372036854775807) := by
  have hl := cut_le p [47]
  unfold spreadL at h
  split at h
  · obtain ⟨rfl, rfl⟩ := Prod.mk.inj (Option.some.inj h)
    exact ⟨(by decide : (0 : Nat) ≤ maxLen), by decide⟩
  · split at h
    · cases h
    · cases hn : numL (Lib.cut p [47]).2.1 with
      | none => rw [hn] at h; cases h
      | some m' =>
        rw [hn] at h
        obtain ⟨rfl, rfl⟩ := Prod.mk.inj (Option.some.inj h)
        exact ⟨by rw [bytes_size]; unfold maxLen; omega, num_fine hn⟩
set_option maxRecDepth 100000 in
set_option maxHeartbeats 8000000 in
theorem parsedPd_any (s : List UInt8) (n : Pd) (c : Int) (w : World) (hE : EnvP w) (hs : s.length ≤ 900000) (h : Says s n) (hc : chkPod n = c) :
    Calls Tryz.prog 76 #[.string (bytes s)] w (PodRes c n w) := by
  obtain ⟨a, b, c0, d, e, f, g0, h0, i, j, hp, ha, hb, hcc, hd, he, hf, hg, hh, hi, hj⟩ := h
  obtain ⟨x0, x1, x2, l1, l2, l3, l4, x3, x4, x5, x6⟩ := n
  dsimp only at ha hb hcc hd he hf hg hh hi hj
  subst ha
  have hlen : ∀ p ∈ [a, b, c0, d, e, f, g0, h0, i, j], p.length ≤ s.length := fun p hm => partAt_len 32 s p (by rw [hp]; exact hm)
  have la := hlen a (by simp)
  have lb := hlen b (by simp)
  have lc := hlen c0 (by simp)
  have ld := hlen d (by simp)
  have le := hlen e (by simp)
  have lf := hlen f (by simp)
  have lg := hlen g0 (by simp)
  have lh := hlen h0 (by simp)
  have li := hlen i (by simp)
  obtain ⟨Z, hZ⟩ : ∃ Z, w.alloc (.cells #[.string ⟨#[]⟩, .string ⟨#[]⟩, .int .i64 0, .slice none 0 0, .slice none 0 0, .slice none 0 0, .slice none 0 0, .string ⟨#[]⟩, .int .i64 0, .string ⟨#[]⟩, .bool false] 30) = Z := ⟨_, rfl⟩
  have hkz : Kept w Z := by rw [← hZ]; exact kept_alloc _ _
  have hzs : Z.heap.size = w.heap.size + 1 := by rw [← hZ]; simp
  have HR0 := Lib.hid (show CellsN w.heap.size [.string ⟨#[]⟩, .string ⟨#[]⟩, .int .i64 0, .slice none 0 0, .slice none 0 0, .slice none 0 0, .slice none 0 0, .string ⟨#[]⟩, .int .i64 0, .string ⟨#[]⟩, .bool false] Z from freshN w (.string ⟨#[]⟩) [.string ⟨#[]⟩, .int .i64 0, .slice none 0 0, .slice none 0 0, .slice none 0 0, .slice none 0 0, .string ⟨#[]⟩, .int .i64 0, .string ⟨#[]⟩, .bool false] 30 Z (by rw [hZ]; exact Kept.refl _))
  have HWD := Lib.hid (pwords10 s Z (hE.kept hkz).toEnvT.toEnv.base (by omega))
  have H2 := Lib.hid (fun W (_ : Kept w W) => prio_ok c0 x2 W (by omega) hcc)
  have H9 := Lib.hid (fun W => kind_ok j x6 W hj)
  have H7 := Lib.hid (fun W (k : Kept w W) => spread_ok h0 x3 x4 W (hE.kept k).toEnvT.toEnv.base (by omega) hh)
  have H0 := Lib.hid (fun W (_ : Kept w W) => clone_any (bytes a) W (by rw [bytes_size]; omega))
  have H1 := Lib.hid (fun W (_ : Kept w W) => opt_ok b x1 W (by omega) hb)
  have H8 := Lib.hid (fun W (_ : Kept w W) => opt_ok i x5 W (by omega) hi)
  have H3 := Lib.hid (fun W (k : Kept w W) => (Vec.parse_any d W (hE.kept k).toEnvT.toEnv (by omega)).mono fun _ _ => Vec.Done.spelt)
  have H4 := Lib.hid (fun W (k : Kept w W) => (parse_any e W (hE.kept k).toEnvT.toEnv.base (by omega)).mono fun _ _ => own_spelt)
  have H5 := Lib.hid (fun W (k : Kept w W) => (parseSel_any f W (hE.kept k).toEnvT.toEnv.base (by omega)).mono fun _ _ => own_spelt)
  have H6 := Lib.hid (fun W (k : Kept w W) => (parseO_any g0 W (hE.kept k).toEnvT.toEnv.base (by omega)).mono fun _ _ => own_spelt)
  rw [hd] at H3
  rw [he] at H4
  rw [hf] at H5
  rw [hg] at H6
  dsimp only at H3 H4 H5 H6
  have S0 := Lib.hid (show (bytes a).size ≤ maxLen by rw [bytes_size]; unfold maxLen; omega)
  have S1 := Lib.hid (opt_size hb (by omega))
  have S5 := Lib.hid (opt_size hi (by omega))
  have S3 := Lib.hid (spread_size hh (by omega))
  have S2 := Lib.hid (prio_fine hcc)
  have HCH := Lib.hid hc
  have HP := Lib.hid hp
  have HKZ := Lib.hid hkz
  have HZS := Lib.hid hzs
  clear hE hs hc hp hb hcc hd he hf hg hh hi hj hlen la lb lc ld le lf lg lh li hkz hzs
  go_enter Tryz.func76, Tryz.ntmps76
  go_wp2_with fail
  try rw [hZ]
  clear hZ
  refine HWD.out.mono ?_
  rintro ee w1 ⟨hw, -, k⟩
  obtain ⟨g, cap, rfl, -, hcells⟩ := hw (by rw [HP.out]; rfl)
  have K := Lib.hid (HKZ.out.trans k)
  have HR1 := Lib.hid (HR0.out.kept k)
  have HRS := Lib.hid (show w.heap.size + 1 ≤ w1.heap.size by have := k.size; rw [HZS.out] at this; exact this)
  rw [HP.out] at hcells
  have HC := Lib.hid (show ∀ W, Kept w1 W → W.cell? ⟨g, 0, none⟩ = some (.string (bytes a)) ∧ W.cell? ⟨g, 1, none⟩ = some (.string (bytes b)) ∧ W.cell? ⟨g, 2, none⟩ = some (.string (bytes c0)) ∧ W.cell? ⟨g, 3, none⟩ = some (.string (bytes d)) ∧ W.cell? ⟨g, 4, none⟩ = some (.string (bytes e)) ∧ W.cell? ⟨g, 5, none⟩ = some (.string (bytes f)) ∧ W.cell? ⟨g, 6, none⟩ = some (.string (bytes g0)) ∧ W.cell? ⟨g, 7, none⟩ = some (.string (bytes h0)) ∧ W.cell? ⟨g, 8, none⟩ = some (.string (bytes i)) ∧ W.cell? ⟨g, 9, none⟩ = some (.string (bytes j)) from fun W k =>
    ⟨cell_later k (hcells 0 a rfl), cell_later k (hcells 1 b rfl), cell_later k (hcells 2 c0 rfl), cell_later k (hcells 3 d rfl), cell_later k (hcells 4 e rfl), cell_later k (hcells 5 f rfl), cell_later k (hcells 6 g0 rfl), cell_later k (hcells 7 h0 rfl), cell_later k (hcells 8 i rfl), cell_later k (hcells 9 j rfl)⟩)
  clear hw k hcells HWD
  go_wp2
  go_cut [4] from 7 to 16 (fun s4 wx => ∃ q, s4 = .pointer (some ⟨q, 0, none⟩) ∧ CellsN q [.string ⟨#[]⟩, .string ⟨#[]⟩, .int .i64 x2, .slice none 0 0, .slice none 0 0, .slice none 0 0, .slice none 0 0, .string ⟨#[]⟩, .int .i64 0, .string ⟨#[]⟩, .bool x6] wx ∧ Kept w1 wx ∧ w1.heap.size ≤ q)
  case first =>
    refine wp_region_held_drew (S := fun W => Kept w1 W) (by kernel_rfl) (Kept.drew _) (fun hHeld => ?_)
    have KK := Lib.hid hHeld
    obtain ⟨wd, hwd⟩ : ∃ W, w1.drew = W := ⟨_, rfl⟩
    rw [hwd] at KK hHeld ⊢
    clear hwd
    refine wpAnyH_take (i := 0) (v := ?_) (by rw [List.getElem?_toArray]; exact rfl) (by kernel_rfl) (by kernel_rfl) (by kernel_rfl) (by exact fun _ _ _ h => h) (Or.inl ⟨by rfl, (by intro W hSw; obtain ⟨g0, g1, g2, g3, g4, g5, g6, g7, g8, g9⟩ := HC.out _ hSw; go_simp <;> with_reducible rfl)⟩) (by assumption) ?_
    try simp only [Act.put, List.setIfInBounds_toArray, List.set_cons_zero, List.set_cons_succ]
    refine wpAnyH_take (i := 1) (v := ?_) (by rw [List.getElem?_toArray]; exact rfl) (by kernel_rfl) (by kernel_rfl) (by kernel_rfl) (by exact fun _ _ _ h => h) (Or.inl ⟨by rfl, (by intro W hSw; obtain ⟨g0, g1, g2, g3, g4, g5, g6, g7, g8, g9⟩ := HC.out _ hSw; go_simp <;> with_reducible rfl)⟩) (by assumption) ?_
    try simp only [Act.put, List.setIfInBounds_toArray, List.set_cons_zero, List.set_cons_succ]
    refine wpAnyH_take (i := 2) (v := ?_) (by rw [List.getElem?_toArray]; exact rfl) (by kernel_rfl) (by kernel_rfl) (by kernel_rfl) (by exact fun _ _ _ h => h) (Or.inl ⟨by rfl, (by intro W hSw; obtain ⟨g0, g1, g2, g3, g4, g5, g6, g7, g8, g9⟩ := HC.out _ hSw; go_simp <;> with_reducible rfl)⟩) (by assumption) ?_
    try simp only [Act.put, List.setIfInBounds_toArray, List.set_cons_zero, List.set_cons_succ]
    refine wpAnyH_take (i := 4) (v := ?_) (by rw [List.getElem?_toArray]; exact rfl) (by kernel_rfl) (by kernel_rfl) (by kernel_rfl) (by exact fun _ _ _ h => h) (Or.inl ⟨by rfl, (by intro W hSw; obtain ⟨g0, g1, g2, g3, g4, g5, g6, g7, g8, g9⟩ := HC.out _ hSw; go_simp <;> with_reducible rfl)⟩) (by assumption) ?_
    try simp only [Act.put, List.setIfInBounds_toArray, List.set_cons_zero, List.set_cons_succ]
    refine wpAnyH_take (i := 5) (v := ?_) (by rw [List.getElem?_toArray]; exact rfl) (by kernel_rfl) (by kernel_rfl) (by kernel_rfl) (by exact fun _ _ _ h => h) (Or.inl ⟨by rfl, (by intro W hSw; obtain ⟨g0, g1, g2, g3, g4, g5, g6, g7, g8, g9⟩ := HC.out _ hSw; go_simp <;> with_reducible rfl)⟩) (by assumption) ?_
    try simp only [Act.put, List.setIfInBounds_toArray, List.set_cons_zero, List.set_cons_succ]
    refine wpAnyH_take (i := 6) (v := ?_) (by rw [List.getElem?_toArray]; exact rfl) (by kernel_rfl) (by kernel_rfl) (by kernel_rfl) (by exact fun _ _ _ h => h) (Or.inl ⟨by rfl, (by intro W hSw; obtain ⟨g0, g1, g2, g3, g4, g5, g6, g7, g8, g9⟩ := HC.out _ hSw; go_simp <;> with_reducible rfl)⟩) (by assumption) ?_
    try simp only [Act.put, List.setIfInBounds_toArray, List.set_cons_zero, List.set_cons_succ]
    refine wpAnyH_ready (rs := [3, 9]) (by kernel_rfl) (by simp) (AllReadyH.cons (by rw [List.getElem?_toArray]; exact rfl) (fun K9 hK9 => ?_) (AllReadyH.cons (by rw [List.getElem?_toArray]; exact rfl) (fun K9 hK9 => ?_) AllReadyH.nil))
    · skip
      go_simp
      refine (H2.out _ (K.out.trans KK.out)).mono ?_
      rintro e9 ww1 ⟨rfl, k⟩
      have KK := Lib.hid (KK.out.trans k)
      clear k
      refine hK9.out _ _ KK.out (fun hHeld2 => ?_)
      clear hK9 K9
      try simp only [Act.put, List.setIfInBounds_toArray, List.set_cons_zero, List.set_cons_succ]
      refine wpAnyH_ready (rs := [7, 9]) (by kernel_rfl) (by simp) (AllReadyH.cons (by rw [List.getElem?_toArray]; exact rfl) (fun K9 hK9 => ?_) (AllReadyH.cons (by rw [List.getElem?_toArray]; exact rfl) (fun K9 hK9 => ?_) AllReadyH.nil))
      · skip
        go_simp
        refine (H9.out _).mono ?_
        rintro e9 ww3 ⟨rfl, rfl⟩
        refine hK9.out _ _ KK.out (fun hHeld4 => ?_)
        clear hK9 K9
        try simp only [Act.put, List.setIfInBounds_toArray, List.set_cons_zero, List.set_cons_succ]
        refine wpAnyH_take (i := 8) (v := ?_) (by rw [List.getElem?_toArray]; exact rfl) (by kernel_rfl) (by kernel_rfl) (by kernel_rfl) (by exact fun _ _ _ h => h) (Or.inl ⟨by rfl, (by intro W hSw; obtain ⟨g0, g1, g2, g3, g4, g5, g6, g7, g8, g9⟩ := HC.out _ hSw; go_simp <;> with_reducible rfl)⟩) (by assumption) ?_
        try simp only [Act.put, List.setIfInBounds_toArray, List.set_cons_zero, List.set_cons_succ]
        refine wpAnyH_ready (rs := [9]) (by kernel_rfl) (by simp) (AllReadyH.cons (by rw [List.getElem?_toArray]; exact rfl) (fun K9 hK9 => ?_) AllReadyH.nil)
        go_simp
        have k := kept_alloc ww1 (.cells #[.string ⟨#[]⟩, .string ⟨#[]⟩, .int .i64 0, .slice none 0 0, .slice none 0 0, .slice none 0 0, .slice none 0 0, .string ⟨#[]⟩, .int .i64 0, .string ⟨#[]⟩, .bool false] 30)
        have hn := freshN ww1 (.string ⟨#[]⟩) [.string ⟨#[]⟩, .int .i64 0, .slice none 0 0, .slice none 0 0, .slice none 0 0, .slice none 0 0, .string ⟨#[]⟩, .int .i64 0, .string ⟨#[]⟩, .bool false] 30 _ (Kept.refl _)
        have hp9 : w1.heap.size ≤ ww1.heap.size := KK.out.size
        obtain ⟨q, hqe⟩ : ∃ z, ww1.heap.size = z := ⟨_, rfl⟩
        rw [hqe] at hn hp9 ⊢
        obtain ⟨ww5, hnw⟩ : ∃ W, ww1.alloc (.cells #[.string ⟨#[]⟩, .string ⟨#[]⟩, .int .i64 0, .slice none 0 0, .slice none 0 0, .slice none 0 0, .slice none 0 0, .string ⟨#[]⟩, .int .i64 0, .string ⟨#[]⟩, .bool false] 30) = W := ⟨_, rfl⟩
        rw [hnw] at hn k ⊢
        clear hnw hqe
        have KK := Lib.hid (KK.out.trans k)
        have QA := Lib.hid hn
        have HQP := Lib.hid hp9
        clear hn k hp9
        refine hK9.out _ _ KK.out (fun hHeld6 => ?_)
        clear hK9 K9
        try simp only [Act.put, List.setIfInBounds_toArray, List.set_cons_zero, List.set_cons_succ]
        refine wpAnyH_ready (rs := [10]) (by kernel_rfl) (by simp) (AllReadyH.cons (by rw [List.getElem?_toArray]; exact rfl) (fun K9 hK9 => ?_) AllReadyH.nil)
        have z0 := QA.out.at_ 0 _ rfl
        have z1 := QA.out.at_ 1 _ rfl
        have z2 := QA.out.at_ 2 _ rfl
        have z3 := QA.out.at_ 3 _ rfl
        have z4 := QA.out.at_ 4 _ rfl
        have z5 := QA.out.at_ 5 _ rfl
        have z6 := QA.out.at_ 6 _ rfl
        have z7 := QA.out.at_ 7 _ rfl
        have z8 := QA.out.at_ 8 _ rfl
        have z9 := QA.out.at_ 9 _ rfl
        have z10 := QA.out.at_ 10 _ rfl
        have y0 := QA.out.free 0
        have y1 := QA.out.free 1
        have y2 := QA.out.free 2
        have y3 := QA.out.free 3
        have y4 := QA.out.free 4
        have y5 := QA.out.free 5
        have y6 := QA.out.free 6
        have y7 := QA.out.free 7
        have y8 := QA.out.free 8
        have y9 := QA.out.free 9
        have y10 := QA.out.free 10
        go_simp
        have PP := Lib.hid (putN (vs := [.string ⟨#[]⟩, .string ⟨#[]⟩, .int .i64 x2, .slice none 0 0, .slice none 0 0, .slice none 0 0, .slice none 0 0, .string ⟨#[]⟩, .int .i64 0, .string ⟨#[]⟩, .bool x6]) QA.out rfl)
        obtain ⟨ww7, hnw⟩ : ∃ W, ww5.setCells q 0 [.string ⟨#[]⟩, .string ⟨#[]⟩, .int .i64 x2, .slice none 0 0, .slice none 0 0, .slice none 0 0, .slice none 0 0, .string ⟨#[]⟩, .int .i64 0, .string ⟨#[]⟩, .bool x6] = W := ⟨_, rfl⟩
        have hnw2 : (((((((((((ww5.setCell ⟨q, 0, none⟩ (.string ⟨#[]⟩)).setCell ⟨q, 1, none⟩ (.string ⟨#[]⟩)).setCell ⟨q, 2, none⟩ (.int .i64 x2)).setCell ⟨q, 3, none⟩ (.slice none 0 0)).setCell ⟨q, 4, none⟩ (.slice none 0 0)).setCell ⟨q, 5, none⟩ (.slice none 0 0)).setCell ⟨q, 6, none⟩ (.slice none 0 0)).setCell ⟨q, 7, none⟩ (.string ⟨#[]⟩)).setCell ⟨q, 8, none⟩ (.int .i64 0)).setCell ⟨q, 9, none⟩ (.string ⟨#[]⟩)).setCell ⟨q, 10, none⟩ (.bool x6)) = ww7 := hnw
        rw [hnw] at PP
        rw [hnw2]
        clear hnw hnw2 z0 y0 z1 y1 z2 y2 z3 y3 z4 y4 z5 y5 z6 y6 z7 y7 z8 y8 z9 y9 z10 y10
        have KK := Lib.hid (show Kept w1 ww7 from PP.out.below _ _ HQP.out KK.out)
        have QA := Lib.hid PP.out.cells
        clear PP
        refine hK9.out _ _ KK.out (fun hHeld8 => ?_)
        clear hK9 K9
        try simp only [Act.put, List.setIfInBounds_toArray, List.set_cons_zero, List.set_cons_succ]
        refine wpAnyH_done (by kernel_rfl) ?_ _
        go_wp2
        go_meet
        case rel => exact ⟨q, rfl, QA.out, KK.out, HQP.out⟩
      · skip
        go_simp
        have k := kept_alloc ww1 (.cells #[.string ⟨#[]⟩, .string ⟨#[]⟩, .int .i64 0, .slice none 0 0, .slice none 0 0, .slice none 0 0, .slice none 0 0, .string ⟨#[]⟩, .int .i64 0, .string ⟨#[]⟩, .bool false] 30)
        have hn := freshN ww1 (.string ⟨#[]⟩) [.string ⟨#[]⟩, .int .i64 0, .slice none 0 0, .slice none 0 0, .slice none 0 0, .slice none 0 0, .string ⟨#[]⟩, .int .i64 0, .string ⟨#[]⟩, .bool false] 30 _ (Kept.refl _)
        have hp9 : w1.heap.size ≤ ww1.heap.size := KK.out.size
        obtain ⟨q, hqe⟩ : ∃ z, ww1.heap.size = z := ⟨_, rfl⟩
        rw [hqe] at hn hp9 ⊢
        obtain ⟨ww9, hnw⟩ : ∃ W, ww1.alloc (.cells #[.string ⟨#[]⟩, .string ⟨#[]⟩, .int .i64 0, .slice none 0 0, .slice none 0 0, .slice none 0 0, .slice none 0 0, .string ⟨#[]⟩, .int .i64 0, .string ⟨#[]⟩, .bool false] 30) = W := ⟨_, rfl⟩
        rw [hnw] at hn k ⊢
        clear hnw hqe
        have KK := Lib.hid (KK.out.trans k)
        have QA := Lib.hid hn
        have HQP := Lib.hid hp9
        clear hn k hp9
        refine hK9.out _ _ KK.out (fun hHeld10 => ?_)
        clear hK9 K9
        try simp only [Act.put, List.setIfInBounds_toArray, List.set_cons_zero, List.set_cons_succ]
        refine wpAnyH_ready (rs := [7]) (by kernel_rfl) (by simp) (AllReadyH.cons (by rw [List.getElem?_toArray]; exact rfl) (fun K9 hK9 => ?_) AllReadyH.nil)
        go_simp
        refine (H9.out _).mono ?_
        rintro e9 ww11 ⟨rfl, rfl⟩
        refine hK9.out _ _ KK.out (fun hHeld12 => ?_)
        clear hK9 K9
        try simp only [Act.put, List.setIfInBounds_toArray, List.set_cons_zero, List.set_cons_succ]
        refine wpAnyH_take (i := 8) (v := ?_) (by rw [List.getElem?_toArray]; exact rfl) (by kernel_rfl) (by kernel_rfl) (by kernel_rfl) (by exact fun _ _ _ h => h) (Or.inl ⟨by rfl, (by intro W hSw; obtain ⟨g0, g1, g2, g3, g4, g5, g6, g7, g8, g9⟩ := HC.out _ hSw; go_simp <;> with_reducible rfl)⟩) (by assumption) ?_
        try simp only [Act.put, List.setIfInBounds_toArray, List.set_cons_zero, List.set_cons_succ]
        refine wpAnyH_ready (rs := [10]) (by kernel_rfl) (by simp) (AllReadyH.cons (by rw [List.getElem?_toArray]; exact rfl) (fun K9 hK9 => ?_) AllReadyH.nil)
        have z0 := QA.out.at_ 0 _ rfl
        have z1 := QA.out.at_ 1 _ rfl
        have z2 := QA.out.at_ 2 _ rfl
        have z3 := QA.out.at_ 3 _ rfl
        have z4 := QA.out.at_ 4 _ rfl
        have z5 := QA.out.at_ 5 _ rfl
        have z6 := QA.out.at_ 6 _ rfl
        have z7 := QA.out.at_ 7 _ rfl
        have z8 := QA.out.at_ 8 _ rfl
        have z9 := QA.out.at_ 9 _ rfl
        have z10 := QA.out.at_ 10 _ rfl
        have y0 := QA.out.free 0
        have y1 := QA.out.free 1
        have y2 := QA.out.free 2
        have y3 := QA.out.free 3
        have y4 := QA.out.free 4
        have y5 := QA.out.free 5
        have y6 := QA.out.free 6
        have y7 := QA.out.free 7
        have y8 := QA.out.free 8
        have y9 := QA.out.free 9
        have y10 := QA.out.free 10
        go_simp
        have PP := Lib.hid (putN (vs := [.string ⟨#[]⟩, .string ⟨#[]⟩, .int .i64 x2, .slice none 0 0, .slice none 0 0, .slice none 0 0, .slice none 0 0, .string ⟨#[]⟩, .int .i64 0, .string ⟨#[]⟩, .bool x6]) QA.out rfl)
        obtain ⟨ww13, hnw⟩ : ∃ W, ww9.setCells q 0 [.string ⟨#[]⟩, .string ⟨#[]⟩, .int .i64 x2, .slice none 0 0, .slice none 0 0, .slice none 0 0, .slice none 0 0, .string ⟨#[]⟩, .int .i64 0, .string ⟨#[]⟩, .bool x6] = W := ⟨_, rfl⟩
        have hnw2 : (((((((((((ww9.setCell ⟨q, 0, none⟩ (.string ⟨#[]⟩)).setCell ⟨q, 1, none⟩ (.string ⟨#[]⟩)).setCell ⟨q, 2, none⟩ (.int .i64 x2)).setCell ⟨q, 3, none⟩ (.slice none 0 0)).setCell ⟨q, 4, none⟩ (.slice none 0 0)).setCell ⟨q, 5, none⟩ (.slice none 0 0)).setCell ⟨q, 6, none⟩ (.slice none 0 0)).setCell ⟨q, 7, none⟩ (.string ⟨#[]⟩)).setCell ⟨q, 8, none⟩ (.int .i64 0)).setCell ⟨q, 9, none⟩ (.string ⟨#[]⟩)).setCell ⟨q, 10, none⟩ (.bool x6)) = ww13 := hnw
        rw [hnw] at PP
        rw [hnw2]
        clear hnw hnw2 z0 y0 z1 y1 z2 y2 z3 y3 z4 y4 z5 y5 z6 y6 z7 y7 z8 y8 z9 y9 z10 y10
        have KK := Lib.hid (show Kept w1 ww13 from PP.out.below _ _ HQP.out KK.out)
        have QA := Lib.hid PP.out.cells
        clear PP
        refine hK9.out _ _ KK.out (fun hHeld14 => ?_)
        clear hK9 K9
        try simp only [Act.put, List.setIfInBounds_toArray, List.set_cons_zero, List.set_cons_succ]
        refine wpAnyH_done (by kernel_rfl) ?_ _
        go_wp2
        go_meet
        case rel => exact ⟨q, rfl, QA.out, KK.out, HQP.out⟩
    · skip
      go_simp
      have k := kept_alloc wd (.cells #[.string ⟨#[]⟩, .string ⟨#[]⟩, .int .i64 0, .slice none 0 0, .slice none 0 0, .slice none 0 0, .slice none 0 0, .string ⟨#[]⟩, .int .i64 0, .string ⟨#[]⟩, .bool false] 30)
      have hn := freshN wd (.string ⟨#[]⟩) [.string ⟨#[]⟩, .int .i64 0, .slice none 0 0, .slice none 0 0, .slice none 0 0, .slice none 0 0, .string ⟨#[]⟩, .int .i64 0, .string ⟨#[]⟩, .bool false] 30 _ (Kept.refl _)
      have hp9 : w1.heap.size ≤ wd.heap.size := KK.out.size
      obtain ⟨q, hqe⟩ : ∃ z, wd.heap.size = z := ⟨_, rfl⟩
      rw [hqe] at hn hp9 ⊢
      obtain ⟨ww15, hnw⟩ : ∃ W, wd.alloc (.cells #[.string ⟨#[]⟩, .string ⟨#[]⟩, .int .i64 0, .slice none 0 0, .slice none 0 0, .slice none 0 0, .slice none 0 0, .string ⟨#[]⟩, .int .i64 0, .string ⟨#[]⟩, .bool false] 30) = W := ⟨_, rfl⟩
      rw [hnw] at hn k ⊢
      clear hnw hqe
      have KK := Lib.hid (KK.out.trans k)
      have QA := Lib.hid hn
      have HQP := Lib.hid hp9
      clear hn k hp9
      refine hK9.out _ _ KK.out (fun hHeld16 => ?_)
      clear hK9 K9
      try simp only [Act.put, List.setIfInBounds_toArray, List.set_cons_zero, List.set_cons_succ]
      refine wpAnyH_ready (rs := [3]) (by kernel_rfl) (by simp) (AllReadyH.cons (by rw [List.getElem?_toArray]; exact rfl) (fun K9 hK9 => ?_) AllReadyH.nil)
      go_simp
      refine (H2.out _ (K.out.trans KK.out)).mono ?_
      rintro e9 ww17 ⟨rfl, k⟩
      have KK := Lib.hid (KK.out.trans k)
      have QA := Lib.hid (QA.out.kept k)
      clear k
      refine hK9.out _ _ KK.out (fun hHeld18 => ?_)
      clear hK9 K9
      try simp only [Act.put, List.setIfInBounds_toArray, List.set_cons_zero, List.set_cons_succ]
      refine wpAnyH_ready (rs := [7]) (by kernel_rfl) (by simp) (AllReadyH.cons (by rw [List.getElem?_toArray]; exact rfl) (fun K9 hK9 => ?_) AllReadyH.nil)
      go_simp
      refine (H9.out _).mono ?_
      rintro e9 ww19 ⟨rfl, rfl⟩
      refine hK9.out _ _ KK.out (fun hHeld20 => ?_)
      clear hK9 K9
      try simp only [Act.put, List.setIfInBounds_toArray, List.set_cons_zero, List.set_cons_succ]
      refine wpAnyH_take (i := 8) (v := ?_) (by rw [List.getElem?_toArray]; exact rfl) (by kernel_rfl) (by kernel_rfl) (by kernel_rfl) (by exact fun _ _ _ h => h) (Or.inl ⟨by rfl, (by intro W hSw; obtain ⟨g0, g1, g2, g3, g4, g5, g6, g7, g8, g9⟩ := HC.out _ hSw; go_simp <;> with_reducible rfl)⟩) (by assumption) ?_
      try simp only [Act.put, List.setIfInBounds_toArray, List.set_cons_zero, List.set_cons_succ]
      refine wpAnyH_ready (rs := [10]) (by kernel_rfl) (by simp) (AllReadyH.cons (by rw [List.getElem?_toArray]; exact rfl) (fun K9 hK9 => ?_) AllReadyH.nil)
      have z0 := QA.out.at_ 0 _ rfl
      have z1 := QA.out.at_ 1 _ rfl
      have z2 := QA.out.at_ 2 _ rfl
      have z3 := QA.out.at_ 3 _ rfl
      have z4 := QA.out.at_ 4 _ rfl
      have z5 := QA.out.at_ 5 _ rfl
      have z6 := QA.out.at_ 6 _ rfl
      have z7 := QA.out.at_ 7 _ rfl
      have z8 := QA.out.at_ 8 _ rfl
      have z9 := QA.out.at_ 9 _ rfl
      have z10 := QA.out.at_ 10 _ rfl
      have y0 := QA.out.free 0
      have y1 := QA.out.free 1
      have y2 := QA.out.free 2
      have y3 := QA.out.free 3
      have y4 := QA.out.free 4
      have y5 := QA.out.free 5
      have y6 := QA.out.free 6
      have y7 := QA.out.free 7
      have y8 := QA.out.free 8
      have y9 := QA.out.free 9
      have y10 := QA.out.free 10
      go_simp
      have PP := Lib.hid (putN (vs := [.string ⟨#[]⟩, .string ⟨#[]⟩, .int .i64 x2, .slice none 0 0, .slice none 0 0, .slice none 0 0, .slice none 0 0, .string ⟨#[]⟩, .int .i64 0, .string ⟨#[]⟩, .bool x6]) QA.out rfl)
      obtain ⟨ww21, hnw⟩ : ∃ W, ww17.setCells q 0 [.string ⟨#[]⟩, .string ⟨#[]⟩, .int .i64 x2, .slice none 0 0, .slice none 0 0, .slice none 0 0, .slice none 0 0, .string ⟨#[]⟩, .int .i64 0, .string ⟨#[]⟩, .bool x6] = W := ⟨_, rfl⟩
      have hnw2 : (((((((((((ww17.setCell ⟨q, 0, none⟩ (.string ⟨#[]⟩)).setCell ⟨q, 1, none⟩ (.string ⟨#[]⟩)).setCell ⟨q, 2, none⟩ (.int .i64 x2)).setCell ⟨q, 3, none⟩ (.slice none 0 0)).setCell ⟨q, 4, none⟩ (.slice none 0 0)).setCell ⟨q, 5, none⟩ (.slice none 0 0)).setCell ⟨q, 6, none⟩ (.slice none 0 0)).setCell ⟨q, 7, none⟩ (.string ⟨#[]⟩)).setCell ⟨q, 8, none⟩ (.int .i64 0)).setCell ⟨q, 9, none⟩ (.string ⟨#[]⟩)).setCell ⟨q, 10, none⟩ (.bool x6)) = ww21 := hnw
      rw [hnw] at PP
      rw [hnw2]
      clear hnw hnw2 z0 y0 z1 y1 z2 y2 z3 y3 z4 y4 z5 y5 z6 y6 z7 y7 z8 y8 z9 y9 z10 y10
      have KK := Lib.hid (show Kept w1 ww21 from PP.out.below _ _ HQP.out KK.out)
      have QA := Lib.hid PP.out.cells
      clear PP
      refine hK9.out _ _ KK.out (fun hHeld22 => ?_)
      clear hK9 K9
      try simp only [Act.put, List.setIfInBounds_toArray, List.set_cons_zero, List.set_cons_succ]
      refine wpAnyH_done (by kernel_rfl) ?_ _
      go_wp2
      go_meet
      case rel => exact ⟨q, rfl, QA.out, KK.out, HQP.out⟩
  case rest =>
    obtain ⟨q, rfl, hq, kk, hq1⟩ := hcut
    have HQ1 := Lib.hid hq1
    have KK := Lib.hid kk
    have Q := Lib.hid hq
    obtain ⟨g0, g1, g2, g3, g4, g5, g6, g7, g8, g9⟩ := HC.out _ kk
    clear hq kk
    go_wp2_with fail
    clear g0 g1 g2 g3 g4 g5 g6 g7 g8 g9
    refine (H7.out _ (K.out.trans KK.out)).mono ?_
    rintro e9 v0 ⟨rfl, k⟩
    have KK := Lib.hid (KK.out.trans k)
    have Q := Lib.hid (Q.out.kept k)
    clear k
    have y := Q.out.at_ 7 _ rfl
    have x := Q.out.free 7
    have y2 := Q.out.at_ 8 _ rfl
    have x2_ := Q.out.free 8
    have Q := Lib.hid (show CellsN q [.string ⟨#[]⟩, .string ⟨#[]⟩, .int .i64 x2, .slice none 0 0, .slice none 0 0, .slice none 0 0, .slice none 0 0, .string x3, .int .i64 0, .string ⟨#[]⟩, .bool x6] (v0.setCell ⟨q, 7, none⟩ (.string x3)) from Q.out.set (j := 7) (by simp))
    have KK := Lib.hid (show Kept w1 (v0.setCell ⟨q, 7, none⟩ (.string x3)) from KK.out.setCell (p := ⟨q, 7, none⟩) HQ1.out _)
    have Q := Lib.hid (show CellsN q [.string ⟨#[]⟩, .string ⟨#[]⟩, .int .i64 x2, .slice none 0 0, .slice none 0 0, .slice none 0 0, .slice none 0 0, .string x3, .int .i64 x4, .string ⟨#[]⟩, .bool x6] ((v0.setCell ⟨q, 7, none⟩ (.string x3)).setCell ⟨q, 8, none⟩ (.int .i64 x4)) from Q.out.set (j := 8) (by simp))
    have KK := Lib.hid (show Kept w1 ((v0.setCell ⟨q, 7, none⟩ (.string x3)).setCell ⟨q, 8, none⟩ (.int .i64 x4)) from KK.out.setCell (p := ⟨q, 8, none⟩) HQ1.out _)
    obtain ⟨g0, g1, g2, g3, g4, g5, g6, g7, g8, g9⟩ := HC.out _ KK.out
    go_wp2_with fail
    clear g0 g1 g2 g3 g4 g5 g6 g7 g8 g9 y x y2 x2_
    obtain ⟨W0, hW⟩ : ∃ W, ((v0.setCell ⟨q, 7, none⟩ (.string x3)).setCell ⟨q, 8, none⟩ (.int .i64 x4)) = W := ⟨_, rfl⟩
    rw [hW] at Q KK  ⊢
    clear hW
    refine (H0.out _ (K.out.trans KK.out)).mono ?_
    rintro e9 v1 ⟨rfl, k⟩
    have KK := Lib.hid (KK.out.trans k)
    have Q := Lib.hid (Q.out.kept k)
    clear k
    have y := Q.out.at_ 0 _ rfl
    have x := Q.out.free 0
    have Q := Lib.hid (show CellsN q [.string (bytes a), .string ⟨#[]⟩, .int .i64 x2, .slice none 0 0, .slice none 0 0, .slice none 0 0, .slice none 0 0, .string x3, .int .i64 x4, .string ⟨#[]⟩, .bool x6] (v1.setCell ⟨q, 0, none⟩ (.string (bytes a))) from Q.out.set (j := 0) (by simp))
    have KK := Lib.hid (show Kept w1 (v1.setCell ⟨q, 0, none⟩ (.string (bytes a))) from KK.out.setCell (p := ⟨q, 0, none⟩) HQ1.out _)
    obtain ⟨g0, g1, g2, g3, g4, g5, g6, g7, g8, g9⟩ := HC.out _ KK.out
    go_wp2_with fail
    clear g0 g1 g2 g3 g4 g5 g6 g7 g8 g9 y x
    obtain ⟨W1, hW⟩ : ∃ W, (v1.setCell ⟨q, 0, none⟩ (.string (bytes a))) = W := ⟨_, rfl⟩
    rw [hW] at Q KK  ⊢
    clear hW
    refine (H1.out _ (K.out.trans KK.out)).mono ?_
    rintro e9 v2 ⟨rfl, k⟩
    have KK := Lib.hid (KK.out.trans k)
    have Q := Lib.hid (Q.out.kept k)
    clear k
    have y := Q.out.at_ 1 _ rfl
    have x := Q.out.free 1
    have Q := Lib.hid (show CellsN q [.string (bytes a), .string x1, .int .i64 x2, .slice none 0 0, .slice none 0 0, .slice none 0 0, .slice none 0 0, .string x3, .int .i64 x4, .string ⟨#[]⟩, .bool x6] (v2.setCell ⟨q, 1, none⟩ (.string x1)) from Q.out.set (j := 1) (by simp))
    have KK := Lib.hid (show Kept w1 (v2.setCell ⟨q, 1, none⟩ (.string x1)) from KK.out.setCell (p := ⟨q, 1, none⟩) HQ1.out _)
    obtain ⟨g0, g1, g2, g3, g4, g5, g6, g7, g8, g9⟩ := HC.out _ KK.out
    go_wp2_with fail
    clear g0 g1 g2 g3 g4 g5 g6 g7 g8 g9 y x
    obtain ⟨W2, hW⟩ : ∃ W, (v2.setCell ⟨q, 1, none⟩ (.string x1)) = W := ⟨_, rfl⟩
    rw [hW] at Q KK  ⊢
    clear hW
    refine (H3.out _ (K.out.trans KK.out)).mono ?_
    rintro e9 v3 ⟨b1, n1, d1, rfl, rr, gg, k⟩
    have G1 := Lib.hid (show Behind (q + 1) b1 from fun b o s e => Nat.le_trans Q.out.lt (gg b o s e).1)
    have R1 := Lib.hid rr
    have KK := Lib.hid (KK.out.trans k)
    have Q := Lib.hid (Q.out.kept k)
    clear k
    clear rr gg
    go_wp2_with fail
    refine (soundV_ok _ _).mono ?_
    rintro e9 w9 ⟨rfl, rfl⟩
    have y := Q.out.at_ 3 _ rfl
    have x := Q.out.free 3
    have Q := Lib.hid (show CellsN q [.string (bytes a), .string x1, .int .i64 x2, .slice b1 n1 d1, .slice none 0 0, .slice none 0 0, .slice none 0 0, .string x3, .int .i64 x4, .string ⟨#[]⟩, .bool x6] (v3.setCell ⟨q, 3, none⟩ (.slice b1 n1 d1)) from Q.out.set (j := 3) (by simp))
    have KK := Lib.hid (show Kept w1 (v3.setCell ⟨q, 3, none⟩ (.slice b1 n1 d1)) from KK.out.setCell (p := ⟨q, 3, none⟩) HQ1.out _)
    have R1 := Lib.hid (far_setV (p := q) (j := 3) (u := .slice b1 n1 d1) R1.out G1.out (Nat.lt_succ_self q))
    obtain ⟨g0, g1, g2, g3, g4, g5, g6, g7, g8, g9⟩ := HC.out _ KK.out
    go_wp2_with fail
    clear g0 g1 g2 g3 g4 g5 g6 g7 g8 g9 y x
    obtain ⟨W3, hW⟩ : ∃ W, (v3.setCell ⟨q, 3, none⟩ (.slice b1 n1 d1)) = W := ⟨_, rfl⟩
    rw [hW] at Q KK R1 ⊢
    clear hW
    refine (H4.out _ (K.out.trans KK.out)).mono ?_
    rintro e9 v4 ⟨b2, n2, d2, rfl, rr, gg, k⟩
    have G2 := Lib.hid (show Behind (q + 1) b2 from fun b o s e => Nat.le_trans Q.out.lt (gg b o s e).1)
    have R2 := Lib.hid rr
    have KK := Lib.hid (KK.out.trans k)
    have Q := Lib.hid (Q.out.kept k)
    have R1 := Lib.hid (R1.out.kept k)
    clear k
    clear rr gg
    go_wp2_with fail
    refine (soundP_ok _ _).mono ?_
    rintro e9 w9 ⟨rfl, rfl⟩
    have y := Q.out.at_ 4 _ rfl
    have x := Q.out.free 4
    have Q := Lib.hid (show CellsN q [.string (bytes a), .string x1, .int .i64 x2, .slice b1 n1 d1, .slice b2 n2 d2, .slice none 0 0, .slice none 0 0, .string x3, .int .i64 x4, .string ⟨#[]⟩, .bool x6] (v4.setCell ⟨q, 4, none⟩ (.slice b2 n2 d2)) from Q.out.set (j := 4) (by simp))
    have KK := Lib.hid (show Kept w1 (v4.setCell ⟨q, 4, none⟩ (.slice b2 n2 d2)) from KK.out.setCell (p := ⟨q, 4, none⟩) HQ1.out _)
    have R1 := Lib.hid (far_setV (p := q) (j := 4) (u := .slice b2 n2 d2) R1.out G1.out (Nat.lt_succ_self q))
    have R2 := Lib.hid (far_set (p := q) (j := 4) (u := .slice b2 n2 d2) R2.out G2.out (Nat.lt_succ_self q))
    obtain ⟨g0, g1, g2, g3, g4, g5, g6, g7, g8, g9⟩ := HC.out _ KK.out
    go_wp2_with fail
    clear g0 g1 g2 g3 g4 g5 g6 g7 g8 g9 y x
    obtain ⟨W4, hW⟩ : ∃ W, (v4.setCell ⟨q, 4, none⟩ (.slice b2 n2 d2)) = W := ⟨_, rfl⟩
    rw [hW] at Q KK R1 R2 ⊢
    clear hW
    refine (H5.out _ (K.out.trans KK.out)).mono ?_
    rintro e9 v5 ⟨b3, n3, d3, rfl, rr, gg, k⟩
    have G3 := Lib.hid (show Behind (q + 1) b3 from fun b o s e => Nat.le_trans Q.out.lt (gg b o s e).1)
    have R3 := Lib.hid rr
    have KK := Lib.hid (KK.out.trans k)
    have Q := Lib.hid (Q.out.kept k)
    have R1 := Lib.hid (R1.out.kept k)
    have R2 := Lib.hid (R2.out.kept k)
    clear k
    clear rr gg
    go_wp2_with fail
    refine (soundT_ok _ _).mono ?_
    rintro e9 w9 ⟨rfl, rfl⟩
    have y := Q.out.at_ 5 _ rfl
    have x := Q.out.free 5
    have Q := Lib.hid (show CellsN q [.string (bytes a), .string x1, .int .i64 x2, .slice b1 n1 d1, .slice b2 n2 d2, .slice b3 n3 d3, .slice none 0 0, .string x3, .int .i64 x4, .string ⟨#[]⟩, .bool x6] (v5.setCell ⟨q, 5, none⟩ (.slice b3 n3 d3)) from Q.out.set (j := 5) (by simp))
    have KK := Lib.hid (show Kept w1 (v5.setCell ⟨q, 5, none⟩ (.slice b3 n3 d3)) from KK.out.setCell (p := ⟨q, 5, none⟩) HQ1.out _)
    have R1 := Lib.hid (far_setV (p := q) (j := 5) (u := .slice b3 n3 d3) R1.out G1.out (Nat.lt_succ_self q))
    have R2 := Lib.hid (far_set (p := q) (j := 5) (u := .slice b3 n3 d3) R2.out G2.out (Nat.lt_succ_self q))
    have R3 := Lib.hid (far_set (p := q) (j := 5) (u := .slice b3 n3 d3) R3.out G3.out (Nat.lt_succ_self q))
    obtain ⟨g0, g1, g2, g3, g4, g5, g6, g7, g8, g9⟩ := HC.out _ KK.out
    go_wp2_with fail
    clear g0 g1 g2 g3 g4 g5 g6 g7 g8 g9 y x
    obtain ⟨W5, hW⟩ : ∃ W, (v5.setCell ⟨q, 5, none⟩ (.slice b3 n3 d3)) = W := ⟨_, rfl⟩
    rw [hW] at Q KK R1 R2 R3 ⊢
    clear hW
    refine (H6.out _ (K.out.trans KK.out)).mono ?_
    rintro e9 v6 ⟨b4, n4, d4, rfl, rr, gg, k⟩
    have G4 := Lib.hid (show Behind (q + 1) b4 from fun b o s e => Nat.le_trans Q.out.lt (gg b o s e).1)
    have R4 := Lib.hid rr
    have KK := Lib.hid (KK.out.trans k)
    have Q := Lib.hid (Q.out.kept k)
    have R1 := Lib.hid (R1.out.kept k)
    have R2 := Lib.hid (R2.out.kept k)
    have R3 := Lib.hid (R3.out.kept k)
    clear k
    clear rr gg
    go_wp2_with fail
    refine (soundO_ok _ _).mono ?_
    rintro e9 w9 ⟨rfl, rfl⟩
    have y := Q.out.at_ 6 _ rfl
    have x := Q.out.free 6
    have Q := Lib.hid (show CellsN q [.string (bytes a), .string x1, .int .i64 x2, .slice b1 n1 d1, .slice b2 n2 d2, .slice b3 n3 d3, .slice b4 n4 d4, .string x3, .int .i64 x4, .string ⟨#[]⟩, .bool x6] (v6.setCell ⟨q, 6, none⟩ (.slice b4 n4 d4)) from Q.out.set (j := 6) (by simp))
    have KK := Lib.hid (show Kept w1 (v6.setCell ⟨q, 6, none⟩ (.slice b4 n4 d4)) from KK.out.setCell (p := ⟨q, 6, none⟩) HQ1.out _)
    have R1 := Lib.hid (far_setV (p := q) (j := 6) (u := .slice b4 n4 d4) R1.out G1.out (Nat.lt_succ_self q))
    have R2 := Lib.hid (far_set (p := q) (j := 6) (u := .slice b4 n4 d4) R2.out G2.out (Nat.lt_succ_self q))
    have R3 := Lib.hid (far_set (p := q) (j := 6) (u := .slice b4 n4 d4) R3.out G3.out (Nat.lt_succ_self q))
    have R4 := Lib.hid (far_set (p := q) (j := 6) (u := .slice b4 n4 d4) R4.out G4.out (Nat.lt_succ_self q))
    obtain ⟨g0, g1, g2, g3, g4, g5, g6, g7, g8, g9⟩ := HC.out _ KK.out
    go_wp2_with fail
    clear g0 g1 g2 g3 g4 g5 g6 g7 g8 g9 y x
    obtain ⟨W6, hW⟩ : ∃ W, (v6.setCell ⟨q, 6, none⟩ (.slice b4 n4 d4)) = W := ⟨_, rfl⟩
    rw [hW] at Q KK R1 R2 R3 R4 ⊢
    clear hW
    refine (H8.out _ (K.out.trans KK.out)).mono ?_
    rintro e9 v7 ⟨rfl, k⟩
    have KK := Lib.hid (KK.out.trans k)
    have Q := Lib.hid (Q.out.kept k)
    have R1 := Lib.hid (R1.out.kept k)
    have R2 := Lib.hid (R2.out.kept k)
    have R3 := Lib.hid (R3.out.kept k)
    have R4 := Lib.hid (R4.out.kept k)
    clear k
    have y := Q.out.at_ 9 _ rfl
    have x := Q.out.free 9
    have Q := Lib.hid (show CellsN q [.string (bytes a), .string x1, .int .i64 x2, .slice b1 n1 d1, .slice b2 n2 d2, .slice b3 n3 d3, .slice b4 n4 d4, .string x3, .int .i64 x4, .string x5, .bool x6] (v7.setCell ⟨q, 9, none⟩ (.string x5)) from Q.out.set (j := 9) (by simp))
    have KK := Lib.hid (show Kept w1 (v7.setCell ⟨q, 9, none⟩ (.string x5)) from KK.out.setCell (p := ⟨q, 9, none⟩) HQ1.out _)
    have R1 := Lib.hid (far_setV (p := q) (j := 9) (u := .string x5) R1.out G1.out (Nat.lt_succ_self q))
    have R2 := Lib.hid (far_set (p := q) (j := 9) (u := .string x5) R2.out G2.out (Nat.lt_succ_self q))
    have R3 := Lib.hid (far_set (p := q) (j := 9) (u := .string x5) R3.out G3.out (Nat.lt_succ_self q))
    have R4 := Lib.hid (far_set (p := q) (j := 9) (u := .string x5) R4.out G4.out (Nat.lt_succ_self q))
    have g0 := Q.out.at_ 0 _ rfl
    have g1 := Q.out.at_ 1 _ rfl
    have g2 := Q.out.at_ 2 _ rfl
    have g3 := Q.out.at_ 3 _ rfl
    have g4 := Q.out.at_ 4 _ rfl
    have g5 := Q.out.at_ 5 _ rfl
    have g6 := Q.out.at_ 6 _ rfl
    have g7 := Q.out.at_ 7 _ rfl
    have g8 := Q.out.at_ 8 _ rfl
    have g9 := Q.out.at_ 9 _ rfl
    have g10 := Q.out.at_ 10 _ rfl
    go_wp2
    clear g0 g1 g2 g3 g4 g5 g6 g7 g8 g9 g10 y x
    obtain ⟨W7, hW⟩ : ∃ W, (v7.setCell ⟨q, 9, none⟩ (.string x5)) = W := ⟨_, rfl⟩
    rw [hW] at Q KK R1 R2 R3 R4 ⊢
    clear hW
    have HAT := Lib.hid (show PodAt W7 (.slice b1 n1 d1) (.slice b2 n2 d2) (.slice b3 n3 d3) (.slice b4 n4 d4) ⟨bytes a, x1, x2, l1, l2, l3, l4, x3, x4, x5, x6⟩ from ⟨S0.out, S1.out, S3.out.1, S5.out, S2.out, S3.out.2, R1.out, R2.out, R3.out, R4.out⟩)
    have HCK := Lib.hid (fun W (k : Kept W7 W) => checkP_any ⟨bytes a, x1, x2, l1, l2, l3, l4, x3, x4, x5, x6⟩ (.slice b1 n1 d1) (.slice b2 n2 d2) (.slice b3 n3 d3) (.slice b4 n4 d4) W (HAT.out.kept k))
    rw [HCH.out] at HCK
    unfold PodV at HCK
    dsimp only at HCK
    have HS := Lib.hid (show ∀ W, Kept W7 W → W.cell? ⟨q, 0, none⟩ = some (.string (bytes a)) ∧ W.cell? ⟨q, 1, none⟩ = some (.string x1) ∧ W.cell? ⟨q, 2, none⟩ = some (.int .i64 x2) ∧ W.cell? ⟨q, 3, none⟩ = some (.slice b1 n1 d1) ∧ W.cell? ⟨q, 4, none⟩ = some (.slice b2 n2 d2) ∧ W.cell? ⟨q, 5, none⟩ = some (.slice b3 n3 d3) ∧ W.cell? ⟨q, 6, none⟩ = some (.slice b4 n4 d4) ∧ W.cell? ⟨q, 7, none⟩ = some (.string x3) ∧ W.cell? ⟨q, 8, none⟩ = some (.int .i64 x4) ∧ W.cell? ⟨q, 9, none⟩ = some (.string x5) ∧ W.cell? ⟨q, 10, none⟩ = some (.bool x6) from fun W k => by
      have h := CellsN.kept Q.out k
      exact ⟨h.at_ 0 _ rfl, h.at_ 1 _ rfl, h.at_ 2 _ rfl, h.at_ 3 _ rfl, h.at_ 4 _ rfl, h.at_ 5 _ rfl, h.at_ 6 _ rfl, h.at_ 7 _ rfl, h.at_ 8 _ rfl, h.at_ 9 _ rfl, h.at_ 10 _ rfl⟩)
    have HR7 := Lib.hid (fun W (k : Kept W7 W) => CellsN.kept HR1.out (KK.out.trans k))
    have HQR := Lib.hid (show q ≠ w.heap.size by have := HQ1.out; have := HRS.out; omega)
    have HRT := Lib.hid (show w.heap.size < W7.heap.size by have := KK.out.size; have := HRS.out; omega)
    refine wp_region_held_drew (S := fun W => W.cell? ⟨q, 0, none⟩ = some (.string (bytes a)) ∧ W.cell? ⟨q, 1, none⟩ = some (.string x1) ∧ W.cell? ⟨q, 2, none⟩ = some (.int .i64 x2) ∧ W.cell? ⟨q, 3, none⟩ = some (.slice b1 n1 d1) ∧ W.cell? ⟨q, 4, none⟩ = some (.slice b2 n2 d2) ∧ W.cell? ⟨q, 5, none⟩ = some (.slice b3 n3 d3) ∧ W.cell? ⟨q, 6, none⟩ = some (.slice b4 n4 d4) ∧ W.cell? ⟨q, 7, none⟩ = some (.string x3) ∧ W.cell? ⟨q, 8, none⟩ = some (.int .i64 x4) ∧ W.cell? ⟨q, 9, none⟩ = some (.string x5) ∧ W.cell? ⟨q, 10, none⟩ = some (.bool x6)) (by kernel_rfl) (HS.out _ (Kept.drew _)) (fun hHeld => ?_)
    refine wpAnyH_take (i := 0) (v := ?_) (by rw [List.getElem?_toArray]; exact rfl) (by kernel_rfl) (by kernel_rfl) (by kernel_rfl) (by exact fun _ _ _ h => h) (Or.inl ⟨by rfl, (by intro W hSw; obtain ⟨q0, q1, q2, q3, q4, q5, q6, q7, q8, q9, q10⟩ := hSw; go_simp <;> with_reducible rfl)⟩) (by assumption) ?_
    try simp only [Act.put, List.setIfInBounds_toArray, List.set_cons_zero, List.set_cons_succ]
    refine wpAnyH_take (i := 1) (v := ?_) (by rw [List.getElem?_toArray]; exact rfl) (by kernel_rfl) (by kernel_rfl) (by kernel_rfl) (by exact fun _ _ _ h => h) (Or.inl ⟨by rfl, (by intro W hSw; obtain ⟨q0, q1, q2, q3, q4, q5, q6, q7, q8, q9, q10⟩ := hSw; go_simp <;> with_reducible rfl)⟩) (by assumption) ?_
    try simp only [Act.put, List.setIfInBounds_toArray, List.set_cons_zero, List.set_cons_succ]
    refine wpAnyH_ready (rs := [2]) (by kernel_rfl) (by simp) (AllReadyH.cons (by rw [List.getElem?_toArray]; exact rfl) (fun K9 hK9 => ?_) AllReadyH.nil)
    go_simp
    refine (HCK.out _ (Kept.drew _)).mono ?_
    rintro e9 u1 ⟨rfl, k⟩
    have J1 := Lib.hid ((Kept.drew _).trans k)
    clear k
    refine hK9.out _ _ (HS.out _ J1.out) (fun hHeld23 => ?_)
    clear hK9 K9
    try simp only [Act.put, List.setIfInBounds_toArray, List.set_cons_zero, List.set_cons_succ]
    by_cases z : c = 0
    · subst z
      refine wpAnyH_ready (rs := [3]) (by kernel_rfl) (by simp) (AllReadyH.cons (by rw [List.getElem?_toArray]; exact rfl) (fun K9 hK9 => ?_) AllReadyH.nil)
      go_simp
      refine (soundPd_ok _ _ _ _ _ _ _ _ _ _ _ _ _ _ _ _ _ _ _ _).mono ?_
      rintro e8 u2 ⟨rfl, k⟩
      have J2 := Lib.hid (J1.out.trans k)
      clear k
      refine hK9.out _ _ (HS.out _ J2.out) (fun hHeld24 => ?_)
      clear hK9 K9
      try simp only [Act.put, List.setIfInBounds_toArray, List.set_cons_zero, List.set_cons_succ]
      have z0 := (HR7.out _ J2.out).at_ 0 _ rfl
      have z1 := (HR7.out _ J2.out).at_ 1 _ rfl
      have z2 := (HR7.out _ J2.out).at_ 2 _ rfl
      have z3 := (HR7.out _ J2.out).at_ 3 _ rfl
      have z4 := (HR7.out _ J2.out).at_ 4 _ rfl
      have z5 := (HR7.out _ J2.out).at_ 5 _ rfl
      have z6 := (HR7.out _ J2.out).at_ 6 _ rfl
      have z7 := (HR7.out _ J2.out).at_ 7 _ rfl
      have z8 := (HR7.out _ J2.out).at_ 8 _ rfl
      have z9 := (HR7.out _ J2.out).at_ 9 _ rfl
      have z10 := (HR7.out _ J2.out).at_ 10 _ rfl
      have f0 := (HR7.out _ J2.out).free 0
      have f1 := (HR7.out _ J2.out).free 1
      have f2 := (HR7.out _ J2.out).free 2
      have f3 := (HR7.out _ J2.out).free 3
      have f4 := (HR7.out _ J2.out).free 4
      have f5 := (HR7.out _ J2.out).free 5
      have f6 := (HR7.out _ J2.out).free 6
      have f7 := (HR7.out _ J2.out).free 7
      have f8 := (HR7.out _ J2.out).free 8
      have f9 := (HR7.out _ J2.out).free 9
      have f10 := (HR7.out _ J2.out).free 10
      refine wpAnyH_ready (rs := [4]) (by kernel_rfl) (by simp) (AllReadyH.cons (by rw [List.getElem?_toArray]; exact rfl) (fun K9 hK9 => ?_) AllReadyH.nil)
      go_simp
      refine hK9.out _ _ (eleven_past (HS.out _ J2.out) HQR.out) (fun hHeldS => ?_)
      clear hK9 K9 hHeldS
      try simp only [Act.put, List.setIfInBounds_toArray, List.set_cons_zero, List.set_cons_succ]
      refine wpAnyH_done (by kernel_rfl) ?_ _
      have P := Lib.hid (putN (vs := [.string (bytes a), .string x1, .int .i64 x2, .slice b1 n1 d1, .slice b2 n2 d2, .slice b3 n3 d3, .slice b4 n4 d4, .string x3, .int .i64 x4, .string x5, .bool x6]) (HR7.out _ J2.out) rfl)
      clear z0 f0 z1 f1 z2 f2 z3 f3 z4 f4 z5 f5 z6 f6 z7 f7 z8 f8 z9 f9 z10 f10
      go_wp2
      (try simp only [Exit.inBlock, Exit.then])
      obtain ⟨WE, hWE⟩ : ∃ W, u2.setCells w.heap.size 0 [.string (bytes a), .string x1, .int .i64 x2, .slice b1 n1 d1, .slice b2 n2 d2, .slice b3 n3 d3, .slice b4 n4 d4, .string x3, .int .i64 x4, .string x5, .bool x6] = W := ⟨_, rfl⟩
      have hWE2 : (((((((((((u2.setCell ⟨w.heap.size, 0, none⟩ (.string (bytes a))).setCell ⟨w.heap.size, 1, none⟩ (.string x1)).setCell ⟨w.heap.size, 2, none⟩ (.int .i64 x2)).setCell ⟨w.heap.size, 3, none⟩ (.slice b1 n1 d1)).setCell ⟨w.heap.size, 4, none⟩ (.slice b2 n2 d2)).setCell ⟨w.heap.size, 5, none⟩ (.slice b3 n3 d3)).setCell ⟨w.heap.size, 6, none⟩ (.slice b4 n4 d4)).setCell ⟨w.heap.size, 7, none⟩ (.string x3)).setCell ⟨w.heap.size, 8, none⟩ (.int .i64 x4)).setCell ⟨w.heap.size, 9, none⟩ (.string x5)).setCell ⟨w.heap.size, 10, none⟩ (.bool x6)) = WE := hWE
      rw [hWE] at P
      rw [hWE2]
      clear hWE hWE2
      obtain ⟨PC, hsz, hbl, hkp⟩ := P.out
      refine bodyPost_ret (by simp [results, Tryz.results76, go_sem, PC.at_ 0 _ rfl, PC.at_ 1 _ rfl, PC.at_ 2 _ rfl, PC.at_ 3 _ rfl, PC.at_ 4 _ rfl, PC.at_ 5 _ rfl, PC.at_ 6 _ rfl, PC.at_ 7 _ rfl, PC.at_ 8 _ rfl, PC.at_ 9 _ rfl, PC.at_ 10 _ rfl]; try rfl) rfl ?_
      refine ⟨fun _ => ⟨_, rfl, ⟨_, _, _, _, _, _, _, _, _, _, _, _, rfl, PodAt.far (B := q + 1) (HAT.out.kept J2.out) hsz (fun b hb => hbl b (by have := HQ1.out; have := HRS.out; omega)) G1.out G2.out G3.out G4.out, G1.out.less (by have := HQ1.out; have := HRS.out; omega), G2.out.less (by have := HQ1.out; have := HRS.out; omega), G3.out.less (by have := HQ1.out; have := HRS.out; omega), G4.out.less (by have := HQ1.out; have := HRS.out; omega)⟩⟩, fun h => absurd rfl h, hkp _ _ (Nat.le_refl _) (K.out.trans (KK.out.trans J2.out))⟩
    · skip
      refine wpAnyH_ready (rs := [3]) (by kernel_rfl) (by simp) (AllReadyH.cons (by rw [List.getElem?_toArray]; exact rfl) (fun K9 hK9 => ?_) AllReadyH.nil)
      go_simp
      refine (soundPd_bad _ _ _ _ _ _ _ _ _ _ _ _ _ _ _ _ _ _ _ _ _ z).mono ?_
      rintro e8 u2 ⟨rfl, k⟩
      exact ⟨rfl, PodRes.bad z (K.out.trans (KK.out.trans (J1.out.trans k)))⟩
set_option maxRecDepth 100000 in
set_option maxHeartbeats 8000000 in
theorem parsedPd_form (s a b c0 d e f g0 h0 i j y : List UInt8) (x2 : Int) (x6 fl : Bool) (w : World) (hE : EnvP w) (hs : s.length ≤ 900000) (hp : partsAt 32 s = [a, b, c0, d, e, f, g0, h0, i, j]) (hcc : prioL c0 = some x2) (hj : kindL j = some x6) (hct : Lib.cut h0 [47] = (y, [], fl)) (hy : y ≠ []) (hd : h0 ≠ [45]) :
    Calls Tryz.prog 76 #[.string (bytes s)] w (PodRes 2 Pd.zero w) := by
  have hlen : ∀ p ∈ [a, b, c0, d, e, f, g0, h0, i, j], p.length ≤ s.length := fun p hm => partAt_len 32 s p (by rw [hp]; exact hm)
  have la := hlen a (by simp)
  have lb := hlen b (by simp)
  have lc := hlen c0 (by simp)
  have ld := hlen d (by simp)
  have le := hlen e (by simp)
  have lf := hlen f (by simp)
  have lg := hlen g0 (by simp)
  have lh := hlen h0 (by simp)
  have li := hlen i (by simp)
  obtain ⟨Z, hZ⟩ : ∃ Z, w.alloc (.cells #[.string ⟨#[]⟩, .string ⟨#[]⟩, .int .i64 0, .slice none 0 0, .slice none 0 0, .slice none 0 0, .slice none 0 0, .string ⟨#[]⟩, .int .i64 0, .string ⟨#[]⟩, .bool false] 30) = Z := ⟨_, rfl⟩
  have hkz : Kept w Z := by rw [← hZ]; exact kept_alloc _ _
  have hzs : Z.heap.size = w.heap.size + 1 := by rw [← hZ]; simp
  have HR0 := Lib.hid (show CellsN w.heap.size [.string ⟨#[]⟩, .string ⟨#[]⟩, .int .i64 0, .slice none 0 0, .slice none 0 0, .slice none 0 0, .slice none 0 0, .string ⟨#[]⟩, .int .i64 0, .string ⟨#[]⟩, .bool false] Z from freshN w (.string ⟨#[]⟩) [.string ⟨#[]⟩, .int .i64 0, .slice none 0 0, .slice none 0 0, .slice none 0 0, .slice none 0 0, .string ⟨#[]⟩, .int .i64 0, .string ⟨#[]⟩, .bool false] 30 Z (by rw [hZ]; exact Kept.refl _))
  have HWD := Lib.hid (pwords10 s Z (hE.kept hkz).toEnvT.toEnv.base (by omega))
  have H2 := Lib.hid (fun W (_ : Kept w W) => prio_ok c0 x2 W (by omega) hcc)
  have H9 := Lib.hid (fun W => kind_ok j x6 W hj)
  have H7 := Lib.hid (fun W (k : Kept w W) => spread_none h0 y fl W (hE.kept k) (by omega) hct hy hd)
  have HP := Lib.hid hp
  have HKZ := Lib.hid hkz
  have HZS := Lib.hid hzs
  clear hE hs hp hcc hj hct hy hd hlen la lb lc ld le lf lg lh li hkz hzs
  go_enter Tryz.func76, Tryz.ntmps76
  go_wp2_with fail
  try rw [hZ]
  clear hZ
  refine HWD.out.mono ?_
  rintro ee w1 ⟨hw, -, k⟩
  obtain ⟨g, cap, rfl, -, hcells⟩ := hw (by rw [HP.out]; rfl)
  have K := Lib.hid (HKZ.out.trans k)
  have HR1 := Lib.hid (HR0.out.kept k)
  have HRS := Lib.hid (show w.heap.size + 1 ≤ w1.heap.size by have := k.size; rw [HZS.out] at this; exact this)
  rw [HP.out] at hcells
  have HC := Lib.hid (show ∀ W, Kept w1 W → W.cell? ⟨g, 0, none⟩ = some (.string (bytes a)) ∧ W.cell? ⟨g, 1, none⟩ = some (.string (bytes b)) ∧ W.cell? ⟨g, 2, none⟩ = some (.string (bytes c0)) ∧ W.cell? ⟨g, 3, none⟩ = some (.string (bytes d)) ∧ W.cell? ⟨g, 4, none⟩ = some (.string (bytes e)) ∧ W.cell? ⟨g, 5, none⟩ = some (.string (bytes f)) ∧ W.cell? ⟨g, 6, none⟩ = some (.string (bytes g0)) ∧ W.cell? ⟨g, 7, none⟩ = some (.string (bytes h0)) ∧ W.cell? ⟨g, 8, none⟩ = some (.string (bytes i)) ∧ W.cell? ⟨g, 9, none⟩ = some (.string (bytes j)) from fun W k =>
    ⟨cell_later k (hcells 0 a rfl), cell_later k (hcells 1 b rfl), cell_later k (hcells 2 c0 rfl), cell_later k (hcells 3 d rfl), cell_later k (hcells 4 e rfl), cell_later k (hcells 5 f rfl), cell_later k (hcells 6 g0 rfl), cell_later k (hcells 7 h0 rfl), cell_later k (hcells 8 i rfl), cell_later k (hcells 9 j rfl)⟩)
  clear hw k hcells HWD
  go_wp2
  go_cut [4] from 7 to 16 (fun s4 wx => ∃ q, s4 = .pointer (some ⟨q, 0, none⟩) ∧ CellsN q [.string ⟨#[]⟩, .string ⟨#[]⟩, .int .i64 x2, .slice none 0 0, .slice none 0 0, .slice none 0 0, .slice none 0 0, .string ⟨#[]⟩, .int .i64 0, .string ⟨#[]⟩, .bool x6] wx ∧ Kept w1 wx ∧ w1.heap.size ≤ q)
  case first =>
    refine wp_region_held_drew (S := fun W => Kept w1 W) (by kernel_rfl) (Kept.drew _) (fun hHeld => ?_)
    have KK := Lib.hid hHeld
    obtain ⟨wd, hwd⟩ : ∃ W, w1.drew = W := ⟨_, rfl⟩
    rw [hwd] at KK hHeld ⊢
    clear hwd
    refine wpAnyH_take (i := 0) (v := ?_) (by rw [List.getElem?_toArray]; exact rfl) (by kernel_rfl) (by kernel_rfl) (by kernel_rfl) (by exact fun _ _ _ h => h) (Or.inl ⟨by rfl, (by intro W hSw; obtain ⟨g0, g1, g2, g3, g4, g5, g6, g7, g8, g9⟩ := HC.out _ hSw; go_simp <;> with_reducible rfl)⟩) (by assumption) ?_
    try simp only [Act.put, List.setIfInBounds_toArray, List.set_cons_zero, List.set_cons_succ]
    refine wpAnyH_take (i := 1) (v := ?_) (by rw [List.getElem?_toArray]; exact rfl) (by kernel_rfl) (by kernel_rfl) (by kernel_rfl) (by exact fun _ _ _ h => h) (Or.inl ⟨by rfl, (by intro W hSw; obtain ⟨g0, g1, g2, g3, g4, g5, g6, g7, g8, g9⟩ := HC.out _ hSw; go_simp <;> with_reducible rfl)⟩) (by assumption) ?_
    try simp only [Act.put, List.setIfInBounds_toArray, List.set_cons_zero, List.set_cons_succ]
    refine wpAnyH_take (i := 2) (v := ?_) (by rw [List.getElem?_toArray]; exact rfl) (by kernel_rfl) (by kernel_rfl) (by kernel_rfl) (by exact fun _ _ _ h => h) (Or.inl ⟨by rfl, (by intro W hSw; obtain ⟨g0, g1, g2, g3, g4, g5, g6, g7, g8, g9⟩ := HC.out _ hSw; go_simp <;> with_reducible rfl)⟩) (by assumption) ?_
    try simp only [Act.put, List.setIfInBounds_toArray, List.set_cons_zero, List.set_cons_succ]
    refine wpAnyH_take (i := 4) (v := ?_) (by rw [List.getElem?_toArray]; exact rfl) (by kernel_rfl) (by kernel_rfl) (by kernel_rfl) (by exact fun _ _ _ h => h) (Or.inl ⟨by rfl, (by intro W hSw; obtain ⟨g0, g1, g2, g3, g4, g5, g6, g7, g8, g9⟩ := HC.out _ hSw; go_simp <;> with_reducible rfl)⟩) (by assumption) ?_
    try simp only [Act.put, List.setIfInBounds_toArray, List.set_cons_zero, List.set_cons_succ]
    refine wpAnyH_take (i := 5) (v := ?_) (by rw [List.getElem?_toArray]; exact rfl) (by kernel_rfl) (by kernel_rfl) (by kernel_rfl) (by exact fun _ _ _ h => h) (Or.inl ⟨by rfl, (by intro W hSw; obtain ⟨g0, g1, g2, g3, g4, g5, g6, g7, g8, g9⟩ := HC.out _ hSw; go_simp <;> with_reducible rfl)⟩) (by assumption) ?_
    try simp only [Act.put, List.setIfInBounds_toArray, List.set_cons_zero, List.set_cons_succ]
    refine wpAnyH_take (i := 6) (v := ?_) (by rw [List.getElem?_toArray]; exact rfl) (by kernel_rfl) (by kernel_rfl) (by kernel_rfl) (by exact fun _ _ _ h => h) (Or.inl ⟨by rfl, (by intro W hSw; obtain ⟨g0, g1, g2, g3, g4, g5, g6, g7, g8, g9⟩ := HC.out _ hSw; go_simp <;> with_reducible rfl)⟩) (by assumption) ?_
    try simp only [Act.put, List.setIfInBounds_toArray, List.set_cons_zero, List.set_cons_succ]
    refine wpAnyH_ready (rs := [3, 9]) (by kernel_rfl) (by simp) (AllReadyH.cons (by rw [List.getElem?_toArray]; exact rfl) (fun K9 hK9 => ?_) (AllReadyH.cons (by rw [List.getElem?_toArray]; exact rfl) (fun K9 hK9 => ?_) AllReadyH.nil))
    · skip
      go_simp
      refine (H2.out _ (K.out.trans KK.out)).mono ?_
      rintro e9 ww1 ⟨rfl, k⟩
      have KK := Lib.hid (KK.out.trans k)
      clear k
      refine hK9.out _ _ KK.out (fun hHeld2 => ?_)
      clear hK9 K9
      try simp only [Act.put, List.setIfInBounds_toArray, List.set_cons_zero, List.set_cons_succ]
      refine wpAnyH_ready (rs := [7, 9]) (by kernel_rfl) (by simp) (AllReadyH.cons (by rw [List.getElem?_toArray]; exact rfl) (fun K9 hK9 => ?_) (AllReadyH.cons (by rw [List.getElem?_toArray]; exact rfl) (fun K9 hK9 => ?_) AllReadyH.nil))
      · skip
        go_simp
        refine (H9.out _).mono ?_
        rintro e9 ww3 ⟨rfl, rfl⟩
        refine hK9.out _ _ KK.out (fun hHeld4 => ?_)
        clear hK9 K9
        try simp only [Act.put, List.setIfInBounds_toArray, List.set_cons_zero, List.set_cons_succ]
        refine wpAnyH_take (i := 8) (v := ?_) (by rw [List.getElem?_toArray]; exact rfl) (by kernel_rfl) (by kernel_rfl) (by kernel_rfl) (by exact fun _ _ _ h => h) (Or.inl ⟨by rfl, (by intro W hSw; obtain ⟨g0, g1, g2, g3, g4, g5, g6, g7, g8, g9⟩ := HC.out _ hSw; go_simp <;> with_reducible rfl)⟩) (by assumption) ?_
        try simp only [Act.put, List.setIfInBounds_toArray, List.set_cons_zero, List.set_cons_succ]
        refine wpAnyH_ready (rs := [9]) (by kernel_rfl) (by simp) (AllReadyH.cons (by rw [List.getElem?_toArray]; exact rfl) (fun K9 hK9 => ?_) AllReadyH.nil)
        go_simp
        have k := kept_alloc ww1 (.cells #[.string ⟨#[]⟩, .string ⟨#[]⟩, .int .i64 0, .slice none 0 0, .slice none 0 0, .slice none 0 0, .slice none 0 0, .string ⟨#[]⟩, .int .i64 0, .string ⟨#[]⟩, .bool false] 30)
        have hn := freshN ww1 (.string ⟨#[]⟩) [.string ⟨#[]⟩, .int .i64 0, .slice none 0 0, .slice none 0 0, .slice none 0 0, .slice none 0 0, .string ⟨#[]⟩, .int .i64 0, .string ⟨#[]⟩, .bool false] 30 _ (Kept.refl _)
        have hp9 : w1.heap.size ≤ ww1.heap.size := KK.out.size
        obtain ⟨q, hqe⟩ : ∃ z, ww1.heap.size = z := ⟨_, rfl⟩
        rw [hqe] at hn hp9 ⊢
        obtain ⟨ww5, hnw⟩ : ∃ W, ww1.alloc (.cells #[.string ⟨#[]⟩, .string ⟨#[]⟩, .int .i64 0, .slice none 0 0, .slice none 0 0, .slice none 0 0, .slice none 0 0, .string ⟨#[]⟩, .int .i64 0, .string ⟨#[]⟩, .bool false] 30) = W := ⟨_, rfl⟩
        rw [hnw] at hn k ⊢
        clear hnw hqe
        have KK := Lib.hid (KK.out.trans k)
        have QA := Lib.hid hn
        have HQP := Lib.hid hp9
        clear hn k hp9
        refine hK9.out _ _ KK.out (fun hHeld6 => ?_)
        clear hK9 K9
        try simp only [Act.put, List.setIfInBounds_toArray, List.set_cons_zero, List.set_cons_succ]
        refine wpAnyH_ready (rs := [10]) (by kernel_rfl) (by simp) (AllReadyH.cons (by rw [List.getElem?_toArray]; exact rfl) (fun K9 hK9 => ?_) AllReadyH.nil)
        have z0 := QA.out.at_ 0 _ rfl
        have z1 := QA.out.at_ 1 _ rfl
        have z2 := QA.out.at_ 2 _ rfl
        have z3 := QA.out.at_ 3 _ rfl
        have z4 := QA.out.at_ 4 _ rfl
        have z5 := QA.out.at_ 5 _ rfl
        have z6 := QA.out.at_ 6 _ rfl
        have z7 := QA.out.at_ 7 _ rfl
        have z8 := QA.out.at_ 8 _ rfl
        have z9 := QA.out.at_ 9 _ rfl
        have z10 := QA.out.at_ 10 _ rfl
        have y0 := QA.out.free 0
        have y1 := QA.out.free 1
        have y2 := QA.out.free 2
        have y3 := QA.out.free 3
        have y4 := QA.out.free 4
        have y5 := QA.out.free 5
        have y6 := QA.out.free 6
        have y7 := QA.out.free 7
        have y8 := QA.out.free 8
        have y9 := QA.out.free 9
        have y10 := QA.out.free 10
        go_simp
        have PP := Lib.hid (putN (vs := [.string ⟨#[]⟩, .string ⟨#[]⟩, .int .i64 x2, .slice none 0 0, .slice none 0 0, .slice none 0 0, .slice none 0 0, .string ⟨#[]⟩, .int .i64 0, .string ⟨#[]⟩, .bool x6]) QA.out rfl)
        obtain ⟨ww7, hnw⟩ : ∃ W, ww5.setCells q 0 [.string ⟨#[]⟩, .string ⟨#[]⟩, .int .i64 x2, .slice none 0 0, .slice none 0 0, .slice none 0 0, .slice none 0 0, .string ⟨#[]⟩, .int .i64 0, .string ⟨#[]⟩, .bool x6] = W := ⟨_, rfl⟩
        have hnw2 : (((((((((((ww5.setCell ⟨q, 0, none⟩ (.string ⟨#[]⟩)).setCell ⟨q, 1, none⟩ (.string ⟨#[]⟩)).setCell ⟨q, 2, none⟩ (.int .i64 x2)).setCell ⟨q, 3, none⟩ (.slice none 0 0)).setCell ⟨q, 4, none⟩ (.slice none 0 0)).setCell ⟨q, 5, none⟩ (.slice none 0 0)).setCell ⟨q, 6, none⟩ (.slice none 0 0)).setCell ⟨q, 7, none⟩ (.string ⟨#[]⟩)).setCell ⟨q, 8, none⟩ (.int .i64 0)).setCell ⟨q, 9, none⟩ (.string ⟨#[]⟩)).setCell ⟨q, 10, none⟩ (.bool x6)) = ww7 := hnw
        rw [hnw] at PP
        rw [hnw2]
        clear hnw hnw2 z0 y0 z1 y1 z2 y2 z3 y3 z4 y4 z5 y5 z6 y6 z7 y7 z8 y8 z9 y9 z10 y10
        have KK := Lib.hid (show Kept w1 ww7 from PP.out.below _ _ HQP.out KK.out)
        have QA := Lib.hid PP.out.cells
        clear PP
        refine hK9.out _ _ KK.out (fun hHeld8 => ?_)
        clear hK9 K9
        try simp only [Act.put, List.setIfInBounds_toArray, List.set_cons_zero, List.set_cons_succ]
        refine wpAnyH_done (by kernel_rfl) ?_ _
        go_wp2
        go_meet
        case rel => exact ⟨q, rfl, QA.out, KK.out, HQP.out⟩
      · skip
        go_simp
        have k := kept_alloc ww1 (.cells #[.string ⟨#[]⟩, .string ⟨#[]⟩, .int .i64 0, .slice none 0 0, .slice none 0 0, .slice none 0 0, .slice none 0 0, .string ⟨#[]⟩, .int .i64 0, .string ⟨#[]⟩, .bool false] 30)
        have hn := freshN ww1 (.string ⟨#[]⟩) [.string ⟨#[]⟩, .int .i64 0, .slice none 0 0, .slice none 0 0, .slice none 0 0, .slice none 0 0, .string ⟨#[]⟩, .int .i64 0, .string ⟨#[]⟩, .bool false] 30 _ (Kept.refl _)
        have hp9 : w1.heap.size ≤ ww1.heap.size := KK.out.size
        obtain ⟨q, hqe⟩ : ∃ z, ww1.heap.size = z := ⟨_, rfl⟩
        rw [hqe] at hn hp9 ⊢
        obtain ⟨ww9, hnw⟩ : ∃ W, ww1.alloc (.cells #[.string ⟨#[]⟩, .string ⟨#[]⟩, .int .i64 0, .slice none 0 0, .slice none 0 0, .slice none 0 0, .slice none 0 0, .string ⟨#[]⟩, .int .i64 0, .string ⟨#[]⟩, .bool false] 30) = W := ⟨_, rfl⟩
        rw [hnw] at hn k ⊢
        clear hnw hqe
        have KK := Lib.hid (KK.out.trans k)
        have QA := Lib.hid hn
        have HQP := Lib.hid hp9
        clear hn k hp9
        refine hK9.out _ _ KK.out (fun hHeld10 => ?_)
        clear hK9 K9
        try simp only [Act.put, List.setIfInBounds_toArray, List.set_cons_zero, List.set_cons_succ]
        refine wpAnyH_ready (rs := [7]) (by kernel_rfl) (by simp) (AllReadyH.cons (by rw [List.getElem?_toArray]; exact rfl) (fun K9 hK9 => ?_) AllReadyH.nil)
        go_simp
        refine (H9.out _).mono ?_
        rintro e9 ww11 ⟨rfl, rfl⟩
        refine hK9.out _ _ KK.out (fun hHeld12 => ?_)
        clear hK9 K9
        try simp only [Act.put, List.setIfInBounds_toArray, List.set_cons_zero, List.set_cons_succ]
        refine wpAnyH_take (i := 8) (v := ?_) (by rw [List.getElem?_toArray]; exact rfl) (by kernel_rfl) (by kernel_rfl) (by kernel_rfl) (by exact fun _ _ _ h => h) (Or.inl ⟨by rfl, (by intro W hSw; obtain ⟨g0, g1, g2, g3, g4, g5, g6, g7, g8, g9⟩ := HC.out _ hSw; go_simp <;> with_reducible rfl)⟩) (by assumption) ?_
        try simp only [Act.put, List.setIfInBounds_toArray, List.set_cons_zero, List.set_cons_succ]
        refine wpAnyH_ready (rs := [10]) (by kernel_rfl) (by simp) (AllReadyH.cons (by rw [List.getElem?_toArray]; exact rfl) (fun K9 hK9 => ?_) AllReadyH.nil)
        have z0 := QA.out.at_ 0 _ rfl
        have z1 := QA.out.at_ 1 _ rfl
        have z2 := QA.out.at_ 2 _ rfl
        have z3 := QA.out.at_ 3 _ rfl
        have z4 := QA.out.at_ 4 _ rfl
        have z5 := QA.out.at_ 5 _ rfl
        have z6 := QA.out.at_ 6 _ rfl
        have z7 := QA.out.at_ 7 _ rfl
        have z8 := QA.out.at_ 8 _ rfl
        have z9 := QA.out.at_ 9 _ rfl
        have z10 := QA.out.at_ 10 _ rfl
        have y0 := QA.out.free 0
        have y1 := QA.out.free 1
        have y2 := QA.out.free 2
        have y3 := QA.out.free 3
        have y4 := QA.out.free 4
        have y5 := QA.out.free 5
        have y6 := QA.out.free 6
        have y7 := QA.out.free 7
        have y8 := QA.out.free 8
        have y9 := QA.out.free 9
        have y10 := QA.out.free 10
        go_simp
        have PP := Lib.hid (putN (vs := [.string ⟨#[]⟩, .string ⟨#[]⟩, .int .i64 x2, .slice none 0 0, .slice none 0 0, .slice none 0 0, .slice none 0 0, .string ⟨#[]⟩, .int .i64 0, .string ⟨#[]⟩, .bool x6]) QA.out rfl)
        obtain ⟨ww13, hnw⟩ : ∃ W, ww9.setCells q 0 [.string ⟨#[]⟩, .string ⟨#[]⟩, .int .i64 x2, .slice none 0 0, .slice none 0 0, .slice none 0 0, .slice none 0 0, .string ⟨#[]⟩, .int .i64 0, .string ⟨#[]⟩, .bool x6] = W := ⟨_, rfl⟩
        have hnw2 : (((((((((((ww9.setCell ⟨q, 0, none⟩ (.string ⟨#[]⟩)).setCell ⟨q, 1, none⟩ (.string ⟨#[]⟩)).setCell ⟨q, 2, none⟩ (.int .i64 x2)).setCell ⟨q, 3, none⟩ (.slice none 0 0)).setCell ⟨q, 4, none⟩ (.slice none 0 0)).setCell ⟨q, 5, none⟩ (.slice none 0 0)).setCell ⟨q, 6, none⟩ (.slice none 0 0)).setCell ⟨q, 7, none⟩ (.string ⟨#[]⟩)).setCell ⟨q, 8, none⟩ (.int .i64 0)).setCell ⟨q, 9, none⟩ (.string ⟨#[]⟩)).setCell ⟨q, 10, none⟩ (.bool x6)) = ww13 := hnw
        rw [hnw] at PP
        rw [hnw2]
        clear hnw hnw2 z0 y0 z1 y1 z2 y2 z3 y3 z4 y4 z5 y5 z6 y6 z7 y7 z8 y8 z9 y9 z10 y10
        have KK := Lib.hid (show Kept w1 ww13 from PP.out.below _ _ HQP.out KK.out)
        have QA := Lib.hid PP.out.cells
        clear PP
        refine hK9.out _ _ KK.out (fun hHeld14 => ?_)
        clear hK9 K9
        try simp only [Act.put, List.setIfInBounds_toArray, List.set_cons_zero, List.set_cons_succ]
        refine wpAnyH_done (by kernel_rfl) ?_ _
        go_wp2
        go_meet
        case rel => exact ⟨q, rfl, QA.out, KK.out, HQP.out⟩
    · skip
      go_simp
      have k := kept_alloc wd (.cells #[.string ⟨#[]⟩, .string ⟨#[]⟩, .int .i64 0, .slice none 0 0, .slice none 0 0, .slice none 0 0, .slice none 0 0, .string ⟨#[]⟩, .int .i64 0, .string ⟨#[]⟩, .bool false] 30)
      have hn := freshN wd (.string ⟨#[]⟩) [.string ⟨#[]⟩, .int .i64 0, .slice none 0 0, .slice none 0 0, .slice none 0 0, .slice none 0 0, .string ⟨#[]⟩, .int .i64 0, .string ⟨#[]⟩, .bool false] 30 _ (Kept.refl _)
      have hp9 : w1.heap.size ≤ wd.heap.size := KK.out.size
      obtain ⟨q, hqe⟩ : ∃ z, wd.heap.size = z := ⟨_, rfl⟩
      rw [hqe] at hn hp9 ⊢
      obtain ⟨ww15, hnw⟩ : ∃ W, wd.alloc (.cells #[.string ⟨#[]⟩, .string ⟨#[]⟩, .int .i64 0, .slice none 0 0, .slice none 0 0, .slice none 0 0, .slice none 0 0, .string ⟨#[]⟩, .int .i64 0, .string ⟨#[]⟩, .bool false] 30) = W := ⟨_, rfl⟩
      rw [hnw] at hn k ⊢
      clear hnw hqe
      have KK := Lib.hid (KK.out.trans k)
      have QA := Lib.hid hn
      have HQP := Lib.hid hp9
      clear hn k hp9
      refine hK9.out _ _ KK.out (fun hHeld16 => ?_)
      clear hK9 K9
      try simp only [Act.put, List.setIfInBounds_toArray, List.set_cons_zero, List.set_cons_succ]
      refine wpAnyH_ready (rs := [3]) (by kernel_rfl) (by simp) (AllReadyH.cons (by rw [List.getElem?_toArray]; exact rfl) (fun K9 hK9 => ?_) AllReadyH.nil)
      go_simp
      refine (H2.out _ (K.out.trans KK.out)).mono ?_
      rintro e9 ww17 ⟨rfl, k⟩
      have KK := Lib.hid (KK.out.trans k)
      have QA := Lib.hid (QA.out.kept k)
      clear k
      refine hK9.out _ _ KK.out (fun hHeld18 => ?_)
      clear hK9 K9
      try simp only [Act.put, List.setIfInBounds_toArray, List.set_cons_zero, List.set_cons_succ]
      refine wpAnyH_ready (rs := [7]) (by kernel_rfl) (by simp) (AllReadyH.cons (by rw [List.getElem?_toArray]; exact rfl) (fun K9 hK9 => ?_) AllReadyH.nil)
      go_simp
      refine (H9.out _).mono ?_
      rintro e9 ww19 ⟨rfl, rfl⟩
      refine hK9.out _ _ KK.out (fun hHeld20 => ?_)
      clear hK9 K9
      try simp only [Act.put, List.setIfInBounds_toArray, List.set_cons_zero, List.set_cons_succ]
      refine wpAnyH_take (i := 8) (v := ?_) (by rw [List.getElem?_toArray]; exact rfl) (by kernel_rfl) (by kernel_rfl) (by kernel_rfl) (by exact fun _ _ _ h => h) (Or.inl ⟨by rfl, (by intro W hSw; obtain ⟨g0, g1, g2, g3, g4, g5, g6, g7, g8, g9⟩ := HC.out _ hSw; go_simp <;> with_reducible rfl)⟩) (by assumption) ?_
      try simp only [Act.put, List.setIfInBounds_toArray, List.set_cons_zero, List.set_cons_succ]
      refine wpAnyH_ready (rs := [10]) (by kernel_rfl) (by simp) (AllReadyH.cons (by rw [List.getElem?_toArray]; exact rfl) (fun K9 hK9 => ?_) AllReadyH.nil)
      have z0 := QA.out.at_ 0 _ rfl
      have z1 := QA.out.at_ 1 _ rfl
      have z2 := QA.out.at_ 2 _ rfl
      have z3 := QA.out.at_ 3 _ rfl
      have z4 := QA.out.at_ 4 _ rfl
      have z5 := QA.out.at_ 5 _ rfl
      have z6 := QA.out.at_ 6 _ rfl
      have z7 := QA.out.at_ 7 _ rfl
      have z8 := QA.out.at_ 8 _ rfl
      have z9 := QA.out.at_ 9 _ rfl
      have z10 := QA.out.at_ 10 _ rfl
      have y0 := QA.out.free 0
      have y1 := QA.out.free 1
      have y2 := QA.out.free 2
      have y3 := QA.out.free 3
      have y4 := QA.out.free 4
      have y5 := QA.out.free 5
      have y6 := QA.out.free 6
      have y7 := QA.out.free 7
      have y8 := QA.out.free 8
      have y9 := QA.out.free 9
      have y10 := QA.out.free 10
      go_simp
      have PP := Lib.hid (putN (vs := [.string ⟨#[]⟩, .string ⟨#[]⟩, .int .i64 x2, .slice none 0 0, .slice none 0 0, .slice none 0 0, .slice none 0 0, .string ⟨#[]⟩, .int .i64 0, .string ⟨#[]⟩, .bool x6]) QA.out rfl)
      obtain ⟨ww21, hnw⟩ : ∃ W, ww17.setCells q 0 [.string ⟨#[]⟩, .string ⟨#[]⟩, .int .i64 x2, .slice none 0 0, .slice none 0 0, .slice none 0 0, .slice none 0 0, .string ⟨#[]⟩, .int .i64 0, .string ⟨#[]⟩, .bool x6] = W := ⟨_, rfl⟩
      have hnw2 : (((((((((((ww17.setCell ⟨q, 0, none⟩ (.string ⟨#[]⟩)).setCell ⟨q, 1, none⟩ (.string ⟨#[]⟩)).setCell ⟨q, 2, none⟩ (.int .i64 x2)).setCell ⟨q, 3, none⟩ (.slice none 0 0)).setCell ⟨q, 4, none⟩ (.slice none 0 0)).setCell ⟨q, 5, none⟩ (.slice none 0 0)).setCell ⟨q, 6, none⟩ (.slice none 0 0)).setCell ⟨q, 7, none⟩ (.string ⟨#[]⟩)).setCell ⟨q, 8, none⟩ (.int .i64 0)).setCell ⟨q, 9, none⟩ (.string ⟨#[]⟩)).setCell ⟨q, 10, none⟩ (.bool x6)) = ww21 := hnw
      rw [hnw] at PP
      rw [hnw2]
      clear hnw hnw2 z0 y0 z1 y1 z2 y2 z3 y3 z4 y4 z5 y5 z6 y6 z7 y7 z8 y8 z9 y9 z10 y10
      have KK := Lib.hid (show Kept w1 ww21 from PP.out.below _ _ HQP.out KK.out)
      have QA := Lib.hid PP.out.cells
      clear PP
      refine hK9.out _ _ KK.out (fun hHeld22 => ?_)
      clear hK9 K9
      try simp only [Act.put, List.setIfInBounds_toArray, List.set_cons_zero, List.set_cons_succ]
      refine wpAnyH_done (by kernel_rfl) ?_ _
      go_wp2
      go_meet
      case rel => exact ⟨q, rfl, QA.out, KK.out, HQP.out⟩
  case rest =>
    obtain ⟨q, rfl, hq, kk, hq1⟩ := hcut
    have KK := Lib.hid kk
    obtain ⟨g0_, g1, g2, g3, g4, g5, g6, g7, g8, g9⟩ := HC.out _ kk
    clear hq kk
    go_wp2_with fail
    refine (H7.out _ (K.out.trans KK.out)).mono ?_
    rintro e9 v0 ⟨rfl, k⟩
    have KK := Lib.hid (KK.out.trans k)
    clear k
    go_wp2
    exact ⟨rfl, PodRes.bad (by decide) (K.out.trans KK.out)⟩

end Go.Proofs.YtflllkpnkcmegaaGreatDoor
