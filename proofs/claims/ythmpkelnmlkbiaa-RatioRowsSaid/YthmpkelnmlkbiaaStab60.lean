/- slices.stableCmpFunc by Compare at no more than 60 floats. -/
import Derived.Test.YthmpkelnmlkbiaaStabAll
namespace Go.Proofs.Ythmpkelnmlkbiaa
open Go.RowKit Go.Shelf Go.Lib Go.Sort
set_option linter.unusedVariables false

/-- What a stable sort does, in a world of the sort's. -/
def Stb (w : World) (blk : Nat) (d : Array Nat) (e : Ending) (w' : World) : Prop := e = .returned (.tuple #[]) ∧ ∃ d', PermIn 0 d.size d d' ∧ SortedIn (ltOf cp) 0 d.size d' ∧ SW eF w blk 0 d' w'

theorem ins_f {w0 : World} {blk : Nat} {d0 : Array Nat} (R : Row1 eF w0 blk 0 d0) (h60 : d0.size ≤ 60) (cap a b : Nat) (za zb : Int) (d : Array Nat) (w : World) (hs : d.size = d0.size) (S : SW eF w0 blk 0 d w) (hab : a ≤ b) (hb : b ≤ d0.size) (ea : za = a) (eb : zb = b) :
    Calls Try.prog 50 #[.slice (some ⟨blk, 0, none⟩) d0.size cap, .int .i64 za, .int .i64 zb, .func (.func 13) #[] #[]] w (Mrg eF cp w0 blk 0 a b d) :=
  insertion_at eF cp swo_cp 13 #[] w0 blk 0 cap a b za zb d0 d w enters_compare (cmp_lays _ _ _ _) R hs.symm (by omega) S hab (by omega) ea eb d0.size hs.symm
theorem sym_f {w0 : World} {blk : Nat} {d0 : Array Nat} (R : Row1 eF w0 blk 0 d0) (h60 : d0.size ≤ 60) (cap a m b : Nat) (za zm zb : Int) (d : Array Nat) (w : World) (hs : d.size = d0.size) (S : SW eF w0 blk 0 d w) (ham : a < m) (hmb : m < b) (hb : b ≤ d0.size) (ea : za = a) (em : zm = m) (eb : zb = b)
    (s1 : SortedIn (ltOf cp) a m d) (s2 : SortedIn (ltOf cp) m b d) :
    Calls Try.prog 51 #[.slice (some ⟨blk, 0, none⟩) d0.size cap, .int .i64 za, .int .i64 zm, .int .i64 zb, .func (.func 13) #[] #[]] w (Mrg eF cp w0 blk 0 a b d) :=
  symMerge_at eF cp swo_cp 13 #[] w0 blk 0 cap a m b za zm zb d0 d w enters_compare (cmp_lays _ _ _ _) R hs.symm (by omega) S ham hmb (by omega) ea em eb s1 s2 d0.size hs.symm


set_option maxRecDepth 1000000 in
set_option maxHeartbeats 4000000 in
theorem stable_20 (w : World) (blk cap : Nat) (d : Array Nat) (h20 : d.size = 20) (hH : Holds eF w blk 0 d) (hb : blk < w.heap.size) :
    Calls Try.prog 49 #[.slice (some ⟨blk, 0, none⟩) d.size cap, .int .i64 d.size, .func (.func 13) #[] #[]] w (Stb w blk d) := by
  have HR : Aside (Row1 eF w blk 0 d) := ⟨oneF, hH, hb⟩
  have S0 : Aside (SW eF w blk 0 d w) := SW.start hH
  have P0 : Hid (PermIn 0 d.size d d) := permIn_refl _ _ _
  have h60 : d.size ≤ 60 := by omega
  have c1 : (20 : Int) ≤ (d.size : Int) := by omega
  have c2 : ¬ (40 : Int) ≤ (d.size : Int) := by omega
  have c3 : ¬ (20 : Int) < (d.size : Int) := by omega
  have E : Hid (d.size = 20) := h20
  clear h20
  unfold Stb
  clear hH hb
  go_enter Try.func49, Try.ntmps49
  go_wp2
  refine wp_loop_rounds 2 ?_
  rw [rounds_succ]
  go_wp2_with fail
  refine (ins_f HR.out h60 cap 0 20 (0 : Int) (20 : Int) d w (rfl : d.size = d.size) S0.out (by omega) (by omega) (by omega) (by omega)).mono ?_
  rintro e w1 ⟨rfl, d1, hP, hQ, hS⟩
  have S1 : Aside (SW eF w blk 0 d1 w1) := hS
  have Z1 : Hid (d1.size = d.size) := hP.1.trans (rfl : d.size = d.size)
  have P1 : Hid (PermIn 0 d.size d d1) := permIn_trans _ _ _ _ _ P0.out (permIn_mono _ _ _ _ _ _ (by omega) (by omega) (Nat.le_of_eq (rfl : d.size = d.size).symm) hP)
  have Q1 : Hid (SortedIn (ltOf cp) 0 20 d1) := hQ
  clear hP hQ hS
  go_wp2_with fail
  rw [rounds_succ]
  go_wp2_with fail
  refine (ins_f HR.out h60 cap 20 d.size (20 : Int) (d.size : Int) d1 w1 Z1.out S1.out (by omega) (by omega) (by omega) (by omega)).mono ?_
  rintro e w2 ⟨rfl, d2, hP, hQ, hS⟩
  have S2 : Aside (SW eF w blk 0 d2 w2) := hS
  have Z2 : Hid (d2.size = d.size) := hP.1.trans Z1.out
  have P2 : Hid (PermIn 0 d.size d d2) := permIn_trans _ _ _ _ _ P1.out (permIn_mono _ _ _ _ _ _ (by omega) (by omega) (Nat.le_of_eq Z1.out.symm) hP)
  have Q2 : Hid (SortedIn (ltOf cp) 20 d.size d2) := hQ
  have Q1_2 : Hid (SortedIn (ltOf cp) 0 20 d2) := Q1.out.congr fun i g1 g2 => hP.2.1 i (by omega)
  clear hP hQ hS
  go_wp2_with fail
  refine wp_loop_rounds 1 ?_
  rw [rounds_succ]
  go_wp2_with fail
  go_end0
  exact ⟨rfl, d2, P2.out, (show SortedIn (ltOf cp) 0 d.size d2 from fun i j h1 h2 h3 => Q1_2.out i j h1 h2 (by have := E.out; omega)), S2.out⟩

set_option maxRecDepth 1000000 in
set_option maxHeartbeats 4000000 in
theorem stable_39 (w : World) (blk cap : Nat) (d : Array Nat) (h1 : 20 < d.size) (h2 : d.size < 40) (hH : Holds eF w blk 0 d) (hb : blk < w.heap.size) :
    Calls Try.prog 49 #[.slice (some ⟨blk, 0, none⟩) d.size cap, .int .i64 d.size, .func (.func 13) #[] #[]] w (Stb w blk d) := by
  have HR : Aside (Row1 eF w blk 0 d) := ⟨oneF, hH, hb⟩
  have S0 : Aside (SW eF w blk 0 d w) := SW.start hH
  have P0 : Hid (PermIn 0 d.size d d) := permIn_refl _ _ _
  have h60 : d.size ≤ 60 := by omega
  have c1 : (20 : Int) ≤ (d.size : Int) := by omega
  have c2 : ¬ (40 : Int) ≤ (d.size : Int) := by omega
  have c3 : (20 : Int) < (d.size : Int) := by omega
  have c4 : ¬ (40 : Int) < (d.size : Int) := by omega
  unfold Stb
  clear hH hb
  go_enter Try.func49, Try.ntmps49
  go_wp2
  refine wp_loop_rounds 2 ?_
  rw [rounds_succ]
  go_wp2_with fail
  refine (ins_f HR.out h60 cap 0 20 (0 : Int) (20 : Int) d w (rfl : d.size = d.size) S0.out (by omega) (by omega) (by omega) (by omega)).mono ?_
  rintro e w1 ⟨rfl, d1, hP, hQ, hS⟩
  have S1 : Aside (SW eF w blk 0 d1 w1) := hS
  have Z1 : Hid (d1.size = d.size) := hP.1.trans (rfl : d.size = d.size)
  have P1 : Hid (PermIn 0 d.size d d1) := permIn_trans _ _ _ _ _ P0.out (permIn_mono _ _ _ _ _ _ (by omega) (by omega) (Nat.le_of_eq (rfl : d.size = d.size).symm) hP)
  have Q1 : Hid (SortedIn (ltOf cp) 0 20 d1) := hQ
  clear hP hQ hS
  go_wp2_with fail
  rw [rounds_succ]
  go_wp2_with fail
  refine (ins_f HR.out h60 cap 20 d.size (20 : Int) (d.size : Int) d1 w1 Z1.out S1.out (by omega) (by omega) (by omega) (by omega)).mono ?_
  rintro e w2 ⟨rfl, d2, hP, hQ, hS⟩
  have S2 : Aside (SW eF w blk 0 d2 w2) := hS
  have Z2 : Hid (d2.size = d.size) := hP.1.trans Z1.out
  have P2 : Hid (PermIn 0 d.size d d2) := permIn_trans _ _ _ _ _ P1.out (permIn_mono _ _ _ _ _ _ (by omega) (by omega) (Nat.le_of_eq Z1.out.symm) hP)
  have Q2 : Hid (SortedIn (ltOf cp) 20 d.size d2) := hQ
  have Q1_2 : Hid (SortedIn (ltOf cp) 0 20 d2) := Q1.out.congr fun i g1 g2 => hP.2.1 i (by omega)
  clear hP hQ hS
  go_wp2_with fail
  refine wp_loop_rounds 2 ?_
  rw [rounds_succ]
  go_wp2_with fail
  refine wp_loop_rounds 1 ?_
  rw [rounds_succ]
  go_wp2_with fail
  refine (sym_f HR.out h60 cap 0 20 d.size (0 : Int) (20 : Int) (d.size : Int) d2 w2 Z2.out S2.out (by omega) (by omega) (by omega) (by omega) (by omega) (by omega) Q1_2.out Q2.out).mono ?_
  rintro e w3 ⟨rfl, d3, hP, hQ, hS⟩
  have S3 : Aside (SW eF w blk 0 d3 w3) := hS
  have Z3 : Hid (d3.size = d.size) := hP.1.trans Z2.out
  have P3 : Hid (PermIn 0 d.size d d3) := permIn_trans _ _ _ _ _ P2.out (permIn_mono _ _ _ _ _ _ (by omega) (by omega) (Nat.le_of_eq Z2.out.symm) hP)
  have Q3 : Hid (SortedIn (ltOf cp) 0 d.size d3) := hQ
  clear hP hQ hS
  go_wp2_with fail
  rw [rounds_succ]
  go_wp2_with fail
  go_end0
  exact ⟨rfl, d3, P3.out, Q3.out, S3.out⟩

set_option maxRecDepth 1000000 in
set_option maxHeartbeats 4000000 in
theorem stable_40 (w : World) (blk cap : Nat) (d : Array Nat) (h1 : d.size = 40) (hH : Holds eF w blk 0 d) (hb : blk < w.heap.size) :
    Calls Try.prog 49 #[.slice (some ⟨blk, 0, none⟩) d.size cap, .int .i64 d.size, .func (.func 13) #[] #[]] w (Stb w blk d) := by
  have HR : Aside (Row1 eF w blk 0 d) := ⟨oneF, hH, hb⟩
  have S0 : Aside (SW eF w blk 0 d w) := SW.start hH
  have P0 : Hid (PermIn 0 d.size d d) := permIn_refl _ _ _
  have h60 : d.size ≤ 60 := by omega
  have c1 : (20 : Int) ≤ (d.size : Int) := by omega
  have c2 : (40 : Int) ≤ (d.size : Int) := by omega
  have c3 : (20 : Int) < (d.size : Int) := by omega
  have c4 : ¬ (40 : Int) < (d.size : Int) := by omega
  have c5 : ¬ (60 : Int) ≤ (d.size : Int) := by omega
  have c6 : ¬ (80 : Int) ≤ (d.size : Int) := by omega
  have c7 : ¬ (60 : Int) < (d.size : Int) := by omega
  have E : Hid (d.size = 40) := h1
  clear h1
  unfold Stb
  clear hH hb
  go_enter Try.func49, Try.ntmps49
  go_wp2
  refine wp_loop_rounds 3 ?_
  rw [rounds_succ]
  go_wp2_with fail
  refine (ins_f HR.out h60 cap 0 20 (0 : Int) (20 : Int) d w (rfl : d.size = d.size) S0.out (by omega) (by omega) (by omega) (by omega)).mono ?_
  rintro e w1 ⟨rfl, d1, hP, hQ, hS⟩
  have S1 : Aside (SW eF w blk 0 d1 w1) := hS
  have Z1 : Hid (d1.size = d.size) := hP.1.trans (rfl : d.size = d.size)
  have P1 : Hid (PermIn 0 d.size d d1) := permIn_trans _ _ _ _ _ P0.out (permIn_mono _ _ _ _ _ _ (by omega) (by omega) (Nat.le_of_eq (rfl : d.size = d.size).symm) hP)
  have Q1 : Hid (SortedIn (ltOf cp) 0 20 d1) := hQ
  clear hP hQ hS
  go_wp2_with fail
  rw [rounds_succ]
  go_wp2_with fail
  refine (ins_f HR.out h60 cap 20 40 (20 : Int) (40 : Int) d1 w1 Z1.out S1.out (by omega) (by omega) (by omega) (by omega)).mono ?_
  rintro e w2 ⟨rfl, d2, hP, hQ, hS⟩
  have S2 : Aside (SW eF w blk 0 d2 w2) := hS
  have Z2 : Hid (d2.size = d.size) := hP.1.trans Z1.out
  have P2 : Hid (PermIn 0 d.size d d2) := permIn_trans _ _ _ _ _ P1.out (permIn_mono _ _ _ _ _ _ (by omega) (by omega) (Nat.le_of_eq Z1.out.symm) hP)
  have Q2 : Hid (SortedIn (ltOf cp) 20 40 d2) := hQ
  have Q1_2 : Hid (SortedIn (ltOf cp) 0 20 d2) := Q1.out.congr fun i g1 g2 => hP.2.1 i (by omega)
  clear hP hQ hS
  go_wp2_with fail
  rw [rounds_succ]
  go_wp2_with fail
  refine (ins_f HR.out h60 cap 40 d.size (40 : Int) (d.size : Int) d2 w2 Z2.out S2.out (by omega) (by omega) (by omega) (by omega)).mono ?_
  rintro e w3 ⟨rfl, d3, hP, hQ, hS⟩
  have S3 : Aside (SW eF w blk 0 d3 w3) := hS
  have Z3 : Hid (d3.size = d.size) := hP.1.trans Z2.out
  have P3 : Hid (PermIn 0 d.size d d3) := permIn_trans _ _ _ _ _ P2.out (permIn_mono _ _ _ _ _ _ (by omega) (by omega) (Nat.le_of_eq Z2.out.symm) hP)
  have Q3 : Hid (SortedIn (ltOf cp) 40 d.size d3) := hQ
  have Q1_2_3 : Hid (SortedIn (ltOf cp) 0 20 d3) := Q1_2.out.congr fun i g1 g2 => hP.2.1 i (by omega)
  have Q2_3 : Hid (SortedIn (ltOf cp) 20 40 d3) := Q2.out.congr fun i g1 g2 => hP.2.1 i (by omega)
  clear hP hQ hS
  go_wp2_with fail
  refine wp_loop_rounds 2 ?_
  rw [rounds_succ]
  go_wp2_with fail
  refine wp_loop_rounds 2 ?_
  rw [rounds_succ]
  go_wp2_with fail
  refine (sym_f HR.out h60 cap 0 20 40 (0 : Int) (20 : Int) (40 : Int) d3 w3 Z3.out S3.out (by omega) (by omega) (by omega) (by omega) (by omega) (by omega) Q1_2_3.out Q2_3.out).mono ?_
  rintro e w4 ⟨rfl, d4, hP, hQ, hS⟩
  have S4 : Aside (SW eF w blk 0 d4 w4) := hS
  have Z4 : Hid (d4.size = d.size) := hP.1.trans Z3.out
  have P4 : Hid (PermIn 0 d.size d d4) := permIn_trans _ _ _ _ _ P3.out (permIn_mono _ _ _ _ _ _ (by omega) (by omega) (Nat.le_of_eq Z3.out.symm) hP)
  have Q4 : Hid (SortedIn (ltOf cp) 0 40 d4) := hQ
  have Q3_4 : Hid (SortedIn (ltOf cp) 40 d.size d4) := Q3.out.congr fun i g1 g2 => hP.2.1 i (by omega)
  clear hP hQ hS
  go_wp2_with fail
  rw [rounds_succ]
  go_wp2_with fail
  rw [rounds_succ]
  go_wp2_with fail
  go_end0
  exact ⟨rfl, d4, P4.out, (show SortedIn (ltOf cp) 0 d.size d4 from fun i j h1 h2 h3 => Q4.out i j h1 h2 (by have := E.out; omega)), S4.out⟩

set_option maxRecDepth 1000000 in
set_option maxHeartbeats 4000000 in
theorem stable_59 (w : World) (blk cap : Nat) (d : Array Nat) (h1 : 40 < d.size) (h2 : d.size < 60) (hH : Holds eF w blk 0 d) (hb : blk < w.heap.size) :
    Calls Try.prog 49 #[.slice (some ⟨blk, 0, none⟩) d.size cap, .int .i64 d.size, .func (.func 13) #[] #[]] w (Stb w blk d) := by
  have HR : Aside (Row1 eF w blk 0 d) := ⟨oneF, hH, hb⟩
  have S0 : Aside (SW eF w blk 0 d w) := SW.start hH
  have P0 : Hid (PermIn 0 d.size d d) := permIn_refl _ _ _
  have h60 : d.size ≤ 60 := by omega
  have c1 : (20 : Int) ≤ (d.size : Int) := by omega
  have c2 : (40 : Int) ≤ (d.size : Int) := by omega
  have c3 : (20 : Int) < (d.size : Int) := by omega
  have c4 : (40 : Int) < (d.size : Int) := by omega
  have c5 : ¬ (60 : Int) ≤ (d.size : Int) := by omega
  have c6 : ¬ (80 : Int) ≤ (d.size : Int) := by omega
  have c7 : ¬ (60 : Int) < (d.size : Int) := by omega
  have c8 : ¬ (80 : Int) < (d.size : Int) := by omega
  unfold Stb
  clear hH hb
  go_enter Try.func49, Try.ntmps49
  go_wp2
  refine wp_loop_rounds 3 ?_
  rw [rounds_succ]
  go_wp2_with fail
  refine (ins_f HR.out h60 cap 0 20 (0 : Int) (20 : Int) d w (rfl : d.size = d.size) S0.out (by omega) (by omega) (by omega) (by omega)).mono ?_
  rintro e w1 ⟨rfl, d1, hP, hQ, hS⟩
  have S1 : Aside (SW eF w blk 0 d1 w1) := hS
  have Z1 : Hid (d1.size = d.size) := hP.1.trans (rfl : d.size = d.size)
  have P1 : Hid (PermIn 0 d.size d d1) := permIn_trans _ _ _ _ _ P0.out (permIn_mono _ _ _ _ _ _ (by omega) (by omega) (Nat.le_of_eq (rfl : d.size = d.size).symm) hP)
  have Q1 : Hid (SortedIn (ltOf cp) 0 20 d1) := hQ
  clear hP hQ hS
  go_wp2_with fail
  rw [rounds_succ]
  go_wp2_with fail
  refine (ins_f HR.out h60 cap 20 40 (20 : Int) (40 : Int) d1 w1 Z1.out S1.out (by omega) (by omega) (by omega) (by omega)).mono ?_
  rintro e w2 ⟨rfl, d2, hP, hQ, hS⟩
  have S2 : Aside (SW eF w blk 0 d2 w2) := hS
  have Z2 : Hid (d2.size = d.size) := hP.1.trans Z1.out
  have P2 : Hid (PermIn 0 d.size d d2) := permIn_trans _ _ _ _ _ P1.out (permIn_mono _ _ _ _ _ _ (by omega) (by omega) (Nat.le_of_eq Z1.out.symm) hP)
  have Q2 : Hid (SortedIn (ltOf cp) 20 40 d2) := hQ
  have Q1_2 : Hid (SortedIn (ltOf cp) 0 20 d2) := Q1.out.congr fun i g1 g2 => hP.2.1 i (by omega)
  clear hP hQ hS
  go_wp2_with fail
  rw [rounds_succ]
  go_wp2_with fail
  refine (ins_f HR.out h60 cap 40 d.size (40 : Int) (d.size : Int) d2 w2 Z2.out S2.out (by omega) (by omega) (by omega) (by omega)).mono ?_
  rintro e w3 ⟨rfl, d3, hP, hQ, hS⟩
  have S3 : Aside (SW eF w blk 0 d3 w3) := hS
  have Z3 : Hid (d3.size = d.size) := hP.1.trans Z2.out
  have P3 : Hid (PermIn 0 d.size d d3) := permIn_trans _ _ _ _ _ P2.out (permIn_mono _ _ _ _ _ _ (by omega) (by omega) (Nat.le_of_eq Z2.out.symm) hP)
  have Q3 : Hid (SortedIn (ltOf cp) 40 d.size d3) := hQ
  have Q1_2_3 : Hid (SortedIn (ltOf cp) 0 20 d3) := Q1_2.out.congr fun i g1 g2 => hP.2.1 i (by omega)
  have Q2_3 : Hid (SortedIn (ltOf cp) 20 40 d3) := Q2.out.congr fun i g1 g2 => hP.2.1 i (by omega)
  clear hP hQ hS
  go_wp2_with fail
  refine wp_loop_rounds 3 ?_
  rw [rounds_succ]
  go_wp2_with fail
  refine wp_loop_rounds 2 ?_
  rw [rounds_succ]
  go_wp2_with fail
  refine (sym_f HR.out h60 cap 0 20 40 (0 : Int) (20 : Int) (40 : Int) d3 w3 Z3.out S3.out (by omega) (by omega) (by omega) (by omega) (by omega) (by omega) Q1_2_3.out Q2_3.out).mono ?_
  rintro e w4 ⟨rfl, d4, hP, hQ, hS⟩
  have S4 : Aside (SW eF w blk 0 d4 w4) := hS
  have Z4 : Hid (d4.size = d.size) := hP.1.trans Z3.out
  have P4 : Hid (PermIn 0 d.size d d4) := permIn_trans _ _ _ _ _ P3.out (permIn_mono _ _ _ _ _ _ (by omega) (by omega) (Nat.le_of_eq Z3.out.symm) hP)
  have Q4 : Hid (SortedIn (ltOf cp) 0 40 d4) := hQ
  have Q3_4 : Hid (SortedIn (ltOf cp) 40 d.size d4) := Q3.out.congr fun i g1 g2 => hP.2.1 i (by omega)
  clear hP hQ hS
  go_wp2_with fail
  rw [rounds_succ]
  go_wp2_with fail
  rw [rounds_succ]
  go_wp2_with fail
  refine wp_loop_rounds 1 ?_
  rw [rounds_succ]
  go_wp2_with fail
  refine (sym_f HR.out h60 cap 0 40 d.size (0 : Int) (40 : Int) (d.size : Int) d4 w4 Z4.out S4.out (by omega) (by omega) (by omega) (by omega) (by omega) (by omega) Q4.out Q3_4.out).mono ?_
  rintro e w5 ⟨rfl, d5, hP, hQ, hS⟩
  have S5 : Aside (SW eF w blk 0 d5 w5) := hS
  have Z5 : Hid (d5.size = d.size) := hP.1.trans Z4.out
  have P5 : Hid (PermIn 0 d.size d d5) := permIn_trans _ _ _ _ _ P4.out (permIn_mono _ _ _ _ _ _ (by omega) (by omega) (Nat.le_of_eq Z4.out.symm) hP)
  have Q5 : Hid (SortedIn (ltOf cp) 0 d.size d5) := hQ
  clear hP hQ hS
  go_wp2_with fail
  rw [rounds_succ]
  go_wp2_with fail
  go_end0
  exact ⟨rfl, d5, P5.out, Q5.out, S5.out⟩

set_option maxRecDepth 1000000 in
set_option maxHeartbeats 4000000 in
theorem stable_60 (w : World) (blk cap : Nat) (d : Array Nat) (h1 : d.size = 60) (hH : Holds eF w blk 0 d) (hb : blk < w.heap.size) :
    Calls Try.prog 49 #[.slice (some ⟨blk, 0, none⟩) d.size cap, .int .i64 d.size, .func (.func 13) #[] #[]] w (Stb w blk d) := by
  have HR : Aside (Row1 eF w blk 0 d) := ⟨oneF, hH, hb⟩
  have S0 : Aside (SW eF w blk 0 d w) := SW.start hH
  have P0 : Hid (PermIn 0 d.size d d) := permIn_refl _ _ _
  have h60 : d.size ≤ 60 := by omega
  have c1 : (20 : Int) ≤ (d.size : Int) := by omega
  have c2 : (40 : Int) ≤ (d.size : Int) := by omega
  have c3 : (20 : Int) < (d.size : Int) := by omega
  have c4 : (40 : Int) < (d.size : Int) := by omega
  have c5 : (60 : Int) ≤ (d.size : Int) := by omega
  have c6 : ¬ (80 : Int) ≤ (d.size : Int) := by omega
  have c7 : ¬ (60 : Int) < (d.size : Int) := by omega
  have c8 : ¬ (80 : Int) < (d.size : Int) := by omega
  have E : Hid (d.size = 60) := h1
  clear h1
  unfold Stb
  clear hH hb
  go_enter Try.func49, Try.ntmps49
  go_wp2
  refine wp_loop_rounds 4 ?_
  rw [rounds_succ]
  go_wp2_with fail
  refine (ins_f HR.out h60 cap 0 20 (0 : Int) (20 : Int) d w (rfl : d.size = d.size) S0.out (by omega) (by omega) (by omega) (by omega)).mono ?_
  rintro e w1 ⟨rfl, d1, hP, hQ, hS⟩
  have S1 : Aside (SW eF w blk 0 d1 w1) := hS
  have Z1 : Hid (d1.size = d.size) := hP.1.trans (rfl : d.size = d.size)
  have P1 : Hid (PermIn 0 d.size d d1) := permIn_trans _ _ _ _ _ P0.out (permIn_mono _ _ _ _ _ _ (by omega) (by omega) (Nat.le_of_eq (rfl : d.size = d.size).symm) hP)
  have Q1 : Hid (SortedIn (ltOf cp) 0 20 d1) := hQ
  clear hP hQ hS
  go_wp2_with fail
  rw [rounds_succ]
  go_wp2_with fail
  refine (ins_f HR.out h60 cap 20 40 (20 : Int) (40 : Int) d1 w1 Z1.out S1.out (by omega) (by omega) (by omega) (by omega)).mono ?_
  rintro e w2 ⟨rfl, d2, hP, hQ, hS⟩
  have S2 : Aside (SW eF w blk 0 d2 w2) := hS
  have Z2 : Hid (d2.size = d.size) := hP.1.trans Z1.out
  have P2 : Hid (PermIn 0 d.size d d2) := permIn_trans _ _ _ _ _ P1.out (permIn_mono _ _ _ _ _ _ (by omega) (by omega) (Nat.le_of_eq Z1.out.symm) hP)
  have Q2 : Hid (SortedIn (ltOf cp) 20 40 d2) := hQ
  have Q1_2 : Hid (SortedIn (ltOf cp) 0 20 d2) := Q1.out.congr fun i g1 g2 => hP.2.1 i (by omega)
  clear hP hQ hS
  go_wp2_with fail
  rw [rounds_succ]
  go_wp2_with fail
  refine (ins_f HR.out h60 cap 40 60 (40 : Int) (60 : Int) d2 w2 Z2.out S2.out (by omega) (by omega) (by omega) (by omega)).mono ?_
  rintro e w3 ⟨rfl, d3, hP, hQ, hS⟩
  have S3 : Aside (SW eF w blk 0 d3 w3) := hS
  have Z3 : Hid (d3.size = d.size) := hP.1.trans Z2.out
  have P3 : Hid (PermIn 0 d.size d d3) := permIn_trans _ _ _ _ _ P2.out (permIn_mono _ _ _ _ _ _ (by omega) (by omega) (Nat.le_of_eq Z2.out.symm) hP)
  have Q3 : Hid (SortedIn (ltOf cp) 40 60 d3) := hQ
  have Q1_2_3 : Hid (SortedIn (ltOf cp) 0 20 d3) := Q1_2.out.congr fun i g1 g2 => hP.2.1 i (by omega)
  have Q2_3 : Hid (SortedIn (ltOf cp) 20 40 d3) := Q2.out.congr fun i g1 g2 => hP.2.1 i (by omega)
  clear hP hQ hS
  go_wp2_with fail
  rw [rounds_succ]
  go_wp2_with fail
  refine (ins_f HR.out h60 cap 60 d.size (60 : Int) (d.size : Int) d3 w3 Z3.out S3.out (by omega) (by omega) (by omega) (by omega)).mono ?_
  rintro e w4 ⟨rfl, d4, hP, hQ, hS⟩
  have S4 : Aside (SW eF w blk 0 d4 w4) := hS
  have Z4 : Hid (d4.size = d.size) := hP.1.trans Z3.out
  have P4 : Hid (PermIn 0 d.size d d4) := permIn_trans _ _ _ _ _ P3.out (permIn_mono _ _ _ _ _ _ (by omega) (by omega) (Nat.le_of_eq Z3.out.symm) hP)
  have Q4 : Hid (SortedIn (ltOf cp) 60 d.size d4) := hQ
  have Q1_2_3_4 : Hid (SortedIn (ltOf cp) 0 20 d4) := Q1_2_3.out.congr fun i g1 g2 => hP.2.1 i (by omega)
  have Q2_3_4 : Hid (SortedIn (ltOf cp) 20 40 d4) := Q2_3.out.congr fun i g1 g2 => hP.2.1 i (by omega)
  have Q3_4 : Hid (SortedIn (ltOf cp) 40 60 d4) := Q3.out.congr fun i g1 g2 => hP.2.1 i (by omega)
  clear hP hQ hS
  go_wp2_with fail
  refine wp_loop_rounds 3 ?_
  rw [rounds_succ]
  go_wp2_with fail
  refine wp_loop_rounds 2 ?_
  rw [rounds_succ]
  go_wp2_with fail
  refine (sym_f HR.out h60 cap 0 20 40 (0 : Int) (20 : Int) (40 : Int) d4 w4 Z4.out S4.out (by omega) (by omega) (by omega) (by omega) (by omega) (by omega) Q1_2_3_4.out Q2_3_4.out).mono ?_
  rintro e w5 ⟨rfl, d5, hP, hQ, hS⟩
  have S5 : Aside (SW eF w blk 0 d5 w5) := hS
  have Z5 : Hid (d5.size = d.size) := hP.1.trans Z4.out
  have P5 : Hid (PermIn 0 d.size d d5) := permIn_trans _ _ _ _ _ P4.out (permIn_mono _ _ _ _ _ _ (by omega) (by omega) (Nat.le_of_eq Z4.out.symm) hP)
  have Q5 : Hid (SortedIn (ltOf cp) 0 40 d5) := hQ
  have Q3_4_5 : Hid (SortedIn (ltOf cp) 40 60 d5) := Q3_4.out.congr fun i g1 g2 => hP.2.1 i (by omega)
  have Q4_5 : Hid (SortedIn (ltOf cp) 60 d.size d5) := Q4.out.congr fun i g1 g2 => hP.2.1 i (by omega)
  clear hP hQ hS
  go_wp2_with fail
  rw [rounds_succ]
  go_wp2_with fail
  rw [rounds_succ]
  go_wp2_with fail
  refine wp_loop_rounds 1 ?_
  rw [rounds_succ]
  go_wp2_with fail
  have QC5 : Hid (SortedIn (ltOf cp) 40 d.size d5) := fun i j h1 h2 h3 => Q3_4_5.out i j h1 h2 (by have := E.out; omega)
  refine (sym_f HR.out h60 cap 0 40 d.size (0 : Int) (40 : Int) (d.size : Int) d5 w5 Z5.out S5.out (by omega) (by omega) (by omega) (by omega) (by omega) (by omega) Q5.out QC5.out).mono ?_
  rintro e w6 ⟨rfl, d6, hP, hQ, hS⟩
  have S6 : Aside (SW eF w blk 0 d6 w6) := hS
  have Z6 : Hid (d6.size = d.size) := hP.1.trans Z5.out
  have P6 : Hid (PermIn 0 d.size d d6) := permIn_trans _ _ _ _ _ P5.out (permIn_mono _ _ _ _ _ _ (by omega) (by omega) (Nat.le_of_eq Z5.out.symm) hP)
  have Q6 : Hid (SortedIn (ltOf cp) 0 d.size d6) := hQ
  clear hP hQ hS
  go_wp2_with fail
  rw [rounds_succ]
  go_wp2_with fail
  go_end0
  exact ⟨rfl, d6, P6.out, Q6.out, S6.out⟩

theorem stable_any : StableOK 60 := fun w blk cap d h hH hb => by
  by_cases h1 : d.size ≤ 19
  · exact stable_small w blk cap d h1 hH hb
  · by_cases h2 : d.size = 20
    · exact stable_20 w blk cap d h2 hH hb
    · by_cases h3 : d.size < 40
      · exact stable_39 w blk cap d (by omega) h3 hH hb
      · by_cases h4 : d.size = 40
        · exact stable_40 w blk cap d h4 hH hb
        · by_cases h5 : d.size < 60
          · exact stable_59 w blk cap d (by omega) h5 hH hb
          · exact stable_60 w blk cap d (by omega) hH hb

end Go.Proofs.Ythmpkelnmlkbiaa
