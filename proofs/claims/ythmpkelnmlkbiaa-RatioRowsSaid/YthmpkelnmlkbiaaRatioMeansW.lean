/- RatioMeans: the walk. -/
import Derived.Test.YthmpkelnmlkbiaaRatioMeans
namespace Go.Proofs.Ythmpkelnmlkbiaa
open Go.RowKit
set_option linter.unusedVariables false

theorem map_lt (l : List Int) : ∀ x ∈ l.map flt, x < TOP := fun x hx => by
  obtain ⟨n, _, rfl⟩ := List.mem_map.1 hx
  exact flt_lt n

theorem own_kept {w w' : World} {B n s : Nat} {e : TypeId} {v : Value} {xs : List Value} (h : w.ownsRow B e s v n xs) (k : Kept w w') : w'.ownsRow B e s v n xs := by
  obtain ⟨h0, h1⟩ := h
  refine ⟨h0, h1.imp id ?_⟩
  rintro ⟨g, cap, cur, rfl, hbg, hg, hn, hm, hs, ht⟩
  refine ⟨g, cap, cur, rfl, hbg, ?_, hn, hm, hs, ht⟩
  have hlt : g < w.heap.size := by
    rcases Nat.lt_or_ge g w.heap.size with hlt | hge
    · exact hlt
    · rw [Array.getElem?_eq_none hge] at hg; cases hg
  exact (k.block g hlt).trans hg

set_option maxRecDepth 100000 in
set_option maxHeartbeats 4000000 in
theorem ratioMeans_walk (a : Option Addr) (len cap : Nat) (zs : List Int) (e : Nat) (w : World) (h : IsRow .i16 w a len cap zs) (he : e < TOP) :
    Calls Try.prog 9 #[.slice a len cap, .float .f64 e] w fun e w' => e = .returned (.bool true) ∧ Below w.heap.size w w' := by
  have hm : len ≤ maxLen := by
    rcases h with ⟨_, rfl, _⟩ | ⟨x, _, hl, hm, _⟩
    · exact Nat.zero_le _
    · omega
  unfold maxLen at hm
  by_cases h1 : len < 1
  · have h0 : len = 0 := by omega
    subst h0
    clear h he hm h1
    go_enter Try.func9, Try.ntmps9
    go_wp2_with fail
    refine (known_any _).mono ?_
    rintro e w0 ⟨rfl, k0⟩
    have K0 := Lib.hid k0
    clear k0
    go_wp2_with fail
    go_ret
    exact ⟨rfl, K0.out⟩
  by_cases h30 : 30 < len
  · clear h he
    go_enter Try.func9, Try.ntmps9
    go_wp2_with fail
    refine (known_any _).mono ?_
    rintro e w0 ⟨rfl, k0⟩
    have K0 := Lib.hid k0
    clear k0
    go_wp2_with fail
    go_ret
    exact ⟨rfl, K0.out⟩
  obtain ⟨i0, hi, hz0, hz1, hz2⟩ := info_parts info_float
  obtain ⟨b, off, rfl, hb, hlz, hc, hbd⟩ := row16 h (by omega)
  obtain ⟨m, hM1, hM2, hM3⟩ := means_math hlz (by omega) (by omega) hbd
  have hE := edge_math hlz (by omega) hbd e
  have HB := Lib.hid hb
  have HC := Lib.hid hc
  have HL := Lib.hid hlz
  have M1 := Lib.hid hM1
  have M2 := Lib.hid hM2
  have M3 := Lib.hid hM3
  have HE := Lib.hid hE
  have HT := Lib.hid he
  have L30 := Lib.hid h30
  have L1 := Lib.hid h1
  clear h hb hc hlz hM1 hM2 hM3 hE he hbd
  go_enter Try.func9, Try.ntmps9
  go_wp2_with fail
  refine (known_any _).mono ?_
  rintro e0 w0 ⟨rfl, k0⟩
  have K0 := Lib.hid k0
  clear k0
  go_wp2_with fail
  go_loopw [5, 6] (fun v i wr => ∃ k : Nat, k ≤ len ∧ i = .int .i64 k ∧ wr.ownsRow w.heap.size 22 1 v k (((zs.take k).map flt).map (Value.float .f64)) ∧ Kept w wr) (fun _ i _ => len - (intOf i).toNat)
  case atStart => exact ⟨0, Nat.zero_le _, rfl, World.ownsRow_nil _ _ _ _, K0.out⟩
  case round =>
    obtain ⟨k, hk, rfl, hrow, hkw⟩ := hrel
    have HR := Lib.hid hrow
    have HK := Lib.hid hkw
    clear hrow hkw
    by_cases hlt : k < len
    · have c := (Below.cell HK.out (p := ⟨b, off + k, none⟩) HB.out).trans (HC.out k hlt)
      obtain ⟨x, ex⟩ : ∃ x, zs.getD k 0 = x := ⟨_, rfl⟩
      rw [ex] at c
      have EX := Lib.hid ex
      have HA := Lib.hid (HR.out.alloc (.cells #[.float .f64 (flt x)] 22))
      have HS := Lib.hid (show w.heap.size ≤ wr.heap.size from HK.out.size)
      clear ex
      go_wp2_with (at_builtin; refine wpList_append_own _ rfl _ _ 31 rfl w.heap.size 22 i0 (.float .f64 0) 1 8 Try.underlying31 hi hz0 hz1 hz2 rfl (by decide) _ _ _ rfl HA.out ⟨wr.heap.size, 0, none⟩ 1 1 [.float .f64 (flt x)] rfl rfl (cell_one_new _ _ _) (by simp [Value.oneCell']) (by unfold maxLen; omega) (by omega) (by rw [World.size_alloc]; have := HS.out; omega) ?_; intro v' w1 hown1 hgrow _; obtain ⟨g', cap', rfl⟩ := ownsRow_succ hown1; have HO := Lib.hid hown1; have HG := Lib.hid hgrow; clear hown1 hgrow)
      go_roundw
      case rel =>
        refine ⟨k + 1, by omega, by go_num, ?_, (Below.alloc HK.out HS.out _).grown HG.out (by rw [World.size_alloc]; have := HS.out; omega) (fun j hj => (HA.out.lt j hj).1)⟩
        have h1 := HO.out
        have hkz : k < zs.length := Nat.lt_of_lt_of_le hlt HL.out
        rw [take_snoc hkz, EX.out, List.map_append]
        exact h1
      case measure => simp [intOf]; omega
    · have ek : k = len := by omega
      subst ek
      have hlen : ((zs.take k).map flt).length = k := by rw [List.length_map, List.length_take]; have := HL.out; omega
      obtain ⟨F, hF⟩ : ∃ F, (zs.take k).map flt = F := ⟨_, rfl⟩
      have hlt' : ∀ x ∈ F, x < TOP := by rw [← hF]; exact map_lt _
      rw [hF] at HR M1 M2 M3 HE hlen
      have hrow : wr.ownsRow w.heap.size 22 1 u5 F.length (F.map (Value.float .f64)) := by rw [hlen]; exact HR.out
      obtain ⟨fa, fc, eu, hfr⟩ := frow_of_own hrow hlt'
      rw [hlen] at eu hfr hrow
      subst eu
      have FR := Lib.hid hfr
      have FO := Lib.hid hrow
      have FL := Lib.hid hlt'
      have FN := Lib.hid hlen
      clear hfr hrow hlt' hlen hF HR hlt hk
      go_wp2_with fail
      refine (mean_any fa k fc F _ FR.out).mono ?_
      rintro e1 w1 ⟨r, rfl, hr, _, hk1⟩
      rw [M1.out r hr]
      have K1 := Lib.hid hk1
      clear hr hk1
      go_wp2_with fail
      refine (least_any fa k fc F _ (FR.out.kept K1.out)).mono ?_
      rintro e2 w2 ⟨r1, rfl, hr, hk1⟩
      have R1 := Lib.hid (M2.out r1 hr)
      have K2 := Lib.hid (K1.out.trans hk1)
      clear hr hk1
      go_wp2_with fail
      refine (compare_any m r1 _).mono ?_
      rintro e3 w3 h
      obtain ⟨rfl, hk1⟩ := h.kept
      have K3 := Lib.hid (K2.out.trans hk1)
      clear h hk1
      obtain ⟨c1, ec1⟩ : ∃ c, cp m r1 = c := ⟨_, rfl⟩
      rw [ec1]
      have q1 : ¬ c1 < 0 := by have := R1.out; rw [ec1] at this; omega
      clear ec1
      go_wp2_with fail
      refine (most_any fa k fc F _ (FR.out.kept K3.out)).mono ?_
      rintro e4 w4 ⟨r2, rfl, hr, hk1⟩
      have R2 := Lib.hid (M3.out r2 hr)
      have K4 := Lib.hid (K3.out.trans hk1)
      clear hr hk1
      go_wp2_with fail
      refine (compare_any m r2 _).mono ?_
      rintro e5 w5 h
      obtain ⟨rfl, hk1⟩ := h.kept
      have K5 := Lib.hid (K4.out.trans hk1)
      clear h hk1
      obtain ⟨c2, ec2⟩ : ∃ c, cp m r2 = c := ⟨_, rfl⟩
      rw [ec2]
      have q2 : ¬ 0 < c2 := by have := R2.out; rw [ec2] at this; omega
      clear ec2
      have HA := Lib.hid ((own_kept FO.out K5.out).alloc (.cells #[.float .f64 e] 22))
      have HS := Lib.hid (show w.heap.size ≤ w5.heap.size from (HK.out.trans K5.out).size)
      go_wp2_with (at_builtin; refine wpList_append_own _ rfl _ _ 31 rfl w.heap.size 22 i0 (.float .f64 0) 1 8 Try.underlying31 hi hz0 hz1 hz2 rfl (by decide) _ _ _ rfl HA.out ⟨w5.heap.size, 0, none⟩ 1 1 [.float .f64 e] rfl rfl (cell_one_new _ _ _) (by simp [Value.oneCell']) (by unfold maxLen; omega) (by omega) (by rw [World.size_alloc]; have := HS.out; omega) ?_; intro v' w6 hown1 hgrow _; obtain ⟨g', cap', rfl⟩ := ownsRow_succ hown1; have HO := Lib.hid hown1; have HG := Lib.hid hgrow; clear hown1 hgrow)
      have K6 := Lib.hid (show Kept w w6 from (Below.alloc (HK.out.trans K5.out) HS.out _).grown HG.out (by rw [World.size_alloc]; have := HS.out; omega) (fun j hj => (HA.out.lt j hj).1))
      have hx1 : ∀ x ∈ F ++ [e], x < TOP := fun x hx => by
        rcases List.mem_append.1 hx with g | g
        · exact FL.out x g
        · have : x = e := by simpa using g
          rw [this]; exact HT.out
      have hln : (F ++ [e]).length = k + 1 := by rw [List.length_append, FN.out]; rfl
      have hrow2 : w6.ownsRow w.heap.size 22 1 (.slice (some ⟨g', 0, none⟩) (k + 1) cap') (F ++ [e]).length ((F ++ [e]).map (Value.float .f64)) := by
        rw [hln, List.map_append]; exact HO.out
      obtain ⟨fa2, fc2, eu2, hfr2⟩ := frow_of_own hrow2 hx1
      rw [hln] at eu2 hfr2
      have ea : some ⟨g', 0, none⟩ = fa2 := (Value.slice.inj eu2).1
      rw [← ea] at hfr2
      have F2 := Lib.hid hfr2
      clear hfr2 eu2 ea hrow2 hx1 hln
      refine (mean_any (some ⟨g', 0, none⟩) (k + 1) cap' (F ++ [e]) _ F2.out).mono ?_
      rintro e7 w7 ⟨r, rfl, hr, _, hk1⟩
      have K7 := Lib.hid (K6.out.trans hk1)
      have HX := Lib.hid (HE.out r hr)
      clear hr hk1
      go_wp2_with fail
      refine (class_any e _).mono ?_
      rintro e8 w8 ⟨rfl, rfl⟩
      have CR := Lib.hid (class_any r)
      obtain ⟨q, eq⟩ : ∃ q, cls e = q := ⟨_, rfl⟩
      rw [eq] at HX ⊢
      obtain ⟨p, ep⟩ : ∃ p, cls r = p := ⟨_, rfl⟩
      rw [ep] at HX CR
      clear eq ep
      by_cases p6 : q = 6
      · have g := HX.out.1 p6
        subst g
        subst p6
        go_wp2_with fail
        refine (CR.out _).mono ?_
        rintro e9 w9 ⟨rfl, rfl⟩
        go_wp2_with fail
        go_ret
        exact ⟨rfl, K7.out⟩
      · by_cases p5 : q = 5
        · have g := HX.out.2.1 p5
          subst g
          subst p5
          clear p6
          go_wp2_with fail
          refine (CR.out _).mono ?_
          rintro e9 w9 ⟨rfl, rfl⟩
          go_wp2_with fail
          go_ret
          exact ⟨rfl, K7.out⟩
        · by_cases p0 : q = 0
          · have g := HX.out.2.2.1 p0
            subst g
            subst p0
            clear p6 p5
            go_wp2_with fail
            refine (CR.out _).mono ?_
            rintro e9 w9 ⟨rfl, rfl⟩
            go_wp2_with fail
            go_ret
            exact ⟨rfl, K7.out⟩
          · have g := HX.out.2.2.2 p6
            have b6 : (q == 6) = false := by simpa using p6
            have b5 : (q == 5) = false := by simpa using p5
            have b0 : (q == 0) = false := by simpa using p0
            clear p6 p5 p0
            go_wp2_with fail
            refine (CR.out _).mono ?_
            rintro e9 w9 ⟨rfl, rfl⟩
            go_wp2_with fail
            go_ret
            exact ⟨rfl, K7.out⟩

end Go.Proofs.Ythmpkelnmlkbiaa
