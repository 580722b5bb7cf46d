/- ResParts, walked. -/
import Derived.Test.YtnnneimpdiadhaaDoorResPre
import Derived.Test.YtnnneimpdiadhaaDoorResAlgParts
import Derived.IntWalk
namespace Go.Proofs.YtnnneimpdiadhaaDoor.Vec
open Go.RowKit
set_option linter.unusedVariables false

set_option maxRecDepth 100000 in
set_option maxHeartbeats 4000000 in
theorem ResParts_walk (va : Value) (lA : V) (n : Int) (w : World) (hE : EnvT w) (hA : Reads w va lA) (hn : 0 ≤ n ∧ n ≤ 255) :
    Calls Tryd.prog 4 #[va, .int .u8 n] w fun e w' => e = .returned (.bool true) ∧ Kept w w' := by
  obtain ⟨k, hk12, hkn⟩ : ∃ k : Nat, k < 12 ∧ n.tmod 12 = (k : Int) := by
    have e := Int.tmod_eq_emod_of_nonneg (b := 12) hn.1
    exact ⟨(n % 12).toNat, by omega, by omega⟩
  have hk8 : IntKind.u8.wrap (k : Int) = (k : Int) := IntWalk.u8_in _ (by omega)
  have HA0 := Lib.hid hA
  have HK := Lib.hid (known_any w hE)
  have HA := Lib.hid hA
  have HE := Lib.hid hE
  clear hE hA
  go_enter Tryd.func4, Tryd.ntmps4
  go_wp2_with fail
  refine HK.out.mono ?_
  rintro e w0 ⟨rfl, hk⟩
  have K := Lib.hid hk
  have HA := Lib.hid (HA.out.kept hk)
  clear hk
  go_wp2_with fail
  by_cases fA : ¬ fewV lA = true
  · have fA' : fewV lA = false := by simpa using fA
    refine (fewR HA.out fA').mono ?_
    rintro e w1 ⟨rfl, rfl⟩
    go_wp2
    go_ret
    exact ⟨rfl, K.out⟩
  have FA := Lib.hid (Decidable.of_not_not fA)
  clear fA
  refine (fewR HA.out FA.out).mono ?_
  rintro e w2 ⟨rfl, rfl⟩
  go_wp2_with fail
  refine (ofR HA.out FA.out).mono ?_
  rintro e w3 ⟨x3, rfl, hr, hk⟩
  have K := Lib.hid (K.out.trans hk)
  have HA := Lib.hid (HA.out.kept hk)
  clear hk
  have YA := Lib.hid hr
  clear hr
  go_wp2_with fail
  by_cases cA : ¬ checkV lA = 0
  · obtain ⟨c, hc⟩ : ∃ c, checkV lA = c := ⟨_, rfl⟩
    have hc0 : (c == 0) = false := by rw [← hc]; simpa using cA
    refine (refCheckR YA.out hc).mono ?_
    rintro e w4 ⟨rfl, hk⟩
    have K := Lib.hid (K.out.trans hk)
    have HA := Lib.hid (HA.out.kept hk)
    have YA := Lib.hid (YA.out.kept hk)
    clear hk
    go_wp2
    go_ret
    exact ⟨rfl, K.out⟩
  have CA := Lib.hid (Decidable.of_not_not cA)
  clear cA
  refine (refCheckR YA.out CA.out).mono ?_
  rintro e w5 ⟨rfl, hk⟩
  have K := Lib.hid (K.out.trans hk)
  have HA := Lib.hid (HA.out.kept hk)
  have YA := Lib.hid (YA.out.kept hk)
  clear hk
  clear YA
  go_wp2_with fail
  have GA := Lib.hid (check_good CA.out HA.out.fine)
  have NA := Lib.hid (check_len CA.out)
  go_loopw [6, 7] (fun sv i wr => ∃ (j : Nat) (ls : V), j ≤ k ∧ i = .int .i64 j ∧ Reads wr sv ls ∧ Often j lA ls ∧ Kept w wr) (fun _ i _ => k - (intOf i).toNat)
  case atStart => exact ⟨0, [], Nat.zero_le _, rfl, Reads.nil _, often_zero _, K.out⟩
  case round =>
    obtain ⟨j, ls, hj, rfl, hR, hO, hK⟩ := hrel
    have S := Lib.hid hR
    have O := Lib.hid hO
    have K := Lib.hid hK
    have HA := Lib.hid (HA0.out.kept hK)
    clear hR hO hK
    by_cases hlt : j < k
    · have hlt' : (j : Int) < (k : Int) := by omega
      rcases often_step GA.out NA.out O.out with ⟨hov, he⟩ | ⟨r, he, ho⟩
      · have HEV := Lib.hid he
        have HOV := Lib.hid (often_over GA.out NA.out (show j + 1 ≤ k by omega) hov)
        clear hov he
        go_wp2_with fail
        refine (addR S.out HA.out HEV.out).mono ?_
        rintro e w6 ⟨x6, rfl, hr, hk⟩
        have K := Lib.hid (K.out.trans hk)
        have HA := Lib.hid (HA.out.kept hk)
        have S := Lib.hid (S.out.kept hk)
        clear hk
        clear hr
        go_wp2_with fail
        refine (mulR HA.out (by omega) (by omega) HOV.out).mono ?_
        rintro e w7 ⟨x7, rfl, hr, hk⟩
        have K := Lib.hid (K.out.trans hk)
        have HA := Lib.hid (HA.out.kept hk)
        have S := Lib.hid (S.out.kept hk)
        clear hk
        clear hr
        go_wp2
        go_ret
        exact ⟨rfl, K.out⟩
      · have HEV := Lib.hid he
        have HO := Lib.hid ho
        clear he ho
        go_wp2_with fail
        refine (addR S.out HA.out HEV.out).mono ?_
        rintro e w8 ⟨x8, rfl, hr, hk⟩
        have K := Lib.hid (K.out.trans hk)
        have HA := Lib.hid (HA.out.kept hk)
        have S := Lib.hid (S.out.kept hk)
        clear hk
        have R := Lib.hid hr
        clear hr
        go_wp2_with fail
        go_roundw
        case rel => exact ⟨j + 1, r, by omega, by go_num, R.out, HO.out, K.out⟩
        case measure => simp [intOf]; omega
    · have ej : j = k := by omega
      subst ej
      clear hlt
      go_wp2_with fail
      refine (mulR HA.out (by omega) (by omega) (often_all GA.out NA.out O.out)).mono ?_
      rintro e w9 ⟨x9, rfl, hr, hk⟩
      have K := Lib.hid (K.out.trans hk)
      have HA := Lib.hid (HA.out.kept hk)
      have S := Lib.hid (S.out.kept hk)
      clear hk
      have M := Lib.hid hr
      clear hr
      go_wp2_with fail
      refine (partR HA.out (by decide) (by decide) (part_whole GA.out NA.out)).mono ?_
      rintro e w10 ⟨x10, rfl, hr, hk⟩
      have K := Lib.hid (K.out.trans hk)
      have HA := Lib.hid (HA.out.kept hk)
      have S := Lib.hid (S.out.kept hk)
      have M := Lib.hid (M.out.kept hk)
      clear hk
      have P := Lib.hid hr
      clear hr
      go_wp2_with fail
      refine (partR HA.out (by decide) (by decide) (part_none GA.out NA.out)).mono ?_
      rintro e w11 ⟨x11, rfl, hr, hk⟩
      have K := Lib.hid (K.out.trans hk)
      have HA := Lib.hid (HA.out.kept hk)
      have S := Lib.hid (S.out.kept hk)
      have M := Lib.hid (M.out.kept hk)
      have P := Lib.hid (P.out.kept hk)
      clear hk
      have Z := Lib.hid hr
      clear hr
      obtain ⟨az, cz, ez, -⟩ := Z.out
      subst ez
      clear Z
      go_wp2_with fail
      refine (sameR M.out S.out (same_self _)).mono ?_
      rintro e w12 ⟨rfl, hk⟩
      have K := Lib.hid (K.out.trans hk)
      have HA := Lib.hid (HA.out.kept hk)
      have S := Lib.hid (S.out.kept hk)
      have M := Lib.hid (M.out.kept hk)
      have P := Lib.hid (P.out.kept hk)
      clear hk
      go_wp2_with fail
      refine (sameR P.out HA.out (same_self _)).mono ?_
      rintro e w13 ⟨rfl, hk⟩
      have K := Lib.hid (K.out.trans hk)
      have HA := Lib.hid (HA.out.kept hk)
      have S := Lib.hid (S.out.kept hk)
      have M := Lib.hid (M.out.kept hk)
      have P := Lib.hid (P.out.kept hk)
      clear hk
      go_wp2
      go_ret
      exact ⟨rfl, K.out⟩

end Go.Proofs.YtnnneimpdiadhaaDoor.Vec
