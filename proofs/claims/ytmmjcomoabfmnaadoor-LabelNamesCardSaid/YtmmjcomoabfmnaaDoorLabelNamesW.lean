/- LabelNames: the walk. -/
import Derived.Test.YtmmjcomoabfmnaaDoorLabKnown
namespace Go.Proofs.YtmmjcomoabfmnaaDoor
open Go.RowKit
set_option linter.unusedVariables false

theorem chk_one (x y : ByteArray) : chkS [(x, y)] = if (isName x && isName y) = true then 0 else 3 := by
  unfold chkS
  rw [if_neg (by simp)]
  unfold chkFrom
  cases h : (isName x && isName y) <;> simp [h, behindB, chkFrom]
theorem chkL_one (x y : ByteArray) : chkL [(3, x, y)] = if (isName x && eqS y ByteArray.empty) = true then 0 else 3 := by
  have e : chkT (3, x, y) = if (isName x && eqS y ByteArray.empty) = true then 0 else 3 := by rw [chkT_eq, if_neg (by omega), if_pos (by omega)]
  unfold chkL
  rw [if_neg (by simp), chkLF_cons, e]
  cases h : (isName x && eqS y ByteArray.empty) <;> simp [chkLF]

set_option maxHeartbeats 1600000 in
theorem LabelNames_walk (key val : ByteArray) (w : World) (hE : Env w) (hk : key.size ≤ maxLen) (hv : val.size ≤ maxLen) :
    Calls Tryd.prog 7 #[.string key, .string val] w fun e w' => e = .returned (.bool true) ∧ Kept w w' := by
  have HK := Lib.hid (known_any w hE)
  have hk' := hk
  have hv' := hv
  unfold maxLen at hk' hv'
  clear hE
  by_cases b1 : key.size ≤ 50
  · by_cases b2 : val.size ≤ 50
    · have HC1 := Lib.hid (chk_one key val)
      have HC2 := Lib.hid (chkL_one key val)
      obtain ⟨q, hq⟩ : ∃ q, (val.toList == ([] : List UInt8)) = q := ⟨_, rfl⟩
      have hq2 : eqS val ByteArray.empty = q := by unfold eqS; rw [← hq]; simp
      rw [hq2] at HC2
      obtain ⟨n1, hn1⟩ : ∃ n, isName key = n := ⟨_, rfl⟩
      obtain ⟨n2, hn2⟩ : ∃ n, isName val = n := ⟨_, rfl⟩
      rw [hn1] at HC1 HC2
      rw [hn2] at HC1
      clear hq2
      cases n1 <;> cases n2 <;> cases q <;>
      (go_enter Tryd.func7, Tryd.ntmps7
       go_wp2_with fail
       refine HK.out.mono ?_
       rintro e w1 ⟨rfl, k1⟩
       have K1 := Lib.hid k1
       clear k1
       go_wp2_with fail
       refine (checkR (lit_pair _ key val _ hk hv) HC1.out).mono ?_
       rintro e w2 ⟨rfl, k2⟩
       have K2 := Lib.hid (K1.out.trans ((kept_alloc _ _).trans k2))
       clear k2
       go_wp2_with fail
       refine (checkSelR (lit_term _ 3 key val _ (by decide) hk hv) HC2.out).mono ?_
       rintro e w3 ⟨rfl, k3⟩
       have K3 := Lib.hid (K2.out.trans ((kept_alloc _ _).trans k3))
       clear k3
       go_wp2_with (go_at_call 31; refine (refName_any _ _ (by assumption)).mono ?_; rintro e w' ⟨rfl, rfl⟩)
       go_ret
       exact ⟨rfl, K3.out⟩)
    · have b2 : 50 < val.size := by omega
      go_enter Tryd.func7, Tryd.ntmps7
      go_wp2_with fail
      refine HK.out.mono ?_
      rintro e w1 ⟨rfl, k1⟩
      go_wp2
      go_ret
      exact ⟨rfl, k1⟩
  · have b1 : 50 < key.size := by omega
    go_enter Tryd.func7, Tryd.ntmps7
    go_wp2_with fail
    refine HK.out.mono ?_
    rintro e w1 ⟨rfl, k1⟩
    go_wp2
    go_ret
    exact ⟨rfl, k1⟩

end Go.Proofs.YtmmjcomoabfmnaaDoor
