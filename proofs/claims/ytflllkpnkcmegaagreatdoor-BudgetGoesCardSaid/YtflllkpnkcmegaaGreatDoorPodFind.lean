/- Pods: the one of a name. -/
import Derived.Test.YtflllkpnkcmegaaGreatDoorPodClone
import Derived.Test.YtflllkpnkcmegaaGreatDoorBase
import Derived.Deep.RegionHeld3
namespace Go.Proofs.YtflllkpnkcmegaaGreatDoor
open Go.RowKit
set_option linter.unusedVariables false

theorem nameOfP_any (n : Pd) (v1 v2 v3 v4 : Value) (w : World) : Calls Tryz.prog 93 #[PodV n v1 v2 v3 v4] w fun e w' => e = .returned (.string n.name) ∧ Kept w w' := by
  unfold PodV
  go_enter Tryz.func93, Tryz.ntmps93
  go_wp2
  go_ret
  exact ⟨rfl, kept_alloc _ _⟩
set_option maxRecDepth 100000 in
set_option maxHeartbeats 1600000 in
theorem nameIsP_any (n : Pd) (v1 v2 v3 v4 : Value) (p q : Addr) (x : ByteArray) (w : World) (hp : w.cell? p = some (.func (.func 93) #[] #[])) (hq : w.cell? q = some (.string x)) :
    Calls Tryz.prog 143 #[PodV n v1 v2 v3 v4, .pointer (some p), .pointer (some q)] w fun e w' => e = .returned (.bool (eqS n.name x)) ∧ Kept w w' := by
  have HB := Lib.hid (show ∀ W, Kept (w.alloc (.cells #[.string n.name, .string n.owner, .int .i64 n.prio, v1, v2, v3, v4, .string n.key, .int .i64 n.most, .string n.node, .bool n.hold] 30)) W → W.cell? p = some (.func (.func 93) #[] #[]) ∧ W.cell? q = some (.string x) ∧ W.cell? ⟨w.heap.size, 0, none⟩ = some (.string n.name) ∧ W.cell? ⟨w.heap.size, 1, none⟩ = some (.string n.owner) ∧ W.cell? ⟨w.heap.size, 2, none⟩ = some (.int .i64 n.prio) ∧ W.cell? ⟨w.heap.size, 3, none⟩ = some (v1) ∧ W.cell? ⟨w.heap.size, 4, none⟩ = some (v2) ∧ W.cell? ⟨w.heap.size, 5, none⟩ = some (v3) ∧ W.cell? ⟨w.heap.size, 6, none⟩ = some (v4) ∧ W.cell? ⟨w.heap.size, 7, none⟩ = some (.string n.key) ∧ W.cell? ⟨w.heap.size, 8, none⟩ = some (.int .i64 n.most) ∧ W.cell? ⟨w.heap.size, 9, none⟩ = some (.string n.node) ∧ W.cell? ⟨w.heap.size, 10, none⟩ = some (.bool n.hold) from fun W k => ⟨cell_later ((kept_alloc _ _).trans k) hp, cell_later ((kept_alloc _ _).trans k) hq, (freshN w (.string n.name) [.string n.owner, .int .i64 n.prio, v1, v2, v3, v4, .string n.key, .int .i64 n.most, .string n.node, .bool n.hold] 30 W k).at_ 0 _ rfl, (freshN w (.string n.name) [.string n.owner, .int .i64 n.prio, v1, v2, v3, v4, .string n.key, .int .i64 n.most, .string n.node, .bool n.hold] 30 W k).at_ 1 _ rfl, (freshN w (.string n.name) [.string n.owner, .int .i64 n.prio, v1, v2, v3, v4, .string n.key, .int .i64 n.most, .string n.node, .bool n.hold] 30 W k).at_ 2 _ rfl, (freshN w (.string n.name) [.string n.owner, .int .i64 n.prio, v1, v2, v3, v4, .string n.key, .int .i64 n.most, .string n.node, .bool n.hold] 30 W k).at_ 3 _ rfl, (freshN w (.string n.name) [.string n.owner, .int .i64 n.prio, v1, v2, v3, v4, .string n.key, .int .i64 n.most, .string n.node, .bool n.hold] 30 W k).at_ 4 _ rfl, (freshN w (.string n.name) [.string n.owner, .int .i64 n.prio, v1, v2, v3, v4, .string n.key, .int .i64 n.most, .string n.node, .bool n.hold] 30 W k).at_ 5 _ rfl, (freshN w (.string n.name) [.string n.owner, .int .i64 n.prio, v1, v2, v3, v4, .string n.key, .int .i64 n.most, .string n.node, .bool n.hold] 30 W k).at_ 6 _ rfl, (freshN w (.string n.name) [.string n.owner, .int .i64 n.prio, v1, v2, v3, v4, .string n.key, .int .i64 n.most, .string n.node, .bool n.hold] 30 W k).at_ 7 _ rfl, (freshN w (.string n.name) [.string n.owner, .int .i64 n.prio, v1, v2, v3, v4, .string n.key, .int .i64 n.most, .string n.node, .bool n.hold] 30 W k).at_ 8 _ rfl, (freshN w (.string n.name) [.string n.owner, .int .i64 n.prio, v1, v2, v3, v4, .string n.key, .int .i64 n.most, .string n.node, .bool n.hold] 30 W k).at_ 9 _ rfl, (freshN w (.string n.name) [.string n.owner, .int .i64 n.prio, v1, v2, v3, v4, .string n.key, .int .i64 n.most, .string n.node, .bool n.hold] 30 W k).at_ 10 _ rfl⟩)
  have HN := Lib.hid (fun W => nameOfP_any n v1 v2 v3 v4 W)
  unfold PodV at HN ⊢
  obtain ⟨b, hb⟩ : ∃ b, eqS n.name x = b := ⟨_, rfl⟩
  have t1 : (n.name.toList == x.toList) = b := hb
  rw [hb]
  clear hp hq hb
  go_enter Tryz.func143, Tryz.ntmps143
  go_wp2
  go_region_held3 (fun W => W.cell? p = some (.func (.func 93) #[] #[]) ∧ W.cell? q = some (.string x) ∧ W.cell? ⟨w.heap.size, 0, none⟩ = some (.string n.name) ∧ W.cell? ⟨w.heap.size, 1, none⟩ = some (.string n.owner) ∧ W.cell? ⟨w.heap.size, 2, none⟩ = some (.int .i64 n.prio) ∧ W.cell? ⟨w.heap.size, 3, none⟩ = some (v1) ∧ W.cell? ⟨w.heap.size, 4, none⟩ = some (v2) ∧ W.cell? ⟨w.heap.size, 5, none⟩ = some (v3) ∧ W.cell? ⟨w.heap.size, 6, none⟩ = some (v4) ∧ W.cell? ⟨w.heap.size, 7, none⟩ = some (.string n.key) ∧ W.cell? ⟨w.heap.size, 8, none⟩ = some (.int .i64 n.most) ∧ W.cell? ⟨w.heap.size, 9, none⟩ = some (.string n.node) ∧ W.cell? ⟨w.heap.size, 10, none⟩ = some (.bool n.hold))
    (first | exact HB.out _ (Kept.drew _) | exact HB.out _ K1.out)
    (first | (go_at_call 93; refine (HN.out _).mono ?_; rintro e1 w1 ⟨rfl, k1⟩; have K1 := Lib.hid ((Kept.drew _).trans k1); clear k1))
  go_wp2
  go_ret
  exact ⟨ret_bool rfl, (kept_alloc _ _).trans K1.out⟩
def findP (l : List Pd) (x : ByteArray) : Option Pd := l.find? fun n => eqS n.name x
/-- Where the first of a name is. -/
def SoughtP (l : List Pd) (x : ByteArray) (i : Int) : Prop := (∃ (k : Nat) (n : Pd), i = (k : Int) ∧ l[k]? = some n ∧ findP l x = some n) ∨ (i = -1 ∧ findP l x = none)
set_option maxRecDepth 100000 in
set_option maxHeartbeats 1600000 in
theorem indexP_any (a : Option Addr) (len cap : Nat) (l : List Pd) (x : ByteArray) (p q : Addr) (w : World) (hr : PodsAt w a len l) (hp : w.cell? p = some (.func (.func 93) #[] #[])) (hq : w.cell? q = some (.string x)) :
    Calls Tryz.prog 142 #[.slice a len cap, .func (.func 143) #[] #[.pointer (some p), .pointer (some q)]] w fun e w' => ∃ i, e = .returned (.int .i64 i) ∧ SoughtP l x i ∧ Kept w w' := by
  have hl := hr.1
  have hm := hr.2.1
  unfold maxLen at hm
  have HL := Lib.hid hl
  by_cases h0 : len = 0
  · subst h0
    have hl0 : l = [] := List.eq_nil_of_length_eq_zero hl
    have HF := Lib.hid (show findP l x = none by rw [hl0]; rfl)
    clear hr hl hp hq
    go_enter Tryz.func142, Tryz.ntmps142
    go_wp2
    refine wp_loop_rounds 1 ?_
    rw [rounds_succ]
    go_wp2
    go_ret
    exact ⟨-1, rfl, .inr ⟨rfl, HF.out⟩, Kept.refl _⟩
  · obtain ⟨b, off, rfl⟩ := hr.form.resolve_left h0
    have HR := Lib.hid hr
    have HP := Lib.hid hp
    have HQ := Lib.hid hq
    clear hr hl hp hq h0
    go_enter Tryz.func142, Tryz.ntmps142
    go_wp2
    go_loopw [8] (fun i wr => ∃ k : Nat, k ≤ len ∧ i = .int .i64 k ∧ findP (l.drop k) x = findP l x ∧ Kept w wr) (fun i _ => len - (intOf i).toNat)
    case atStart => exact ⟨0, Nat.zero_le _, rfl, rfl, Kept.refl _⟩
    case round =>
      obtain ⟨k, hk, rfl, hrest, hK⟩ := hrel
      have HS := Lib.hid hrest
      have HK := Lib.hid hK
      by_cases hlt : k < len
      · obtain ⟨n, a1, m1, c1, a2, m2, c2, a3, m3, c3, a4, m4, c4, hn, hd, hb, p0, p1, p2, p3, p4, p5, p6, p7, p8, p9, p10, hat⟩ := (HR.out.kept hK).at_ hlt
        have HN := Lib.hid hn
        have HD := Lib.hid hd
        have HC := Lib.hid (nameIsP_any n (.slice a1 m1 c1) (.slice a2 m2 c2) (.slice a3 m3 c3) (.slice a4 m4 c4) p q x wr (cell_later hK HP.out) (cell_later hK HQ.out))
        unfold PodV at HC
        obtain ⟨t, ht⟩ : ∃ t, eqS n.name x = t := ⟨_, rfl⟩
        have HT := Lib.hid ht
        rw [ht] at HC
        clear hrest hK hat hd hn ht
        cases t with
        | true =>
          have HF := Lib.hid (show findP l x = some n by rw [← HS.out, HD.out]; unfold findP; rw [List.find?_cons, HT.out])
          go_wp2_with fail
          refine HC.out.mono ?_
          rintro e w1 ⟨rfl, k1⟩
          have K1 := Lib.hid (HK.out.trans k1)
          clear k1
          go_wp2
          go_ret
          exact ⟨(k : Int), rfl, .inl ⟨k, n, rfl, HN.out, HF.out⟩, K1.out⟩
        | false =>
          have HE := Lib.hid (show findP (l.drop k) x = findP (l.drop (k + 1)) x by rw [HD.out]; unfold findP; rw [List.find?_cons, HT.out])
          go_wp2_with fail
          refine HC.out.mono ?_
          rintro e w1 ⟨rfl, k1⟩
          have K1 := Lib.hid (HK.out.trans k1)
          clear k1
          go_wp2
          go_roundw
          case rel => exact ⟨k + 1, by omega, by go_num, HE.out.symm.trans HS.out, K1.out⟩
          case measure => simp [intOf]; omega
      · have HF := Lib.hid (show findP l x = none by rw [← hrest, List.drop_of_length_le (by rw [HL.out]; omega)]; rfl)
        clear hrest hK
        go_wp2
        go_ret
        exact ⟨-1, rfl, .inr ⟨rfl, HF.out⟩, HK.out⟩
set_option maxRecDepth 100000 in
set_option maxHeartbeats 3200000 in
theorem rowsFindP_any (a : Option Addr) (len cap : Nat) (l : List Pd) (x : ByteArray) (w : World) (hr : PodsAt w a len l) (hlow : ∀ n ∈ l, LowPd n) :
    Calls Tryz.prog 94 #[.slice a len cap, .string x, .func (.func 93) #[] #[], .func (.func 95) #[] #[]] w fun e w' => ∃ v, e = .returned (.tuple #[v, .bool (findP l x).isSome]) ∧ PodRB w.heap.size w' v ((findP l x).getD Pd.zero) ∧ Kept w w' := by
  have hmf : ∀ (fn : Fn) (first cap : Array Value) (w : World), (Instr.makeFunc fn first cap).run Tryz.prog w = .ok (.func fn first cap) w := fun _ _ _ _ => rfl
  have hl := hr.1
  have hm := hr.2.1
  unfold maxLen at hm
  obtain ⟨Z, hZ⟩ : ∃ Z, ((w.alloc (.cells #[.string x] 9)).alloc (.cells #[.func (.func 93) #[] #[]] 49)).alloc (.cells #[.string ⟨#[]⟩, .string ⟨#[]⟩, .int .i64 0, .slice none 0 0, .slice none 0 0, .slice none 0 0, .slice none 0 0, .string ⟨#[]⟩, .int .i64 0, .string ⟨#[]⟩, .bool false] 30) = Z := ⟨_, rfl⟩
  have hkz : Kept w Z := by rw [← hZ]; exact (kept_two _ _ _).trans (kept_alloc _ _)
  have hzs : Z.heap.size = w.heap.size + 3 := by rw [← hZ]; simp
  have hq := (freshN w (.string x) [] 9 Z (by rw [← hZ]; exact kept_two _ _ _)).at_ 0 _ rfl
  have hp : Z.cell? ⟨w.heap.size + 1, 0, none⟩ = some (.func (.func 93) #[] #[]) := by
    have := (freshN (w.alloc (.cells #[.string x] 9)) (.func (.func 93) #[] #[]) [] 49 Z (by rw [← hZ]; exact kept_alloc _ _)).at_ 0 _ rfl
    rw [World.size_alloc] at this
    exact this
  have HQ0 := Lib.hid (show CellsN (w.heap.size + 2) [.string ⟨#[]⟩, .string ⟨#[]⟩, .int .i64 0, .slice none 0 0, .slice none 0 0, .slice none 0 0, .slice none 0 0, .string ⟨#[]⟩, .int .i64 0, .string ⟨#[]⟩, .bool false] Z by
    have := freshN ((w.alloc (.cells #[.string x] 9)).alloc (.cells #[.func (.func 93) #[] #[]] 49)) (.string ⟨#[]⟩) [.string ⟨#[]⟩, .int .i64 0, .slice none 0 0, .slice none 0 0, .slice none 0 0, .slice none 0 0, .string ⟨#[]⟩, .int .i64 0, .string ⟨#[]⟩, .bool false] 30 Z (by rw [hZ]; exact Kept.refl _)
    rw [World.size_alloc, World.size_alloc] at this
    exact this)
  have HIX := Lib.hid (indexP_any a len cap l x ⟨w.heap.size + 1, 0, none⟩ ⟨w.heap.size, 0, none⟩ Z (hr.kept hkz) hp hq)
  have HKZ := Lib.hid hkz
  have HZS := Lib.hid hzs
  have HR := Lib.hid (hr.kept hkz)
  have HLOW := Lib.hid hlow
  have HL := Lib.hid hl
  clear hr hl hlow hkz hq hp hzs
  go_enter Tryz.func94, Tryz.ntmps94
  go_wp2_with fail
  try rw [hZ]
  clear hZ
  refine HIX.out.mono ?_
  rintro e w1 ⟨i, rfl, hs, k1⟩
  have K1 := Lib.hid k1
  rcases hs with ⟨k, n9, rfl, hn9, hf⟩ | ⟨rfl, hf⟩
  · have HF := Lib.hid hf
    have hkl : k < len := by have := (List.getElem?_eq_some_iff.1 hn9).1; rw [HL.out] at this; exact this
    have hk0 : decide ((k : Int) < 0) = false := by simp
    have hkk : (k : Int) < (len : Int) := by omega
    obtain ⟨b, off, rfl⟩ := HR.out.form.resolve_left (by omega)
    obtain ⟨n, a1, m1, c1, a2, m2, c2, a3, m3, c3, a4, m4, c4, hn, hd, hb, p0, p1, p2, p3, p4, p5, p6, p7, p8, p9, p10, hat⟩ := (HR.out.kept k1).at_ hkl
    obtain rfl : n9 = n := by rw [hn9] at hn; exact Option.some.inj hn
    have HLN := Lib.hid (HLOW.out n9 (List.mem_of_getElem? hn9))
    have HAT := Lib.hid hat
    have HQZ := Lib.hid (HQ0.out.kept k1)
    have HZ1 := Lib.hid (show w.heap.size + 3 ≤ w1.heap.size by have := k1.size; rw [HZS.out] at this; exact this)
    have HOW := Lib.hid (ownedP_any n9 (.slice a1 m1 c1) (.slice a2 m2 c2) (.slice a3 m3 c3) (.slice a4 m4 c4) w1 HAT.out HLN.out)
    clear hn9 hn hd hat hf k1
    go_wp2_with fail
    refine HOW.out.mono ?_
    rintro e w2 ⟨v, rfl, hn, k2⟩
    have HN := Lib.hid hn
    have KW := Lib.hid (HKZ.out.trans (K1.out.trans k2))
    have HQZ := Lib.hid (HQZ.out.kept k2)
    obtain ⟨b1, n1, d1, b2, n2, d2, b3, n3, d3, b4, n4, d4, rfl, -⟩ := hn
    unfold PodV at HN ⊢
    obtain ⟨z0, hz0⟩ : ∃ z, n9.name = z := ⟨_, rfl⟩
    obtain ⟨z1, hz1⟩ : ∃ z, n9.owner = z := ⟨_, rfl⟩
    obtain ⟨z2, hz2⟩ : ∃ z, n9.prio = z := ⟨_, rfl⟩
    obtain ⟨z3, hz3⟩ : ∃ z, n9.key = z := ⟨_, rfl⟩
    obtain ⟨z4, hz4⟩ : ∃ z, n9.most = z := ⟨_, rfl⟩
    obtain ⟨z5, hz5⟩ : ∃ z, n9.node = z := ⟨_, rfl⟩
    obtain ⟨z6, hz6⟩ : ∃ z, n9.hold = z := ⟨_, rfl⟩
    rw [hz0, hz1, hz2, hz3, hz4, hz5, hz6]
    rw [hz0, hz1, hz2, hz3, hz4, hz5, hz6] at HN
    clear k2 p0 p1 p2 p3 p4 p5 p6 p7 p8 p9 p10 hb hkl hk0 hkk
    have y0 := HQZ.out.at_ 0 _ rfl
    have y1 := HQZ.out.at_ 1 _ rfl
    have y2 := HQZ.out.at_ 2 _ rfl
    have y3 := HQZ.out.at_ 3 _ rfl
    have y4 := HQZ.out.at_ 4 _ rfl
    have y5 := HQZ.out.at_ 5 _ rfl
    have y6 := HQZ.out.at_ 6 _ rfl
    have y7 := HQZ.out.at_ 7 _ rfl
    have y8 := HQZ.out.at_ 8 _ rfl
    have y9 := HQZ.out.at_ 9 _ rfl
    have y10 := HQZ.out.at_ 10 _ rfl
    have x0 := HQZ.out.free 0
    have x1 := HQZ.out.free 1
    have x2 := HQZ.out.free 2
    have x3 := HQZ.out.free 3
    have x4 := HQZ.out.free 4
    have x5 := HQZ.out.free 5
    have x6 := HQZ.out.free 6
    have x7 := HQZ.out.free 7
    have x8 := HQZ.out.free 8
    have x9 := HQZ.out.free 9
    have x10 := HQZ.out.free 10
    have P := Lib.hid (putN (vs := [.string z0, .string z1, .int .i64 z2, .slice b1 n1 d1, .slice b2 n2 d2, .slice b3 n3 d3, .slice b4 n4 d4, .string z3, .int .i64 z4, .string z5, .bool z6]) HQZ.out rfl)
    clear HQZ
    go_wp2
    obtain ⟨WE, hWE⟩ : ∃ W, w2.setCells (w.heap.size + 2) 0 [.string z0, .string z1, .int .i64 z2, .slice b1 n1 d1, .slice b2 n2 d2, .slice b3 n3 d3, .slice b4 n4 d4, .string z3, .int .i64 z4, .string z5, .bool z6] = W := ⟨_, rfl⟩
    have hWE2 : (((((((((((w2.setCell ⟨(w.heap.size + 2), 0, none⟩ (.string z0)).setCell ⟨(w.heap.size + 2), 1, none⟩ (.string z1)).setCell ⟨(w.heap.size + 2), 2, none⟩ (.int .i64 z2)).setCell ⟨(w.heap.size + 2), 3, none⟩ (.slice b1 n1 d1)).setCell ⟨(w.heap.size + 2), 4, none⟩ (.slice b2 n2 d2)).setCell ⟨(w.heap.size + 2), 5, none⟩ (.slice b3 n3 d3)).setCell ⟨(w.heap.size + 2), 6, none⟩ (.slice b4 n4 d4)).setCell ⟨(w.heap.size + 2), 7, none⟩ (.string z3)).setCell ⟨(w.heap.size + 2), 8, none⟩ (.int .i64 z4)).setCell ⟨(w.heap.size + 2), 9, none⟩ (.string z5)).setCell ⟨(w.heap.size + 2), 10, none⟩ (.bool z6)) = WE := hWE
    rw [hWE] at P
    rw [hWE2]
    clear hWE hWE2
    obtain ⟨PC, hsz, hbl, hkp⟩ := P.out
    refine bodyPost_ret (by simp [results, Tryz.results94, go_sem, PC.at_ 0 _ rfl, PC.at_ 1 _ rfl, PC.at_ 2 _ rfl, PC.at_ 3 _ rfl, PC.at_ 4 _ rfl, PC.at_ 5 _ rfl, PC.at_ 6 _ rfl, PC.at_ 7 _ rfl, PC.at_ 8 _ rfl, PC.at_ 9 _ rfl, PC.at_ 10 _ rfl]; try rfl) rfl ?_
    rw [HF.out]
    exact ⟨_, rfl, (HN.out.far hsz (fun b hb => hbl b (by have := HZ1.out; omega))).less (by have := HZ1.out; omega), hkp _ _ (by omega) KW.out⟩
  · have HF := Lib.hid hf
    have HQZ := Lib.hid (HQ0.out.kept k1)
    have KW := Lib.hid (HKZ.out.trans k1)
    clear hf k1
    have y0 := HQZ.out.at_ 0 _ rfl
    have y1 := HQZ.out.at_ 1 _ rfl
    have y2 := HQZ.out.at_ 2 _ rfl
    have y3 := HQZ.out.at_ 3 _ rfl
    have y4 := HQZ.out.at_ 4 _ rfl
    have y5 := HQZ.out.at_ 5 _ rfl
    have y6 := HQZ.out.at_ 6 _ rfl
    have y7 := HQZ.out.at_ 7 _ rfl
    have y8 := HQZ.out.at_ 8 _ rfl
    have y9 := HQZ.out.at_ 9 _ rfl
    have y10 := HQZ.out.at_ 10 _ rfl
    have x0 := HQZ.out.free 0
    have x1 := HQZ.out.free 1
    have x2 := HQZ.out.free 2
    have x3 := HQZ.out.free 3
    have x4 := HQZ.out.free 4
    have x5 := HQZ.out.free 5
    have x6 := HQZ.out.free 6
    have x7 := HQZ.out.free 7
    have x8 := HQZ.out.free 8
    have x9 := HQZ.out.free 9
    have x10 := HQZ.out.free 10
    have P := Lib.hid (putN (vs := [.string ⟨#[]⟩, .string ⟨#[]⟩, .int .i64 0, .slice none 0 0, .slice none 0 0, .slice none 0 0, .slice none 0 0, .string ⟨#[]⟩, .int .i64 0, .string ⟨#[]⟩, .bool false]) HQZ.out rfl)
    clear HQZ
    go_wp2
    obtain ⟨WE, hWE⟩ : ∃ W, w1.setCells (w.heap.size + 2) 0 [.string ⟨#[]⟩, .string ⟨#[]⟩, .int .i64 0, .slice none 0 0, .slice none 0 0, .slice none 0 0, .slice none 0 0, .string ⟨#[]⟩, .int .i64 0, .string ⟨#[]⟩, .bool false] = W := ⟨_, rfl⟩
    have hWE2 : (((((((((((w1.setCell ⟨(w.heap.size + 2), 0, none⟩ (.string ⟨#[]⟩)).setCell ⟨(w.heap.size + 2), 1, none⟩ (.string ⟨#[]⟩)).setCell ⟨(w.heap.size + 2), 2, none⟩ (.int .i64 0)).setCell ⟨(w.heap.size + 2), 3, none⟩ (.slice none 0 0)).setCell ⟨(w.heap.size + 2), 4, none⟩ (.slice none 0 0)).setCell ⟨(w.heap.size + 2), 5, none⟩ (.slice none 0 0)).setCell ⟨(w.heap.size + 2), 6, none⟩ (.slice none 0 0)).setCell ⟨(w.heap.size + 2), 7, none⟩ (.string ⟨#[]⟩)).setCell ⟨(w.heap.size + 2), 8, none⟩ (.int .i64 0)).setCell ⟨(w.heap.size + 2), 9, none⟩ (.string ⟨#[]⟩)).setCell ⟨(w.heap.size + 2), 10, none⟩ (.bool false)) = WE := hWE
    rw [hWE] at P
    rw [hWE2]
    clear hWE hWE2
    obtain ⟨PC, hsz, hbl, hkp⟩ := P.out
    refine bodyPost_ret (by simp [results, Tryz.results94, go_sem, PC.at_ 0 _ rfl, PC.at_ 1 _ rfl, PC.at_ 2 _ rfl, PC.at_ 3 _ rfl, PC.at_ 4 _ rfl, PC.at_ 5 _ rfl, PC.at_ 6 _ rfl, PC.at_ 7 _ rfl, PC.at_ 8 _ rfl, PC.at_ 9 _ rfl, PC.at_ 10 _ rfl]; try rfl) rfl ?_
    rw [HF.out]
    exact ⟨_, rfl, zero_readsP _ _, hkp _ _ (by omega) KW.out⟩
set_option maxRecDepth 100000 in
set_option maxHeartbeats 1600000 in
theorem findP_any (a : Option Addr) (len cap : Nat) (l : List Pd) (x : ByteArray) (w : World) (hr : PodsAt w a len l) (hlow : ∀ n ∈ l, LowPd n) :
    Calls Tryz.prog 25 #[.slice a len cap, .string x] w fun e w' => ∃ v, e = .returned (.tuple #[v, .bool (findP l x).isSome]) ∧ PodR w' v ((findP l x).getD Pd.zero) ∧ Kept w w' := by
  obtain ⟨Z, hZ⟩ : ∃ Z, w.alloc (.cells #[.string ⟨#[]⟩, .string ⟨#[]⟩, .int .i64 0, .slice none 0 0, .slice none 0 0, .slice none 0 0, .slice none 0 0, .string ⟨#[]⟩, .int .i64 0, .string ⟨#[]⟩, .bool false] 30) = Z := ⟨_, rfl⟩
  have hkz : Kept w Z := by rw [← hZ]; exact kept_alloc _ _
  have hzs : Z.heap.size = w.heap.size + 1 := by rw [← hZ]; simp
  have HQ0 := Lib.hid (show CellsN w.heap.size [.string ⟨#[]⟩, .string ⟨#[]⟩, .int .i64 0, .slice none 0 0, .slice none 0 0, .slice none 0 0, .slice none 0 0, .string ⟨#[]⟩, .int .i64 0, .string ⟨#[]⟩, .bool false] Z from freshN w (.string ⟨#[]⟩) [.string ⟨#[]⟩, .int .i64 0, .slice none 0 0, .slice none 0 0, .slice none 0 0, .slice none 0 0, .string ⟨#[]⟩, .int .i64 0, .string ⟨#[]⟩, .bool false] 30 Z (by rw [hZ]; exact Kept.refl _))
  have HRF := Lib.hid (rowsFindP_any a len cap l x Z (hr.kept hkz) hlow)
  have HKZ := Lib.hid hkz
  have HZS := Lib.hid hzs
  obtain ⟨n9, hn9⟩ : ∃ n, (findP l x).getD Pd.zero = n := ⟨_, rfl⟩
  obtain ⟨is, his⟩ : ∃ n, (findP l x).isSome = n := ⟨_, rfl⟩
  rw [hn9, his] at HRF
  rw [hn9, his]
  clear hr hlow hkz hzs hn9 his
  go_enter Tryz.func25, Tryz.ntmps25
  go_wp2_with fail
  try rw [hZ]
  clear hZ
  refine HRF.out.mono ?_
  rintro e w1 ⟨v, rfl, hn, k1⟩
  have HN := Lib.hid hn
  have HQZ := Lib.hid (HQ0.out.kept k1)
  have KW := Lib.hid (HKZ.out.trans k1)
  obtain ⟨b1, n1, d1, b2, n2, d2, b3, n3, d3, b4, n4, d4, rfl, -⟩ := hn
  unfold PodV at HN ⊢
  obtain ⟨z0, hz0⟩ : ∃ z, n9.name = z := ⟨_, rfl⟩
  obtain ⟨z1, hz1⟩ : ∃ z, n9.owner = z := ⟨_, rfl⟩
  obtain ⟨z2, hz2⟩ : ∃ z, n9.prio = z := ⟨_, rfl⟩
  obtain ⟨z3, hz3⟩ : ∃ z, n9.key = z := ⟨_, rfl⟩
  obtain ⟨z4, hz4⟩ : ∃ z, n9.most = z := ⟨_, rfl⟩
  obtain ⟨z5, hz5⟩ : ∃ z, n9.node = z := ⟨_, rfl⟩
  obtain ⟨z6, hz6⟩ : ∃ z, n9.hold = z := ⟨_, rfl⟩
  rw [hz0, hz1, hz2, hz3, hz4, hz5, hz6]
  rw [hz0, hz1, hz2, hz3, hz4, hz5, hz6] at HN
  clear k1
  have y0 := HQZ.out.at_ 0 _ rfl
  have y1 := HQZ.out.at_ 1 _ rfl
  have y2 := HQZ.out.at_ 2 _ rfl
  have y3 := HQZ.out.at_ 3 _ rfl
  have y4 := HQZ.out.at_ 4 _ rfl
  have y5 := HQZ.out.at_ 5 _ rfl
  have y6 := HQZ.out.at_ 6 _ rfl
  have y7 := HQZ.out.at_ 7 _ rfl
  have y8 := HQZ.out.at_ 8 _ rfl
  have y9 := HQZ.out.at_ 9 _ rfl
  have y10 := HQZ.out.at_ 10 _ rfl
  have x0 := HQZ.out.free 0
  have x1 := HQZ.out.free 1
  have x2 := HQZ.out.free 2
  have x3 := HQZ.out.free 3
  have x4 := HQZ.out.free 4
  have x5 := HQZ.out.free 5
  have x6 := HQZ.out.free 6
  have x7 := HQZ.out.free 7
  have x8 := HQZ.out.free 8
  have x9 := HQZ.out.free 9
  have x10 := HQZ.out.free 10
  have P := Lib.hid (putN (vs := [.string z0, .string z1, .int .i64 z2, .slice b1 n1 d1, .slice b2 n2 d2, .slice b3 n3 d3, .slice b4 n4 d4, .string z3, .int .i64 z4, .string z5, .bool z6]) HQZ.out rfl)
  clear HQZ
  go_wp2
  obtain ⟨WE, hWE⟩ : ∃ W, w1.setCells w.heap.size 0 [.string z0, .string z1, .int .i64 z2, .slice b1 n1 d1, .slice b2 n2 d2, .slice b3 n3 d3, .slice b4 n4 d4, .string z3, .int .i64 z4, .string z5, .bool z6] = W := ⟨_, rfl⟩
  have hWE2 : (((((((((((w1.setCell ⟨w.heap.size, 0, none⟩ (.string z0)).setCell ⟨w.heap.size, 1, none⟩ (.string z1)).setCell ⟨w.heap.size, 2, none⟩ (.int .i64 z2)).setCell ⟨w.heap.size, 3, none⟩ (.slice b1 n1 d1)).setCell ⟨w.heap.size, 4, none⟩ (.slice b2 n2 d2)).setCell ⟨w.heap.size, 5, none⟩ (.slice b3 n3 d3)).setCell ⟨w.heap.size, 6, none⟩ (.slice b4 n4 d4)).setCell ⟨w.heap.size, 7, none⟩ (.string z3)).setCell ⟨w.heap.size, 8, none⟩ (.int .i64 z4)).setCell ⟨w.heap.size, 9, none⟩ (.string z5)).setCell ⟨w.heap.size, 10, none⟩ (.bool z6)) = WE := hWE
  rw [hWE] at P
  rw [hWE2]
  clear hWE hWE2
  obtain ⟨PC, hsz, hbl, hkp⟩ := P.out
  refine bodyPost_ret (by simp [results, Tryz.results25, go_sem, PC.at_ 0 _ rfl, PC.at_ 1 _ rfl, PC.at_ 2 _ rfl, PC.at_ 3 _ rfl, PC.at_ 4 _ rfl, PC.at_ 5 _ rfl, PC.at_ 6 _ rfl, PC.at_ 7 _ rfl, PC.at_ 8 _ rfl, PC.at_ 9 _ rfl, PC.at_ 10 _ rfl]; try rfl) rfl ?_
  exact ⟨_, rfl, (HN.out.far hsz (fun b hb => hbl b (by have := HZS.out; omega))).toR, hkp _ _ (Nat.le_refl _) KW.out⟩

end Go.Proofs.YtflllkpnkcmegaaGreatDoor
