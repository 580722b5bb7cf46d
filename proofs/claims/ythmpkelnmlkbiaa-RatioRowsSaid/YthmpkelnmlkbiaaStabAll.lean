/- slices.symMergeCmpFunc at any two stretches; slices.stableCmpFunc at any length. -/
import Derived.Test.YthmpkelnmlkbiaaStabMid
namespace Go.Proofs.Ythmpkelnmlkbiaa
open Go.RowKit Go.Shelf Go.Lib Go.Sort
set_option linter.unusedVariables false

theorem symMerge_below {α : Type} [Inhabited α] (enc : α → Value) (cf : α → α → Int) (hO : SWO (ltOf cf)) (g : Nat) (cb : Array Value) (w0 : World) (blk off cap size : Nat) (d0 : Array α) (hs : d0.size = size)
    (eg : ∀ args w, (callFunc g args).run Try.prog w = .ok (.enter g args) w) (hcmp : CmpLays1 Try.prog g cb enc cf blk off d0.size w0) (R : Row1 enc w0 blk off d0) (hsz : size < 2305843009213693952) :
    ∀ n, MrgBelow enc cf g cb w0 blk off cap size n := by
  intro n
  induction n with
  | zero => intro a m b za zm zb d w h; omega
  | succ n ih =>
    intro a m b za zm zb d w hn ham hmb hb hd ea em eb S s1 s2
    subst ea em eb
    subst hd
    by_cases h1 : m = a + 1
    · subst h1
      have := symMerge_left enc cf hO g cb w0 blk off cap a b d0 d w eg hcmp R hs S hmb hb hsz s2
      rw [show ((a + 1 : Nat) : Int) = (a : Int) + 1 from by omega]
      exact this
    · by_cases h2 : b = m + 1
      · subst h2
        have := symMerge_right enc cf hO g cb w0 blk off cap a m d0 d w eg hcmp R hs S (by omega) hb hsz s1
        rw [show ((m + 1 : Nat) : Int) = (m : Int) + 1 from by omega]
        exact this
      · exact symMerge_mid enc cf hO g cb w0 blk off cap a m b d0 d w eg hcmp R hs S (by omega) (by omega) hb hsz s1 s2
          (fun a' m' b' za zm zb d' w' h => ih a' m' b' za zm zb d' w' (by omega))

theorem symMerge_at {α : Type} [Inhabited α] (enc : α → Value) (cf : α → α → Int) (hO : SWO (ltOf cf)) (g : Nat) (cb : Array Value) (w0 : World) (blk off cap a m b : Nat) (za zm zb : Int) (d0 d : Array α) (w : World)
    (eg : ∀ args w, (callFunc g args).run Try.prog w = .ok (.enter g args) w) (hcmp : CmpLays1 Try.prog g cb enc cf blk off d0.size w0) (R : Row1 enc w0 blk off d0) (hs : d0.size = d.size) (hsz : d.size < 2305843009213693952) (S : SW enc w0 blk off d w)
    (ham : a < m) (hmb : m < b) (hb : b ≤ d.size) (ea : za = a) (em : zm = m) (eb : zb = b) (s1 : SortedIn (ltOf cf) a m d) (s2 : SortedIn (ltOf cf) m b d) (N : Nat) (hN : N = d.size) :
    Calls Try.prog 51 #[.slice (some ⟨blk, off, none⟩) N cap, .int .i64 za, .int .i64 zm, .int .i64 zb, .func (.func g) #[] cb] w (Mrg enc cf w0 blk off a b d) := by
  subst hN
  exact symMerge_below enc cf hO g cb w0 blk off cap d.size d0 hs eg hcmp R hsz (b - a + 1) a m b za zm zb d w (by omega) ham hmb hb rfl ea em eb S s1 s2

theorem insertion_at {α : Type} [Inhabited α] (enc : α → Value) (cf : α → α → Int) (hO : SWO (ltOf cf)) (g : Nat) (cb : Array Value) (w0 : World) (blk off cap a b : Nat) (za zb : Int) (d0 d : Array α) (w : World)
    (eg : ∀ args w, (callFunc g args).run Try.prog w = .ok (.enter g args) w) (hcmp : CmpLays1 Try.prog g cb enc cf blk off d0.size w0) (R : Row1 enc w0 blk off d0) (hs : d0.size = d.size) (hsz : d.size < 2305843009213693952) (S : SW enc w0 blk off d w)
    (hab : a ≤ b) (hb : b ≤ d.size) (ea : za = a) (eb : zb = b) (N : Nat) (hN : N = d.size) :
    Calls Try.prog 50 #[.slice (some ⟨blk, off, none⟩) N cap, .int .i64 za, .int .i64 zb, .func (.func g) #[] cb] w (Mrg enc cf w0 blk off a b d) := by
  subst hN ea eb
  refine (Try.insertionSortCmpFunc_s enc cf g cb blk off cap a b d0 d w0 w eg hcmp R hs S hab hb (by omega)).mono ?_
  rintro e w' ⟨rfl, hS⟩
  have h := insertionSort_holds hO d a b hab hb
  exact ⟨rfl, _, h.1, h.2, hS⟩

end Go.Proofs.Ythmpkelnmlkbiaa
