/- Package by package: contracts of the functions that the laws call. -/
import Derived.Test.YtfpgekjhcfoohaaGreatShort
import Derived.Test.YtfpgekjhcfoohaaGreatResA
import Derived.StillTailTactics
import Derived.RegionCalls
import Derived.Test.YtfpgekjhcfoohaaGreatBase
import Derived.Lib.AtoiErrMem
import Derived.Shelf.Strings.BuilderX
import Derived.Lib.Walk
import Derived.Lib.Builder
import Derived.Lib.AppendStr
import Derived.Lib.UnsafeStr
import Derived.Laws.Externs
import Derived.Lib.ItoaLen
import Derived.Lib.AppendIntMem
import Derived.Lib.SmallJoins
/- A vector amount by amount: plain words. -/
set_option linter.unusedVariables false
namespace Go.Proofs.YtfpgekjhcfoohaaGreat.Vec
open Go.RowKit
end Go.Proofs.YtfpgekjhcfoohaaGreat.Vec
/- A vector amount by amount by qty's Mul. -/
namespace Go.Proofs.YtfpgekjhcfoohaaGreat.Vec
open Go.RowKit
end Go.Proofs.YtfpgekjhcfoohaaGreat.Vec
/- A vector amount by amount by qty's Part. -/
namespace Go.Proofs.YtfpgekjhcfoohaaGreat.Vec
open Go.RowKit
end Go.Proofs.YtfpgekjhcfoohaaGreat.Vec
/- Package res's Mul: the closure, the recovery, the face. -/
namespace Go.Proofs.YtfpgekjhcfoohaaGreat.Vec
open Go.RowKit
end Go.Proofs.YtfpgekjhcfoohaaGreat.Vec
/- Package res's Part: the closure, the recovery, the face. -/
namespace Go.Proofs.YtfpgekjhcfoohaaGreat.Vec
open Go.RowKit
end Go.Proofs.YtfpgekjhcfoohaaGreat.Vec
/- Decimals without leading noughts; a part's form; a part as an amount. -/
namespace Go.Proofs.YtfpgekjhcfoohaaGreat.Vec
open Go.RowKit
def nameOf (p : List UInt8) : List UInt8 := (Lib.cut p [61]).1
def numOf' (p : List UInt8) : List UInt8 := (Lib.cut p [61]).2.1
end Go.Proofs.YtfpgekjhcfoohaaGreat.Vec
/- A part as an amount; names taken anew. -/
namespace Go.Proofs.YtfpgekjhcfoohaaGreat.Vec
open Go.RowKit
end Go.Proofs.YtfpgekjhcfoohaaGreat.Vec
/- Names taken anew in a row of the call's own. -/
namespace Go.Proofs.YtfpgekjhcfoohaaGreat.Vec
open Go.RowKit
end Go.Proofs.YtfpgekjhcfoohaaGreat.Vec
/- parsed: the form of all parts, then their numbers, then what Check asks. -/
namespace Go.Proofs.YtfpgekjhcfoohaaGreat.Vec
open Go.RowKit Go.Shelf
attribute [local go_sem] Oper.semAt_some
theorem OwnV.put {e : TypeId} {w : World} {B D : Nat} {v : Value} {l : V} (h : OwnV e w B v l) (hD : D < B) (o : Obj) : OwnV e (w.putObj D o) B v l := by
 obtain ⟨⟨h0, h1⟩, hf⟩ := h
 refine ⟨⟨h0, h1.imp id ?_⟩, hf⟩
 rintro ⟨g, cap, cur, rfl, hbg, hg, rest⟩
 exact ⟨g, cap, cur, rfl, hbg, (World.putObj_heap_other (by omega)).trans hg, rest⟩
theorem OwnV.row {e : TypeId} {w : World} {B n : Nat} {v : Value} {l : V} (h : OwnV e w B v l) (hn : l.length = n) : w.ownsRow B e 2 v n (cellsOf l) := hn ▸ h.1
end Go.Proofs.YtfpgekjhcfoohaaGreat.Vec
/- Package res's Parse: the closure, the recovery, the face. -/
namespace Go.Proofs.YtfpgekjhcfoohaaGreat.Vec
open Go.RowKit
end Go.Proofs.YtfpgekjhcfoohaaGreat.Vec
/- Package res's Check: the closure, the recovery, the face. -/
namespace Go.Proofs.YtfpgekjhcfoohaaGreat.Vec
open Go.RowKit
set_option maxHeartbeats 800000 in
theorem caught_check (C : Addr) (a : Option Addr) (len cap : Nat) (l : V) (w : World)
 (hk : ∀ W, Kept w W → Calls Tryz.prog 127 #[.pointer (some C)] W (Chk l (.slice a len cap) W)) :
 Calls Tryz.prog 87 #[.func (.func 127) #[] #[.pointer (some C)]] w (fun e w' => ∃ v, e = .returned (.tuple #[v, .int .i64 (checkV l)]) ∧ Kept w w') := by
 have hmf : ∀ (fn : Fn) (first cap : Array Value) (w : World), (Instr.makeFunc fn first cap).run Tryz.prog w = .ok (.func fn first cap) w := fun _ _ _ _ => rfl
 have HK := lH hk
 clear hk
 obtain ⟨r1, hr1⟩ : ∃ r1, checkV l = r1 := ⟨_, rfl⟩
 rw [hr1]
 have HR1 := lH hr1
 clear hr1
 go_enter_defers Tryz.func87, Tryz.ntmps87
 go_wp2_with fail
 refine (HK.out _ (kept_alloc _ _)).mono ?_
 rintro e1 w1 ⟨h0, h1, hb⟩
 have k1 := hb.size
 simp only [World.size_alloc] at k1
 have c2 := (hb.cell (p := ⟨w.heap.size, 0, none⟩) (by simp))
 have z2 := (hb.frozen (p := ⟨w.heap.size, 0, none⟩) (by simp))
 have e2' : w1.cell? ⟨w.heap.size, 0, none⟩ = some (.int .i64 0) := by rw [c2]; go_simp
 have y2 : w1.frozen? ⟨w.heap.size, 0, none⟩ = false := by rw [z2]; go_simp
 clear c2 z2
 have KB := lH (show Below w.heap.size w w1 from (kept_alloc w _).trans hb)
 rw [HR1.out] at h0 h1
 by_cases hx : r1 = 0
 · subst hx
   obtain rfl := h0 rfl
   have hsz := World.size_alloc w (.cells #[.int .i64 0] 53)
   clear h0 h1 hb
   go_wp2_with fail
   refine leaves_cons (f := 139) (args := #[.pointer (some ⟨w.heap.size, 0, none⟩)]) (by simp) (by simp [go_sem]) ?_
   refine (caught_idle ⟨w.heap.size, 0, none⟩ _).mono ?_
   rintro e u' w'' ⟨rfl, rfl, rfl⟩
   simp [Leaves, settle, results, Tryz.results87, go_sem, e2']
   exact KB.out.setCell (p := ⟨w.heap.size, 0, none⟩) (Nat.le_refl _) _
 · obtain rfl := h1 hx
   clear h0 h1 hb
   go_wp2_with fail
   refine leaves_cons (f := 139) (args := #[.pointer (some ⟨w.heap.size, 0, none⟩)]) (by simp) (by simp [go_sem]) ?_
   refine (caught_panicking w.heap.size w.heap.size r1 0 _ e2' y2 (by omega)).mono ?_
   rintro e u' w'' ⟨rfl, rfl, q2, q3⟩
   simp [Leaves, settle, results, Tryz.results87, go_sem, q2]
   exact KB.out.trans q3
theorem closure_check (C : Addr) (a : Option Addr) (len cap : Nat) (l : V) (w : World) (h1 : w.cell? C = some (.slice a len cap)) (hr : VecAt w a len l) :
 Calls Tryz.prog 127 #[.pointer (some C)] w (Chk l (.slice a len cap) w) := by
 have HR := lH hr
 clear hr
 go_enter Tryz.func127, Tryz.ntmps127
 go_wp2_with fail
 refine (checked_any a len cap l _ HR.out).mono ?_
 rintro e w' ⟨g0, g1, k⟩
 by_cases hx : checkV l = 0
 · obtain rfl := g0 hx
   have HX := lH hx
   have HK := lH k
   clear g0 g1 hx k
   go_wp2
   go_ret
   exact Chk.good HX.out HK.out
 · obtain rfl := g1 hx
   have HX := lH hx
   have HK := lH k
   clear g0 g1 hx k
   go_wp2
   exact ⟨rfl, Chk.bad rfl HX.out HK.out⟩
set_option maxHeartbeats 800000 in
theorem check_any (a : Option Addr) (len cap : Nat) (l : V) (w : World) (hr : VecAt w a len l) :
 Calls Tryz.prog 61 #[.slice a len cap] w fun e w' => e = .returned (.int .i64 (checkV l)) ∧ Kept w w' := by
 have hmf : ∀ (fn : Fn) (first cap : Array Value) (w : World), (Instr.makeFunc fn first cap).run Tryz.prog w = .ok (.func fn first cap) w := fun _ _ _ _ => rfl
 have hC : ∀ W, Kept (w.alloc (.cells #[.slice a len cap] 38)) W → Calls Tryz.prog 127 #[.pointer (some ⟨w.heap.size, 0, none⟩)] W (Chk l (.slice a len cap) W) := by
  intro W k
  have c1 := k.cell (p := ⟨w.heap.size, 0, none⟩) (by simp)
  exact closure_check ⟨w.heap.size, 0, none⟩ a len cap l W (by rw [c1]; go_simp) (hr.kept ((kept_alloc w _).trans k))
 have HC := lH hC
 clear hC hr
 go_enter Tryz.func61, Tryz.ntmps61
 go_wp2_with fail
 refine (caught_check ⟨w.heap.size, 0, none⟩ a len cap l _ HC.out).mono ?_
 rintro e w' ⟨v, rfl, k⟩
 have HK := lH k
 clear k
 go_wp2
 go_ret
 exact ⟨rfl, (kept_alloc w _).trans HK.out⟩
end Go.Proofs.YtfpgekjhcfoohaaGreat.Vec
/- A builder that the call itself has made: a text written to it. (The library's own contracts lack this program's copyCheck, whose last branch the model refuses; it is never come to.) -/
namespace Go.Proofs.YtfpgekjhcfoohaaGreat.Vec
open Go.RowKit Go.Shelf
def Others (b : Nat) (w w' : World) : Prop := ∀ g cs fr, g ≠ b → w.heap[g]? = some (.cells cs 103 fr) → w'.heap[g]? = w.heap[g]?
theorem Others.trans {b : Nat} {x y z : World} (h : Others b x y) (k : Others b y z) : Others b x z := fun g cs fr hg hc => (k g cs fr hg ((h g cs fr hg hc).trans hc)).trans (h g cs fr hg hc)
end Go.Proofs.YtfpgekjhcfoohaaGreat.Vec
/- A vector in words. -/
namespace Go.Proofs.YtfpgekjhcfoohaaGreat.Vec
open Go.RowKit Go.Shelf
end Go.Proofs.YtfpgekjhcfoohaaGreat.Vec
/- The calls over whatever reads as a vector. -/
namespace Go.Proofs.YtfpgekjhcfoohaaGreat.Vec
open Go.RowKit
theorem Reads.nil (w : World) : Reads w (.slice none 0 0) [] := ⟨none, 0, rfl, Nat.le_refl _, by decide, VecAt.nil w⟩
theorem checkR {v : Value} {l : V} {c : Int} {w : World} (h : Reads w v l) (e : checkV l = c) :
 Calls Tryz.prog 61 #[v] w fun x w' => x = .returned (.int .i64 c) ∧ Kept w w' := by
 subst e
 obtain ⟨a, cap, rfl, h1, h2, h3⟩ := h
 exact check_any a _ cap l w h3
theorem refCheckR {v : Value} {l : V} {c : Int} {w : World} (h : Reads w v l) (e : checkV l = c) :
 Calls Tryz.prog 78 #[v] w fun x w' => x = .returned (.int .i64 c) ∧ Kept w w' := by
 subst e
 obtain ⟨a, cap, rfl, h1, h2, h3⟩ := h
 exact refCheck_any a _ cap l w h3
theorem getR {v : Value} {l : V} {n : ByteArray} {c : Int} {w : World} (h : Reads w v l) (e : getV l n = c) :
 Calls Tryz.prog 33 #[v, .string n] w fun x w' => x = .returned (.int .i64 c) ∧ Kept w w' := by
 subst e
 obtain ⟨a, cap, rfl, h1, h2, h3⟩ := h
 exact get_any a _ cap l n w h3
theorem sameR {v v' : Value} {l l' : V} {c : Bool} {w : World} (h : Reads w v l) (h' : Reads w v' l') (e : sameFrom l l' = c) :
 Calls Tryz.prog 73 #[v, v'] w fun x w' => x = .returned (.bool c) ∧ Kept w w' := by
 subst e
 obtain ⟨a, cap, rfl, h1, h2, h3⟩ := h
 obtain ⟨a', cap', rfl, h1', h2', h3'⟩ := h'
 exact same_any a a' _ cap _ cap' l l' w h3 h3'
theorem fitsR {v v' : Value} {l l' : V} {c : Bool} {w : World} (h : Reads w v l) (h' : Reads w v' l') (e : fitsFrom l' l = c) :
 Calls Tryz.prog 117 #[v, v'] w fun x w' => x = .returned (.bool c) ∧ Kept w w' := by
 subst e
 obtain ⟨a, cap, rfl, h1, h2, h3⟩ := h
 obtain ⟨a', cap', rfl, h1', h2', h3'⟩ := h'
 exact fits_any a a' _ cap _ cap' l l' w h3 h3'
theorem nameR {n : ByteArray} {c : Bool} {w : World} (h : n.size ≤ maxLen) (e : isName n = c) :
 Calls Tryz.prog 125 #[.string n] w fun x w' => x = .returned (.bool c) ∧ w = w' := by
 subst e
 exact name_any n w h
theorem fewR {v : Value} {l : V} {c : Bool} {w : World} (h : Reads w v l) (e : fewV l = c) :
 Calls Tryz.prog 54 #[v] w fun x w' => x = .returned (.bool c) ∧ w = w' := by
 subst e
 obtain ⟨a, cap, rfl, h1, h2, h3⟩ := h
 exact few_any a _ cap l w h3
end Go.Proofs.YtfpgekjhcfoohaaGreat.Vec
