/- Strings cut, counted, cloned. -/
import Derived.Test.YtnnneimpdiadhaaDoorLabSplit
namespace Go.Proofs.YtnnneimpdiadhaaDoor
open Go.RowKit
set_option linter.unusedVariables false

/-- What the library leaves in memory that the calls read: a machine's measure. -/
structure Env (w : World) : Prop where
  most : ∃ m, w.cell? ⟨5, 0, none⟩ = some (.int .i64 m)
theorem Env.kept {w w' : World} (h : Env w) (k : Kept w w') : Env w' := by
  obtain ⟨m, hm⟩ := h
  exact ⟨m, cell_later k hm⟩
theorem bytes_size (p : List UInt8) : (bytes p).size = p.length := by simp [bytes, ByteArray.size]
theorem bytes_toList (p : List UInt8) : (bytes p).toList = p := by rw [Lib.toList_data]; simp [bytes]
theorem bytes_data (s : ByteArray) : bytes s.data.toList = s := by apply Go.WideShapes.bytes_inj; simp [bytes]
theorem cut_any (c : UInt8) (p : List UInt8) (w : World) (hE : Env w) (hp : p.length ≤ 1000000) :
    Calls Tryd.prog 58 #[.string (bytes p), .string ⟨#[c]⟩] w fun e w' => e = .returned (.tuple #[.string (bytes (Lib.cut p [c]).1), .string (bytes (Lib.cut p [c]).2.1), .bool (Lib.cut p [c]).2.2]) ∧ ∃ n, w' = w.drewN n := by
  obtain ⟨m, hm⟩ := hE.most
  exact Tryd.strings_Cut (bytes p) ⟨#[c]⟩ m w (by rw [bytes_size]; omega) hm
theorem clone_any (s : ByteArray) (w : World) (h : s.size ≤ 281474976710656) :
    Calls Tryd.prog 61 #[.string s] w fun e w' => e = .returned (.string s) ∧ Kept w w' := by
  go_enter Tryd.func61, Tryd.ntmps61
  go_wp2_with fail
  refine (Tryd.stringslite_Clone s _ h).mono ?_
  rintro e w' ⟨rfl, k⟩
  go_wp2
  go_ret
  exact ⟨rfl, k⟩
theorem kept_cell {w w' : World} (h : Kept w w') {a : Addr} (ha : w.heap.size ≤ a.block) (v : Value) : Kept w (w'.setCell a v) := Below.setCell h ha v
theorem cut_le (p q : List UInt8) : (Lib.cut p q).1.length ≤ p.length ∧ (Lib.cut p q).2.1.length ≤ p.length := by
  unfold Lib.cut
  split
  · simp; omega
  · simp
theorem count_le (p : List UInt8) (c : UInt8) : Lib.countByte p c ≤ p.length := List.count_le_length

end Go.Proofs.YtnnneimpdiadhaaDoor
