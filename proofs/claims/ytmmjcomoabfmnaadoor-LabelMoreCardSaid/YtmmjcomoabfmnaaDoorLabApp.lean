/- append onto a row of the call's own, from any slice, whatever the elements. -/
import Derived.Test.YtmmjcomoabfmnaaDoorGApp
import Derived.Test.YtmmjcomoabfmnaaDoorLabOf
import Derived.Deep.AppendLies
import Derived.Deep.AppendSrc
import Derived.Deep.DeepAppendWide
namespace Go.Proofs.YtmmjcomoabfmnaaDoor
open Go.RowKit
set_option linter.unusedVariables false

theorem kindTerm : Kind 25 60 3 40 := by
  obtain ⟨i, hi, hz, h1, h2⟩ := info_parts (show (Tryd.prog.info? 60).map (fun i => (i.zero, i.size, i.bytes)) = some (some (.agg #[.int .i64 0, .string ByteArray.empty, .string ByteArray.empty]), 3, 40) by kernel_rfl)
  exact ⟨i, _, Tryd.underlying25, hi, hz, h1, h2, rfl, by decide⟩
theorem kindPair : Kind 23 63 2 32 := by
  obtain ⟨i, hi, hz, h1, h2⟩ := info_parts (show (Tryd.prog.info? 63).map (fun i => (i.zero, i.size, i.bytes)) = some (some (.agg #[.string ByteArray.empty, .string ByteArray.empty]), 2, 32) by kernel_rfl)
  exact ⟨i, _, Tryd.underlying23, hi, hz, h1, h2, rfl, by decide⟩

end Go.Proofs.YtmmjcomoabfmnaaDoor
