/- A byte counted. -/
import Derived.Test.YtmmjcomoabfmnaaDoorGStr
namespace Go.Proofs.YtmmjcomoabfmnaaDoor
open Go.RowKit
set_option linter.unusedVariables false

theorem count_any (c : UInt8) (p : List UInt8) (w : World) :
    Calls Tryd.prog 59 #[.string (bytes p), .string ⟨#[c]⟩] w fun e w' => e = .returned (.int .i64 (Lib.countByte p c)) ∧ w' = w := Tryd.strings_Count_one (bytes p) c w

end Go.Proofs.YtmmjcomoabfmnaaDoor
