/- What a law of pods is told: its arguments; its world. -/
import Derived.Test.YtflllkpnkcmegaaGreatDoorPodWords
import Derived.Test.YtflllkpnkcmegaaGreatDoorNodRow
import Derived.Test.YtflllkpnkcmegaaGreatDoorResC
namespace Go.Proofs.YtflllkpnkcmegaaGreatDoor
open Go.ChangeShapes Go.WideShapes Go.ChangeAt Go.RowKit Go.Deep
set_option linter.unusedVariables false

theorem badName : Tryz.prog.globalNamed "strconv.ErrSyntax" = some 2 := by kernel_rfl
theorem env_ofP {W : World} (hL : laidMetH Tryz.prog Rows.podAnyRow.laid W) (hS : W.ShapedOpen Tryz.prog) : EnvP W := by
  refine ⟨Vec.env_of hL hS, ?_⟩
  rw [MakeChecks.laidMetH_plain _ _ _ (by kernel_rfl)] at hL
  have h6 : laidMet Tryz.prog (("strconv.ErrSyntax", Rows.laid_strconv_ErrSyntax) :: _) W := hL.tail.tail.tail.tail.tail
  unfold Rows.laid_strconv_ErrSyntax at h6
  obtain ⟨a, s, hv, -⟩ := laid_sentinel h6 badName (by kernel_rfl) Tryz.underlying190 Vec.rowError Tryz.underlying287 Tryz.underlying289 rfl rfl Tryz.underlying9 Vec.cellsE Vec.cellsS
  exact ⟨_, by simpa using World.var?_cell badName hv 0, .inr ⟨_, _, rfl⟩⟩
theorem cellsTL : Tryz.prog.cellsOf 27 = 1 := by kernel_rfl
theorem cellsO1 : Tryz.prog.cellsOf 28 = 1 := by kernel_rfl
theorem cellsPd : Tryz.prog.cellsOf 30 = 11 := by kernel_rfl
end Go.Proofs.YtflllkpnkcmegaaGreatDoor
