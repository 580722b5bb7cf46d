/- Clusters: the reference's with: other pods. -/
import Derived.Test.YtfpgekjhcfoohabGreatStD
import Derived.Test.YtfpgekjhcfoohabGreatStC
import Derived.Test.YtfpgekjhcfoohabGreatStRefM
import Derived.Test.YtfpgekjhcfoohabGreatStPx
import Derived.Deep.RegionHeld3
namespace Go.Proofs.YtfpgekjhcfoohabGreat
open Go.RowKit
set_option linter.unusedVariables false

theorem CluR.podsAt {w : World} {v1 v3 : Value} {b : Option Addr} {m cp : Nat} {s : Clu} (h : CluR w (CluV v1 (.slice b m cp) v3) s) : PodsAt w b m s.pods := by
  obtain ⟨_, _, _, e, g0⟩ := h
  cases e
  exact pods_ofR g0.pods
theorem PodsR.shape {w : World} {v : Value} {l : List Pd} (h : PodsR w v l) : ∃ a m c, v = .slice a m c ∧ m ≤ c ∧ c ≤ maxLen ∧ l.length = m := by
  obtain ⟨a, c, e, h1, h2, -⟩ := h
  exact ⟨a, _, c, e, h1, h2, rfl⟩
end Go.Proofs.YtfpgekjhcfoohabGreat
