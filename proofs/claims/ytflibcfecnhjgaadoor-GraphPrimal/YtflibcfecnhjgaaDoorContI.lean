/-
  The contract of slices.Contains of numbers.
-/
import Derived.Test.YtflibcfecnhjgaaDoorLibInts
namespace Go.Proofs.YtflibcfecnhjgaaDoor
open Go.RowKit
set_option linter.unusedVariables false
set_option linter.unusedSimpArgs false
set_option maxRecDepth 20000

theorem place_in (l : List Int) (n : Int) : decide (0 ≤ placeL l n) = decide (n ∈ l) := by
  rcases placeL_cases l n with ⟨h1, h2⟩ | ⟨k, hk, h1, h2, _⟩
  · rw [h1]; simp [h2]
  · have : n ∈ l := h2 ▸ List.getElem_mem hk
    rw [h1]; simp [this]

end Go.Proofs.YtflibcfecnhjgaaDoor
