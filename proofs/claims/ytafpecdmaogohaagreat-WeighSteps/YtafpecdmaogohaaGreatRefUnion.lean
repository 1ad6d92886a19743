/-
  Union of unlike schemes; the contract of the document's Union.
-/
import Derived.Test.YtafpecdmaogohaaGreatRelUnion
namespace Go.Proofs.YtafpecdmaogohaaGreat
open Go.RowKit
set_option linter.unusedVariables false
set_option linter.unusedSimpArgs false
set_option maxRecDepth 20000

theorem ownT_push {B : Nat} {wr W : World} (hB : B ≤ wr.heap.size) (h4 : W.heap = wr.heap.push (.cells #[] 22)) : OwnT B W (.slice (some ⟨wr.heap.size, 0, none⟩) 0 0) [] := ⟨[], own_pushV hB h4, rfl, fun i h => by simp at h⟩
theorem apartA {α : Type} {B : Nat} {w : World} {u : Value} {l : List α} (h : New B w u) : Apart u l (.slice (some ⟨w.heap.size, 0, none⟩) 0 0) := fun _ g h1 h2 => by
  have := h g h1
  have e : w.heap.size = g := by simpa [Value.ownBlock] using h2
  omega
theorem apartB {α : Type} {B n : Nat} {w : World} {u : Value} {l : List α} (h : New B w u) (hB : n < B) : Apart u l (.slice (some ⟨n, 0, none⟩) 0 0) := fun _ g h1 h2 => by
  have := h g h1
  have e : n = g := by simpa [Value.ownBlock] using h2
  omega

end Go.Proofs.YtafpecdmaogohaaGreat
