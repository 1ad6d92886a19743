/-
  The contract of the document's Unite, and of rise.
-/
import Derived.Test.YtkindapfdgjenaaGreatRefSets
namespace Go.Proofs.YtkindapfdgjenaaGreat
open Go.RowKit
set_option linter.unusedVariables false
set_option linter.unusedSimpArgs false
set_option maxRecDepth 20000

def jm (a b : List Int) : List Int := List.merge a b (fun x y => decide (x < y))

/-- The numbers of the first k places, rising, each once. -/
def riseL (l : List Int) : List Int := l.foldl (fun acc x => joinL acc [x]) []

theorem riseL_snoc {l : List Int} {k : Nat} (hk : k < l.length) : riseL (l.take (k + 1)) = joinL (riseL (l.take k)) [l[k]] := by
  rw [List.take_succ_eq_append_getElem hk]; simp only [riseL, List.foldl_append, List.foldl_cons, List.foldl_nil]

theorem asc_riseL (l : List Int) : Asc (riseL l) := by
  unfold riseL
  have : ∀ (l acc : List Int), Asc acc → Asc (l.foldl (fun acc x => joinL acc [x]) acc) := by
    intro l
    induction l with
    | nil => exact fun acc h => h
    | cons x r ih => exact fun acc h => ih _ (asc_joinL h (by simp [Asc]))
  exact this l [] (by simp [Asc])

theorem joinL_le (a b : List Int) : (joinL a b).length ≤ a.length + b.length := by
  unfold joinL
  rw [List.length_merge]
  have := lessL_le b a
  omega

theorem riseL_le (l : List Int) : (riseL l).length ≤ l.length := by
  unfold riseL
  have : ∀ (l acc : List Int), (l.foldl (fun acc x => joinL acc [x]) acc).length ≤ acc.length + l.length := by
    intro l
    induction l with
    | nil => intro acc; simp
    | cons x r ih => intro acc; have := ih (joinL acc [x]); have := joinL_le acc [x]; simp at *; omega
  simpa using this l []

theorem lit_int (w : World) (x : Int) : Ints (w.alloc (.cells #[.int .i64 x] 3)) (.slice (some ⟨w.heap.size, 0, none⟩) 1 1) [x] := by
  refine ⟨_, 1, rfl, by simp, by simp [maxLen], by simp, by rintro x h _; cases h; rfl, fun i y hi => ⟨_, rfl, ?_⟩⟩
  match i, hi with
  | 0, hi => simp at hi; subst hi; simp

end Go.Proofs.YtkindapfdgjenaaGreat
