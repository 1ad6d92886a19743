/-
  The contracts of same, Copy, own, and Find: the program's, and the document's.
-/
import Derived.Test.YtflibcfecnhjgaaDoorApp2
import Derived.Test.YtflibcfecnhjgaaDoorTupCmp
import Derived.Deep.DeepMust
namespace Go.Proofs.YtflibcfecnhjgaaDoor
open Go.RowKit
set_option linter.unusedVariables false
set_option linter.unusedSimpArgs false
set_option maxRecDepth 20000

/-- How many of the list, from its beginning, are less. -/
def lowN (ll : List (List Int)) (t : List Int) : Nat := (ll.takeWhile fun x => decide (cmpL x t < 0)).length

def isAt (ll : List (List Int)) (t : List Int) (k : Nat) : Bool := if h : k < ll.length then decide (cmpL ll[k] t = 0) else false

theorem lowN_le (ll : List (List Int)) (t : List Int) : lowN ll t ≤ ll.length := by
  unfold lowN
  induction ll with
  | nil => simp
  | cons x r ih => simp only [List.takeWhile]; split <;> simp; omega

theorem low_step {ll : List (List Int)} {t : List Int} {k : Nat} (hk : k < ll.length) (h : cmpL ll[k] t < 0) : lowN (ll.drop k) t = lowN (ll.drop (k + 1)) t + 1 := by
  rw [List.drop_eq_getElem_cons hk]
  simp [lowN, List.takeWhile, h]

theorem low_stop {ll : List (List Int)} {t : List Int} {k : Nat} (hk : k < ll.length) (h : ¬ cmpL ll[k] t < 0) : lowN (ll.drop k) t = 0 := by
  rw [List.drop_eq_getElem_cons hk]
  simp [lowN, List.takeWhile, h]

theorem low_end {ll : List (List Int)} {t : List Int} {k : Nat} (hk : ll.length ≤ k) : lowN (ll.drop k) t = 0 := by
  rw [List.drop_eq_nil_of_le hk]; rfl

theorem ret_pair {a b : Int} {p q : Bool} (h : a = b) (h' : p = q) : Ending.returned (.tuple #[.int .i64 a, .bool p]) = .returned (.tuple #[.int .i64 b, .bool q]) := by rw [h, h']

/-- The list rises. -/
abbrev AscL (ll : List (List Int)) : Prop := ll.Pairwise fun x y => cmpL x y < 0

theorem low_is {ll : List (List Int)} (hs : AscL ll) {t : List Int} {k : Nat} (hk : k ≤ ll.length) (h1 : ∀ i (hi : i < ll.length), i < k → cmpL ll[i] t < 0) (h2 : ∀ i (hi : i < ll.length), k ≤ i → ¬ cmpL ll[i] t < 0) : lowN ll t = k := by
  induction ll generalizing k with
  | nil => simp at hk; subst hk; rfl
  | cons x r ih =>
    rw [AscL, List.pairwise_cons] at hs
    cases k with
    | zero =>
      have := h2 0 (by simp) (Nat.le_refl _)
      have hd : decide (cmpL x t < 0) = false := by simpa using this
      simp [lowN, List.takeWhile, hd]
    | succ k =>
      have h0 := h1 0 (by simp) (by omega)
      simp at h0
      have := ih hs.2 (k := k) (by simp at hk; omega) (fun i hi hik => by have := h1 (i + 1) (by simp; omega) (by omega); simpa using this) (fun i hi hik => by have := h2 (i + 1) (by simp; omega) (by omega); simpa using this)
      unfold lowN at this ⊢
      simp [List.takeWhile, h0, this]

/-- In a list that rises what is less stands ahead. -/
theorem asc_at {ll : List (List Int)} (hs : AscL ll) {i j : Nat} (hi : i < ll.length) (hj : j < ll.length) (h : i < j) : cmpL ll[i] ll[j] < 0 := (List.pairwise_iff_getElem.1 hs) i j hi hj h

theorem lt_below {ll : List (List Int)} (hs : AscL ll) {t : List Int} {i j : Nat} (hi : i < ll.length) (hj : j < ll.length) (h : i ≤ j) (hl : cmpL ll[j] t < 0) : cmpL ll[i] t < 0 := by
  rcases Nat.lt_or_ge i j with h' | h'
  · exact cmpL_trans (asc_at hs hi hj h') hl
  · have : i = j := by omega
    subst this; exact hl

end Go.Proofs.YtflibcfecnhjgaaDoor
