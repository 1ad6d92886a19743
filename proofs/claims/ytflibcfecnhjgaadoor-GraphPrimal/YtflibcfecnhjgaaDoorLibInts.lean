/-
  The contracts of slices.Clone, slices.Index, slices.Equal at []int, and of the document's Place.
-/
import Derived.Test.YtflibcfecnhjgaaDoorApp2
namespace Go.Proofs.YtflibcfecnhjgaaDoor
open Go.RowKit
set_option linter.unusedVariables false
set_option linter.unusedSimpArgs false
set_option maxRecDepth 20000

/-- The place of n in l; -1: none. -/
def placeL : List Int → Int → Int
  | [], _ => -1
  | x :: l, n => if x = n then 0 else if placeL l n < 0 then -1 else placeL l n + 1

theorem placeL_cases (l : List Int) (n : Int) : placeL l n = -1 ∧ n ∉ l ∨ ∃ k : Nat, ∃ h : k < l.length, placeL l n = k ∧ l[k] = n ∧ ∀ i (hi : i < l.length), i < k → l[i] ≠ n := by
  induction l with
  | nil => left; simp [placeL]
  | cons x l ih =>
    unfold placeL
    by_cases h : x = n
    · right
      exact ⟨0, by simp, by simp [h], by simp [h], fun i _ hi => by omega⟩
    · rw [if_neg h]
      rcases ih with ⟨h1, h2⟩ | ⟨k, hk, h1, h2, h3⟩
      · left
        rw [if_pos (by omega)]
        exact ⟨rfl, by simp [h2]; exact fun e => h e.symm⟩
      · right
        rw [if_neg (by omega), h1]
        refine ⟨k + 1, by simp; omega, by omega, by simpa using h2, fun i hi hik => ?_⟩
        cases i with
        | zero => simpa using h
        | succ i => simp only [List.getElem_cons_succ]; exact h3 i (by simp at hi; omega) (by omega)

theorem placeL_none {l : List Int} {n : Int} (h : n ∉ l) : placeL l n = -1 := by
  rcases placeL_cases l n with h1 | ⟨k, hk, h1, h2, h3⟩
  · exact h1.1
  · exact absurd (h2 ▸ List.getElem_mem hk) h

theorem placeL_at {l : List Int} {n : Int} {k : Nat} (hk : k < l.length) (h : l[k] = n) (h3 : ∀ i (hi : i < l.length), i < k → l[i] ≠ n) : placeL l n = k := by
  rcases placeL_cases l n with ⟨h1, h2⟩ | ⟨j, hj, h1, h2, h4⟩
  · exact absurd (h ▸ List.getElem_mem hk) h2
  · rw [h1]
    rcases Nat.lt_trichotomy j k with e | e | e
    · exact absurd h2 (h3 j hj e)
    · rw [e]
    · exact absurd h (h4 k hk e)

theorem placeL_range (l : List Int) (n : Int) : -1 ≤ placeL l n ∧ placeL l n < l.length := by
  rcases placeL_cases l n with ⟨h1, h2⟩ | ⟨j, hj, h1, h2, h4⟩ <;> omega

/-- Are both the same? -/
def sameL (a b : List Int) : Bool := decide (a = b)
theorem sameL_iff {a b : List Int} : sameL a b = true ↔ a = b := by simp [sameL]
theorem sameL_len {a b : List Int} (h : a.length ≠ b.length) : sameL a b = false := by
  simp only [sameL, decide_eq_false_iff_not]; exact fun e => h (by rw [e])
theorem sameL_at {a b : List Int} {k : Nat} (hk : k < a.length) (hk' : k < b.length) (h : a[k] ≠ b[k]) : sameL a b = false := by
  simp only [sameL, decide_eq_false_iff_not]; intro e; subst e; exact h rfl
theorem sameL_all {a b : List Int} (hl : a.length = b.length) (h : ∀ i (h : i < a.length) (h' : i < b.length), a[i] = b[i]) : sameL a b = true := by
  simp only [sameL, decide_eq_true_eq]; exact List.ext_getElem hl h

end Go.Proofs.YtflibcfecnhjgaaDoor
