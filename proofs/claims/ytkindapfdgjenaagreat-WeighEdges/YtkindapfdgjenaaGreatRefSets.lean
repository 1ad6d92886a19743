/-
  The contracts of the document's answers: In, Meet, Without, Unite, Within, Rising; and of rise.
-/
import Derived.Test.YtkindapfdgjenaaGreatApp
import Derived.Test.YtkindapfdgjenaaGreatSets
namespace Go.Proofs.YtkindapfdgjenaaGreat
open Go.RowKit
set_option linter.unusedVariables false
set_option linter.unusedSimpArgs false
set_option maxRecDepth 20000

theorem meetL_snoc {a b : List Int} {k : Nat} (hk : k < a.length) : meetL (a.take (k + 1)) b = meetL (a.take k) b ++ if a[k] ∈ b then [a[k]] else [] := by
  rw [List.take_succ_eq_append_getElem hk]
  unfold meetL
  rw [List.filter_append]
  by_cases h : a[k] ∈ b <;> simp [h]

theorem lessL_snoc {a b : List Int} {k : Nat} (hk : k < a.length) : lessL (a.take (k + 1)) b = lessL (a.take k) b ++ if a[k] ∈ b then [] else [a[k]] := by
  rw [List.take_succ_eq_append_getElem hk]
  unfold lessL
  rw [List.filter_append]
  by_cases h : a[k] ∈ b <;> simp [h]

theorem meetL_le (a b : List Int) : (meetL a b).length ≤ a.length := List.length_filter_le _ _
theorem lessL_le (a b : List Int) : (lessL a b).length ≤ a.length := List.length_filter_le _ _

theorem joinM_lt {a b : List Int} {i k : Nat} (hi : i < a.length) (hk : k < b.length) (h : a[i] < b[k]) : List.merge (a.drop i) (b.drop k) (fun x y => decide (x < y)) = a[i] :: List.merge (a.drop (i + 1)) (b.drop k) (fun x y => decide (x < y)) := by
  rw [List.drop_eq_getElem_cons hi, List.drop_eq_getElem_cons hk, List.cons_merge_cons, if_pos (by simpa using h)]
theorem joinM_ge {a b : List Int} {i k : Nat} (hi : i < a.length) (hk : k < b.length) (h : ¬ a[i] < b[k]) : List.merge (a.drop i) (b.drop k) (fun x y => decide (x < y)) = b[k] :: List.merge (a.drop i) (b.drop (k + 1)) (fun x y => decide (x < y)) := by
  rw [List.drop_eq_getElem_cons hi, List.drop_eq_getElem_cons hk, List.cons_merge_cons, if_neg (by simpa using h)]
theorem joinM_left {a b : List Int} {i k : Nat} (hi : i < a.length) (hk : b.length ≤ k) : List.merge (a.drop i) (b.drop k) (fun x y => decide (x < y)) = a[i] :: List.merge (a.drop (i + 1)) (b.drop k) (fun x y => decide (x < y)) := by
  rw [List.drop_eq_getElem_cons hi, List.drop_eq_nil_of_le hk]; simp
theorem joinM_right {a b : List Int} {i k : Nat} (hi : a.length ≤ i) (hk : k < b.length) : List.merge (a.drop i) (b.drop k) (fun x y => decide (x < y)) = b[k] :: List.merge (a.drop i) (b.drop (k + 1)) (fun x y => decide (x < y)) := by
  rw [List.drop_eq_getElem_cons hk, List.drop_eq_nil_of_le hi]; simp
theorem joinM_end {a b : List Int} {i k : Nat} (hi : a.length ≤ i) (hk : b.length ≤ k) : List.merge (a.drop i) (b.drop k) (fun x y => decide (x < y)) = [] := by
  rw [List.drop_eq_nil_of_le hi, List.drop_eq_nil_of_le hk]; simp

end Go.Proofs.YtkindapfdgjenaaGreat
