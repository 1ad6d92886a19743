/-
  The contract of the document's Sort.
-/
import Derived.Test.YtflibcfecnhjgaaTupFind
import Derived.Deep.RegionHeld3
import Derived.Deep.DrawnRows
namespace Go.Proofs.Ytflibcfecnhjgaa
open Go.RowKit
set_option linter.unusedVariables false
set_option linter.unusedSimpArgs false
set_option maxRecDepth 20000
attribute [local go_sem ↓] Go.wp_at_zero Go.wp_at_succ

/-- t put in its place. -/
def insL (ll : List (List Int)) (t : List Int) : List (List Int) :=
  if isAt ll t (lowN ll t) then ll else ll.take (lowN ll t) ++ [t] ++ ll.drop (lowN ll t)

def sortL (ll : List (List Int)) : List (List Int) := ll.foldl insL []

theorem sortL_snoc {ll : List (List Int)} {k : Nat} (hk : k < ll.length) : sortL (ll.take (k + 1)) = insL (sortL (ll.take k)) ll[k] := by
  rw [List.take_succ_eq_append_getElem hk]; simp only [sortL, List.foldl_append, List.foldl_cons, List.foldl_nil]

theorem insL_le (ll : List (List Int)) (t : List Int) : (insL ll t).length ≤ ll.length + 1 := by
  unfold insL
  split
  · omega
  · simp; omega

theorem sortL_le (ll : List (List Int)) : (sortL ll).length ≤ ll.length := by
  unfold sortL
  have : ∀ (l acc : List (List Int)), (l.foldl insL acc).length ≤ acc.length + l.length := by
    intro l
    induction l with
    | nil => intro acc; simp
    | cons x r ih => intro acc; have := ih (insL acc x); have := insL_le acc x; simp at *; omega
  simpa using this ll []

theorem tups_join {w : World} {v : Value} {vs : List Value} {ll : List (List Int)} (h1 : Seq id w v vs) (h2 : vs.length = ll.length) (h3 : ∀ i (h : i < vs.length) (h' : i < ll.length), Ints w vs[i] ll[i]) : Tups w v ll := ⟨vs, h1, h2, h3⟩

/-- What each reads as, of a list that is put together. -/
theorem reads_ins {w : World} {vs : List Value} {ll : List (List Int)} {u : Value} {t : List Int} {k : Nat} (hlen : vs.length = ll.length) (h3 : ∀ i (h : i < vs.length) (h' : i < ll.length), Ints w vs[i] ll[i]) (hu : Ints w u t) (hk : k ≤ ll.length) :
    (vs.take k ++ [u] ++ vs.drop k).length = (ll.take k ++ [t] ++ ll.drop k).length ∧
    ∀ i (h : i < (vs.take k ++ [u] ++ vs.drop k).length) (h' : i < (ll.take k ++ [t] ++ ll.drop k).length), Ints w (vs.take k ++ [u] ++ vs.drop k)[i] (ll.take k ++ [t] ++ ll.drop k)[i] := by
  refine ⟨by simp [hlen], fun i hi hi' => ?_⟩
  rcases Nat.lt_trichotomy i k with h | h | h
  · have e1 : (vs.take k ++ [u] ++ vs.drop k)[i] = vs[i]'(by omega) := by
      rw [List.getElem_append_left (by simp; omega), List.getElem_append_left (by simp; omega)]; simp
    have e2 : (ll.take k ++ [t] ++ ll.drop k)[i] = ll[i]'(by omega) := by
      rw [List.getElem_append_left (by simp; omega), List.getElem_append_left (by simp; omega)]; simp
    rw [e1, e2]; exact h3 i (by omega) (by omega)
  · subst h
    have e1 : (vs.take i ++ [u] ++ vs.drop i)[i] = u := by
      rw [List.getElem_append_left (by simp; omega), List.getElem_append_right (by simp; omega)]; simp
    have e2 : (ll.take i ++ [t] ++ ll.drop i)[i] = t := by
      rw [List.getElem_append_left (by simp; omega), List.getElem_append_right (by simp; omega)]; simp
    rw [e1, e2]; exact hu
  · have hl : i - 1 < ll.length := by simp at hi'; omega
    have e1 : (vs.take k ++ [u] ++ vs.drop k)[i] = vs[i - 1]'(by omega) := by
      rw [List.getElem_append_right (by simp; omega), List.getElem_drop]; congr 1; simp; omega
    have e2 : (ll.take k ++ [t] ++ ll.drop k)[i] = ll[i - 1] := by
      rw [List.getElem_append_right (by simp; omega), List.getElem_drop]; congr 1; simp; omega
    rw [e1, e2]; exact h3 _ (by omega) hl

end Go.Proofs.Ytflibcfecnhjgaa
