/-
  Relations in memory; the contract of Right, and of what it stands on.
-/
import Derived.Test.YtflibcfecnhjgaaDoorTupSets
import Derived.Test.YtflibcfecnhjgaaDoorTupCmp
import Derived.Test.YtflibcfecnhjgaaDoorApp2
namespace Go.Proofs.YtflibcfecnhjgaaDoor
open Go.RowKit
set_option linter.unusedVariables false
set_option linter.unusedSimpArgs false
set_option maxRecDepth 20000

/-- The struct value v reads in w as the relation of scheme s and rows ll. -/
def RelV (w : World) (v : Value) (s : List Int) (ll : List (List Int)) : Prop := ∃ vs vr, v = .agg #[vs, vr] ∧ Ints w vs s ∧ Tups w vr ll

theorem RelV.below {w w' : World} {v : Value} {s : List Int} {ll : List (List Int)} (h : RelV w v s ll) (hb : Below w.heap.size w w') : RelV w' v s ll := by
  obtain ⟨vs, vr, rfl, h1, h2⟩ := h
  exact ⟨vs, vr, rfl, h1.below hb, h2.below hb⟩

theorem RelV.form {w : World} {v : Value} {s : List Int} {ll : List (List Int)} (h : RelV w v s ll) :
    ∃ a ca b cb, v = .agg #[.slice a s.length ca, .slice b ll.length cb] ∧ s.length ≤ ca ∧ ca ≤ maxLen ∧ ll.length ≤ cb ∧ cb ≤ maxLen ∧ Ints w (.slice a s.length ca) s ∧ Tups w (.slice b ll.length cb) ll := by
  obtain ⟨vs, vr, rfl, h1, h2⟩ := h
  obtain ⟨a, ca, rfl, k1, k2⟩ := h1.form
  obtain ⟨b, cb, rfl, k3, k4⟩ := h2.form
  exact ⟨a, ca, b, cb, rfl, k1, k2, k3, k4, h1, h2⟩

def headB : List Int → Bool
  | [] => true
  | x :: _ => decide (0 ≤ x)
def rightS (s : List Int) : Bool := risB s && headB s
def wideB (ll : List (List Int)) (n : Int) : Bool := ll.all fun t => decide ((t.length : Int) = n)
def ascB : List (List Int) → Bool
  | [] => true
  | [_] => true
  | x :: y :: r => decide (cmpL x y < 0) && ascB (y :: r)
def rightL (s : List Int) (ll : List (List Int)) : Bool := rightS s && (wideB ll s.length && ascB ll)

theorem ascB_step {l : List (List Int)} {k : Nat} (hk : k + 1 < l.length) : ascB (l.drop k) = (decide (cmpL l[k] l[k + 1] < 0) && ascB (l.drop (k + 1))) := by
  rw [List.drop_eq_getElem_cons (by omega : k < l.length), List.drop_eq_getElem_cons hk, ascB]

theorem ascB_end {l : List (List Int)} {k : Nat} (hk : l.length ≤ k + 1) : ascB (l.drop k) = true := by
  have h : (l.drop k).length ≤ 1 := by simp; omega
  match l.drop k, h with
  | [], _ => rfl
  | [_], _ => rfl
  | _ :: _ :: _, h => simp at h

theorem wideB_step {l : List (List Int)} {n : Int} {k : Nat} (hk : k < l.length) : wideB (l.drop k) n = (decide ((l[k].length : Int) = n) && wideB (l.drop (k + 1)) n) := by
  unfold wideB
  rw [List.drop_eq_getElem_cons hk, List.all_cons]

theorem wideB_end {l : List (List Int)} {n : Int} {k : Nat} (hk : l.length ≤ k) : wideB (l.drop k) n = true := by
  rw [List.drop_eq_nil_of_le hk]; rfl

end Go.Proofs.YtflibcfecnhjgaaDoor
