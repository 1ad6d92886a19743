/-
  What constraints say of values: the contracts of isAmong, areUnlike, areTheSame, sumHolds, Holds, Cost.
-/
import Derived.Test.YtflibcfecnhjgaaDoorConS
import Derived.Test.YtflibcfecnhjgaaDoorContI
import Derived.Test.YtflibcfecnhjgaaDoorTupFind
import Derived.Test.YtflibcfecnhjgaaDoorTupSets
namespace Go.Proofs.YtflibcfecnhjgaaDoor
open Go.RowKit
set_option linter.unusedVariables false
set_option linter.unusedSimpArgs false
set_option maxRecDepth 20000

theorem isAt_low {ll : List (List Int)} (hs : AscL ll) (t : List Int) : isAt ll t (lowN ll t) = decide (t ∈ ll) := by
  rw [Bool.eq_iff_iff, decide_eq_true_eq]
  constructor
  · intro h
    unfold isAt at h
    split at h
    · rw [decide_eq_true_eq] at h
      rw [← cmpL_eq h]
      exact List.getElem_mem _
    · cases h
  · intro h
    obtain ⟨k, hk, rfl⟩ := List.getElem_of_mem h
    have hl : lowN ll ll[k] = k := low_is hs (by omega) (fun i hi hik => List.pairwise_iff_getElem.1 hs i k hi hk hik) (fun i hi hki => by
      rcases Nat.lt_or_ge k i with h1 | h1
      · have := List.pairwise_iff_getElem.1 hs k i hk hi h1
        have := cmpL_swap ll[i] ll[k]
        omega
      · obtain rfl : i = k := by omega
        rw [cmpL_refl]; omega)
    rw [hl]
    unfold isAt
    rw [dif_pos hk, cmpL_refl]
    rfl

/-- No two are the same. -/
def unlikeB (l : List Int) : Bool := decide (∀ j (h : j < l.length), l[j] ∉ l.take j)

theorem unlike_nodup (l : List Int) : unlikeB l = decide l.Nodup := by
  rw [Bool.eq_iff_iff, unlikeB, decide_eq_true_eq, decide_eq_true_eq, List.Nodup, List.pairwise_iff_getElem]
  constructor
  · intro h i j hi hj hij e
    refine h j hj ?_
    rw [← e]
    rw [List.mem_iff_getElem]
    exact ⟨i, by simp; omega, by simp⟩
  · intro h j hj hm
    obtain ⟨i, hi, e⟩ := List.mem_iff_getElem.1 hm
    simp only [List.length_take] at hi
    rw [List.getElem_take] at e
    exact h i j (by omega) hj (by omega) e

/-- All are the same. -/
def alikeB (l : List Int) : Bool := decide (∀ j (h : j < l.length), l[j] = l.getD 0 0)

/-- The sum of the products. -/
def dotL : List Int → List Int → Int
  | x :: a, y :: b => x * y + dotL a b
  | _, _ => 0

theorem dot_step {a b : List Int} {k : Nat} (h1 : k < a.length) (h2 : k < b.length) : dotL (a.drop k) (b.drop k) = a[k] * b[k] + dotL (a.drop (k + 1)) (b.drop (k + 1)) := by
  rw [List.drop_eq_getElem_cons h1, List.drop_eq_getElem_cons h2, dotL]
theorem dot_end {a b : List Int} {k : Nat} (h : b.length ≤ k) : dotL (a.drop k) (b.drop k) = 0 := by
  rw [List.drop_eq_nil_of_le h]; cases a.drop k <;> rfl

/-- What a linear constraint says, of values as many as it has variables. -/
def linB (args t : List Int) : Bool :=
  if args.length = t.length + 2 then
    if args.getD t.length 0 = 0 then dotL args t == args.getD (t.length + 1) 0
    else if args.getD t.length 0 = 1 then decide (dotL args t ≤ args.getD (t.length + 1) 0)
    else if args.getD t.length 0 = 2 then dotL args t != args.getD (t.length + 1) 0
    else false
  else false

def Mill (l : List Int) : Prop := ∀ x ∈ l, -1000000 ≤ x ∧ x ≤ 1000000

theorem mul_mill {x y : Int} (hx : -1000000 ≤ x ∧ x ≤ 1000000) (hy : -1000000 ≤ y ∧ y ≤ 1000000) : -1000000000000 ≤ x * y ∧ x * y ≤ 1000000000000 := by
  have h1 : (x * y).natAbs ≤ 1000000 * 1000000 := by rw [Int.natAbs_mul]; exact Nat.mul_le_mul (by omega) (by omega)
  omega

/-- The value is a constraint. -/
def ConV (w : World) (v : Value) (c : Con) : Prop := ∃ vs vr va, v = .agg #[.int .i64 c.kind, vs, vr, va] ∧ Ints w vs c.scope ∧ Tups w vr c.rows ∧ Ints w va c.args
theorem ConV.below {w w' : World} {v : Value} {c : Con} (h : ConV w v c) (hb : Below w.heap.size w w') : ConV w' v c := by
  obtain ⟨vs, vr, va, h1, h2, h3, h4⟩ := h
  exact ⟨vs, vr, va, h1, h2.below hb, h3.below hb, h4.below hb⟩
/-- .. a soft one. -/
def SftV (w : World) (v : Value) (s : Sft) : Prop := ∃ vs vr vc, v = .agg #[vs, vr, vc, .int .i64 s.dflt] ∧ Ints w vs s.scope ∧ Tups w vr s.rows ∧ Ints w vc s.costs
theorem SftV.below {w w' : World} {v : Value} {c : Sft} (h : SftV w v c) (hb : Below w.heap.size w w') : SftV w' v c := by
  obtain ⟨vs, vr, va, h1, h2, h3, h4⟩ := h
  exact ⟨vs, vr, va, h1, h2.below hb, h3.below hb, h4.below hb⟩

/-- What a constraint says of values. -/
def holdsB (c : Con) (t : List Int) : Bool :=
  if t.length = c.scope.length then
    if c.kind = 1 then decide (t ∈ c.rows)
    else if c.kind = 2 then !decide (t ∈ c.rows)
    else if c.kind = 3 then unlikeB t
    else if c.kind = 4 then alikeB t
    else if c.kind = 5 then risB t
    else if c.kind = 6 then linB c.args t
    else false
  else false

/-- What is wanted of a constraint, that Holds may be asked. -/
structure Sane (c : Con) : Prop where
  rows : AscL c.rows
  len : c.rows.length < 100000000
  args : Mill c.args
  scope : c.scope.length < 1000

/-- What a row costs. -/
def costB (s : Sft) (t : List Int) : Int := if t ∈ s.rows then s.costs.getD (lowN s.rows t) s.dflt else s.dflt

end Go.Proofs.YtflibcfecnhjgaaDoor
