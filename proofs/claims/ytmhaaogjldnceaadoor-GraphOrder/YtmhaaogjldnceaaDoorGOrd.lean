/-
  Edges in any order: mathematics of the law GraphOrder.
-/
import Derived.Test.YtmhaaogjldnceaaDoorGReach
namespace Go.Proofs.YtmhaaogjldnceaaDoor
set_option linter.unusedVariables false
set_option linter.unusedSimpArgs false

/-- A row's first two numbers are x and y, or y and x. -/
def EdgeOf (e : List Int) (x y : Nat) : Prop := 1 < e.length ∧ ((e.getD 0 0 = (x : Int) ∧ e.getD 1 0 = (y : Int)) ∨ (e.getD 0 0 = (y : Int) ∧ e.getD 1 0 = (x : Int)))

/-- The graph of twelve points that has these edges. -/
structure GA (g : List Nat) (es : List (List Int)) : Prop where
  right : RightG g
  len : g.length = 12
  bes : ∀ x y, besB g x y = true ↔ x < 12 ∧ y < 12 ∧ x ≠ y ∧ ∃ e ∈ es, EdgeOf e x y

theorem GA.start : GA (List.replicate 12 0) [] := by
  refine ⟨right_new 12 (by decide), by simp, fun x y => ?_⟩
  rw [bes_replicate]
  simp

theorem GA.skip {g : List Nat} {es es' : List (List Int)} {e : List Int} (h : GA g es) (hm : ∀ z, z ∈ es' ↔ z ∈ es ∨ z = e) (he : ¬ 1 < e.length) : GA g es' := by
  refine ⟨h.right, h.len, fun x y => ?_⟩
  rw [h.bes]
  constructor
  · rintro ⟨h1, h2, h3, z, hz, h4⟩
    exact ⟨h1, h2, h3, z, (hm z).2 (.inl hz), h4⟩
  · rintro ⟨h1, h2, h3, z, hz, h4⟩
    rcases (hm z).1 hz with hz | rfl
    · exact ⟨h1, h2, h3, z, hz, h4⟩
    · exact absurd h4.1 he

theorem GA.add {g : List Nat} {es es' : List (List Int)} {e : List Int} {p q : Int} (h : GA g es) (hm : ∀ z, z ∈ es' ↔ z ∈ es ∨ z = e) (he : 1 < e.length) (hpq : (p = e.getD 0 0 ∧ q = e.getD 1 0) ∨ (p = e.getD 1 0 ∧ q = e.getD 0 0)) : GA (joinN g [p, q]) es' := by
  refine ⟨right_join h.right _, by rw [joinN_len]; exact h.len, fun x y => ?_⟩
  rw [joinN_bes (by rw [h.len]; decide), Bool.or_eq_true, h.bes, decide_eq_true_eq, h.len]
  simp only [List.mem_cons, List.not_mem_nil, or_false]
  constructor
  · rintro (⟨h1, h2, h3, z, hz, h4⟩ | ⟨h1, h2, h3, h4, h5⟩)
    · exact ⟨h1, h2, h3, z, (hm z).2 (.inl hz), h4⟩
    · refine ⟨h1, h2, h5, e, (hm e).2 (.inr rfl), he, ?_⟩
      rcases hpq with ⟨rfl, rfl⟩ | ⟨rfl, rfl⟩ <;> rcases h3 with h3 | h3 <;> rcases h4 with h4 | h4 <;> omega
  · rintro ⟨h1, h2, h3, z, hz, h4⟩
    rcases (hm z).1 hz with hz | rfl
    · exact .inl ⟨h1, h2, h3, z, hz, h4⟩
    · refine .inr ⟨h1, h2, ?_, ?_, h3⟩ <;> rcases hpq with ⟨rfl, rfl⟩ | ⟨rfl, rfl⟩ <;> rcases h4.2 with ⟨h5, h6⟩ | ⟨h5, h6⟩ <;> omega

theorem GA.same {g h : List Nat} {es fs : List (List Int)} (a : GA g es) (b : GA h fs) (hm : ∀ z, z ∈ es ↔ z ∈ fs) : g = h := by
  refine graph_ext (by rw [a.len, b.len]) (fun x y => ?_)
  rw [Bool.eq_iff_iff, a.bes, b.bes]
  simp only [hm]

theorem mem_take_succ {l : List (List Int)} {i : Nat} (hi : i < l.length) (z : List Int) : z ∈ l.take (i + 1) ↔ z ∈ l.take i ∨ z = l[i] := by
  rw [List.take_succ_eq_append_getElem hi, List.mem_append, List.mem_singleton]

/-- The last i of the first n. -/
def lastN (l : List (List Int)) (n i : Nat) : List (List Int) := (l.take n).drop (n - i)
theorem mem_lastN {l : List (List Int)} {n i : Nat} (hn : n ≤ l.length) (hi : i < n) (z : List Int) : z ∈ lastN l n (i + 1) ↔ z ∈ lastN l n i ∨ z = l[n - 1 - i]'(by omega) := by
  unfold lastN
  have hk : n - (i + 1) < (l.take n).length := by simp; omega
  rw [List.drop_eq_getElem_cons hk, List.mem_cons, List.getElem_take]
  have e1 : n - (i + 1) + 1 = n - i := by omega
  have e2 : l[n - (i + 1)]'(by omega) = l[n - 1 - i]'(by omega) := by congr 1; omega
  rw [e1, e2, or_comm]

end Go.Proofs.YtmhaaogjldnceaaDoor
