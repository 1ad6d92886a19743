/-
  One operation of a region that draws, taken by hand.
-/
import Derived.Test.YtcglbopmfdilfaaDoorBase
import Derived.Deep.RegionHeld3
namespace Go.Proofs.YtcglbopmfdilfaaDoor
open Go.RowKit
set_option linter.unusedVariables false
set_option linter.unusedSimpArgs false

/-- One operation alone may come up. -/
theorem held_one {P : Program} {md : Region.Mode} {ops : Array Oper} {Q : Exit → Act → World → Prop} {S : World → Prop} {i : Nat} {o : Oper} {n : Nat} {done : Array Bool} {a : Act} {w : World} (hr : Region.ready md ops done = [i]) (ho : ops[i]? = some o) (hwd : Region.wanted o (yielded ops a.tmps) = true)
    (h : ∀ K : Act → World → Prop, Shut (∀ b u, S u → wpAnyH P md ops Q S n (done.setIfInBounds i true) b u → K b u) → Oper.wp P o a w K Q) : wpAnyH P md ops Q S (n + 1) done a w :=
  wpAnyH_all hr (by simp) fun j hj => by
    rw [List.mem_singleton] at hj
    subst hj
    refine wpOp_step ho fun K hK => ?_
    rw [if_pos hwd]
    exact h K fun b u hS hT => hK b u ⟨hS, hT⟩

/-- One of those that may come up. -/
theorem held_op {P : Program} {md : Region.Mode} {ops : Array Oper} {Q : Exit → Act → World → Prop} {S : World → Prop} {i : Nat} {o : Oper} {n : Nat} {done : Array Bool} {a : Act} {w : World} (ho : ops[i]? = some o) (hwd : Region.wanted o (yielded ops a.tmps) = true)
    (h : ∀ K : Act → World → Prop, Shut (∀ b u, S u → wpAnyH P md ops Q S n (done.setIfInBounds i true) b u → K b u) → Oper.wp P o a w K Q) : wpOp P ops Q i (fun a' w' => S w' ∧ wpAnyH P md ops Q S n (done.setIfInBounds i true) a' w') a w := by
  refine wpOp_step ho fun K hK => ?_
  rw [if_pos hwd]
  exact h K fun b u hS hT => hK b u ⟨hS, hT⟩

end Go.Proofs.YtcglbopmfdilfaaDoor
