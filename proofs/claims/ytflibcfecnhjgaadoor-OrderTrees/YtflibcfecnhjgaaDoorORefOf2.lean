/-
  The contract of the document's Of; what is found is an order.
-/
import Derived.Test.YtflibcfecnhjgaaDoorORefCard
import Derived.Test.YtflibcfecnhjgaaDoorOValid
namespace Go.Proofs.YtflibcfecnhjgaaDoor
open Go.RowKit
set_option linter.unusedVariables false
set_option linter.unusedSimpArgs false
set_option maxRecDepth 20000

set_option maxHeartbeats 2000000 in
theorem refOf_any {B0 : Nat} {M : List (List Bool)} {bs : List (Nat × Nat)} {v : Value} {how : Int} {w : World} (hM : MatC B0 w v M.length M bs) (hm : MatOk M) (hl : M.length ≤ 40) (h : how = 1 ∨ how = 2 ∨ how = 3) :
    Calls Tryd.prog 21 #[v, .int .i64 how] w fun e w' => ∃ u, e = .returned u ∧ OwnI w.heap.size w' u (ofL how (graphR M)) ∧ Below w.heap.size w w' := by
  have H1 := hide (goes_any (fill := true) (how := 1) hM hm hl (by decide))
  have H2 := hide (goes_any (fill := false) (how := 2) hM hm hl (by decide))
  have H3 := hide (refCard_any hM hm hl)
  obtain ⟨av, cv, rfl, hvl, hvm⟩ := hM.form
  clear hM hm
  rcases h with rfl | rfl | rfl
  · go_enter Tryd.func21, Tryd.ntmps21
    go_wp2_with fail
    refine (unhide H1).mono ?_
    rintro e w1 ⟨u, rfl, hu, hb⟩
    go_wp2
    go_ret
    exact ⟨u, rfl, hu, hb⟩
  · go_enter Tryd.func21, Tryd.ntmps21
    go_wp2_with fail
    refine (unhide H2).mono ?_
    rintro e w1 ⟨u, rfl, hu, hb⟩
    go_wp2
    go_ret
    exact ⟨u, rfl, hu, hb⟩
  · go_enter Tryd.func21, Tryd.ntmps21
    go_wp2_with fail
    refine (unhide H3).mono ?_
    rintro e w1 ⟨u, rfl, hu, hb⟩
    go_wp2
    go_ret
    exact ⟨u, rfl, hu, hb⟩

/-- What stands in the order so far was taken, each once. -/
structure OrdIn (n : Nat) (s : Srch) : Prop where
  pts : ∀ x ∈ s.o, 0 ≤ x ∧ x < (n : Int)
  nod : s.o.Nodup
  got : ∀ x ∈ s.o, s.t.getD x.toNat false = true

theorem OrdIn.next {n k : Nat} {s : Srch} {how : Int} (h : OrdIn n s) (hok : SrchOk n k s) (hk : k < n) : OrdIn n (nextS how s) := by
  have hl := least_ok (f := worthW how s.g s.t) (t := s.t) (by have := hok.left; omega)
  unfold nextS
  generalize leastL (worthW how s.g s.t) s.t = a at *
  have htl := hok.tlen
  have hnew : a ∉ s.o := fun hm => by have := h.got a hm; rw [hl.2.2] at this; cases this
  have hmem : ∀ x, x ∈ (takeS how s a).o ↔ x = a ∨ x ∈ s.o := fun x => by
    unfold takeS
    split
    · simp
    · simp [or_comm]
  have ht : (takeS how s a).t = s.t.set a.toNat true := by unfold takeS; split <;> rfl
  refine ⟨fun x hx => ?_, ?_, fun x hx => ?_⟩
  · rcases (hmem x).1 hx with rfl | hx
    · omega
    · exact h.pts x hx
  · unfold takeS
    split
    · exact List.nodup_cons.2 ⟨hnew, h.nod⟩
    · exact List.nodup_append.2 ⟨h.nod, by simp, fun p hp q hq => by rw [List.mem_singleton] at hq; subst hq; exact fun e => hnew (e ▸ hp)⟩
  · rw [ht]
    refine (getD_set (by omega) _).2 ?_
    rcases (hmem x).1 hx with rfl | hx
    · exact .inr rfl
    · exact .inl (h.got x hx)

theorem ofL_ord {how : Int} {g : List Nat} (hr : RightG g) : ordB (g.length : Int) (ofL how g) = true := by
  have key : ∀ k, k ≤ g.length → OrdIn g.length (runS how (begS g) k) := fun k => by
    induction k with
    | zero => exact fun _ => ⟨fun x hx => by simp [runS, begS] at hx, by simp [runS, begS], fun x hx => by simp [runS, begS] at hx⟩
    | succ k ih => exact fun hk => (ih (by omega)).next ((begS_ok hr).run (how := how) (by omega : k ≤ g.length)) (by omega)
  have h := key g.length (Nat.le_refl _)
  exact ordB_iff.2 ⟨by rw [ofL_len hr], h.pts, h.nod⟩

end Go.Proofs.YtflibcfecnhjgaaDoor
