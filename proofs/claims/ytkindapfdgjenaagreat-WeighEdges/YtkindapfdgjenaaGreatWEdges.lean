/-
  The contracts that WeighEdges wants: Of, Plus, Sum, Times of single weights; sums at the edge.
-/
import Derived.Test.YtkindapfdgjenaaGreatFrame2
import Derived.Test.YtkindapfdgjenaaGreatWghThree
import Derived.Test.YtkindapfdgjenaaGreatWghShown
import Derived.Deep.QuietTactic
import Derived.BigQuiet
import Derived.Deep.CutRange
import Derived.Deep.RegionHeld3
namespace Go.Proofs.YtkindapfdgjenaaGreat.weighEdges
open Go.RowKit Go.ChangeShapes Go.WideShapes Go.ChangeAt
set_option linter.unusedVariables false
set_option linter.unusedSimpArgs false
set_option maxRecDepth 20000

theorem read_int64 {H : Type} {enc : TypeId × Value → H} {W : World} {v : Value} {d : DataW H} {ps : List MemPlace} {base b0 : Nat} {held : Bool} {r : Reach} (h : DataW.Trod enc Tryz.prog W base (fun _ => true) held 2 v d ps) (hv : Value.okWide Tryz.prog W r b0 2 v) :
    ∃ n, v = .int .i64 n ∧ InI64 n := by
  obtain ⟨n, hv, _, _, hw⟩ := open_int Tryz.underlying2 hv h
  exact ⟨n, hv, wf_in hw⟩

theorem of_u {q : Int} {v : Value} {w : World} (h : RelV w v [] [[]]) :
    Calls Tryz.prog 5 #[v, .int .i64 q] w fun e w' => ∃ x, e = .returned x ∧ WVI w' x [] [[]] [q] ∧ Below w.heap.size w w' := of_ok h (by decide) (by decide) (by decide)

theorem fit1 {a : Int} (h : Fits a) : ∀ x ∈ [a], Fits x := by intro x hx; simp at hx; subst hx; exact h
theorem fit2 {a b : Int} (h : Fits a) (h' : Fits b) : ∀ x ∈ [a, b], Fits x := by intro x hx; simp at hx; rcases hx with rfl | rfl; exact h; exact h'

theorem add_u (a b : Int) : combLI addF [] [[]] [a] [] [[]] [b] = [addF a b] := by unfold combLI; rw [sh_joinU, sh_joinRU]; rfl
theorem mul_u (a b : Int) : combLI mulF [] [[]] [a] [] [[]] [b] = [mulF a b] := by unfold combLI; rw [sh_joinU, sh_joinRU]; rfl

/-- Plus of two single weights. -/
theorem plus_both {a b : Int} {v v' : Value} {w : World} (h : WVI w v [] [[]] [a]) (h' : WVI w v' [] [[]] [b]) (fa : Fits a) (fb : Fits b) :
    Calls Tryz.prog 6 #[v, v', .int .i64 1] w fun e w' => ∃ x0 n0 c0 x1 n1 c1 x2 n2 c2 er, e = .returned (.tuple #[.agg #[.slice x0 n0 c0, .slice x1 n1 c1, .slice x2 n2 c2], .int .i64 er]) ∧ Below w.heap.size w w' ∧
      ((Fits (a + b) ∧ er = 0 ∧ ∃ bb oo, x2 = some ⟨bb, oo, none⟩ ∧ n2 = 1 ∧ w'.cell? ⟨bb, oo, none⟩ = some (.int .i64 (a + b))) ∨ (¬ Fits (a + b) ∧ er = 11)) := by
  refine (plus_any (most := 1) h h' fine_unit fine_unit (by omega) (by omega) (by omega) (fit1 fa) (fit1 fb)).mono ?_
  rw [sh_joinU, sh_joinRU, sh_pairU, add_u]
  rintro e w' ⟨h1 | h1 | h1, hb⟩
  · have := h1.1; omega
  · obtain ⟨_, ⟨x, hx, hx2⟩, he⟩ := h1
    simp at hx
    subst hx
    have hn : ¬ Fits (a + b) := fun hf => by rw [show (addF a b).2 = fitB64 (a + b) from rfl, fitB64_iff.2 hf] at hx2; cases hx2
    exact ⟨_, _, _, _, _, _, _, _, _, _, he, hb, .inr ⟨hn, rfl⟩⟩
  · obtain ⟨_, hall, x, y, z, he, hr, _⟩ := h1
    have hy : (addF a b).2 = true := hall _ (by simp)
    have hf : Fits (a + b) := fitB64_iff.1 hy
    simp only [List.map_cons, List.map_nil, add_fits hy] at hr
    obtain ⟨xa, xn, xb, xm, xe, xk, hxe, _, _, _, _, _, _, hw⟩ := hr.form
    obtain ⟨bb, oo, hq, hc⟩ := hw.at (k := 0) (by simp)
    rw [hxe] at he
    exact ⟨_, _, _, _, _, _, _, _, _, _, he, hb, .inl ⟨hf, rfl, bb, oo, hq, rfl, by simpa using hc⟩⟩

/-- Sum of two rows. -/
theorem sum_both {a b : Int} {v : Value} {w : World} (h : WVI w v [0] [[0], [1]] [a, b]) (fa : Fits a) (fb : Fits b) :
    Calls Tryz.prog 7 #[v, .slice none 0 0] w fun e w' => ∃ x0 n0 c0 x1 n1 c1 x2 n2 c2 er, e = .returned (.tuple #[.agg #[.slice x0 n0 c0, .slice x1 n1 c1, .slice x2 n2 c2], .int .i64 er]) ∧ Below w.heap.size w w' ∧
      ((sumOk [a, b] = true ∧ er = 0 ∧ ∃ bb oo, x2 = some ⟨bb, oo, none⟩ ∧ n2 = 1 ∧ w'.cell? ⟨bb, oo, none⟩ = some (.int .i64 (a + b))) ∨ (sumOk [a, b] = false ∧ er = 11)) := by
  have hsrc : wsrcL [0] [[0], [1]] [a, b] [] = [[a, b]] := wsrc_none (by simp) rfl
  refine (sums_any (vars := []) h (Seq.nil _ _) (by decide) (by decide) (by decide) (by decide) (fit2 fa fb)).mono ?_
  rw [hsrc]
  rintro e w' ⟨h1 | h1, hb⟩
  · obtain ⟨⟨x, hx, hx2⟩, he⟩ := h1
    simp at hx
    subst hx
    exact ⟨_, _, _, _, _, _, _, _, _, _, he, hb, .inr ⟨hx2, rfl⟩⟩
  · obtain ⟨hall, x, y, z, he, hr, _⟩ := h1
    have hy : sumOk [a, b] = true := hall _ (by simp)
    have hv : sumV [a, b] = a + b := by unfold sumV; rw [hy]; simp
    simp only [List.map_cons, List.map_nil, hv] at hr
    obtain ⟨xa, xn, xb, xm, xe, xk, hxe, _, _, _, _, _, _, hw⟩ := hr.form
    obtain ⟨bb, oo, hq, hc⟩ := hw.at (k := 0) (by simp)
    rw [hxe] at he
    exact ⟨_, _, _, _, _, _, _, _, _, _, he, hb, .inl ⟨hy, rfl, bb, oo, hq, rfl, by simpa using hc⟩⟩

theorem times_u {a : Int} {v v' : Value} {w : World} (h : WVI w v [] [[]] [a]) (h' : WVI w v' [] [[]] [1]) (fa : Fits a) :
    Calls Tryz.prog 8 #[v, v', .int .i64 1] w fun e w' => ∃ x0 c0 x1 c1 x2 c2, e = .returned (.tuple #[.agg #[.slice x0 0 c0, .slice x1 1 c1, .slice x2 1 c2], .int .i64 0]) ∧ WVI w' (.agg #[.slice x0 0 c0, .slice x1 1 c1, .slice x2 1 c2]) [] [[]] [a] ∧ (∀ b, b < w.heap.size → (Value.slice x1 1 c1).ownBlock ≠ some b) ∧ Below w.heap.size w w' := by
  refine (timesI_any (most := 1) h h' fine_unit fine_unit (by omega) (by omega) (by omega) (fit1 fa) (fit1 (by unfold Fits; omega))).mono ?_
  rw [sh_joinU, sh_joinRU, sh_pairU, mul_u]
  have hm : mulF a 1 = (a, true) := by unfold mulF; rw [Int.mul_one, wrap64_id fa.i64, fitB64_iff.2 fa]
  rw [hm]
  rintro e w' ⟨h1 | h1 | h1, hb⟩
  · have := h1.1; omega
  · obtain ⟨_, ⟨x, hx, hx2⟩, he⟩ := h1
    simp at hx
    rw [hx] at hx2; cases hx2
  · obtain ⟨_, hall, x, y, z, he, hr, hyn⟩ := h1
    simp only [List.map_cons, List.map_nil] at hr
    obtain ⟨xa, xn, xb, xm, xe, xk, hxe⟩ := hr.lens (n1 := 0) (n2 := 1) (n3 := 1) rfl rfl rfl
    cases hxe
    exact ⟨_, _, _, _, _, _, he, hr, hyn, hb⟩

theorem refSame4 {s : List Int} {ll : List (List Int)} {v v' : Value} {w : World} (h : RelV w v s ll) (h' : RelV w v' s ll) :
    Calls Tryz.prog 9 #[v, v'] w fun e w' => e = .returned (.bool true) ∧ Below w.heap.size w w' := by
  have := refSame_rel h h'
  rwa [sameR_iff.2 ⟨rfl, rfl⟩] at this

theorem sum_ok2 {a b : Int} (fa : Fits a) (fb : Fits b) : decide (max a (-a) ≤ 4611686018427387904 - max b (-b)) = sumOk [a, b] := by
  unfold sumOk sizesW
  unfold Fits at fa fb
  rw [decide_eq_decide]
  simp
  omega

theorem sum_fits {a b : Int} (h : sumOk [a, b] = true) : Fits (a + b) := by
  unfold sumOk sizesW at h
  rw [decide_eq_true_eq] at h
  simp at h
  unfold Fits
  omega

end Go.Proofs.YtkindapfdgjenaaGreat.weighEdges
