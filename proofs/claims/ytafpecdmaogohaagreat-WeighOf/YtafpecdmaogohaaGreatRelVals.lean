/-
  The contracts of Values, and of the document's Values.
-/
import Derived.Test.YtafpecdmaogohaaGreatRelProj
namespace Go.Proofs.YtafpecdmaogohaaGreat
open Go.RowKit
set_option linter.unusedVariables false
set_option linter.unusedSimpArgs false
set_option maxRecDepth 20000

/-- What the rows have at place p. -/
def colL (ll : List (List Int)) (p : Int) : List Int := ll.flatMap fun t => pickL t [p]

theorem pick_one (t : List Int) (p : Int) : pickL t [p] = if 0 ≤ p ∧ p < t.length then [t.getD p.toNat 0] else [] := by
  unfold pickL
  by_cases h : 0 ≤ p ∧ p < t.length <;> simp [h]
theorem pick_one_at {t : List Int} {k : Nat} (h : k < t.length) : pickL t [(k : Int)] = [t[k]] := by
  rw [pick_one, if_pos (by omega)]; simp [h]
theorem pick_one_no {t : List Int} {p : Int} (h : ¬ (0 ≤ p ∧ p < t.length)) : pickL t [p] = [] := by rw [pick_one, if_neg h]

theorem colL_snoc {ll : List (List Int)} {p : Int} {k : Nat} (hk : k < ll.length) : colL (ll.take (k + 1)) p = colL (ll.take k) p ++ pickL ll[k] [p] := by
  unfold colL
  rw [List.take_succ_eq_append_getElem hk, List.flatMap_append]; simp
theorem colL_le (ll : List (List Int)) (p : Int) : (colL ll p).length ≤ ll.length := by
  unfold colL
  induction ll with
  | nil => simp
  | cons x r ih =>
    have := pickL_le x [p]
    simp only [List.flatMap_cons, List.length_append, List.length_cons] at *
    simp at this
    omega

def valL (s : List Int) (ll : List (List Int)) (v : Int) : List Int := riseL (colL ll (placeL s v))

theorem compact_sort (l : List Int) : Lib.compact (sortI l) = riseL l := by
  have h := compact_spec (sortI_up l)
  exact Asc.ext h.1 (riseL_spec l).1 fun x => by rw [h.2, sortI_mem, (riseL_spec l).2]

theorem colL_neg (ll : List (List Int)) : colL ll (-1) = [] := by
  unfold colL
  rw [List.flatMap_eq_nil_iff]
  exact fun t _ => pick_one_no (by omega)

theorem riseL_app (l : List Int) (x : Int) : riseL (l ++ [x]) = joinL (riseL l) [x] := by simp only [riseL, List.foldl_append, List.foldl_cons, List.foldl_nil]

theorem lit_one {W : World} (x : Int) : Ints (W.alloc (.cells #[.int .i64 x] 3)) (.slice (some ⟨W.heap.size, 0, none⟩) 1 1) [x] := by
  refine ⟨_, _, rfl, by simp, by simp [maxLen], by simp, by rintro x h _; cases h; rfl, fun i y hi => ⟨_, rfl, ?_⟩⟩
  cases i with
  | zero => simp at hi; subst hi; simp
  | succ i => simp at hi

end Go.Proofs.YtafpecdmaogohaaGreat
