/-
  What the program's joins make, row by row; what a join answers.
-/
import Derived.Test.YtafpecdmaogohaaGreatJoinMath
namespace Go.Proofs.YtafpecdmaogohaaGreat
open Go.RowKit
set_option linter.unusedVariables false
set_option linter.unusedSimpArgs false

theorem asc_le {l : List Int} (h : Asc l) : l.Pairwise (· ≤ ·) := List.Pairwise.imp (fun h => Int.le_of_lt h) h

theorem prog_snoc {s u : List Int} {la lb : List (List Int)} {k : Nat} (hk : k < la.length) : progR s (la.take (k + 1)) u lb = progR s (la.take k) u lb ++ progT s u lb la[k] := by
  unfold progR
  rw [List.take_succ_eq_append_getElem hk, List.flatMap_append]; simp

theorem prog_more {s u : List Int} {la lb : List (List Int)} {k : Nat} (hk : k < la.length) : (progR s (la.take k) u lb).length + (progT s u lb la[k]).length ≤ (progR s la u lb).length := by
  have e : la = la.take (k + 1) ++ la.drop (k + 1) := (List.take_append_drop _ _).symm
  have e2 : progR s la u lb = progR s (la.take (k + 1)) u lb ++ progR s (la.drop (k + 1)) u lb := by
    have : progR s (la.take (k + 1) ++ la.drop (k + 1)) u lb = progR s (la.take (k + 1)) u lb ++ progR s (la.drop (k + 1)) u lb := by unfold progR; rw [List.flatMap_append]
    rwa [← e] at this
  rw [e2, prog_snoc hk]
  simp only [List.length_append]
  omega

theorem pairs_le (s u : List Int) (la lb : List (List Int)) : (progR s la u lb).length ≤ la.length * lb.length := by rw [prog_len]; exact pair_le s u lb la

/-- What Join answers. -/
def JoinEnds (B : Nat) (w' : World) (e : Ending) (S : List Int) (J : List (List Int)) (c : Nat) (most : Int) : Prop :=
  (∃ x y, e = .returned (.tuple #[.agg #[x, y], .int .i64 0]) ∧ RelV w' (.agg #[x, y]) S J ∧ (c : Int) ≤ most ∧ ∀ b, b < B → y.ownBlock ≠ some b) ∨ (e = .returned (.tuple #[.agg #[.slice none 0 0, .slice none 0 0], .int .i64 9]) ∧ most < (c : Int))

end Go.Proofs.YtafpecdmaogohaaGreat
