/-
  Plain mathematics of rows of numbers: nothing of the program is spoken of here.
-/
import Derived.Test.YtcglbopmfdilfaaDoorRows
namespace Go.Proofs.YtcglbopmfdilfaaDoor
set_option linter.unusedVariables false
set_option linter.unusedSimpArgs false

def cmpI (x y : Int) : Int := if x < y then -1 else if y < x then 1 else 0

def cmpL : List Int → List Int → Int
  | [], [] => 0
  | [], _ :: _ => -1
  | _ :: _, [] => 1
  | x :: a, y :: b => if x = y then cmpL a b else cmpI x y

theorem cmpL_step {la lb : List Int} {k : Nat} (h1 : k < la.length) (h2 : k < lb.length) : cmpL (la.drop k) (lb.drop k) = if la[k] = lb[k] then cmpL (la.drop (k + 1)) (lb.drop (k + 1)) else cmpI la[k] lb[k] := by
  rw [List.drop_eq_getElem_cons h1, List.drop_eq_getElem_cons h2, cmpL]

theorem cmpL_end {la lb : List Int} {k : Nat} (h1 : k ≤ la.length) (h2 : k ≤ lb.length) (h : k = la.length ∨ k = lb.length) : cmpL (la.drop k) (lb.drop k) = cmpI la.length lb.length := by
  rcases h with h | h
  · subst h
    rw [List.drop_length]
    cases hb : lb.drop la.length with
    | nil => have := congrArg List.length hb; simp at this; simp [cmpL, cmpI]; omega
    | cons x l => have := congrArg List.length hb; simp at this; simp [cmpL, cmpI]; omega
  · subst h
    rw [List.drop_length]
    cases hb : la.drop lb.length with
    | nil => have := congrArg List.length hb; simp at this; simp [cmpL, cmpI]; omega
    | cons x l => have := congrArg List.length hb; simp at this; simp [cmpL, cmpI]; omega

theorem cmpI_swap (x y : Int) : cmpI x y = - cmpI y x := by unfold cmpI; split <;> split <;> omega
theorem cmpI_ne {x y : Int} (h : x ≠ y) : cmpI x y ≠ 0 := by unfold cmpI; split <;> (try split) <;> omega
theorem cmpI_cases (x y : Int) : cmpI x y = -1 ∨ cmpI x y = 0 ∨ cmpI x y = 1 := by unfold cmpI; split <;> (try split) <;> omega

theorem cmpL_cases : ∀ a b : List Int, cmpL a b = -1 ∨ cmpL a b = 0 ∨ cmpL a b = 1
  | [], [] => .inr (.inl rfl)
  | [], _ :: _ => .inl rfl
  | _ :: _, [] => .inr (.inr rfl)
  | x :: a, y :: b => by
    unfold cmpL
    split
    · exact cmpL_cases a b
    · exact cmpI_cases x y

theorem cmpL_swap : ∀ a b : List Int, cmpL a b = - cmpL b a
  | [], [] => rfl
  | [], _ :: _ => rfl
  | _ :: _, [] => rfl
  | x :: a, y :: b => by
    unfold cmpL
    by_cases h : x = y
    · subst h; simp [cmpL_swap a b]
    · rw [if_neg h, if_neg (fun e => h e.symm)]; exact cmpI_swap x y

theorem cmpL_refl : ∀ a : List Int, cmpL a a = 0
  | [] => rfl
  | x :: a => by simp [cmpL, cmpL_refl a]

theorem cmpL_eq : ∀ {a b : List Int}, cmpL a b = 0 → a = b
  | [], [], _ => rfl
  | [], _ :: _, h => by simp [cmpL] at h
  | _ :: _, [], h => by simp [cmpL] at h
  | x :: a, y :: b, h => by
    unfold cmpL at h
    split at h
    · rename_i e; rw [e, cmpL_eq h]
    · rename_i e; exact absurd h (cmpI_ne e)

theorem cmpL_zero_iff {a b : List Int} : cmpL a b = 0 ↔ a = b := ⟨cmpL_eq, fun h => by rw [h]; exact cmpL_refl b⟩

theorem cmpL_trans : ∀ {a b c : List Int}, cmpL a b < 0 → cmpL b c < 0 → cmpL a c < 0
  | [], [], _, h, _ => by simp [cmpL] at h
  | [], _ :: _, [], _, h => by simp [cmpL] at h
  | [], _ :: _, _ :: _, _, _ => by simp [cmpL]
  | _ :: _, [], _, h, _ => by simp [cmpL] at h
  | _ :: _, _ :: _, [], _, h => by simp [cmpL] at h
  | x :: a, y :: b, z :: c, h1, h2 => by
    unfold cmpL at h1 h2 ⊢
    split at h1 <;> split at h2
    · rw [if_pos (by omega)]; exact cmpL_trans h1 h2
    · rw [if_neg (by omega)]; simp_all [cmpI]
    · rw [if_neg (by omega)]; simp_all [cmpI]
    · have : x < y := by unfold cmpI at h1; split at h1; assumption; split at h1 <;> omega
      have : y < z := by unfold cmpI at h2; split at h2; assumption; split at h2 <;> omega
      rw [if_neg (by omega)]; unfold cmpI; rw [if_pos (by omega)]; omega

end Go.Proofs.YtcglbopmfdilfaaDoor
