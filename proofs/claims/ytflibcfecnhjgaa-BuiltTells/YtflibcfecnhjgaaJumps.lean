/-
  A scope with several labels between which the run jumps, forth and back: what holds at each label, and a number that each jump lowers.
-/
import Derived.Test.YtflibcfecnhjgaaRows
import Derived.ScopeJumps
import Derived.WalkMore
import Derived.WalkKit
namespace Go.Proofs.Ytflibcfecnhjgaa
open Go.RowKit
set_option linter.unusedVariables false

/-- As Q; by a goto to label l: R l. -/
def jumps (R : Nat → Act → World → Prop) (Q : Exit → Act → World → Prop) : Exit → Act → World → Prop
  | .goto l, a, w => R l a w
  | e, a, w => Q e a w

theorem wp_scope_labels {P : Program} {a : Act} {w : World} {Q : Exit → Act → World → Prop} {c : Code} (rest : Nat → Code) (J : Nat → Nat → Act → World → Prop)
    (hf : ∀ l n a w, J l n a w → findLabel c l = some (rest l))
    (first : c.wp P (jumps (fun l a w => ∃ n, J l n a w) Q) a w)
    (pass : ∀ n l a w, J l n a w → (rest l).wp P (jumps (fun l' a' w' => ∃ m, m < n ∧ J l' m a' w') Q) a w) : (Code.scope c).wp P Q a w := by
  intro b k cs
  have hg : ∀ l n a w, J l n a w → gotoIn l (.inScope c :: k) = some (.code (rest l) :: .inScope c :: k) := fun l n a w h => by simp [gotoIn, hf l n a w h]
  have key : ∀ n l a w, J l n a w → ∃ e a' w', Q e a' w' ∧ Arrives P (lone (b.at a (.code (rest l) :: .inScope c :: k)) cs w) b k cs e a' w' := by
    intro n
    induction n using Nat.strongRecOn with
    | _ n ih =>
      intro l a w hJ
      obtain ⟨e, a₁, w₁, hq, harr⟩ := pass n l a w hJ b (.inScope c :: k) cs
      cases e with
      | normal => exact ⟨.normal, a₁, w₁, hq, Steps.trans harr (.one step_inScope)⟩
      | exit id => exact ⟨.exit id, a₁, w₁, hq, fun k' hk => harr k' (by simp [exitTo, hk])⟩
      | goto l' =>
        obtain ⟨m, hlt, hJ'⟩ := hq
        obtain ⟨e₂, a₂, w₂, hq₂, harr₂⟩ := ih _ hlt l' a₁ w₁ hJ'
        exact ⟨e₂, a₂, w₂, hq₂, .of_steps (harr _ (hg _ _ _ _ hJ')) harr₂⟩
      | ret => exact ⟨_, a₁, w₁, hq, harr⟩
      | panic ch => exact ⟨_, a₁, w₁, hq, harr⟩
      | outgrown => exact ⟨_, a₁, w₁, hq, harr⟩
  obtain ⟨e, a₁, w₁, hq, harr⟩ := first b (.inScope c :: k) cs
  cases e with
  | normal => exact ⟨.normal, a₁, w₁, hq, .head step_scope (Steps.trans harr (.one step_inScope))⟩
  | exit id => exact ⟨.exit id, a₁, w₁, hq, fun k' hk => .head step_scope (harr k' (by simp [exitTo, hk]))⟩
  | goto l' =>
    obtain ⟨n, hJ'⟩ := hq
    obtain ⟨e₂, a₂, w₂, hq₂, harr₂⟩ := key n l' a₁ w₁ hJ'
    exact ⟨e₂, a₂, w₂, hq₂, .of_steps (.head step_scope (harr _ (hg _ _ _ _ hJ'))) harr₂⟩
  | ret => exact ⟨_, a₁, w₁, hq, .of_steps (.one step_scope) harr⟩
  | panic ch => exact ⟨_, a₁, w₁, hq, .of_steps (.one step_scope) harr⟩
  | outgrown => exact ⟨_, a₁, w₁, hq, .of_steps (.one step_scope) harr⟩

/-- Jumps that lower the number. -/
def lower (J : Nat → Nat → Act → World → Prop) (n : Nat) : Nat → Act → World → Prop := fun l a w => ∃ m, m < n ∧ J l m a w

/-- Three labels, of which the run comes to 1 first, and from 1 on to 2. -/
theorem wp_scope_labels3 {P : Program} {a : Act} {w : World} {Q : Exit → Act → World → Prop} {c c0 c1 c2 : Code} (J : Nat → Nat → Act → World → Prop)
    (h0 : findLabel c 0 = some (Code.skip.seq c0)) (h1 : findLabel c 1 = some (Code.skip.seq c1)) (h2 : findLabel c 2 = some (Code.skip.seq c2))
    (hJ : ∀ l n a w, J l n a w → l = 0 ∨ l = 1 ∨ l = 2)
    (up : ∀ n a w, J 0 n a w → c0.wp P (jumps (lower J n) Q) a w)
    (along : ∀ n a w, J 2 n a w → c2.wp P (jumps (lower J n) Q) a w)
    (down : (∀ n m a w, n < m → J 2 n a w → c2.wp P (jumps (lower J m) Q) a w) → ∀ n a w, J 1 n a w → c1.wp P (jumps (lower J n) Q) a w)
    (first : (∀ n a w, J 1 n a w → c1.wp P (jumps (fun l a w => ∃ n, J l n a w) Q) a w) → c.wp P (jumps (fun l a w => ∃ n, J l n a w) Q) a w) : (Code.scope c).wp P Q a w := by
  have weak : ∀ (R R' : Nat → Act → World → Prop), (∀ l a w, R l a w → R' l a w) → ∀ e a w, jumps R Q e a w → jumps R' Q e a w := fun R R' h e a w hq => by
    cases e with
    | goto l => exact h l a w hq
    | _ => exact hq
  have along' : ∀ n m a w, n < m → J 2 n a w → c2.wp P (jumps (lower J m) Q) a w := fun n m a w hnm h => Code.wp_mono (weak _ _ fun l a w ⟨k, hk, hj⟩ => ⟨k, Nat.lt_trans hk hnm, hj⟩) (along n a w h)
  refine wp_scope_labels (fun l => if l = 0 then Code.skip.seq c0 else if l = 1 then Code.skip.seq c1 else Code.skip.seq c2) J ?_ ?_ ?_
  · intro l n a w h
    rcases hJ l n a w h with rfl | rfl | rfl
    · exact h0
    · exact h1
    · exact h2
  · exact first fun n a w h => Code.wp_mono (weak _ _ fun l a w ⟨k, _, hj⟩ => ⟨k, hj⟩) (down along' n a w h)
  · intro n l a w h
    rcases hJ l n a w h with rfl | rfl | rfl
    · exact wp_seq (wp_skip (up n a w h))
    · exact wp_seq (wp_skip (down along' n a w h))
    · exact wp_seq (wp_skip (along n a w h))

end Go.Proofs.Ytflibcfecnhjgaa
