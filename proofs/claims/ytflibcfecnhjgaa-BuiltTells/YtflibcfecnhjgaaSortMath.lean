/-
  Plain mathematics of sorted rows: what the document's Sort answers. Nothing of the program is spoken of here.
-/
import Derived.Test.YtflibcfecnhjgaaRefSort
namespace Go.Proofs.Ytflibcfecnhjgaa
open Go.RowKit
set_option linter.unusedVariables false
set_option linter.unusedSimpArgs false
set_option maxRecDepth 20000

theorem AscL.ext : ∀ {a b : List (List Int)}, AscL a → AscL b → (∀ x, x ∈ a ↔ x ∈ b) → a = b
  | [], [], _, _, _ => rfl
  | [], y :: b, _, _, h => by have := (h y).2 (by simp); simp at this
  | x :: a, [], _, _, h => by have := (h x).1 (by simp); simp at this
  | x :: a, y :: b, ha, hb, h => by
    rw [AscL, List.pairwise_cons] at ha hb
    have hxy : x = y := by
      have h1 := (h x).1 (by simp)
      have h2 := (h y).2 (by simp)
      rcases List.mem_cons.1 h1 with h1 | h1
      · exact h1
      · rcases List.mem_cons.1 h2 with h2 | h2
        · exact h2.symm
        · have k1 := ha.1 _ h2; have k2 := hb.1 _ h1; have := cmpL_swap x y; omega
    subst hxy
    have hab : a = b := by
      refine AscL.ext ha.2 hb.2 fun z => ⟨fun hz => ?_, fun hz => ?_⟩
      · have h1 := (h z).1 (by simp [hz])
        rcases List.mem_cons.1 h1 with h1 | h1
        · have := ha.1 _ hz; rw [h1, cmpL_refl] at this; omega
        · exact h1
      · have h1 := (h z).2 (by simp [hz])
        rcases List.mem_cons.1 h1 with h1 | h1
        · have := hb.1 _ hz; rw [h1, cmpL_refl] at this; omega
        · exact h1
    rw [hab]

theorem lowN_spec (ll : List (List Int)) (t : List Int) : (∀ i (h : i < ll.length), i < lowN ll t → cmpL ll[i] t < 0) ∧ (∀ (h : lowN ll t < ll.length), ¬ cmpL ll[lowN ll t] t < 0) := by
  induction ll with
  | nil => simp
  | cons x r ih =>
    by_cases hx : cmpL x t < 0
    · have e : lowN (x :: r) t = lowN r t + 1 := by simp [lowN, List.takeWhile, hx]
      constructor
      · intro i hi hl
        cases i with
        | zero => simpa using hx
        | succ i => simp only [List.getElem_cons_succ]; exact ih.1 i (by simp at hi; omega) (by omega)
      · intro h
        have := ih.2 (by simp at h; omega)
        simpa [e] using this
    · have hd : decide (cmpL x t < 0) = false := by simpa using hx
      have e : lowN (x :: r) t = 0 := by simp [lowN, List.takeWhile, hd]
      constructor
      · intro i hi hl; omega
      · intro h; simpa [e] using hx

theorem insL_spec {ll : List (List Int)} (hs : AscL ll) (t : List Int) : AscL (insL ll t) ∧ ∀ x, x ∈ insL ll t ↔ x ∈ ll ∨ x = t := by
  have hle := lowN_le ll t
  obtain ⟨hl1, hl2⟩ := lowN_spec ll t
  unfold insL
  generalize lowN ll t = k at *
  by_cases hat : isAt ll t k = true
  · rw [if_pos hat]
    refine ⟨hs, fun x => ⟨.inl, ?_⟩⟩
    rintro (h | h)
    · exact h
    · subst h
      unfold isAt at hat
      split at hat
      · rename_i hk
        have := cmpL_eq (of_decide_eq_true hat)
        rw [← this]; exact List.getElem_mem hk
      · cases hat
  · rw [if_neg hat]
    have hgt : ∀ i (h : i < ll.length), k ≤ i → cmpL t ll[i] < 0 := by
      intro i hi hki
      have hk : k < ll.length := by omega
      have hne : cmpL ll[k] t ≠ 0 := by
        intro e; apply hat; unfold isAt; rw [dif_pos hk]; simpa using e
      have h0 := hl2 hk
      have hsw := cmpL_swap ll[k] t
      have htk : cmpL t ll[k] < 0 := by omega
      rcases Nat.lt_or_ge k i with h | h
      · exact cmpL_trans htk (asc_at hs hk hi h)
      · have : k = i := by omega
        subst this; exact htk
    constructor
    · refine List.pairwise_append.2 ⟨List.pairwise_append.2 ⟨hs.sublist (List.take_sublist _ _), by simp, ?_⟩, hs.sublist (List.drop_sublist _ _), ?_⟩
      · intro x hx y hy
        simp at hy
        subst hy
        obtain ⟨i, hi, rfl⟩ := List.getElem_of_mem hx
        simp at hi
        rw [List.getElem_take]
        exact hl1 i (by omega) (by omega)
      · intro x hx y hy
        obtain ⟨j, hj, rfl⟩ := List.getElem_of_mem hy
        simp at hj
        rw [List.getElem_drop]
        rcases List.mem_append.1 hx with hx | hx
        · obtain ⟨i, hi, rfl⟩ := List.getElem_of_mem hx
          simp at hi
          rw [List.getElem_take]
          exact asc_at hs (by omega) (by omega) (by omega)
        · simp at hx
          subst hx
          exact hgt _ (by omega) (by omega)
    · intro x
      have := List.take_append_drop k ll
      have hm : x ∈ ll ↔ x ∈ ll.take k ∨ x ∈ ll.drop k := by rw [← List.mem_append, this]
      simp only [List.mem_append, List.mem_singleton, hm]
      constructor
      · rintro ((h | h) | h)
        · exact .inl (.inl h)
        · exact .inr h
        · exact .inl (.inr h)
      · rintro ((h | h) | h)
        · exact .inl (.inl h)
        · exact .inr h
        · exact .inl (.inr h)

theorem sortL_spec (ll : List (List Int)) : AscL (sortL ll) ∧ ∀ x, x ∈ sortL ll ↔ x ∈ ll := by
  unfold sortL
  have : ∀ (l acc : List (List Int)), AscL acc → AscL (l.foldl insL acc) ∧ ∀ x, x ∈ l.foldl insL acc ↔ x ∈ acc ∨ x ∈ l := by
    intro l
    induction l with
    | nil => exact fun acc h => ⟨h, by simp⟩
    | cons y r ih =>
      intro acc h
      obtain ⟨h1, h2⟩ := insL_spec h y
      obtain ⟨k1, k2⟩ := ih _ h1
      refine ⟨k1, fun x => ?_⟩
      rw [List.foldl_cons, k2, h2, List.mem_cons]
      constructor
      · rintro ((h | h) | h)
        · exact .inl h
        · exact .inr (.inl h)
        · exact .inr (.inr h)
      · rintro (h | h | h)
        · exact .inl (.inl h)
        · exact .inl (.inr h)
        · exact .inr h
  obtain ⟨h1, h2⟩ := this ll [] (by simp [AscL])
  exact ⟨h1, fun x => by rw [h2]; simp⟩

end Go.Proofs.Ytflibcfecnhjgaa
