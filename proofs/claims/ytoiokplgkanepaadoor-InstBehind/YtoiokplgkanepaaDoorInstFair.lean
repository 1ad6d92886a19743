/-
  What scanning makes is fair.
-/
import Derived.Test.YtoiokplgkanepaaDoorInstMath
namespace Go.Proofs.YtoiokplgkanepaaDoor
set_option linter.unusedVariables false
set_option linter.unusedSimpArgs false

theorem tok_num {l : Bytes} {k : Int} {t : Bytes} {n : Int} {len : Nat} (h : tokG l = .tok k t n len) : -1000000000000 ≤ n ∧ n ≤ 1000000000000 := by
  have num : ∀ (d : Bytes) (b : Bool), numG d b = .tok k t n len → -1000000000000 ≤ n ∧ n ≤ 1000000000000 := by
    intro d b hn
    unfold numG at hn
    split at hn
    · split at hn
      · rename_i hv
        simp only [Got.tok.injEq] at hn
        obtain ⟨_, _, rfl, _⟩ := hn
        split <;> omega
      · cases hn
    · cases hn
  cases l with
  | nil => simp only [tokG, Got.tok.injEq] at h; obtain ⟨_, _, rfl, _⟩ := h; omega
  | cons c r =>
    rw [tokG_cons] at h
    split at h
    · simp only [Got.tok.injEq] at h; obtain ⟨_, _, rfl, _⟩ := h; omega
    · split at h
      · simp only [Got.tok.injEq] at h; obtain ⟨_, _, rfl, _⟩ := h; omega
      · split at h
        · exact num _ _ h
        · split at h
          · exact num _ _ h
          · cases h

theorem scanF_fair : ∀ (f p : Nat) (l : Bytes) {ts : List Tok}, scanF f p l = .good ts → Fair ts ∧ ts.length ≤ f
  | 0, _, _, _, h => by cases h
  | f + 1, p, l, ts, h => by
    rw [scanF] at h
    cases ht : tokG (l.drop (skipN false l)) with
    | bad e => rw [ht] at h; cases h
    | tok k t n len =>
      rw [ht] at h
      simp only [] at h
      split at h
      · cases h
        exact ⟨⟨rfl, by intro t ht; simp at ht; subst ht; simp⟩, by simp⟩
      · rename_i hk
        cases hs : scanF f (p + skipN false l + len) ((l.drop (skipN false l)).drop len) with
        | bad q e => rw [hs] at h; cases h
        | good us =>
          rw [hs] at h
          simp only [Scan.pre, Scan.good.injEq] at h
          subst h
          obtain ⟨⟨h1, h2⟩, h3⟩ := scanF_fair f _ _ hs
          refine ⟨⟨?_, ?_⟩, by simp; omega⟩
          · obtain ⟨u, r, rfl⟩ := h1.cons
            exact ⟨hk, h1⟩
          · intro x hx
            simp only [List.cons_append, List.nil_append, List.mem_cons] at hx
            rcases hx with rfl | hx
            · exact tok_num ht
            · exact h2 x hx
theorem scan_fair {p : Nat} {l : Bytes} {ts : List Tok} (h : scanA p l = .good ts) : Fair ts ∧ ts.length ≤ l.length + 1 := scanF_fair _ _ _ h

end Go.Proofs.YtoiokplgkanepaaDoor
