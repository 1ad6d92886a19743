/-
  What reading answers: tokens that are left, and what was read.
-/
import Derived.Test.YtoiokplgkanepaaDoorInstMath
namespace Go.Proofs.YtoiokplgkanepaaDoor
set_option linter.unusedVariables false
set_option linter.unusedSimpArgs false

theorem bind_ok {α β : Type} {x : Res α} {f : α → List Tok → Res β} {y : β} {r : List Tok} (h : x.bind f = .ok y r) : ∃ a q, x = .ok a q ∧ f a q = .ok y r := by
  cases x with
  | fault p e => cases h
  | ok a q => exact ⟨a, q, rfl, h⟩

/-- What a scope that was read is. -/
structure ScopeOk (nv : Nat) (l : List Int) : Prop where
  ne : l ≠ []
  le : l.length ≤ 6
  inr : ∀ v ∈ l, 0 ≤ v ∧ v < (nv : Int)

theorem scopeF_ok {nv : Nat} : ∀ (f : Nat) (acc : List Int) (ts : List Tok) {l : List Int} {r : List Tok}, Fair ts → acc.length ≤ 6 → (∀ v ∈ acc, 0 ≤ v ∧ v < (nv : Int)) → scopeF nv f acc ts = .ok l r → Fair r ∧ r.length < ts.length ∧ ScopeOk nv l
  | 0, _, _, _, _, _, _, _, h => by cases h
  | f + 1, acc, ts, l, r, hf, hl, ha, h => by
    rw [scopeF] at h
    obtain ⟨n, q, h1, h2⟩ := bind_ok h
    obtain ⟨hf1, hl1, _⟩ := hf.variable h1
    obtain ⟨_, _, _, h6, hn, _⟩ := variable_ok h1
    have ha' : ∀ v ∈ acc ++ [n], 0 ≤ v ∧ v < (nv : Int) := by
      intro v hv
      rcases List.mem_append.1 hv with h | h
      · exact ha v h
      · rw [List.mem_singleton] at h; subst h; exact hn
    split at h2
    · obtain ⟨k1, k2, k3⟩ := scopeF_ok f (acc ++ [n]) q hf1 (by simp; omega) ha' h2
      exact ⟨k1, by omega, k3⟩
    · cases h2
      exact ⟨hf1, hl1, ⟨by simp, by simp; omega, ha'⟩⟩

theorem Fair.scope {nv : Nat} {ts r : List Tok} {l : List Int} (hf : Fair ts) (h : scopeR nv ts = .ok l r) : Fair r ∧ r.length < ts.length ∧ ScopeOk nv l := scopeF_ok _ _ _ hf (by simp) (by simp) h

theorem rowF_ok {D : List (List Int)} : ∀ (vs acc : List Int) (ts : List Tok) {l : List Int} {r : List Tok}, Fair ts → rowF D vs acc ts = .ok l r → Fair r ∧ r.length ≤ ts.length
  | [], _, _, _, _, hf, h => by rw [rowF] at h; cases h; exact ⟨hf, Nat.le_refl _⟩
  | v :: vs, acc, ts, l, r, hf, h => by
    rw [rowF] at h
    obtain ⟨n, q, h1, h2⟩ := bind_ok h
    obtain ⟨hf1, hl1, _⟩ := hf.value h1
    split at h2
    · obtain ⟨k1, k2⟩ := rowF_ok vs _ q hf1 h2
      exact ⟨k1, by omega⟩
    · cases h2

theorem Fair.row {D : List (List Int)} {scope : List Int} {ahead : List (List Int)} {ts r : List Tok} {l : List Int} (hf : Fair ts) (h : rowR D scope ahead ts = .ok l r) : Fair r ∧ r.length ≤ ts.length := by
  obtain ⟨n, q, h1, h2⟩ := bind_ok h
  have := rowF_ok _ _ _ hf h1
  split at h2
  · cases h2; exact this
  · cases h2

theorem rowsF_ok {D : List (List Int)} {scope : List Int} : ∀ (f : Nat) (acc : List (List Int)) (ts : List Tok) {l : List (List Int)} {r : List Tok}, Fair ts → rowsF D scope f acc ts = .ok l r → Fair r ∧ r.length < ts.length
  | 0, _, _, _, _, _, h => by cases h
  | f + 1, acc, ts, l, r, hf, h => by
    rw [rowsF] at h
    obtain ⟨n, q, h1, h2⟩ := bind_ok h
    obtain ⟨hf1, hl1⟩ := hf.row h1
    obtain ⟨s, q2, h3, h4⟩ := bind_ok h2
    obtain ⟨hf2, hl2⟩ := hf1.sign h3
    split at h4
    · obtain ⟨k1, k2⟩ := rowsF_ok f _ q2 hf2 h4
      exact ⟨k1, by omega⟩
    · cases h4
      exact ⟨hf2, by omega⟩

theorem Fair.rows {D : List (List Int)} {scope : List Int} {ts r : List Tok} {l : List (List Int)} (hf : Fair ts) (h : rowsR D scope ts = .ok l r) : Fair r ∧ r.length < ts.length := by
  unfold rowsR at h
  split at h
  · exact rowsF_ok _ _ _ hf h
  · obtain ⟨s, q2, h3, h4⟩ := bind_ok h
    cases h4
    exact hf.sign h3

theorem linF_ok {nv : Nat} : ∀ (f : Nat) (args scope : List Int) (ts : List Tok) {l : List Int × List Int} {r : List Tok}, Fair ts → linF nv f args scope ts = .ok l r → Fair r ∧ r.length < ts.length
  | 0, _, _, _, _, _, _, h => by cases h
  | f + 1, args, scope, ts, l, r, hf, h => by
    rw [linF] at h
    obtain ⟨n, q, h1, h2⟩ := bind_ok h
    obtain ⟨hf1, hl1, _⟩ := hf.value h1
    split at h2
    · obtain ⟨v, q2, h3, h4⟩ := bind_ok h2
      obtain ⟨hf2, hl2, _⟩ := hf1.variable h3
      obtain ⟨s, q3, h5, h6⟩ := bind_ok h4
      obtain ⟨hf3, hl3⟩ := hf2.sign h5
      split at h6
      · obtain ⟨k1, k2⟩ := linF_ok f _ _ q3 hf3 h6
        exact ⟨k1, by omega⟩
      · cases h6
        exact ⟨hf3, by omega⟩
    · cases h2

theorem wordF_kind {t : Tok} : ∀ (n k : Nat) {j : Nat}, wordF t n k = some j → t.kind = 1 ∧ k ≤ j ∧ j < k + n
  | 0, _, _, h => by cases h
  | n + 1, k, j, h => by
    rw [wordF] at h
    split at h
    · rename_i hk; cases h; exact ⟨hk.1, Nat.le_refl _, by omega⟩
    · obtain ⟨h1, h2, h3⟩ := wordF_kind n (k + 1) h
      exact ⟨h1, by omega, by omega⟩
theorem Fair.word {n k j : Nat} {ts r : List Tok} (hf : Fair ts) (h : wordR n k ts = .ok j r) : Fair r ∧ r.length < ts.length ∧ k ≤ j ∧ j < k + n := by
  cases ts with
  | nil => cases h
  | cons t q =>
    simp only [wordR, wordT] at h
    split at h
    · rename_i j' hj
      cases h
      obtain ⟨h1, h2, h3⟩ := wordF_kind _ _ hj
      exact ⟨⟨hf.1.tail (by rw [h1]; decide), fun u hu => hf.2 u (by simp [hu])⟩, by simp, h2, h3⟩
    · cases h

theorem Fair.linear {nv : Nat} {ts r : List Tok} {c : Con} (hf : Fair ts) (h : linearR nv ts = .ok c r) : Fair r ∧ r.length < ts.length := by
  obtain ⟨ag, q, h1, h2⟩ := bind_ok h
  obtain ⟨hf1, hl1⟩ := linF_ok _ _ _ _ hf h1
  obtain ⟨k, q2, h3, h4⟩ := bind_ok h2
  obtain ⟨hf2, hl2, _⟩ := hf1.word h3
  obtain ⟨t, q3, h5, h6⟩ := bind_ok h4
  obtain ⟨hf3, hl3, _⟩ := hf2.value h5
  obtain ⟨s, q4, h7, h8⟩ := bind_ok h6
  obtain ⟨hf4, hl4⟩ := hf3.sign h7
  cases h8
  exact ⟨hf4, by omega⟩

theorem Fair.hard {D : List (List Int)} {kind : Nat} {ts r : List Tok} {c : Con} (hf : Fair ts) (h : hardR D kind ts = .ok c r) : Fair r ∧ r.length < ts.length := by
  unfold hardR at h
  split at h
  · exact hf.linear h
  · obtain ⟨l, q, h1, h2⟩ := bind_ok h
    obtain ⟨hf1, hl1, _⟩ := hf.scope h1
    split at h2
    · obtain ⟨s, q2, h3, h4⟩ := bind_ok h2
      obtain ⟨hf2, hl2⟩ := hf1.sign h3
      obtain ⟨rows, q3, h5, h6⟩ := bind_ok h4
      obtain ⟨hf3, hl3⟩ := hf2.rows h5
      cases h6
      exact ⟨hf3, by omega⟩
    · obtain ⟨s, q2, h3, h4⟩ := bind_ok h2
      obtain ⟨hf2, hl2⟩ := hf1.sign h3
      cases h4
      exact ⟨hf2, by omega⟩

theorem softF_ok {D : List (List Int)} {scope : List Int} : ∀ (f : Nat) (rows : List (List Int)) (costs : List Int) (ts : List Tok) {l : List (List Int) × List Int} {r : List Tok}, Fair ts → softF D scope f rows costs ts = .ok l r → Fair r ∧ r.length < ts.length
  | 0, _, _, _, _, _, _, h => by cases h
  | f + 1, rows, costs, ts, l, r, hf, h => by
    rw [softF] at h
    obtain ⟨s, q, h1, h2⟩ := bind_ok h
    obtain ⟨hf1, hl1⟩ := hf.sign h1
    split at h2
    · obtain ⟨v, q2, h3, h4⟩ := bind_ok h2
      obtain ⟨hf2, hl2⟩ := hf1.row h3
      obtain ⟨t, q3, h5, h6⟩ := bind_ok h4
      obtain ⟨hf3, hl3, _⟩ := hf2.number h5
      obtain ⟨k1, k2⟩ := softF_ok f _ _ q3 hf3 h6
      exact ⟨k1, by omega⟩
    · cases h2
      exact ⟨hf1, by omega⟩

theorem Fair.soft {D : List (List Int)} {ts r : List Tok} {c : Sft} (hf : Fair ts) (h : softR D ts = .ok c r) : Fair r ∧ r.length < ts.length := by
  obtain ⟨l, q, h1, h2⟩ := bind_ok h
  obtain ⟨hf1, hl1, _⟩ := hf.scope h1
  obtain ⟨s, q2, h3, h4⟩ := bind_ok h2
  obtain ⟨hf2, hl2⟩ := hf1.sign h3
  obtain ⟨t, q3, h5, h6⟩ := bind_ok h4
  obtain ⟨hf3, hl3, _⟩ := hf2.number h5
  obtain ⟨rc, q4, h7, h8⟩ := bind_ok h6
  obtain ⟨hf4, hl4⟩ := softF_ok _ _ _ _ hf3 h7
  cases h8
  exact ⟨hf4, by omega⟩

theorem domF_ok : ∀ (f : Nat) (acc : List Int) (ts : List Tok) {l : List Int} {r : List Tok}, Fair ts → domF f acc ts = .ok l r → Fair r ∧ r.length < ts.length
  | 0, _, _, _, _, _, h => by cases h
  | f + 1, acc, ts, l, r, hf, h => by
    rw [domF] at h
    obtain ⟨n, q, h1, h2⟩ := bind_ok h
    obtain ⟨hf1, hl1, _⟩ := hf.value h1
    split at h2
    · split at h2
      · split at h2
        · obtain ⟨k1, k2⟩ := domF_ok f _ q hf1 h2
          exact ⟨k1, by omega⟩
        · obtain ⟨s, q2, h3, h4⟩ := bind_ok h2
          obtain ⟨hf2, hl2⟩ := hf1.sign h3
          cases h4
          exact ⟨hf2, by omega⟩
      · cases h2
    · cases h2
theorem Fair.dom {ts r : List Tok} {l : List Int} (hf : Fair ts) (h : domR ts = .ok l r) : Fair r ∧ r.length < ts.length := domF_ok _ _ _ hf h

theorem Fair.stmt {x y : Ins} {ts r : List Tok} (hf : Fair ts) (h : stmtR x ts = .ok y r) : Fair r ∧ r.length < ts.length := by
  cases ts with
  | nil => cases h
  | cons t q =>
    rw [stmtR] at h
    obtain ⟨k, q1, h1, h2⟩ := bind_ok h
    obtain ⟨hf1, hl1, _⟩ := hf.word (n := 8) (k := 0) h1
    split at h2
    · split at h2
      · obtain ⟨d, q2, h3, h4⟩ := bind_ok h2
        obtain ⟨hf2, hl2⟩ := hf1.dom h3
        cases h4
        exact ⟨hf2, by omega⟩
      · cases h2
    · split at h2
      · split at h2
        · obtain ⟨d, q2, h3, h4⟩ := bind_ok h2
          obtain ⟨hf2, hl2⟩ := hf1.soft h3
          cases h4
          exact ⟨hf2, by omega⟩
        · cases h2
      · split at h2
        · obtain ⟨d, q2, h3, h4⟩ := bind_ok h2
          obtain ⟨hf2, hl2⟩ := hf1.hard h3
          cases h4
          exact ⟨hf2, by omega⟩
        · cases h2

end Go.Proofs.YtoiokplgkanepaaDoor
