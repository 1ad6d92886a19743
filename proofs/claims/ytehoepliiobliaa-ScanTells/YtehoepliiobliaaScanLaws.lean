/-
  What follows of tokens: texts next to each other, places; no function of the program is spoken of here.
-/
import Derived.Test.YtehoepliiobliaaScanMath
namespace Go.Proofs.Ytehoepliiobliaa
set_option linter.unusedVariables false
set_option linter.unusedSimpArgs false

def Tok.up (d : Nat) (t : Tok) : Tok := { t with at_ := t.at_ + d }
def Scan.up (d : Nat) : Scan → Scan
  | .bad p e => .bad (p + d) e
  | .good l => .good (l.map (Tok.up d))
theorem up_pre (d : Nat) (ts : List Tok) (s : Scan) : (s.pre ts).up d = (s.up d).pre (ts.map (Tok.up d)) := by cases s <;> simp [Scan.pre, Scan.up]

theorem rest_lt {l : Bytes} {k : Int} {t : Bytes} {n : Int} {len : Nat} (h : tokG (l.drop (skipN false l)) = .tok k t n len) (h4 : k ≠ 4) : ((l.drop (skipN false l)).drop len).length < l.length := by
  obtain ⟨h1, h2, h3, _⟩ := tok_len h
  have := h2 h4
  simp only [List.length_drop] at h1 ⊢
  omega

theorem scan_up (d : Nat) : ∀ (N : Nat) (l : Bytes) (p : Nat), l.length < N → scanA (p + d) l = (scanA p l).up d
  | 0, _, _, h => by omega
  | N + 1, l, p, h => by
    rw [scan_eq (p + d), scan_eq p]
    cases ht : tokG (l.drop (skipN false l)) with
    | bad e => simp only [Scan.up]; congr 1; omega
    | tok k t n len =>
      simp only []
      split
      · simp only [Scan.up, List.map_cons, List.map_nil, Tok.up]; congr 3; omega
      · rename_i h4
        have hl := rest_lt ht h4
        rw [up_pre, ← scan_up d N _ _ (by omega)]
        simp only [List.map_cons, List.map_nil, Tok.up]
        have e1 : p + d + skipN false l + len = p + skipN false l + len + d := by omega
        have e2 : p + d + skipN false l = p + skipN false l + d := by omega
        rw [e1, e2]

/-- What is left out ahead may be left out. -/
theorem scan_skip (p k : Nat) (l : Bytes) (hs : skipN false l = k + skipN false (l.drop k)) : scanA p l = scanA (p + k) (l.drop k) := by
  rw [scan_eq p l, scan_eq (p + k) (l.drop k), hs, List.drop_drop, ← Nat.add_assoc]

theorem takeWhile_app {p : UInt8 → Bool} (h : p 10 = false) : ∀ (x b : Bytes), (x ++ 10 :: b).takeWhile p = x.takeWhile p
  | [], b => by simp [List.takeWhile_cons, h]
  | c :: r, b => by simp only [List.cons_append, List.takeWhile_cons]; rw [takeWhile_app h r b]

theorem tok_app {x : Bytes} (hx : x ≠ []) (b : Bytes) : tokG (x ++ 10 :: b) = tokG x := by
  cases x with
  | nil => exact absurd rfl hx
  | cons c r =>
    rw [List.cons_append, tokG_cons, tokG_cons]
    have h1 := takeWhile_app (p := letterB) rfl (c :: r) b
    have h2 := takeWhile_app (p := digitB) rfl (c :: r) b
    have h3 := takeWhile_app (p := digitB) rfl r b
    rw [List.cons_append] at h1 h2
    unfold runN
    rw [h1, h2, h3]

theorem skip_app : ∀ (note : Bool) (a b : Bytes), (skipN note a = a.length → skipN note (a ++ 10 :: b) = a.length + 1 + skipN false b) ∧ (skipN note a < a.length → skipN note (a ++ 10 :: b) = skipN note a)
  | note, [], b => by simp [skipN]; omega
  | note, c :: r, b => by
    have i1 := skip_app false r b
    have i2 := skip_app true r b
    have i3 := skip_app note r b
    simp only [List.cons_append, skipN, List.length_cons]
    split
    · exact ⟨fun h => by have := i1.1 (by omega); omega, fun h => by have := i1.2 (by omega); omega⟩
    · split
      · exact ⟨fun h => by have := i2.1 (by omega); omega, fun h => by have := i2.2 (by omega); omega⟩
      · split
        · exact ⟨fun h => by omega, fun h => rfl⟩
        · exact ⟨fun h => by have := i3.1 (by omega); omega, fun h => by have := i3.2 (by omega); omega⟩

def Scan.join (rest : Scan) : Scan → Scan
  | .bad q e => .bad q e
  | .good ts => rest.pre ts.dropLast

theorem scan_ne (N : Nat) : ∀ (l : Bytes) (p : Nat) (ts : List Tok), l.length < N → scanA p l = .good ts → ts ≠ [] := by
  intro l p ts hN h
  rw [scan_eq] at h
  cases ht : tokG (l.drop (skipN false l)) with
  | bad e => rw [ht] at h; cases h
  | tok k t n len =>
    rw [ht] at h
    simp only [] at h
    split at h
    · cases h; simp
    · rename_i h4
      cases hs : scanA (p + skipN false l + len) ((l.drop (skipN false l)).drop len) with
      | bad q e => rw [hs] at h; cases h
      | good l' => rw [hs] at h; cases h; simp

theorem join_pre (rest : Scan) (t : Tok) (s : Scan) (h : ∀ ts, s = .good ts → ts ≠ []) : Scan.join rest (s.pre [t]) = (Scan.join rest s).pre [t] := by
  cases s with
  | bad q e => rfl
  | good ts =>
    have := h ts rfl
    simp only [Scan.pre, Scan.join, List.cons_append, List.nil_append]
    rw [List.dropLast_cons_of_ne_nil this]
    cases rest <;> simp [Scan.pre]

/-- Two texts, with a line end between. -/
theorem scan_join : ∀ (N : Nat) (a b : Bytes) (p : Nat), a.length < N → scanA p (a ++ 10 :: b) = Scan.join (scanA (p + a.length + 1) b) (scanA p a)
  | 0, _, _, _, h => by omega
  | N + 1, a, b, p, h => by
    have hle := skip_le false a
    obtain ⟨s1, s2⟩ := skip_app false a b
    by_cases hk : skipN false a = a.length
    · have h1 := s1 hk
      have hd : (a ++ 10 :: b).drop (a.length + 1) = b := by simp [List.drop_append]
      have e1 := scan_skip p (a.length + 1) (a ++ 10 :: b) (by rw [hd]; exact h1)
      rw [e1, hd, scan_eq p a, hk, List.drop_eq_nil_of_le (Nat.le_refl _)]
      simp only [tokG, if_true, Scan.join, List.dropLast_singleton]
      cases scanA (p + (a.length + 1)) b <;> simp [Scan.pre, Nat.add_assoc] <;> rfl
    · have h2 := s2 (by omega)
      have hx : a.drop (skipN false a) ≠ [] := by intro e; have := congrArg List.length e; simp at this; omega
      have hd : (a ++ 10 :: b).drop (skipN false a) = a.drop (skipN false a) ++ 10 :: b := by rw [List.drop_append_of_le_length (by omega)]
      rw [scan_eq p (a ++ 10 :: b), scan_eq p a, h2, hd, tok_app hx]
      cases ht : tokG (a.drop (skipN false a)) with
      | bad e => rfl
      | tok k t n len =>
        obtain ⟨l1, l2, l3, _⟩ := tok_len ht
        simp only []
        split
        · rename_i h4; exact absurd (l3 h4).1 hx
        · rename_i h4
          have hl := rest_lt ht h4
          rw [List.drop_append_of_le_length l1, scan_join N _ _ _ (by omega), join_pre _ _ _ (fun ts hts => scan_ne (a.length) _ _ ts hl hts)]
          have e : p + skipN false a + len + ((a.drop (skipN false a)).drop len).length + 1 = p + a.length + 1 := by simp only [List.length_drop] at l1 ⊢; omega
          rw [e]

/-- The last token, and only it, is the end. -/
theorem scan_last : ∀ (N : Nat) (l : Bytes) (p : Nat) (ts : List Tok), l.length < N → scanA p l = .good ts → ∃ i, ts = i ++ [⟨4, [], 0, p + l.length⟩] ∧ ∀ t ∈ i, t.kind ≠ 4
  | 0, _, _, _, h, _ => by omega
  | N + 1, l, p, ts, hN, h => by
    have hle := skip_le false l
    rw [scan_eq] at h
    cases ht : tokG (l.drop (skipN false l)) with
    | bad e => rw [ht] at h; cases h
    | tok k t n len =>
      obtain ⟨l1, l2, l3, _⟩ := tok_len ht
      rw [ht] at h
      simp only [] at h
      split at h
      · rename_i h4
        have := congrArg List.length (l3 h4).1
        simp at this
        cases h
        refine ⟨[], ?_, by simp⟩
        simp; omega
      · rename_i h4
        have hl := rest_lt ht h4
        cases hs : scanA (p + skipN false l + len) ((l.drop (skipN false l)).drop len) with
        | bad q e => rw [hs] at h; cases h
        | good l' =>
          rw [hs] at h
          simp only [Scan.pre, Scan.good.injEq] at h
          obtain ⟨i, e1, e2⟩ := scan_last N _ _ l' (by omega) hs
          refine ⟨⟨k, t, n, p + skipN false l⟩ :: i, ?_, ?_⟩
          · rw [← h, e1]
            have e : p + skipN false l + len + ((l.drop (skipN false l)).drop len).length = p + l.length := by simp only [List.length_drop] at l1 ⊢; omega
            rw [e]; rfl
          · intro x hx
            rcases List.mem_cons.1 hx with rfl | hx
            · exact h4
            · exact e2 x hx

theorem scan_end {l : Bytes} {p : Nat} {ts : List Tok} (h : scanA p l = .good ts) : ∃ i, ts = i ++ [⟨4, [], 0, p + l.length⟩] ∧ ∀ t ∈ i, t.kind ≠ 4 := scan_last (l.length + 1) l p ts (Nat.lt_succ_self _) h

/-- No more tokens than bytes, and the end. -/
theorem scan_count : ∀ (N : Nat) (l : Bytes) (p : Nat) (ts : List Tok), l.length < N → scanA p l = .good ts → ts.length ≤ l.length + 1
  | 0, _, _, _, h, _ => by omega
  | N + 1, l, p, ts, hN, h => by
    rw [scan_eq] at h
    cases ht : tokG (l.drop (skipN false l)) with
    | bad e => rw [ht] at h; cases h
    | tok k t n len =>
      rw [ht] at h
      simp only [] at h
      split at h
      · cases h; simp
      · rename_i h4
        have hl := rest_lt ht h4
        cases hs : scanA (p + skipN false l + len) ((l.drop (skipN false l)).drop len) with
        | bad q e => rw [hs] at h; cases h
        | good l' =>
          rw [hs] at h
          simp only [Scan.pre, Scan.good.injEq] at h
          have := scan_count N _ _ l' (by omega) hs
          rw [← h]
          simp only [List.length_append, List.length_cons, List.length_nil]
          omega

theorem scan_le {l : Bytes} {p : Nat} {ts : List Tok} (h : scanA p l = .good ts) : ts.length ≤ l.length + 1 := scan_count (l.length + 1) l p ts (Nat.lt_succ_self _) h

/-- Places are within the text. -/
theorem scan_ats : ∀ (N : Nat) (l : Bytes) (p : Nat) (ts : List Tok), l.length < N → scanA p l = .good ts → ∀ t ∈ ts, p ≤ t.at_ ∧ t.at_ ≤ p + l.length
  | 0, _, _, _, h, _ => by omega
  | N + 1, l, p, ts, hN, h => by
    have hle := skip_le false l
    rw [scan_eq] at h
    cases ht : tokG (l.drop (skipN false l)) with
    | bad e => rw [ht] at h; cases h
    | tok k t n len =>
      obtain ⟨l1, l2, l3, _⟩ := tok_len ht
      rw [ht] at h
      simp only [] at h
      split at h
      · cases h
        intro x hx
        simp at hx
        subst hx
        exact ⟨by simp only []; omega, by simp only []; omega⟩
      · rename_i h4
        have hl := rest_lt ht h4
        cases hs : scanA (p + skipN false l + len) ((l.drop (skipN false l)).drop len) with
        | bad q e => rw [hs] at h; cases h
        | good l' =>
          rw [hs] at h
          simp only [Scan.pre, Scan.good.injEq] at h
          have ih := scan_ats N _ _ l' (by omega) hs
          rw [← h]
          intro x hx
          rcases List.mem_append.1 hx with hx | hx
          · simp at hx
            subst hx
            exact ⟨by simp only []; omega, by simp only []; omega⟩
          · have := ih x hx
            simp only [List.length_drop] at this l1
            omega

theorem scan_at {l : Bytes} {ts : List Tok} (h : scanA 0 l = .good ts) {t : Tok} (ht : t ∈ ts) : t.at_ ≤ l.length := by
  have := (scan_ats (l.length + 1) l 0 ts (Nat.lt_succ_self _) h t ht).2; omega

/-- What is wrong is at a byte that there is. -/
theorem scan_place : ∀ (N : Nat) (l : Bytes) (p q : Nat) (e : Int), l.length < N → scanA p l = .bad q e → p ≤ q ∧ q < p + l.length ∧ e ≠ 0
  | 0, _, _, _, _, h, _ => by omega
  | N + 1, l, p, q, e, hN, h => by
    have hle := skip_le false l
    rw [scan_eq] at h
    cases ht : tokG (l.drop (skipN false l)) with
    | bad e' =>
      rw [ht] at h
      simp only [Scan.bad.injEq] at h
      have hne : l.drop (skipN false l) ≠ [] := by intro e0; rw [e0] at ht; cases ht
      have : skipN false l < l.length := by
        rcases Nat.lt_or_ge (skipN false l) l.length with h' | h'
        · exact h'
        · exact absurd (List.drop_eq_nil_of_le h') hne
      refine ⟨by omega, by omega, ?_⟩
      rw [← h.2]
      have num : ∀ (d : Bytes) (b : Bool), numG d b = .bad e' → e' ≠ 0 := by
        intro d b h
        unfold numG at h
        split at h
        · split at h
          · cases h
          · cases h; decide
        · cases h; decide
      cases hx : l.drop (skipN false l) with
      | nil => exact absurd hx hne
      | cons c r =>
        rw [hx, tokG_cons] at ht
        split at ht
        · cases ht
        · split at ht
          · cases ht
          · split at ht
            · exact num _ _ ht
            · split at ht
              · exact num _ _ ht
              · cases ht; decide
    | tok k t n len =>
      obtain ⟨l1, l2, l3, _⟩ := tok_len ht
      rw [ht] at h
      simp only [] at h
      split at h
      · cases h
      · rename_i h4
        have hl := rest_lt ht h4
        cases hs : scanA (p + skipN false l + len) ((l.drop (skipN false l)).drop len) with
        | good l' => rw [hs] at h; cases h
        | bad q' e' =>
          rw [hs] at h
          simp only [Scan.pre, Scan.bad.injEq] at h
          obtain ⟨i1, i2, i3⟩ := scan_place N _ _ q' e' (by omega) hs
          simp only [List.length_drop] at i2 l1
          refine ⟨by omega, by omega, by rw [← h.2]; exact i3⟩

end Go.Proofs.Ytehoepliiobliaa
