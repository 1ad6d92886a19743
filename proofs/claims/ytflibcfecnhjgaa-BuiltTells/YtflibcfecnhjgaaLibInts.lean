/-
  The contracts of slices.Clone, slices.Index, slices.Equal at []int, and of the document's Place.
-/
import Derived.Test.YtflibcfecnhjgaaApp2
namespace Go.Proofs.Ytflibcfecnhjgaa
open Go.RowKit
set_option linter.unusedVariables false
set_option linter.unusedSimpArgs false
set_option maxRecDepth 20000

set_option maxHeartbeats 1000000 in
theorem cloneI_any {l : List Int} {v : Value} {w : World} (h : Ints w v l) (hlen : l.length < 100000000) :
    Calls Try.prog 39 #[v] w fun e w' => ∃ v', e = .returned v' ∧ OwnI w.heap.size w' v' l ∧ Below w.heap.size w w' := by
  obtain ⟨a, cap, rfl, hla, hca⟩ := h.form
  cases a with
  | none =>
    have hn : l = [] := by
      obtain ⟨a', c', e, h2, h3, h4, h5, h6⟩ := h
      cases e
      have := h4 rfl
      exact List.length_eq_zero_iff.1 (by omega)
    subst hn
    have q22 : ∀ (w : World) (n c n' c' : Nat), (binOp .eql 29 (.slice none n c) (.slice none n' c')).run Try.prog w = .ok (.bool true) w := fun w n c n' c' => Lib.run_eql_slice_nil w _ _ none n c n' c' Try.underlying29
    clear h
    go_enter Try.func39, Try.ntmps39
    go_wp2
    go_ret
    exact ⟨_, rfl, own_nilI _ _, Below.refl _ _⟩
  | some x =>
    have q22 : ∀ (w : World) (n c n' c' : Nat), (binOp .eql 29 (.slice (some x) n c) (.slice none n' c')).run Try.prog w = .ok (.bool false) w := fun w n c n' c' => Lib.run_eql_slice_nil w _ _ (some x) n c n' c' Try.underlying29
    have hb0 := (Below.refl w.heap.size w).alloc (Nat.le_refl _) (.cells #[] 3)
    have HS := hide (h.below hb0)
    clear h
    go_enter Try.func39, Try.ntmps39
    go_wp2_with (at_builtin; refine wp_app_ints rfl (.tmp 5) (.tmp 6) rfl (B := w.heap.size) (l := []) (own_litI (Nat.le_refl _)) rfl (by simp) (unhide HS) rfl (by simp; omega) ?_; intro v' w' hown hgrew)
    go_ret
    exact ⟨_, rfl, by simpa using hown, hb0.trans hgrew.below⟩

/-- The place of n in l; -1: none. -/
def placeL : List Int → Int → Int
  | [], _ => -1
  | x :: l, n => if x = n then 0 else if placeL l n < 0 then -1 else placeL l n + 1

theorem placeL_cases (l : List Int) (n : Int) : placeL l n = -1 ∧ n ∉ l ∨ ∃ k : Nat, ∃ h : k < l.length, placeL l n = k ∧ l[k] = n ∧ ∀ i (hi : i < l.length), i < k → l[i] ≠ n := by
  induction l with
  | nil => left; simp [placeL]
  | cons x l ih =>
    unfold placeL
    by_cases h : x = n
    · right
      exact ⟨0, by simp, by simp [h], by simp [h], fun i _ hi => by omega⟩
    · rw [if_neg h]
      rcases ih with ⟨h1, h2⟩ | ⟨k, hk, h1, h2, h3⟩
      · left
        rw [if_pos (by omega)]
        exact ⟨rfl, by simp [h2]; exact fun e => h e.symm⟩
      · right
        rw [if_neg (by omega), h1]
        refine ⟨k + 1, by simp; omega, by omega, by simpa using h2, fun i hi hik => ?_⟩
        cases i with
        | zero => simpa using h
        | succ i => simp only [List.getElem_cons_succ]; exact h3 i (by simp at hi; omega) (by omega)

theorem placeL_none {l : List Int} {n : Int} (h : n ∉ l) : placeL l n = -1 := by
  rcases placeL_cases l n with h1 | ⟨k, hk, h1, h2, h3⟩
  · exact h1.1
  · exact absurd (h2 ▸ List.getElem_mem hk) h

theorem placeL_at {l : List Int} {n : Int} {k : Nat} (hk : k < l.length) (h : l[k] = n) (h3 : ∀ i (hi : i < l.length), i < k → l[i] ≠ n) : placeL l n = k := by
  rcases placeL_cases l n with ⟨h1, h2⟩ | ⟨j, hj, h1, h2, h4⟩
  · exact absurd (h ▸ List.getElem_mem hk) h2
  · rw [h1]
    rcases Nat.lt_trichotomy j k with e | e | e
    · exact absurd h2 (h3 j hj e)
    · rw [e]
    · exact absurd h (h4 k hk e)

theorem placeL_range (l : List Int) (n : Int) : -1 ≤ placeL l n ∧ placeL l n < l.length := by
  rcases placeL_cases l n with ⟨h1, h2⟩ | ⟨j, hj, h1, h2, h4⟩ <;> omega

set_option maxHeartbeats 1000000 in
theorem index_any {l : List Int} {v : Value} {n : Int} {w : World} (h : Ints w v l) :
    Calls Try.prog 44 #[v, .int .i64 n] w fun e w' => e = .returned (.int .i64 (placeL l n)) ∧ w' = w := by
  obtain ⟨a, ca, rfl, hla, hca⟩ := h.form
  unfold maxLen at hca
  go_enter Try.func44, Try.ntmps44
  go_wp2
  go_loop [5, 8] (fun _ i => ∃ k : Nat, k ≤ l.length ∧ i = .int .i64 k ∧ Hid (∀ j (hj : j < l.length), j < k → l[j] ≠ n)) (fun _ i => l.length - (intOf i).toNat)
  case atStart => exact ⟨0, by omega, rfl, hide (fun j hj h => by omega)⟩
  case round =>
    obtain ⟨k, hk, rfl, hc⟩ := hrel
    by_cases hkl : k < l.length
    · obtain ⟨bl, ol, rfl, hcl⟩ := h.at hkl
      clear h
      by_cases hn : l[k] = n
      · have HP := hide (placeL_at hkl hn (unhide hc))
        have hn1 : (n == l[k]) = true := by simp [hn]
        clear hn hc
        go_wp2
        go_ret
        exact ⟨ret_int (unhide HP).symm, rfl⟩
      · have Hc : Hid (∀ j (hj : j < l.length), j < k + 1 → l[j] ≠ n) := hide (fun j hj hjk => by
          rcases Nat.lt_or_ge j k with e | e
          · exact unhide hc j hj e
          · have : j = k := by omega
            subst this; exact hn)
        have hn1 : (n == l[k]) = false := by simp; exact fun e => hn e.symm
        clear hn hc
        go_wp2
        go_round
        case rel => exact ⟨k + 1, by omega, by go_num, Hc⟩
        case measure => simp [intOf]; omega
    · have HP := hide (placeL_none (l := l) (n := n) (fun hm => by
        obtain ⟨i, hi, e⟩ := List.getElem_of_mem hm
        exact unhide hc i hi (by omega) e))
      clear h hc
      go_wp2
      go_ret
      exact ⟨ret_int (unhide HP).symm, rfl⟩

/-- Are both the same? -/
def sameL (a b : List Int) : Bool := decide (a = b)
theorem sameL_iff {a b : List Int} : sameL a b = true ↔ a = b := by simp [sameL]
theorem sameL_len {a b : List Int} (h : a.length ≠ b.length) : sameL a b = false := by
  simp only [sameL, decide_eq_false_iff_not]; exact fun e => h (by rw [e])
theorem sameL_at {a b : List Int} {k : Nat} (hk : k < a.length) (hk' : k < b.length) (h : a[k] ≠ b[k]) : sameL a b = false := by
  simp only [sameL, decide_eq_false_iff_not]; intro e; subst e; exact h rfl
theorem sameL_all {a b : List Int} (hl : a.length = b.length) (h : ∀ i (h : i < a.length) (h' : i < b.length), a[i] = b[i]) : sameL a b = true := by
  simp only [sameL, decide_eq_true_eq]; exact List.ext_getElem hl h

end Go.Proofs.Ytflibcfecnhjgaa
