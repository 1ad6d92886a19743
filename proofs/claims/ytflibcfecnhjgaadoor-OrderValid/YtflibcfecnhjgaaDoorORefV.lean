/-
  The contract of the document's Valid.
-/
import Derived.Test.YtflibcfecnhjgaaDoorOValid
namespace Go.Proofs.YtflibcfecnhjgaaDoor
open Go.RowKit
set_option linter.unusedVariables false
set_option linter.unusedSimpArgs false
set_option maxRecDepth 20000

/-- How many of l are points ahead of k. -/
def headN (l : List Int) (k : Nat) : Nat := l.countP fun x => decide (0 ≤ x ∧ x < (k : Int))
theorem headN_zero (l : List Int) : headN l 0 = 0 := by
  unfold headN
  rw [List.countP_eq_zero]
  intro x _
  simp
theorem headN_succ (l : List Int) (k : Nat) : headN l (k + 1) = headN l k + l.count (k : Int) := by
  unfold headN
  induction l with
  | nil => rfl
  | cons x r ih =>
    rw [List.countP_cons, List.countP_cons, List.count_cons, ih]
    have e : (if decide (0 ≤ x ∧ x < ((k + 1 : Nat) : Int)) = true then 1 else 0) = (if decide (0 ≤ x ∧ x < (k : Int)) = true then 1 else 0) + (if (x == (k : Int)) = true then 1 else 0) := by
      simp only [decide_eq_true_eq, beq_iff_eq]
      split <;> split <;> split <;> omega
    omega

theorem headN_ones {l : List Int} {k : Nat} (h : ∀ j : Nat, j < k → l.count (j : Int) = 1) : headN l k = k := by
  induction k with
  | zero => exact headN_zero l
  | succ k ih => rw [headN_succ, ih (fun j hj => h j (by omega)), h k (by omega)]

theorem headN_few {l : List Int} (hnd : ∀ a, l.count a ≤ 1) (k : Nat) : headN l k ≤ k ∧ ((∃ j : Nat, j < k ∧ l.count (j : Int) ≠ 1) → headN l k < k) := by
  induction k with
  | zero => exact ⟨by rw [headN_zero]; omega, fun ⟨j, hj, _⟩ => by omega⟩
  | succ k ih =>
    have h1 := hnd (k : Int)
    rw [headN_succ]
    refine ⟨by omega, fun ⟨j, hj, h2⟩ => ?_⟩
    by_cases hjk : j < k
    · have := ih.2 ⟨j, hjk, h2⟩
      omega
    · obtain rfl : j = k := by omega
      omega

/-- An order has each point just once. -/
theorem ord_counts {l : List Int} : ordB (l.length : Int) l = true ↔ ∀ j : Nat, j < l.length → l.count (j : Int) = 1 := by
  rw [ordB_iff]
  constructor
  · rintro ⟨_, h1, h2⟩ j hj
    have hc : ∀ a, l.count a ≤ 1 := fun a => List.nodup_iff_count.1 h2 a
    have hall : headN l l.length = l.length := by
      unfold headN
      rw [List.countP_eq_length]
      intro x hx
      simpa using h1 x hx
    by_cases h3 : l.count (j : Int) = 1
    · exact h3
    · have := (headN_few hc l.length).2 ⟨j, hj, h3⟩
      omega
  · intro h
    have hs := headN_ones h
    have hall : ∀ x ∈ l, 0 ≤ x ∧ x < (l.length : Int) := by
      unfold headN at hs
      rw [List.countP_eq_length] at hs
      intro x hx
      simpa using hs x hx
    refine ⟨rfl, hall, List.nodup_iff_count.2 fun a => ?_⟩
    by_cases ha : a ∈ l
    · have h1 := hall a ha
      have h2 := h a.toNat (by omega)
      have e : ((a.toNat : Nat) : Int) = a := by omega
      rw [e] at h2
      omega
    · rw [List.count_eq_zero.2 ha]; omega

theorem count_take {l : List Int} {m : Nat} (hm : m < l.length) (a : Int) : (l.take (m + 1)).count a = if l[m] = a then (l.take m).count a + 1 else (l.take m).count a := by
  rw [List.take_succ_eq_append_getElem hm, List.count_append, List.count_singleton]
  simp only [beq_iff_eq]
  split <;> omega

set_option maxHeartbeats 4000000 in
theorem refValid_any {n : Int} {l : List Int} {v : Value} {w : World} (hl : Ints w v l) (hlen : l.length < 100000000000) :
    Calls Tryd.prog 23 #[.int .i64 n, v] w fun e w' => e = .returned (.bool (ordB n l)) ∧ Below w.heap.size w w' := by
  obtain ⟨a, c, rfl, hla, hca⟩ := hl.form
  unfold maxLen at hca
  have HL := hide hl
  clear hl
  by_cases hn : (l.length : Int) = n
  · subst hn
    go_enter Tryd.func23, Tryd.ntmps23
    go_wp2
    go_loop [5] (fun i => ∃ k : Nat, k ≤ l.length ∧ i = .int .i64 k ∧ Hid (∀ j : Nat, j < k → l.count (j : Int) = 1)) (fun i => l.length - (intOf i).toNat)
    case atStart => exact ⟨0, by omega, rfl, hide (fun j hj => by omega)⟩
    case round =>
      obtain ⟨k, hk, rfl, HK⟩ := hrel
      by_cases hkl : k < l.length
      · go_wp2
        go_loop [6, 7] (fun t i => ∃ m : Nat, m ≤ l.length ∧ i = .int .i64 m ∧ t = .int .i64 ((l.take m).count (k : Int) : Nat)) (fun _ i => l.length - (intOf i).toNat)
        case atStart => exact ⟨0, by omega, rfl, by simp⟩
        case round =>
          obtain ⟨m, hm, rfl, rfl⟩ := hrel
          by_cases hml : m < l.length
          · obtain ⟨bl, ol, e1, q1⟩ := (unhide HL).at hml
            subst e1
            have hct := count_take hml (k : Int)
            have hle : (l.take m).count (k : Int) ≤ m := Nat.le_trans List.count_le_length (by rw [List.length_take]; omega)
            obtain ⟨C, hC⟩ : ∃ C, C = (l.take m).count (k : Int) := ⟨_, rfl⟩
            obtain ⟨C', hC'⟩ : ∃ C, C = (l.take (m + 1)).count (k : Int) := ⟨_, rfl⟩
            rw [← hC, ← hC'] at hct
            rw [← hC] at hle ⊢
            have HC' := hide hC'
            generalize l[m] = x at *
            clear hC hC'
            by_cases hx : x = (k : Int)
            · rw [if_pos hx] at hct
              subst hx
              have HCT := hide hct
              clear hct
              go_wp2
              go_round
              case rel => exact ⟨m + 1, by omega, by go_num, by rw [← unhide HC', unhide HCT]; go_num⟩
              case measure => simp [intOf]; omega
            · rw [if_neg hx] at hct
              have hne : (x == (k : Int)) = false := by simpa using hx
              have HCT := hide hct
              clear hct
              go_wp2
              go_round
              case rel => exact ⟨m + 1, by omega, by go_num, by rw [← unhide HC', unhide HCT]⟩
              case measure => simp [intOf]; omega
          · have e : l.take m = l := List.take_of_length_le (by omega)
            rw [e]
            by_cases h1 : l.count (k : Int) = 1
            · have HK2 := hide (show ∀ j : Nat, j < k + 1 → l.count (j : Int) = 1 from fun j hj => by
                rcases Nat.lt_or_ge j k with h2 | h2
                · exact unhide HK j h2
                · obtain rfl : j = k := by omega
                  exact h1)
              rw [h1]
              clear h1
              go_wp2
              go_round
              case rel => exact ⟨k + 1, by omega, by go_num, HK2⟩
              case measure => simp [intOf]; omega
            · have HF := hide (show ordB (l.length : Int) l = false from by
                rw [Bool.eq_false_iff]
                intro h
                exact h1 (ord_counts.1 h k hkl))
              have hne : (((l.count (k : Int) : Nat) : Int) != 1) = true := by simp; omega
              go_wp2
              go_ret
              exact ⟨by rw [unhide HF]; rfl, Below.refl _ _⟩
      · obtain rfl : k = l.length := by omega
        have HV := hide (ord_counts.2 (unhide HK))
        go_wp2
        go_ret
        exact ⟨by rw [unhide HV]; rfl, Below.refl _ _⟩
  · have hv : ordB n l = false := by
      rw [Bool.eq_false_iff]
      intro h
      exact hn (ordB_iff.1 h).1
    rw [hv]
    have hne : ((l.length : Int) == n) = false := by simpa using hn
    go_enter Tryd.func23, Tryd.ntmps23
    go_wp2
    go_ret
    exact ⟨rfl, Below.refl _ _⟩

end Go.Proofs.YtflibcfecnhjgaaDoor
