/-
  The contracts of the document's answers: In, Meet, Without, Unite, Within, Rising; and of rise.
-/
import Derived.Test.YtflibcfecnhjgaaDoorApp
import Derived.Test.YtflibcfecnhjgaaDoorSets
namespace Go.Proofs.YtflibcfecnhjgaaDoor
open Go.RowKit
set_option linter.unusedVariables false
set_option linter.unusedSimpArgs false
set_option maxRecDepth 20000

set_option maxHeartbeats 1000000 in
theorem refIn_any {l : List Int} (x : Int) {v : Value} {w : World} (h : Ints w v l) :
    Calls Tryd.prog 61 #[v, .int .i64 x] w fun e w' => e = .returned (.bool (decide (x ∈ l))) ∧ w' = w := by
  obtain ⟨a, ca, rfl, hla, hca⟩ := h.form
  unfold maxLen at hca
  obtain ⟨c, hc⟩ : ∃ c, c = decide (x ∈ l) := ⟨_, rfl⟩
  rw [← hc]
  go_enter Tryd.func61, Tryd.ntmps61
  go_wp2
  go_loop [5] (fun i => ∃ k : Nat, k ≤ l.length ∧ i = .int .i64 k ∧ Hid (c = decide (x ∈ l.drop k))) (fun i => l.length - (intOf i).toNat)
  case atStart => exact ⟨0, by omega, rfl, hc⟩
  case round =>
    clear hc
    obtain ⟨k, hk1, rfl, hc⟩ := hrel
    have hc' := hc.out
    clear hc
    by_cases hk : k < l.length
    · obtain ⟨ba, oa, rfl, hca⟩ := h.at hk
      clear h
      rw [List.drop_eq_getElem_cons hk] at hc'
      by_cases hx : l[k] = x
      · have Hc : Hid (c = true) := hide (by simpa [hx] using hc')
        clear hc'
        have hx' : (l[k] == x) = true := by simp [hx]
        clear hx
        go_wp2
        go_ret
        exact ⟨ret_bool Hc.out.symm, rfl⟩
      · have Hc : Hid (c = decide (x ∈ l.drop (k + 1))) := hide (by rw [hc']; simp only [List.mem_cons, show ¬ x = l[k] from fun e => hx e.symm, false_or])
        clear hc'
        have hx' : (l[k] == x) = false := by simp [hx]
        go_wp2
        go_round
        case rel => exact ⟨k + 1, by omega, by go_num, Hc⟩
        case measure => simp [intOf]; omega
    · rw [List.drop_eq_nil_of_le (by omega)] at hc'
      have Hc : Hid (c = false) := hide (by simpa using hc')
      clear hc' h
      go_wp2
      go_ret
      exact ⟨ret_bool Hc.out.symm, rfl⟩

theorem meetL_snoc {a b : List Int} {k : Nat} (hk : k < a.length) : meetL (a.take (k + 1)) b = meetL (a.take k) b ++ if a[k] ∈ b then [a[k]] else [] := by
  rw [List.take_succ_eq_append_getElem hk]
  unfold meetL
  rw [List.filter_append]
  by_cases h : a[k] ∈ b <;> simp [h]

theorem lessL_snoc {a b : List Int} {k : Nat} (hk : k < a.length) : lessL (a.take (k + 1)) b = lessL (a.take k) b ++ if a[k] ∈ b then [] else [a[k]] := by
  rw [List.take_succ_eq_append_getElem hk]
  unfold lessL
  rw [List.filter_append]
  by_cases h : a[k] ∈ b <;> simp [h]

theorem meetL_le (a b : List Int) : (meetL a b).length ≤ a.length := List.length_filter_le _ _
theorem lessL_le (a b : List Int) : (lessL a b).length ≤ a.length := List.length_filter_le _ _

set_option maxHeartbeats 1000000 in
theorem refRising_any {l : List Int} {v : Value} {w : World} (h : Ints w v l) :
    Calls Tryd.prog 34 #[v] w fun e w' => e = .returned (.bool (risB l)) ∧ ∃ n, w' = w.drewN n := by
  obtain ⟨a, ca, rfl, hla, hca⟩ := h.form
  unfold maxLen at hca
  obtain ⟨c, hc⟩ : ∃ c, c = risB l := ⟨_, rfl⟩
  rw [← hc]
  go_enter Tryd.func34, Tryd.ntmps34
  go_wp2
  go_loopw [3] (fun i wr => ∃ k n : Nat, k ≤ l.length ∧ i = .int .i64 (k + 1) ∧ wr = w.drewN n ∧ Hid (c = risB (l.drop k))) (fun i _ => l.length + 1 - (intOf i).toNat)
  case atStart => exact ⟨0, 0, by omega, rfl, rfl, hc⟩
  case round =>
    clear hc
    obtain ⟨k, n, hk1, rfl, rfl, hc⟩ := hrel
    have hc' := hc.out
    clear hc
    by_cases hk : k + 1 < l.length
    · have hk0 : k < l.length := by omega
      obtain ⟨ba, oa, rfl, hca⟩ := h.at hk
      obtain ⟨b2, o2, e2, hca2⟩ := h.at hk0
      cases e2
      clear h
      rw [risB_step hk] at hc'
      by_cases hlt : l[k] < l[k + 1]
      · have Hc : Hid (c = risB (l.drop (k + 1))) := hide (by simpa [hlt] using hc')
        clear hc'
        go_wp2
        go_quiet (fail)
        go_wp2
        go_roundw
        case rel => exact ⟨k + 1, _, by omega, by go_num, rfl, Hc⟩
        case measure => simp [intOf]; omega
      · have Hc : Hid (c = false) := hide (by simpa [hlt] using hc')
        clear hc'
        go_wp2
        go_quiet (fail)
        go_wp2
        go_ret
        exact ⟨ret_bool Hc.out.symm, by simp only [World.drewN_drewN]; exact ⟨_, rfl⟩⟩
    · rw [risB_end (by omega)] at hc'
      have Hc : Hid (c = true) := hc'
      clear hc' h
      go_wp2
      go_ret
      exact ⟨ret_bool Hc.out.symm, _, rfl⟩

theorem joinM_lt {a b : List Int} {i k : Nat} (hi : i < a.length) (hk : k < b.length) (h : a[i] < b[k]) : List.merge (a.drop i) (b.drop k) (fun x y => decide (x < y)) = a[i] :: List.merge (a.drop (i + 1)) (b.drop k) (fun x y => decide (x < y)) := by
  rw [List.drop_eq_getElem_cons hi, List.drop_eq_getElem_cons hk, List.cons_merge_cons, if_pos (by simpa using h)]
theorem joinM_ge {a b : List Int} {i k : Nat} (hi : i < a.length) (hk : k < b.length) (h : ¬ a[i] < b[k]) : List.merge (a.drop i) (b.drop k) (fun x y => decide (x < y)) = b[k] :: List.merge (a.drop i) (b.drop (k + 1)) (fun x y => decide (x < y)) := by
  rw [List.drop_eq_getElem_cons hi, List.drop_eq_getElem_cons hk, List.cons_merge_cons, if_neg (by simpa using h)]
theorem joinM_left {a b : List Int} {i k : Nat} (hi : i < a.length) (hk : b.length ≤ k) : List.merge (a.drop i) (b.drop k) (fun x y => decide (x < y)) = a[i] :: List.merge (a.drop (i + 1)) (b.drop k) (fun x y => decide (x < y)) := by
  rw [List.drop_eq_getElem_cons hi, List.drop_eq_nil_of_le hk]; simp
theorem joinM_right {a b : List Int} {i k : Nat} (hi : a.length ≤ i) (hk : k < b.length) : List.merge (a.drop i) (b.drop k) (fun x y => decide (x < y)) = b[k] :: List.merge (a.drop i) (b.drop (k + 1)) (fun x y => decide (x < y)) := by
  rw [List.drop_eq_getElem_cons hk, List.drop_eq_nil_of_le hi]; simp
theorem joinM_end {a b : List Int} {i k : Nat} (hi : a.length ≤ i) (hk : b.length ≤ k) : List.merge (a.drop i) (b.drop k) (fun x y => decide (x < y)) = [] := by
  rw [List.drop_eq_nil_of_le hi, List.drop_eq_nil_of_le hk]; simp

end Go.Proofs.YtflibcfecnhjgaaDoor
