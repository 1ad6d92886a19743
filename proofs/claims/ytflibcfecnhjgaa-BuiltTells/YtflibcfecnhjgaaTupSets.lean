/-
  The contracts of Rising, Unite, Meet, Without, Within: the program's.
-/
import Derived.Test.YtflibcfecnhjgaaApp
import Derived.Test.YtflibcfecnhjgaaSets
namespace Go.Proofs.Ytflibcfecnhjgaa
open Go.RowKit
set_option linter.unusedVariables false
set_option linter.unusedSimpArgs false

set_option maxHeartbeats 1000000 in
theorem rising_any {l : List Int} {v : Value} {w : World} (h : Ints w v l) :
    Calls Try.prog 22 #[v] w fun e w' => e = .returned (.bool (risB l)) ∧ ∃ n, w' = w.drewN n := by
  obtain ⟨a, ca, rfl, hla, hca⟩ := h.form
  unfold maxLen at hca
  obtain ⟨c, hc⟩ : ∃ c, c = risB l := ⟨_, rfl⟩
  rw [← hc]
  go_enter Try.func22, Try.ntmps22
  go_wp2
  go_loopw [3] (fun i wr => ∃ k n : Nat, k ≤ l.length ∧ i = .int .i64 (k + 1) ∧ wr = w.drewN n ∧ Hid (c = risB (l.drop k))) (fun i _ => l.length + 1 - (intOf i).toNat)
  case atStart => exact ⟨0, 0, by omega, rfl, rfl, hc⟩
  case round =>
    clear hc
    obtain ⟨k, n, hk1, rfl, rfl, hc⟩ := hrel
    have hc' := hc.out
    clear hc
    by_cases hk : k + 1 < l.length
    · have hk0 : k < l.length := by omega
      obtain ⟨ba, oa, rfl, hca⟩ := h.at hk
      obtain ⟨b2, o2, e2, hca2⟩ := h.at hk0
      cases e2
      clear h
      rw [risB_step hk] at hc'
      by_cases hlt : l[k] < l[k + 1]
      · have Hc : Hid (c = risB (l.drop (k + 1))) := hide (by simpa [hlt] using hc')
        clear hc'
        go_wp2
        go_quiet (fail)
        go_wp2
        go_roundw
        case rel => exact ⟨k + 1, _, by omega, by go_num, rfl, Hc⟩
        case measure => simp [intOf]; omega
      · have Hc : Hid (c = false) := hide (by simpa [hlt] using hc')
        clear hc'
        go_wp2
        go_quiet (fail)
        go_wp2
        go_ret
        exact ⟨ret_bool Hc.out.symm, by simp only [World.drewN_drewN]; exact ⟨_, rfl⟩⟩
    · rw [risB_end (by omega)] at hc'
      have Hc : Hid (c = true) := hc'
      clear hc' h
      go_wp2
      go_ret
      exact ⟨ret_bool Hc.out.symm, _, rfl⟩

end Go.Proofs.Ytflibcfecnhjgaa
