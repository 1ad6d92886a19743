/-
  The contracts of Compare: the program's, and the document's.
-/
import Derived.Test.YtcglbopmfdilfaaDoorBase
import Derived.Test.YtcglbopmfdilfaaDoorLists
namespace Go.Proofs.YtcglbopmfdilfaaDoor
open Go.RowKit
set_option linter.unusedVariables false
set_option linter.unusedSimpArgs false

set_option maxHeartbeats 400000 in
theorem nan_any (x : Int) (w : World) :
    Calls Tryd.prog 86 #[.int .i64 x] w fun e w' => e = .returned (.bool false) ∧ w' = w := by
  go_enter Tryd.func86, Tryd.ntmps86
  go_wp2
  go_ret
  exact ⟨rfl, rfl⟩

set_option maxHeartbeats 1000000 in
theorem refCompare_any {la lb : List Int} {va vb : Value} {w : World} (ha : Ints w va la) (hb : Ints w vb lb) :
    Calls Tryd.prog 39 #[va, vb] w fun e w' => e = .returned (.int .i64 (cmpL la lb)) ∧ ∃ n, w' = w.drewN n := by
  obtain ⟨a, ca, rfl, hla, hca⟩ := ha.form
  obtain ⟨b, cb, rfl, hlb, hcb⟩ := hb.form
  unfold maxLen at hca hcb
  obtain ⟨c, hc⟩ : ∃ c, c = cmpL la lb := ⟨_, rfl⟩
  rw [← hc]
  go_enter Tryd.func39, Tryd.ntmps39
  go_wp2
  go_loopw [5] (fun i wr => ∃ k n : Nat, k ≤ la.length ∧ k ≤ lb.length ∧ i = .int .i64 k ∧ wr = w.drewN n ∧ Hid (c = cmpL (la.drop k) (lb.drop k))) (fun i _ => la.length - (intOf i).toNat)
  case atStart => exact ⟨0, 0, by omega, by omega, rfl, rfl, hc⟩
  case round =>
    clear hc
    obtain ⟨k, n, hk1, hk2, rfl, rfl, hc⟩ := hrel
    by_cases hk : k < la.length ∧ k < lb.length
    · obtain ⟨hka, hkb⟩ := hk
      obtain ⟨ba, oa, rfl, hca⟩ := ha.at hka
      obtain ⟨bb, ob, rfl, hcb⟩ := hb.at hkb
      clear ha hb
      have hc' := hc.out
      rw [cmpL_step hka hkb] at hc'
      clear hc
      rcases Int.lt_trichotomy la[k] lb[k] with h | h | h
      · rw [if_neg (by omega), show cmpI la[k] lb[k] = -1 by simp [cmpI, h]] at hc'
        have Hc := Hid.out (p := Hid (c = -1)) hc'
        clear hc'
        go_wp2
        go_quiet (fail)
        go_wp2
        go_ret
        exact ⟨ret_int Hc.out.symm, by simp only [World.drewN_drewN]; exact ⟨_, rfl⟩⟩
      · rw [if_pos h] at hc'
        have Hc := Hid.out (p := Hid (c = cmpL (la.drop (k + 1)) (lb.drop (k + 1)))) hc'
        clear hc'
        have h1 : ¬ la[k] < lb[k] := by omega
        have h2 : ¬ lb[k] < la[k] := by omega
        clear h
        go_wp2
        go_quiet (fail)
        go_wp2
        go_quiet (fail)
        go_wp2
        go_roundw
        case rel => exact ⟨k + 1, _, by omega, by omega, by go_num, rfl, Hc⟩
        case measure => simp [intOf]; omega
      · have h1 : ¬ la[k] < lb[k] := by omega
        rw [if_neg (by omega), show cmpI la[k] lb[k] = 1 by simp [cmpI, h, h1]] at hc'
        have Hc := Hid.out (p := Hid (c = 1)) hc'
        clear hc'
        go_wp2
        go_quiet (fail)
        go_wp2
        go_quiet (fail)
        go_wp2
        go_ret
        exact ⟨ret_int Hc.out.symm, by simp only [World.drewN_drewN]; exact ⟨_, rfl⟩⟩
    · have hc' := hc.out
      rw [cmpL_end hk1 hk2 (by omega)] at hc'
      clear hc ha hb
      rcases Nat.lt_trichotomy la.length lb.length with h | h | h
      · rw [show cmpI la.length lb.length = -1 by unfold cmpI; rw [if_pos (by omega)]] at hc'
        have Hc := Hid.out (p := Hid (c = -1)) hc'
        clear hc'
        have h1 : ¬ k < la.length := by omega
        go_wp2
        go_ret
        exact ⟨ret_int Hc.out.symm, _, rfl⟩
      · rw [show cmpI la.length lb.length = 0 by unfold cmpI; rw [if_neg (by omega), if_neg (by omega)]] at hc'
        have Hc := Hid.out (p := Hid (c = 0)) hc'
        clear hc'
        have h1 : ¬ k < la.length := by omega
        have h2 : ¬ la.length < lb.length := by omega
        have h3 : ¬ lb.length < la.length := by omega
        clear h
        go_wp2
        go_ret
        exact ⟨ret_int Hc.out.symm, _, rfl⟩
      · rw [show cmpI la.length lb.length = 1 by unfold cmpI; rw [if_neg (by omega), if_pos (by omega)]] at hc'
        have Hc := Hid.out (p := Hid (c = 1)) hc'
        clear hc'
        have h1 : ¬ k < lb.length := by omega
        have h2 : ¬ la.length < lb.length := by omega
        go_wp2
        all_goals go_ret
        all_goals exact ⟨ret_int Hc.out.symm, _, rfl⟩

end Go.Proofs.YtcglbopmfdilfaaDoor
