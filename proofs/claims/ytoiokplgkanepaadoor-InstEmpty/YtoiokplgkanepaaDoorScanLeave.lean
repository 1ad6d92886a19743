/-
  The contract of leaveOut.
-/
import Derived.Test.YtoiokplgkanepaaDoorScanRun
namespace Go.Proofs.YtoiokplgkanepaaDoor
open Go.RowKit
set_option linter.unusedVariables false
set_option linter.unusedSimpArgs false
set_option maxRecDepth 20000

set_option maxHeartbeats 1000000 in
theorem leaveOut_any (s : ByteArray) (k : Nat) (w : World) (hk : k ≤ s.size) (hs : s.size ≤ 1000000) :
    Calls Tryd.prog 31 #[.string s, .int .i64 (k : Int)] w fun e w' => e = .returned (.int .i64 ((k + skipN false ((lb s).drop k) : Nat) : Int)) ∧ w' = w := by
  obtain ⟨R, hR⟩ : ∃ R, R = k + skipN false ((lb s).drop k) := ⟨_, rfl⟩
  rw [← hR]
  go_enter Tryd.func31, Tryd.ntmps31
  go_wp2
  go_loop [1, 5] (fun i _ => ∃ j : Nat, j ≤ s.size ∧ i = .int .i64 j ∧ Hid (R = j + skipN false ((lb s).drop j))) (fun i _ => s.size - (intOf i).toNat)
  case atStart => exact ⟨k, hk, rfl, hide hR⟩
  case round =>
    clear hR
    obtain ⟨j, hj, rfl, HR⟩ := hrel
    have hR := HR.out
    clear HR hk
    rw [skip_blank] at hR
    have hst := blank_stop ((lb s).drop j)
    have hle := run_le blankB ((lb s).drop j)
    have HC := hide (run_any isBlank_any tells_blank s j w hj hs)
    rw [List.drop_drop] at hR hst
    obtain ⟨m, hm⟩ : ∃ m, m = j + runN blankB ((lb s).drop j) := ⟨_, rfl⟩
    rw [← hm] at hR hst HC
    have hjm : j ≤ m := by omega
    have hja : m ≤ s.size := by simp only [List.length_drop, lb_len] at hle; omega
    have hR' : R = m + skipN false ((lb s).drop m) := by omega
    clear hle hR hm
    by_cases hlt : m < s.size
    · rw [lb_drop s _ hlt] at hst
      have hb := hst _ _ rfl
      by_cases h35 : s[m].toNat = 35
      · have hR2 := hR'
        rw [lb_drop s _ hlt, skip_hash h35, skip_note, ← lb_drop s _ hlt, List.drop_drop] at hR2
        have HD := hide (run_any isNoLineEnd_any tells_noEnd s m w hja hs)
        have hpos : 0 < runN noEndB ((lb s).drop m) := by rw [lb_drop s _ hlt, run_cons, if_pos (by unfold noEndB; rw [h35]; rfl)]; omega
        have hle := run_le noEndB ((lb s).drop m)
        simp only [List.length_drop, lb_len] at hle
        have h35' : ((s[m].toNat : Int) == 35) = true := by simp [h35]
        obtain ⟨q, hq⟩ : ∃ q, q = m + runN noEndB ((lb s).drop m) := ⟨_, rfl⟩
        rw [← hq] at HD hR2
        have HR : Hid (R = q + skipN false ((lb s).drop q)) := hide (by omega)
        have hmq : m < q := by omega
        have hqs : q ≤ s.size := by omega
        have hne : ((q : Int) == (j : Int)) = false := by simp; omega
        clear hR' hR2 hst hb h35 hq hpos hle
        go_wp2_with fail
        refine (unhide HC).mono ?_
        rintro e w' ⟨rfl, rfl⟩
        go_wp2_with fail
        refine (unhide HD).mono ?_
        rintro e w' ⟨rfl, rfl⟩
        go_wp2
        go_round
        case rel => exact ⟨q, by omega, by go_num, HR⟩
        case measure => simp [intOf]; omega
      · have h35' : ((s[m].toNat : Int) == 35) = false := by simp; omega
        have HR : Hid (R = m + skipN false ((lb s).drop m)) := hide hR'
        have HR2 : Hid (R = m) := hide (by rw [hR', lb_drop s _ hlt, skip_stop hb h35]; rfl)
        clear hR' hst hb h35
        by_cases h0 : m = j
        · subst h0
          go_wp2_with (go_at_call 54; refine (unhide HC).mono ?_; rintro e w' ⟨rfl, rfl⟩)
          go_ret
          exact ⟨ret_int (by rw [HR2.out]), rfl⟩
        · have hne : ((m : Int) == (j : Int)) = false := by simp; omega
          go_wp2_with (go_at_call 54; refine (unhide HC).mono ?_; rintro e w' ⟨rfl, rfl⟩)
          go_round
          case rel => exact ⟨m, by omega, by go_num, HR⟩
          case measure => simp [intOf]; omega
    · have HR : Hid (R = m + skipN false ((lb s).drop m)) := hide hR'
      have HR2 : Hid (R = m) := hide (by rw [hR', lb_end s _ (by omega)]; rfl)
      clear hR' hst
      by_cases h0 : m = j
      · subst h0
        go_wp2_with (go_at_call 54; refine (unhide HC).mono ?_; rintro e w' ⟨rfl, rfl⟩)
        go_ret
        exact ⟨ret_int (by rw [HR2.out]), rfl⟩
      · have hne : ((m : Int) == (j : Int)) = false := by simp; omega
        go_wp2_with (go_at_call 54; refine (unhide HC).mono ?_; rintro e w' ⟨rfl, rfl⟩)
        go_round
        case rel => exact ⟨m, by omega, by go_num, HR⟩
        case measure => simp [intOf]; omega

end Go.Proofs.YtoiokplgkanepaaDoor
