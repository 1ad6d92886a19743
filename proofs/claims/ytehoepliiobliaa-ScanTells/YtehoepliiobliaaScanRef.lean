/-
  The contracts of the document's own answers: letter, digit, skip, number.
-/
import Derived.Test.YtehoepliiobliaaScanBox
namespace Go.Proofs.Ytehoepliiobliaa
open Go.RowKit
set_option linter.unusedVariables false
set_option linter.unusedSimpArgs false
set_option maxRecDepth 20000

def headB (p : UInt8 → Bool) : Bytes → Bool
  | [] => false
  | c :: _ => p c

set_option maxHeartbeats 1000000 in
theorem refLetter_any (s : ByteArray) (k : Nat) (w : World) (hs : s.size ≤ 1000000) :
    Calls Try.prog 16 #[.string s, .int .i64 (k : Int)] w fun e w' => e = .returned (.bool (headB letterB ((lb s).drop k))) ∧ w' = w := by
  obtain ⟨q, hq⟩ : ∃ q, q = headB letterB ((lb s).drop k) := ⟨_, rfl⟩
  rw [← hq]
  by_cases hlt : k < s.size
  · rw [lb_drop s k hlt] at hq
    have hq2 : q = (decide (97 ≤ (s[k].toNat : Int)) && decide ((s[k].toNat : Int) ≤ 122)) := by rw [hq]; unfold headB letterB; rw [Bool.eq_iff_iff]; simp; omega
    have HQ := hide hq2
    clear hq hq2
    go_enter Try.func16, Try.ntmps16
    go_wp2
    all_goals
      go_ret
      refine ⟨ret_bool ?_, rfl⟩
      rw [unhide HQ, Bool.eq_iff_iff]
      simp
      try omega
  · rw [lb_end s k (by omega)] at hq
    have HQ := hide hq
    clear hq
    go_enter Try.func16, Try.ntmps16
    go_wp2
    go_ret
    exact ⟨ret_bool (by rw [unhide HQ]; rfl), rfl⟩

set_option maxHeartbeats 1000000 in
theorem refDigit_any (s : ByteArray) (k : Nat) (w : World) (hs : s.size ≤ 1000000) :
    Calls Try.prog 17 #[.string s, .int .i64 (k : Int)] w fun e w' => e = .returned (.bool (headB digitB ((lb s).drop k))) ∧ w' = w := by
  obtain ⟨q, hq⟩ : ∃ q, q = headB digitB ((lb s).drop k) := ⟨_, rfl⟩
  rw [← hq]
  by_cases hlt : k < s.size
  · rw [lb_drop s k hlt] at hq
    have hq2 : q = (decide (48 ≤ (s[k].toNat : Int)) && decide ((s[k].toNat : Int) ≤ 57)) := by rw [hq]; unfold headB digitB; rw [Bool.eq_iff_iff]; simp; omega
    have HQ := hide hq2
    clear hq hq2
    go_enter Try.func17, Try.ntmps17
    go_wp2
    all_goals
      go_ret
      refine ⟨ret_bool ?_, rfl⟩
      rw [unhide HQ, Bool.eq_iff_iff]
      simp
      try omega
  · rw [lb_end s k (by omega)] at hq
    have HQ := hide hq
    clear hq
    go_enter Try.func17, Try.ntmps17
    go_wp2
    go_ret
    exact ⟨ret_bool (by rw [unhide HQ]; rfl), rfl⟩

theorem skip_cons (note : Bool) (c : UInt8) (r : Bytes) : skipN note (c :: r) = if c.toNat = 10 then skipN false r + 1 else if c.toNat = 35 then skipN true r + 1 else if c.toNat ≠ 32 ∧ c.toNat ≠ 9 ∧ note = false then 0 else skipN note r + 1 := rfl

set_option maxHeartbeats 2000000 in
theorem refSkip_any (s : ByteArray) (k : Nat) (w : World) (hk : k ≤ s.size) (hs : s.size ≤ 1000000) :
    Calls Try.prog 15 #[.string s, .int .i64 (k : Int)] w fun e w' => e = .returned (.int .i64 ((k + skipN false ((lb s).drop k) : Nat) : Int)) ∧ w' = w := by
  obtain ⟨R, hR⟩ : ∃ R, R = k + skipN false ((lb s).drop k) := ⟨_, rfl⟩
  rw [← hR]
  go_enter Try.func15, Try.ntmps15
  go_wp2
  go_loop [1, 5, 6] (fun i nv _ => ∃ (j : Nat) (note : Bool), j ≤ s.size ∧ i = .int .i64 j ∧ nv = .bool note ∧ Hid (R = j + skipN note ((lb s).drop j))) (fun i _ _ => s.size - (intOf i).toNat)
  case atStart => exact ⟨k, false, hk, rfl, rfl, hide hR⟩
  case round =>
    clear hR
    obtain ⟨j, note, hj, rfl, rfl, HR⟩ := hrel
    by_cases hlt : j < s.size
    · have hR := HR.out
      clear HR
      rw [lb_drop s j hlt, skip_cons] at hR
      by_cases h10 : s[j].toNat = 10
      · have t10 : ((s[j].toNat : Int) == 10) = true := by simp [h10]
        rw [if_pos h10] at hR
        have HR : Hid (R = (j + 1) + skipN false ((lb s).drop (j + 1))) := hide (by omega)
        clear hR h10
        go_wp2
        go_round
        case rel => exact ⟨j + 1, false, by omega, by go_num, rfl, HR⟩
        case measure => simp [intOf]; omega
      · have t10 : ((s[j].toNat : Int) == 10) = false := by simp; omega
        rw [if_neg h10] at hR
        by_cases h35 : s[j].toNat = 35
        · have t35 : ((s[j].toNat : Int) == 35) = true := by simp [h35]
          rw [if_pos h35] at hR
          have HR : Hid (R = (j + 1) + skipN true ((lb s).drop (j + 1))) := hide (by omega)
          clear hR h35 h10
          go_wp2
          go_round
          case rel => exact ⟨j + 1, true, by omega, by go_num, rfl, HR⟩
          case measure => simp [intOf]; omega
        · have t35 : ((s[j].toNat : Int) == 35) = false := by simp; omega
          rw [if_neg h35] at hR
          by_cases hst : s[j].toNat ≠ 32 ∧ s[j].toNat ≠ 9 ∧ note = false
          · rw [if_pos hst] at hR
            have HR : Hid (R = j) := hide (by omega)
            obtain ⟨h32, h9, rfl⟩ := hst
            have t32 : ((s[j].toNat : Int) != 32) = true := by simp; omega
            have t9 : ((s[j].toNat : Int) != 9) = true := by simp; omega
            clear hR h35 h10 h32 h9
            go_wp2
            go_ret
            exact ⟨ret_int (by rw [HR.out]), rfl⟩
          · rw [if_neg hst] at hR
            have HR : Hid (R = (j + 1) + skipN note ((lb s).drop (j + 1))) := hide (by omega)
            by_cases h32 : s[j].toNat = 32
            · have t32 : ((s[j].toNat : Int) != 32) = false := by simp [h32]
              clear hR h35 h10 h32 hst
              go_wp2
              go_round
              case rel => exact ⟨j + 1, note, by omega, by go_num, rfl, HR⟩
              case measure => simp [intOf]; omega
            · have t32 : ((s[j].toNat : Int) != 32) = true := by simp; omega
              by_cases h9 : s[j].toNat = 9
              · have t9 : ((s[j].toNat : Int) != 9) = false := by simp [h9]
                clear hR h35 h10 h32 hst h9
                go_wp2
                go_round
                case rel => exact ⟨j + 1, note, by omega, by go_num, rfl, HR⟩
                case measure => simp [intOf]; omega
              · have t9 : ((s[j].toNat : Int) != 9) = true := by simp; omega
                have hnt : note = true := by
                  cases note with
                  | true => rfl
                  | false => exact absurd ⟨h32, h9, rfl⟩ hst
                subst hnt
                clear hR h35 h10 h32 hst h9
                go_wp2
                go_round
                case rel => exact ⟨j + 1, true, by omega, by go_num, rfl, HR⟩
                case measure => simp [intOf]; omega
    · have hR := HR.out
      rw [lb_end s j (by omega)] at hR
      have HR : Hid (R = j) := hide (by simpa [skipN] using hR)
      clear hR
      go_wp2
      go_ret
      exact ⟨ret_int (by rw [HR.out]), rfl⟩

end Go.Proofs.Ytehoepliiobliaa
