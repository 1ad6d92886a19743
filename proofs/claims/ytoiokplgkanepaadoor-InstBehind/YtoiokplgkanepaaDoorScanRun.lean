/-
  The contracts of the tests of one byte, of run, leaveOut, isWritten, value.
-/
import Derived.Test.YtoiokplgkanepaaDoorSBase
import Derived.Test.YtoiokplgkanepaaDoorScanMath
namespace Go.Proofs.YtoiokplgkanepaaDoor
open Go.RowKit
set_option linter.unusedVariables false
set_option linter.unusedSimpArgs false
set_option maxRecDepth 20000

/-- A byte, as the program has it. -/
abbrev byV (c : UInt8) : Value := .int .u8 (c.toNat : Int)
/-- The bytes of a string. -/
abbrev lb (s : ByteArray) : Bytes := s.data.toList
theorem lb_len (s : ByteArray) : (lb s).length = s.size := rfl
theorem lb_at (s : ByteArray) (k : Nat) (h : k < s.size) : (lb s)[k]'h = s[k] := rfl
theorem lb_drop (s : ByteArray) (k : Nat) (h : k < s.size) : (lb s).drop k = s[k] :: (lb s).drop (k + 1) := by
  rw [List.drop_eq_getElem_cons (by simpa using h)]; rfl
theorem lb_end (s : ByteArray) (k : Nat) (h : s.size ≤ k) : (lb s).drop k = [] := List.drop_eq_nil_of_le h
theorem lb_mk (l : Bytes) : lb ⟨l.toArray⟩ = l := rfl

/-- The function F tells a byte by p. -/
def Tells (F : FuncId) (p : UInt8 → Bool) : Prop := ∀ (c : UInt8) (w : World), Calls Tryd.prog F #[byV c] w fun e w' => e = .returned (.bool (p c)) ∧ w' = w

set_option maxHeartbeats 1000000 in
theorem isBlank_any : Tells 55 blankB := by
  intro c w
  have hq : blankB c = ((c.toNat : Int) == 32 || (c.toNat : Int) == 9 || (c.toNat : Int) == 10) := by unfold blankB; rw [Bool.eq_iff_iff]; simp; omega
  rw [hq, byV]
  generalize (c.toNat : Int) = n
  clear hq
  go_enter Tryd.func55, Tryd.ntmps55
  go_wp2
  all_goals
    go_ret
    exact ⟨ret_bool (by simp_all), rfl⟩

set_option maxHeartbeats 1000000 in
theorem isNoLineEnd_any : Tells 56 noEndB := by
  intro c w
  have hq : noEndB c = ((c.toNat : Int) != 10) := by unfold noEndB; rw [Bool.eq_iff_iff]; simp; omega
  rw [hq, byV]
  generalize (c.toNat : Int) = n
  clear hq
  go_enter Tryd.func56, Tryd.ntmps56
  go_wp2
  all_goals
    go_ret
    exact ⟨ret_bool (by simp_all), rfl⟩

set_option maxHeartbeats 1000000 in
theorem isLetter_any : Tells 57 letterB := by
  intro c w
  have hq : letterB c = (decide (97 ≤ (c.toNat : Int)) && decide ((c.toNat : Int) ≤ 122)) := by unfold letterB; rw [Bool.eq_iff_iff]; simp; omega
  rw [hq, byV]
  generalize (c.toNat : Int) = n
  clear hq
  go_enter Tryd.func57, Tryd.ntmps57
  go_wp2
  all_goals
    go_ret
    exact ⟨ret_bool (by simp_all <;> omega), rfl⟩

set_option maxHeartbeats 1000000 in
theorem isDigit_any : Tells 60 digitB := by
  intro c w
  have hq : digitB c = (decide (48 ≤ (c.toNat : Int)) && decide ((c.toNat : Int) ≤ 57)) := by unfold digitB; rw [Bool.eq_iff_iff]; simp; omega
  rw [hq, byV]
  generalize (c.toNat : Int) = n
  clear hq
  go_enter Tryd.func60, Tryd.ntmps60
  go_wp2
  all_goals
    go_ret
    exact ⟨ret_bool (by simp_all <;> omega), rfl⟩

set_option maxHeartbeats 1000000 in
theorem isSign_any : Tells 59 signB := by
  intro c w
  have hq : signB c = ((c.toNat : Int) == 58 || (c.toNat : Int) == 44 || (c.toNat : Int) == 59) := by unfold signB; rw [Bool.eq_iff_iff]; simp; omega
  rw [hq, byV]
  generalize (c.toNat : Int) = n
  clear hq
  go_enter Tryd.func59, Tryd.ntmps59
  go_wp2
  all_goals
    go_ret
    exact ⟨ret_bool (by simp_all), rfl⟩

theorem int_nat {a b : Nat} (h : a = b) : Value.int .i64 (a : Int) = .int .i64 (b : Int) := by rw [h]

set_option maxHeartbeats 1000000 in
theorem run_any {F : FuncId} {p : UInt8 → Bool} (hF : Tells F p) (hFf : ∃ fn c, Tryd.prog.funcs[F]? = some fn ∧ (fn.name == "runtime.NumGoroutine") = false ∧ fn.body = some c) (s : ByteArray) (k : Nat) (w : World) (hk : k ≤ s.size) (hs : s.size ≤ 1000000) :
    Calls Tryd.prog 54 #[.string s, .int .i64 (k : Int), .func (.func F) #[] #[]] w fun e w' => e = .returned (.int .i64 ((k + runN p ((lb s).drop k) : Nat) : Int)) ∧ w' = w := by
  obtain ⟨fn, c, hF1, hF2, hF3⟩ := hFf
  have HEN := enters (P := Tryd.prog) hF1 hF2 hF3
  have HF := hide hF
  obtain ⟨R, hR⟩ : ∃ R, R = k + runN p ((lb s).drop k) := ⟨_, rfl⟩
  rw [← hR]
  clear hF hF1 hF2 hF3
  go_enter Tryd.func54, Tryd.ntmps54
  go_wp2
  go_loop [1] (fun i => ∃ j : Nat, j ≤ s.size ∧ i = .int .i64 j ∧ Hid (R = j + runN p ((lb s).drop j))) (fun i => s.size - (intOf i).toNat)
  case atStart => exact ⟨k, hk, rfl, hide hR⟩
  case round =>
    clear hR
    obtain ⟨j, hj, rfl, HR⟩ := hrel
    by_cases hlt : j < s.size
    · have hR := HR.out
      rw [lb_drop s j hlt, run_cons] at hR
      have HC := hide (unhide HF s[j] w)
      clear HR
      by_cases hp : p s[j] = true
      · rw [if_pos hp] at hR
        rw [hp] at HC
        have HR : Hid (R = (j + 1) + runN p ((lb s).drop (j + 1))) := hide (by omega)
        clear hR hp
        go_wp2_with (refine (unhide HC).mono ?_; rintro e w' ⟨rfl, rfl⟩)
        go_round
        case rel => exact ⟨j + 1, by omega, by go_num, HR⟩
        case measure => simp [intOf]; omega
      · rw [if_neg hp] at hR
        rw [Bool.not_eq_true] at hp
        rw [hp] at HC
        have HR : Hid (R = j) := hide hR
        clear hR hp
        go_wp2_with (refine (unhide HC).mono ?_; rintro e w' ⟨rfl, rfl⟩)
        go_ret
        exact ⟨ret_int (by rw [HR.out]), rfl⟩
    · have hR := HR.out
      rw [lb_end s j (by omega)] at hR
      have HR : Hid (R = j) := hide hR
      clear hR
      go_wp2
      go_ret
      exact ⟨ret_int (by rw [HR.out]), rfl⟩

theorem skip_blank : ∀ l : Bytes, skipN false l = runN blankB l + skipN false (l.drop (runN blankB l))
  | [] => rfl
  | c :: r => by
    rw [run_cons]
    split
    · rename_i h
      have ih := skip_blank r
      have hc : c.toNat = 32 ∨ c.toNat = 9 ∨ c.toNat = 10 := by unfold blankB at h; simp at h; omega
      rw [List.drop_succ_cons]
      have : skipN false (c :: r) = skipN false r + 1 := by
        simp only [skipN]
        rcases hc with hc | hc | hc <;> simp [hc]
      omega
    · simp

theorem skip_note : ∀ l : Bytes, skipN true l = runN noEndB l + skipN false (l.drop (runN noEndB l))
  | [] => rfl
  | c :: r => by
    rw [run_cons]
    split
    · rename_i h
      have ih := skip_note r
      have hc : c.toNat ≠ 10 := by unfold noEndB at h; simpa using h
      rw [List.drop_succ_cons]
      have : skipN true (c :: r) = skipN true r + 1 := by simp [skipN, hc]
      omega
    · rename_i h
      have hc : c.toNat = 10 := by unfold noEndB at h; simpa using h
      simp [skipN, hc]

theorem skip_hash {c : UInt8} {r : Bytes} (h : c.toNat = 35) : skipN false (c :: r) = skipN true (c :: r) := by simp [skipN, h]

theorem skip_stop {c : UInt8} {r : Bytes} (h : blankB c = false) (h' : c.toNat ≠ 35) : skipN false (c :: r) = 0 := by
  unfold blankB at h
  simp at h
  simp [skipN, h', h]

theorem blank_stop (l : Bytes) : ∀ c r, l.drop (runN blankB l) = c :: r → blankB c = false := by
  induction l with
  | nil => intro c r h; simp at h
  | cons x y ih =>
    intro c r h
    rw [run_cons] at h
    split at h
    · exact ih c r (by simpa using h)
    · rename_i hx; simp at h; rw [← h.1]; simpa using hx

theorem tells_blank : ∃ fn c, Tryd.prog.funcs[(55 : Nat)]? = some fn ∧ (fn.name == "runtime.NumGoroutine") = false ∧ fn.body = some c := ⟨_, _, Tryd.func55, by kernel_rfl, rfl⟩
theorem tells_noEnd : ∃ fn c, Tryd.prog.funcs[(56 : Nat)]? = some fn ∧ (fn.name == "runtime.NumGoroutine") = false ∧ fn.body = some c := ⟨_, _, Tryd.func56, by kernel_rfl, rfl⟩
theorem tells_letter : ∃ fn c, Tryd.prog.funcs[(57 : Nat)]? = some fn ∧ (fn.name == "runtime.NumGoroutine") = false ∧ fn.body = some c := ⟨_, _, Tryd.func57, by kernel_rfl, rfl⟩
theorem tells_digit : ∃ fn c, Tryd.prog.funcs[(60 : Nat)]? = some fn ∧ (fn.name == "runtime.NumGoroutine") = false ∧ fn.body = some c := ⟨_, _, Tryd.func60, by kernel_rfl, rfl⟩

end Go.Proofs.YtoiokplgkanepaaDoor
