/-
  The contracts of All at a text that is too long, and of the laws' shown.
-/
import Derived.Test.YtoiokplgkanepaaDoorScanAll
namespace Go.Proofs.YtoiokplgkanepaaDoor
open Go.RowKit
set_option linter.unusedVariables false
set_option linter.unusedSimpArgs false
set_option maxRecDepth 20000

set_option maxHeartbeats 1000000 in
theorem all_long (s : ByteArray) (w : World) (hs : 100000 < s.size) :
    Calls Tryd.prog 13 #[.string s] w fun e w' => e = .returned (.tuple #[.slice none 0 0, .int .i64 0, .int .i64 7]) ∧ w' = w := by
  have hgu : decide ((100000 : Int) < (s.size : Int)) = true := by simp; omega
  go_enter Tryd.func13, Tryd.ntmps13
  go_wp2
  go_step3
  go_wp2
  simp only [Exit.noGoto_ret]
  refine bodyPost_ret (v := .tuple #[.slice none 0 0, .int .i64 0, .int .i64 7]) (by simp [results, Tryd.results13, go_sem]) rfl ⟨rfl, rfl⟩

/-- All, where its answer is known. -/
theorem all_good (s : ByteArray) (l : List Tok) (h : scanA 0 (lb s) = .good l) (hs : s.size ≤ 100000) (w : World) :
    Calls Tryd.prog 13 #[.string s] w fun e w' => ∃ a c, e = .returned (.tuple #[.slice a l.length c, .int .i64 0, .int .i64 0]) ∧ ToksV w' (.slice a l.length c) l ∧ c ≤ 9223372036854775807 ∧ l.length ≤ c ∧ Below w.heap.size w w' :=
  (all_any s w hs).mono fun e w' ⟨he, hb⟩ => by
    rw [h] at he
    obtain ⟨v, he, ht⟩ := he
    obtain ⟨a, c, rfl, h1, h2⟩ := ht.form
    exact ⟨a, c, he, ht, h2, h1, hb⟩

theorem all_bad (s : ByteArray) (p : Nat) (c : Int) (h : scanA 0 (lb s) = .bad p c) (hs : s.size ≤ 100000) (w : World) :
    Calls Tryd.prog 13 #[.string s] w fun e w' => e = .returned (.tuple #[.slice none 0 0, .int .i64 (p : Int), .int .i64 c]) ∧ Below w.heap.size w w' :=
  (all_any s w hs).mono fun e w' ⟨he, hb⟩ => by
    rw [h] at he
    exact ⟨he, hb⟩

theorem shown1 : scanA 0 (lb ⟨#[118, 97, 114, 32, 48, 59, 32, 35, 32, 110, 111, 116, 101, 10, 45, 53]⟩) = .good [⟨1, [118, 97, 114], 0, 0⟩, ⟨2, [], 0, 4⟩, ⟨3, [59], 0, 5⟩, ⟨2, [], -5, 14⟩, ⟨4, [], 0, 16⟩] := by decide
theorem shown2 : scanA 0 (lb ⟨#[97, 98, 32, 36]⟩) = .bad 3 2 := by decide
theorem shown3 : scanA 0 (lb ⟨#[120, 32, 48, 48, 55]⟩) = .bad 2 2 := by decide

end Go.Proofs.YtoiokplgkanepaaDoor
