/-
  The contracts of All at a text that is too long, and of the laws' shown.
-/
import Derived.Test.YtehoepliiobliaaScanAll
namespace Go.Proofs.Ytehoepliiobliaa
open Go.RowKit
set_option linter.unusedVariables false
set_option linter.unusedSimpArgs false
set_option maxRecDepth 20000

set_option maxHeartbeats 1000000 in
theorem all_long (s : ByteArray) (w : World) (hs : 100000 < s.size) :
    Calls Try.prog 11 #[.string s] w fun e w' => e = .returned (.tuple #[.slice none 0 0, .int .i64 0, .int .i64 7]) ∧ w' = w := by
  have hgu : decide ((100000 : Int) < (s.size : Int)) = true := by simp; omega
  go_enter Try.func11, Try.ntmps11
  go_wp2
  go_step3
  go_wp2
  simp only [Exit.noGoto_ret]
  refine bodyPost_ret (v := .tuple #[.slice none 0 0, .int .i64 0, .int .i64 7]) (by simp [results, Try.results11, go_sem]) rfl ⟨rfl, rfl⟩

/-- All, where its answer is known. -/
theorem all_good (s : ByteArray) (l : List Tok) (h : scanA 0 (lb s) = .good l) (hs : s.size ≤ 100000) (w : World) :
    Calls Try.prog 11 #[.string s] w fun e w' => ∃ a c, e = .returned (.tuple #[.slice a l.length c, .int .i64 0, .int .i64 0]) ∧ ToksV w' (.slice a l.length c) l ∧ c ≤ 9223372036854775807 ∧ l.length ≤ c ∧ Below w.heap.size w w' :=
  (all_any s w hs).mono fun e w' ⟨he, hb⟩ => by
    rw [h] at he
    obtain ⟨v, he, ht⟩ := he
    obtain ⟨a, c, rfl, h1, h2⟩ := ht.form
    exact ⟨a, c, he, ht, h2, h1, hb⟩

theorem all_bad (s : ByteArray) (p : Nat) (c : Int) (h : scanA 0 (lb s) = .bad p c) (hs : s.size ≤ 100000) (w : World) :
    Calls Try.prog 11 #[.string s] w fun e w' => e = .returned (.tuple #[.slice none 0 0, .int .i64 (p : Int), .int .i64 c]) ∧ Below w.heap.size w w' :=
  (all_any s w hs).mono fun e w' ⟨he, hb⟩ => by
    rw [h] at he
    exact ⟨he, hb⟩

theorem shown1 : scanA 0 (lb ⟨#[118, 97, 114, 32, 48, 59, 32, 35, 32, 110, 111, 116, 101, 10, 45, 53]⟩) = .good [⟨1, [118, 97, 114], 0, 0⟩, ⟨2, [], 0, 4⟩, ⟨3, [59], 0, 5⟩, ⟨2, [], -5, 14⟩, ⟨4, [], 0, 16⟩] := by decide
theorem shown2 : scanA 0 (lb ⟨#[97, 98, 32, 36]⟩) = .bad 3 2 := by decide
theorem shown3 : scanA 0 (lb ⟨#[120, 32, 48, 48, 55]⟩) = .bad 2 2 := by decide

set_option maxHeartbeats 4000000 in
theorem shown_any (w : World) : Calls Try.prog 10 #[] w fun e w' => e = .returned (.bool true) ∧ Below w.heap.size w w' := by
  have H1 := hide (fun W => all_good _ _ shown1 (by decide) W)
  have H2 := hide (fun W => all_bad _ _ _ shown2 (by decide) W)
  have H3 := hide (fun W => all_bad _ _ _ shown3 (by decide) W)
  go_enter Try.func10, Try.ntmps10
  go_wp2_with fail
  refine (unhide H1 _).mono ?_
  rintro e w1 ⟨a, c, rfl, ht, hc1, hc2, hb1⟩
  go_wp2_with fail
  refine (unhide H2 _).mono ?_
  rintro e w2 ⟨rfl, hb2⟩
  go_wp2_with fail
  refine (unhide H3 _).mono ?_
  rintro e w3 ⟨rfl, hb3⟩
  replace ht := (ht.below hb2).below hb3
  obtain ⟨b, off, rfl, _, c01, _, _⟩ := ht.at (i := 0) (by decide)
  obtain ⟨b', off', e1, c10, _, _, _⟩ := ht.at (i := 1) (by decide)
  cases e1
  obtain ⟨b', off', e1, _, c21, _, _⟩ := ht.at (i := 2) (by decide)
  cases e1
  obtain ⟨b', off', e1, _, _, c32, _⟩ := ht.at (i := 3) (by decide)
  cases e1
  obtain ⟨b', off', e1, c40, _, _, _⟩ := ht.at (i := 4) (by decide)
  cases e1
  simp at c01 c10 c21 c32 c40
  clear ht
  go_wp2
  go_ret
  exact ⟨rfl, (hb1.trans (hb2.mono hb1.size)).trans (hb3.mono (Nat.le_trans hb1.size hb2.size))⟩

end Go.Proofs.Ytehoepliiobliaa
