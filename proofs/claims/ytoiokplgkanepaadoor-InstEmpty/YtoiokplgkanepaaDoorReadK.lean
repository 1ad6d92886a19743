/-
  Reading tokens: the contract of wordOf.
-/
import Derived.Test.YtoiokplgkanepaaDoorReadJ
namespace Go.Proofs.YtoiokplgkanepaaDoor
open Go.RowKit
set_option linter.unusedVariables false
set_option linter.unusedSimpArgs false
set_option maxRecDepth 20000

/-- The array of the words lies where the program has it. -/
def Tabs (w : World) : Prop := ∀ i (h : i < wordsL.length), w.cell? ⟨0, i, none⟩ = some (.string ⟨wordsL[i].toArray⟩)
theorem Tabs.below {w w' : World} (h : Tabs w) (hb : Below w.heap.size w w') : Tabs w' := fun i hi => Below.cell_of hb (h i hi)
theorem Tabs.lt {w : World} (h : Tabs w) : 0 < w.heap.size := by
  have := cell_lt (h 0 (by decide))
  exact this
theorem Tabs.grown {w w' : World} {row : Option Nat} (h : Tabs w) (g : w.grownBy w' row) (hr : row ≠ some 0) : Tabs w' := fun i hi => g.cell (h i hi) (fun e => hr e.symm)

/-- How wordOf ends. -/
def wordEnd (p : Nat) : Option Nat → Ending
  | some j => .returned (.int .i64 (j : Int))
  | none => .panicked (faultE p 3)

set_option maxHeartbeats 2000000 in
theorem wordOf_any {w : World} (T : Tabs w) (t : Tok) (n k : Nat) (L : Int) (hL : L = (n : Int) + k - 1) (hn : n + k ≤ 11) :
    Calls Tryd.prog 34 #[tokV t, .int .i64 (k : Int), .int .i64 L] w fun e w' => e = wordEnd t.at_ (wordF t n k) ∧ Below w.heap.size w w' := by
  obtain ⟨X, hX⟩ : ∃ X, X = wordF t n k := ⟨_, rfl⟩
  rw [← hX]
  have HX := hide hX
  have x0 := BoxK.new 52 w (.int .i64 t.kind) (.string ⟨t.text.toArray⟩) (.int .i64 t.n) (.int .i64 (t.at_ : Int))
  have c0 := x0.cell0; have c1 := x0.cell1; have c2 := x0.cell2; have c3 := x0.cell3
  have hT := T.below ((Below.refl w.heap.size w).alloc (Nat.le_refl _) (.cells #[.int .i64 t.kind, .string ⟨t.text.toArray⟩, .int .i64 t.n, .int .i64 (t.at_ : Int)] 52))
  have HB := hide ((Below.refl w.heap.size w).alloc (Nat.le_refl _) (.cells #[.int .i64 t.kind, .string ⟨t.text.toArray⟩, .int .i64 t.n, .int .i64 (t.at_ : Int)] 52))
  have HT := hide hT
  have HL := hide hL
  unfold tokV
  clear hX T x0 hT hL
  go_enter Tryd.func34, Tryd.ntmps34
  go_wp2
  generalize w.alloc (.cells #[.int .i64 t.kind, .string ⟨t.text.toArray⟩, .int .i64 t.n, .int .i64 (t.at_ : Int)] 52) = W at *
  go_loopw [7] (fun i wr => ∃ j m : Nat, i = .int .i64 ((k + j : Nat) : Int) ∧ j ≤ n ∧ wr = W.drewN m ∧ Hid (X = wordF t (n - j) (k + j))) (fun i _ => n + k - (intOf i).toNat)
  case atStart => exact ⟨0, 0, rfl, Nat.zero_le _, rfl, HX⟩
  case round =>
    clear HX
    obtain ⟨j, m, rfl, hj, rfl, HX⟩ := hrel
    obtain ⟨d, hd⟩ : ∃ d, d = k + j := ⟨_, rfl⟩
    rw [← hd] at HX
    by_cases hlt : j < n
    · have hdl : d < wordsL.length := by rw [hd]; show k + j < 11; omega
      have hle : decide ((d : Int) ≤ L) = true := by have := unhide HL; rw [decide_eq_true_eq]; omega
      have hd11 : d < 11 := hdl
      have hcw := unhide HT d hdl
      have hX := HX.out
      rw [show n - j = (n - (j + 1)) + 1 by omega, wordF] at hX
      have hget : wordsL.getD d [] = wordsL[d] := by rw [List.getD_eq_getElem?_getD, List.getElem?_eq_getElem hdl]; rfl
      rw [hget] at hX
      rw [show k + j = d from hd.symm]
      have HD := hide hd
      generalize wordsL[d] = wd at *
      by_cases hk : t.kind = 1
      · have hk' : (t.kind == 1) = true := by simpa using hk
        by_cases he : t.text = wd
        · have he' := str_eq he
          rw [if_pos ⟨hk, he⟩] at hX
          have HX2 := hide hX
          clear hX HX hget hk he hd
          go_wp2
          go_quiet (fail)
          go_wp2
          go_ret
          rw [unhide HX2]
          exact ⟨rfl, by first | exact Below.drewN1 (unhide HB) _ | exact Below.drewN1 (Below.drewN1 (unhide HB) _) _⟩
        · have he' := str_ne he
          rw [if_neg (fun e => he e.2)] at hX
          have HX2 := hide hX
          clear hX HX hget hk he hd
          go_wp2
          go_quiet (fail)
          go_wp2
          go_roundw
          case rel => exact ⟨j + 1, _, by rw [unhide HD]; go_num, by omega, by first | rfl | (simp only [World.drewN_drewN]; rfl), by rw [show k + (j + 1) = d + 1 by have := unhide HD; omega]; exact HX2⟩
          case measure => have := unhide HD; simp [intOf]; omega
      · have hk' : (t.kind == 1) = false := by simpa using hk
        rw [if_neg (fun e => hk e.1)] at hX
        have HX2 := hide hX
        clear hX HX hget hk hd
        go_wp2
        go_quiet (fail)
        go_wp2
        go_roundw
        case rel => exact ⟨j + 1, _, by rw [unhide HD]; go_num, by omega, by first | rfl | (simp only [World.drewN_drewN]; rfl), by rw [show k + (j + 1) = d + 1 by have := unhide HD; omega]; exact HX2⟩
        case measure => have := unhide HD; simp [intOf]; omega
    · have hX := HX.out
      rw [show n - j = 0 by omega, wordF] at hX
      have hle : decide ((d : Int) ≤ L) = false := by have := unhide HL; rw [decide_eq_false_iff_not]; omega
      rw [show k + j = d from hd.symm]
      have HX2 := hide hX
      clear hX HX hd
      go_wp2
      exact ⟨rfl, by rw [unhide HX2]; rfl, Below.drewN1 (unhide HB) _⟩

end Go.Proofs.YtoiokplgkanepaaDoor
