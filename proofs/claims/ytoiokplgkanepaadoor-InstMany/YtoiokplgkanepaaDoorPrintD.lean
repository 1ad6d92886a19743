/-
  The contracts of begin, and of Print, of an instance whose hard constraints have neither rows nor args, and that has no soft ones.
-/
import Derived.Test.YtoiokplgkanepaaDoorPrintC
import Derived.Deep.RegionHeld3
namespace Go.Proofs.YtoiokplgkanepaaDoor
open Go.RowKit
set_option linter.unusedVariables false
set_option linter.unusedSimpArgs false
set_option maxRecDepth 20000

theorem words_le : ∀ i (h : i < wordsL.length), wordsL[i].length ≤ 6 := by decide

theorem below_draw {b : Nat} {w w1 : World} (hbl : b < w.heap.size) (hb : Below b (w.drewN 1) w1) : Below b w w1 := ((Below.drewN w 1).mono (Nat.le_of_lt hbl)).trans hb

set_option maxHeartbeats 400000 in
theorem begin_any {dec : Int → Bytes} {l : List Int} {v : Value} {b : Nat} {t : Bytes} {w : World} (j : Nat) (hj : j < wordsL.length) (T : Tabs w) (hb0 : 0 < b) (h : Pr b t w) (hI : ∀ w', Below b w w' → Ints w' v l) (hd : ∀ n ∈ l, Tells10 dec n ∧ (dec n).length ≤ 20) (hl : t.length + 6 + l.length * 30 ≤ 10000000) :
    Calls Tryd.prog 18 #[.pointer (some ⟨b, 0, none⟩), .int .i64 (j : Int), v] w fun e w' => e = .returned (.tuple #[]) ∧ Pr b (t ++ wordsL[j] ++ numsL dec l) w' ∧ Below b w w' := by
  have hj11 : j < 11 := hj
  have hj0 : (0 : Int) ≤ (j : Int) := by omega
  have hj1 : (j : Int) < 11 := by omega
  have hj2 : (j : Int) ≤ 10 := by omega
  have hj3 : ¬ (11 : Int) ≤ (j : Int) := by omega
  have hj4 : ¬ 11 ≤ j := by omega
  have hw := words_le j hj
  have hcw := T j hj
  have hp1 := h.kept (Below.drewN w 1)
  have HW := hide (writeString_any ⟨wordsL[j].toArray⟩ hp1 (by
    have : (⟨wordsL[j].toArray⟩ : ByteArray).size = wordsL[j].length := by simp [ByteArray.size]
    rw [this]; omega))
  have HI := hide hI
  have HD := hide hd
  have HT := hide T
  have hS0 : w.drew.cell? ⟨0, j, none⟩ = some (.string ⟨wordsL[j].toArray⟩) ∧ True := ⟨hcw, trivial⟩
  have hbl := h.lt
  have hform := (hI w (Below.refl _ _)).form
  obtain ⟨a, ca, rfl, hla, hca⟩ := hform
  generalize wordsL[j] = wd at *
  clear h hI hd T hp1 hcw
  go_enter Tryd.func18, Tryd.ntmps18
  go_wp2
  have hc0 := hS0.1
  clear hS0
  go_region_held3 (fun U => U.cell? ⟨0, j, none⟩ = some (.string ⟨wd.toArray⟩))
    (first | exact hq1 | exact hc0)
    (first
      | (go_at_call 40; refine (unhide HW).mono ?_; rintro e w1 ⟨⟨n, rfl⟩, hp, hb⟩; have hB1 := below_draw hbl hb; have hq1 := (hB1.cell (p := ⟨0, j, none⟩) hb0).trans hc0))
  have hT1 : Tabs w1 := fun i hi => by rw [hB1.cell (by exact hb0)]; exact unhide HT i hi
  have hp2 : Pr b (t ++ wd) w1 := by simpa [lb] using hp
  have HN := hide (numbers_any hT1 hb0 hp2 (fun w' hb' => unhide HI w' (hB1.trans hb')) (unhide HD) (by simp; omega))
  have HB1 := hide hB1
  clear hp hb hp2 hT1 hB1 HW hq1 hc0
  go_wp2_with fail
  refine (unhide HN).mono ?_
  rintro e w2 ⟨rfl, hp3, hb3⟩
  go_wp2
  first | go_end0 | skip
  exact ⟨rfl, hp3, (unhide HB1).trans hb3⟩

set_option maxHeartbeats 1000000 in
theorem prHard_plain {dec : Int → Bytes} {k : Nat} (h3 : 3 ≤ k) (h5 : k ≤ 5) {l : List Int} {sv : Value} {b : Nat} {t : Bytes} {w : World} {ra aa : Option Addr} {rn an rc ac : Nat} (hk : k < wordsL.length) (T : Tabs w) (hb0 : 0 < b) (h : Pr b t w) (hI : ∀ w', Below b w w' → Ints w' sv l) (hd : ∀ n ∈ l, Tells10 dec n ∧ (dec n).length ≤ 20) (hl : t.length + 6 + l.length * 30 ≤ 1000000) :
    Calls Tryd.prog 20 #[.pointer (some ⟨b, 0, none⟩), .agg #[.int .i64 (k : Int), sv, .slice ra rn rc, .slice aa an ac]] w fun e w' => e = .returned (.tuple #[]) ∧ Pr b (t ++ wordsL[k] ++ numsL dec l ++ [59, 10]) w' ∧ Below b w w' := by
  obtain ⟨a, ca, rfl, hla, hca⟩ := (hI w (Below.refl _ _)).form
  have hbl := h.lt
  have hb1 := (Below.refl w.heap.size w).alloc (Nat.le_refl _) (.cells #[.int .i64 (k : Int), .slice a l.length ca, .slice ra rn rc, .slice aa an ac] 42)
  have hB1 : Below b w (w.alloc (.cells #[.int .i64 (k : Int), .slice a l.length ca, .slice ra rn rc, .slice aa an ac] 42)) := hb1.mono (Nat.le_of_lt hbl)
  have hw := words_le k hk
  have HBG := hide (begin_any k hk (T.below hb1) hb0 (h.kept hb1) (fun w' hb' => hI w' (hB1.trans hb')) hd (by omega))
  have HHR := hide (fun W => hasRows_any k W)
  rw [show decide (k = 1 ∨ k = 2) = false by simp; omega] at HHR
  have k6 : ((k : Int) == 6) = false := by rw [beq_eq_false_iff_ne]; omega
  have hnl : (numsL dec l).length ≤ l.length * 30 := by
    have : ∀ m : List Int, (∀ n ∈ m, (dec n).length ≤ 20) → (numsL dec m).length ≤ m.length * 30 := by
      intro m
      induction m with
      | nil => simp [numsL]
      | cons n m ih =>
        intro hm
        rw [numsL_cons]
        have h1 := hm n (by simp)
        have h2 := ih (fun x hx => hm x (by simp [hx]))
        simp
        omega
    exact this l (fun n hn => (hd n hn).2)
  have HB1 := hide hB1
  generalize wordsL[k] = wd at *
  generalize numsL dec l = nl at *
  clear h hI hd T hb1 hB1 h3 h5 hk
  go_enter Tryd.func20, Tryd.ntmps20
  go_wp2_with fail
  refine (unhide HHR _).mono ?_
  rintro e w2 ⟨rfl, rfl⟩
  go_wp2_with fail
  refine (unhide HBG).mono ?_
  rintro e w3 ⟨rfl, hp3, hb3⟩
  have HE := hide (prEnd_any hp3 (by simp; omega))
  have HB3 := hide ((unhide HB1).trans hb3)
  clear hp3 hb3
  go_wp2_with fail
  refine (unhide HE).mono ?_
  rintro e w4 ⟨rfl, hp4, hb4⟩
  go_wp2
  first | go_end0 | skip
  exact ⟨rfl, hp4, (unhide HB3).trans hb4⟩

end Go.Proofs.YtoiokplgkanepaaDoor
