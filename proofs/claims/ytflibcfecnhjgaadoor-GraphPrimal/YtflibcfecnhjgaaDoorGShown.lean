/-
  The contract of shown (layer 8): it answers true.
-/
import Derived.Test.YtflibcfecnhjgaaDoorGParts
import Derived.Test.YtflibcfecnhjgaaDoorGRight
import Derived.Test.YtflibcfecnhjgaaDoorGJoin2
namespace Go.Proofs.YtflibcfecnhjgaaDoor
open Go.RowKit
set_option linter.unusedVariables false
set_option linter.unusedSimpArgs false
set_option maxRecDepth 20000

theorem shown_join : joinN (List.replicate (newN 3) 0) [0, 2] = [4, 0, 1] := by decide +kernel
theorem shown_right : rightGS [4, 0, 1] = true := by decide +kernel
theorem shown_one : rightGS [1] = false := by decide +kernel
theorem shown_w64 : W64 [4, 0, 1] := by intro x hx; simp at hx; omega
theorem shown_rg : RightG [4, 0, 1] := (rightGS_iff shown_w64).1 shown_right
theorem shown_nb : nbL [4, 0, 1] 2 = [0] := by decide +kernel
theorem shown_b1 : besI [4, 0, 1] 2 0 = true := by decide +kernel
theorem shown_b2 : besI [4, 0, 1] 1 0 = false := by decide +kernel
theorem shown_clq : clqB [4, 0, 1] [0, 2] = true := by decide +kernel

/-- What is kept from one to one beside it is kept. -/
theorem Reach.keep {g : List Nat} {p : Nat → Prop} {a b : Nat} (h : Reach g a b) (ha : p a) (hs : ∀ x y, p x → besB g x y = true → p y) : p b := by
  induction h with
  | refl _ => exact ha
  | step _ hbc ih => exact hs _ _ ih hbc

theorem shown_parts : (partsL [4, 0, 1]).length = 2 := by
  have h0 : First [4, 0, 1] 0 := fun k hk => by omega
  have h1 : First [4, 0, 1] 1 := fun k hk hr => by
    have hk0 : k = 0 := by omega
    subst hk0
    have h3 : 0 = 1 := hr.keep (p := fun b => b = 1) rfl (fun x y hx hb => by
      subst hx
      have h4 := shown_rg.pts _ _ hb
      have : y = 0 ∨ y = 1 ∨ y = 2 := by simp at h4; omega
      rcases this with rfl | rfl | rfl
      · exact absurd hb (by decide +kernel)
      · rfl
      · exact absurd hb (by decide +kernel))
    omega
  have h2 : ¬ First [4, 0, 1] 2 := fun h => h 0 (by omega) (.step (.refl (by decide)) (by decide +kernel))
  show (partsUp [4, 0, 1] 3).length = 2
  rw [partsUp_no h2, partsUp_yes h1, partsUp_yes h0]
  simp [partsUp, firsts]

theorem words_cell {w : World} {a : Option Addr} {n c : Nat} {g : List Nat} (h : Words w (.slice a n c) g) {i : Nat} (hi : i < g.length) : ∃ b o, a = some ⟨b, o, none⟩ ∧ w.cell? ⟨b, o + i, none⟩ = some (.int .u64 ((g.getD i 0 : Nat) : Int)) := by
  obtain ⟨b, o, e, hc⟩ := h.at hi
  rw [getD_at hi] at hc
  exact ⟨b, o, e, hc⟩

set_option maxHeartbeats 8000000 in
theorem shown8_any {w : World} (hT : TabD w) : Calls Tryd.prog 10 #[] w fun e w' => e = .returned (.bool true) ∧ Below w.heap.size w w' := by
  have HT := hide (fun W (hb : Below w.heap.size w W) => hT.below hb)
  clear hT
  go_enter Tryd.func10, Tryd.ntmps10
  go_wp2_with fail
  refine (new_any 3 w).mono ?_
  rintro e w1 ⟨x1, rfl, hown1, hb1⟩
  have hj := join_any (a := 0) (b := 2) (Seq.of_own hown1) (by decide) (fun x hx => by rw [List.eq_of_mem_replicate hx]; decide)
  rw [shown_join] at hj
  have HJ := hide hj
  have HB1 := hide hb1
  obtain ⟨a1, c1, rfl, _, _⟩ := (Seq.of_own hown1).form
  clear hj hb1 hown1
  go_wp2_with fail
  refine (unhide HJ).mono ?_
  rintro e w2 ⟨x2, rfl, hown2, hb2⟩
  have hB2 := (unhide HB1).trans (hb2.mono (unhide HB1).size)
  obtain ⟨a2, c2, rfl, hl2, hc2⟩ := (Seq.of_own hown2).form
  have hg2 : Words w2 (.slice a2 3 c2) [4, 0, 1] := Seq.of_own hown2
  obtain ⟨b2, o2, e2, q0⟩ := words_cell hg2 (i := 0) (by decide)
  obtain ⟨b2', o2', e2', q2⟩ := words_cell hg2 (i := 2) (by decide)
  rw [e2] at e2'
  cases e2'
  subst e2
  have q0 : w2.cell? ⟨b2, o2, none⟩ = some (.int .u64 4) := q0
  have q2 : w2.cell? ⟨b2, o2 + 2, none⟩ = some (.int .u64 1) := q2
  unfold maxLen at hc2
  have hl2 : 3 ≤ c2 := hl2
  have hbx := BoxG.new w2 (.slice (some ⟨b2, o2, none⟩) 3 c2)
  have hb3 : Below w2.heap.size w2 (w2.alloc (.cells #[.slice (some ⟨b2, o2, none⟩) 3 c2] 31)) := (Below.refl _ _).alloc (Nat.le_refl _) _
  obtain ⟨W3, hW3⟩ : ∃ W, W = w2.alloc (.cells #[.slice (some ⟨b2, o2, none⟩) 3 c2] 31) := ⟨_, rfl⟩
  have hz3 : W3.heap.size = w2.heap.size + 1 := by rw [hW3]; simp
  rw [← hW3] at hb3 hbx
  have HG := hide (fun W (hb : Below W3.heap.size W3 W) => (hg2.below hb3).below hb)
  have HC := hide (fun W (hb : Below W3.heap.size W3 W) => And.intro (hbx.below hb (by omega)).cell (And.intro (Below.cell_of hb (Below.cell_of hb3 q0)) (Below.cell_of hb (Below.cell_of hb3 q2))))
  have hB3 := hB2.trans (hb3.mono hB2.size)
  have hw3 := hB3.size
  have HT3 := hide (fun W (hb : Below W3.heap.size W3 W) => unhide HT W (hB3.trans (hb.mono hw3)))
  have HB3 := hide hB3
  have HW3 := hide hW3
  clear hb3 hbx hg2 q0 q2 hW3 hown2 hb2 hB2 hB3 HJ HB1 HT
  obtain ⟨y0, y1, y2⟩ := unhide HC _ (Below.refl _ _)
  go_wp2_with fail
  rw [← unhide HW3]
  refine (neighbors_any (a := 2) (unhide HG _ (Below.refl _ _)) (by decide) shown_w64 (unhide HT3 _ (Below.refl _ _))).mono ?_
  rintro e w4 ⟨vl, rfl, hown4, hb4⟩
  rw [shown_nb] at hown4
  obtain ⟨a4, c4, rfl, hl4, hc4⟩ := (Seq.of_own hown4).form
  have hl4 : 1 ≤ c4 := hl4
  have hn4 : Ints w4 (.slice a4 1 c4) [0] := Seq.of_own hown4
  obtain ⟨b4, o4, e4, q4⟩ := hn4.at (k := 0) (by decide)
  subst e4
  have q4 : w4.cell? ⟨b4, o4, none⟩ = some (.int .i64 0) := q4
  have HN4 := hide (fun W (hb : Below w4.heap.size w4 W) => Below.cell_of hb q4)
  have HB4 := hide hb4
  clear hown4 hn4 q4 y0 y1 y2 HW3
  obtain ⟨y0, y1, y2⟩ := unhide HC _ hb4
  have hz4 := hb4.size
  clear hb4
  go_wp2_with fail
  refine (rightG_any (unhide HG _ (unhide HB4)) (by decide) shown_w64 (unhide HT3 _ (unhide HB4))).mono ?_
  rintro e w5 ⟨rfl, hb5⟩
  rw [shown_right]
  have HB5 := hide ((unhide HB4).trans (hb5.mono hz4))
  have hz5 := hb5.size
  have HN5 := hide (fun W (hb : Below w5.heap.size w5 W) => unhide HN4 W (hb5.trans (hb.mono hz5)))
  clear hb5 HB4 HN4 y0 y1 y2
  obtain ⟨y0, y1, y2⟩ := unhide HC _ (unhide HB5)
  go_wp2_with fail
  refine (beside_any (a := 2) (b := 0) (unhide HG _ (unhide HB5)) (by decide) shown_w64).mono ?_
  rintro e w6 ⟨rfl, hb6⟩
  rw [shown_b1]
  have HB6 := hide ((unhide HB5).trans (hb6.mono (unhide HB5).size))
  have hz6 := hb6.size
  have HN6 := hide (fun W (hb : Below w6.heap.size w6 W) => unhide HN5 W (hb6.trans (hb.mono hz6)))
  clear hb6 HB5 HN5 y0 y1 y2
  obtain ⟨y0, y1, y2⟩ := unhide HC _ (unhide HB6)
  go_wp2_with fail
  refine (beside_any (a := 1) (b := 0) (unhide HG _ (unhide HB6)) (by decide) shown_w64).mono ?_
  rintro e w7 ⟨rfl, hb7⟩
  rw [shown_b2]
  have HB7 := hide ((unhide HB6).trans (hb7.mono (unhide HB6).size))
  have q7 := unhide HN6 _ hb7
  clear hb7 HB6 HN6 y0 y1 y2
  obtain ⟨y0, y1, y2⟩ := unhide HC _ (unhide HB7)
  have hz7 := (unhide HB7).size
  have hb8 : Below w7.heap.size w7 (w7.alloc (.cells #[.int .i64 0, .int .i64 2] 3)) := (Below.refl _ _).alloc (Nat.le_refl _) _
  have hI8 : Ints (w7.alloc (.cells #[.int .i64 0, .int .i64 2] 3)) (.slice (some ⟨w7.heap.size, 0, none⟩) 2 2) [0, 2] := gLit_at (heap_alloc_new _ _) rfl rfl (by simp)
  have HB8 := hide ((unhide HB7).trans (hb8.mono hz7))
  have HI8 := hide hI8
  clear hb8 hI8 HB7
  go_wp2_with fail
  refine (clique_any (unhide HG _ (unhide HB8)) (by decide) shown_w64 (unhide HI8)).mono ?_
  rintro e w9 ⟨rfl, hb9⟩
  rw [shown_clq]
  have HB9 := hide ((unhide HB8).trans (hb9.mono (unhide HB8).size))
  clear hb9 HB8 HI8 y0 y1 y2 q7
  obtain ⟨y0, y1, y2⟩ := unhide HC _ (unhide HB9)
  go_wp2_with fail
  refine (parts_any (unhide HG _ (unhide HB9)) shown_rg (unhide HT3 _ (unhide HB9))).mono ?_
  rintro e w10 ⟨vp, rfl, ho10, hb10⟩
  obtain ⟨a10, c10, rfl, hl10, hc10⟩ := ho10.tups.form
  rw [shown_parts] at hl10 ⊢
  have HB10 := hide ((unhide HB9).trans (hb10.mono (unhide HB9).size))
  have hz10 := (unhide HB10).size
  have hb11 : Below w10.heap.size w10 (w10.alloc (.cells #[.int .u64 1] 37)) := (Below.refl _ _).alloc (Nat.le_refl _) _
  have hI11 : Words (w10.alloc (.cells #[.int .u64 1] 37)) (.slice (some ⟨w10.heap.size, 0, none⟩) 1 1) [1] := gLit_at (heap_alloc_new _ _) rfl rfl (by simp)
  have HB11 := hide ((unhide HB10).trans (hb11.mono hz10))
  have HI11 := hide hI11
  clear hb10 hb11 hI11 ho10 HB9 HB10 y0 y1 y2
  go_wp2_with fail
  refine (rightG_any (unhide HI11) (by decide) (by intro x hx; simp at hx; omega) (unhide HT3 _ (unhide HB11))).mono ?_
  rintro e w12 ⟨rfl, hb12⟩
  rw [shown_one]
  have HB12 := hide ((unhide HB3).trans (((unhide HB11).trans (hb12.mono (unhide HB11).size)).mono hw3))
  clear hb12 HB11 HI11
  go_wp2
  go_ret
  exact ⟨rfl, unhide HB12⟩

end Go.Proofs.YtflibcfecnhjgaaDoor
