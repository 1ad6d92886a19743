/-
  The contract of shown (layer 9): it answers true.
-/
import Derived.Test.YtflibcfecnhjgaaDoorOOf2
import Derived.Test.YtflibcfecnhjgaaDoorGJoin2
namespace Go.Proofs.YtflibcfecnhjgaaDoor
open Go.RowKit
set_option linter.unusedVariables false
set_option linter.unusedSimpArgs false
set_option maxRecDepth 20000

theorem shown9_a : ofL 3 [0, 0, 0] = [2, 1, 0] := by decide +kernel
theorem shown9_b : ofL 1 [6, 1, 1] = [1, 0, 2] := by decide +kernel
theorem shown9_r : RightG [6, 1, 1] := by
  have : [6, 1, 1] = joinN (joinN (List.replicate 3 0) [0, 1]) [0, 2] := by decide +kernel
  rw [this]
  exact right_join (right_join (right_new 3 (by decide)) _) _
theorem shown9_z : RightG [0, 0, 0] := right_new 3 (by decide)
theorem shown9_c : ordB 2 [1, 0] = true := by decide +kernel
theorem shown9_d : ordB 2 [1, 1] = false := by decide +kernel

theorem ints_head {w : World} {a : Option Addr} {n c : Nat} {x : Int} {l : List Int} (h : Ints w (.slice a n c) (x :: l)) : ∃ b o, a = some ⟨b, o, none⟩ ∧ w.cell? ⟨b, o, none⟩ = some (.int .i64 x) := by
  obtain ⟨b, o, e, hc⟩ := h.at (k := 0) (by simp)
  exact ⟨b, o, e, by simpa using hc⟩

set_option maxHeartbeats 4000000 in
theorem shown9_any {w : World} (hT : TabD w) : Calls Tryd.prog 17 #[] w fun e w' => e = .returned (.bool true) ∧ Below w.heap.size w w' := by
  have HT := hide (fun W (hb : Below w.heap.size w W) => hT.below hb)
  clear hT
  obtain ⟨W1, hW1⟩ : ∃ W, W = w.alloc (.cells #[.int .u64 0, .int .u64 0, .int .u64 0] 37) := ⟨_, rfl⟩
  have hb1 : Below w.heap.size w W1 := by rw [hW1]; exact (Below.refl _ _).alloc (Nat.le_refl _) _
  have hg1 : Words W1 (.slice (some ⟨w.heap.size, 0, none⟩) 3 3) [0, 0, 0] := by rw [hW1]; exact gLit_at (heap_alloc_new _ _) rfl rfl (by decide)
  have HO1 := hide (of_any (how := 3) hg1 shown9_z (unhide HT W1 hb1) (by decide) (by decide))
  rw [shown9_a] at HO1
  have HB1 := hide hb1
  have HW1 := hide hW1
  clear hb1 hW1 hg1
  go_enter Tryd.func17, Tryd.ntmps17
  go_wp2_with fail
  rw [← unhide HW1]
  refine (unhide HO1).mono ?_
  rintro e w1 ⟨v1, rfl, ho1, hb1⟩
  have hB1 := (unhide HB1).trans (hb1.mono (unhide HB1).size)
  obtain ⟨a1, c1, rfl, _, _⟩ := (Seq.of_own ho1).form
  have HV1 := hide (fun W (hb : Below w1.heap.size w1 W) => ints_head ((Seq.of_own ho1).below hb))
  obtain ⟨W2, hW2⟩ : ∃ W, W = w1.alloc (.cells #[.int .u64 6, .int .u64 1, .int .u64 1] 37) := ⟨_, rfl⟩
  have hb2 : Below w1.heap.size w1 W2 := by rw [hW2]; exact (Below.refl _ _).alloc (Nat.le_refl _) _
  have hg2 : Words W2 (.slice (some ⟨w1.heap.size, 0, none⟩) 3 3) [6, 1, 1] := by rw [hW2]; exact gLit_at (heap_alloc_new _ _) rfl rfl (by decide)
  have hB2 := hB1.trans (hb2.mono hB1.size)
  have HO2 := hide (of_any (how := 1) hg2 shown9_r (unhide HT W2 hB2) (by decide) (by decide))
  rw [shown9_b] at HO2
  have HB2 := hide hB2
  have HB12 := hide hb2
  have HW2 := hide hW2
  clear hb1 hB1 ho1 hb2 hW2 hg2 hB2 HB1 HO1 HW1
  go_wp2_with fail
  rw [← unhide HW2]
  refine (unhide HO2).mono ?_
  rintro e w2 ⟨v2, rfl, ho2, hb2⟩
  have hB2 := (unhide HB2).trans (hb2.mono (unhide HB2).size)
  have h12 := (unhide HB12).trans (hb2.mono (unhide HB12).size)
  obtain ⟨a2, c2, rfl, _, _⟩ := (Seq.of_own ho2).form
  have HV2 := hide (fun W (hb : Below w2.heap.size w2 W) => ints_head ((Seq.of_own ho2).below hb))
  have HO3 := hide (of_none (g := []) (how := 4) (Seq.nil u64C w2) (right_new 0 (by decide)) (unhide HT w2 hB2) (by decide) (by decide) (by decide) (by decide))
  have HB2 := hide hB2
  have H12 := hide h12
  clear ho2 hb2 hB2 h12 HO2 HW2 HB12
  go_wp2_with fail
  refine (unhide HO3).mono ?_
  rintro e w3 ⟨rfl, hb3⟩
  have hB3 := (unhide HB2).trans (hb3.mono (unhide HB2).size)
  obtain ⟨b1, o1, e1, q1⟩ := unhide HV1 w3 ((unhide H12).trans (hb3.mono (unhide H12).size))
  obtain ⟨b2, o2, e2, q2⟩ := unhide HV2 w3 hb3
  subst e1
  subst e2
  have HB3 := hide hB3
  obtain ⟨W4, hW4⟩ : ∃ W, W = w3.alloc (.cells #[.int .i64 1, .int .i64 0] 3) := ⟨_, rfl⟩
  have hb4 : Below w3.heap.size w3 W4 := by rw [hW4]; exact (Below.refl _ _).alloc (Nat.le_refl _) _
  have hl4 : Ints W4 (.slice (some ⟨w3.heap.size, 0, none⟩) 2 2) [1, 0] := by rw [hW4]; exact gLit_at (heap_alloc_new _ _) rfl rfl (by decide)
  have HV4 := hide (valid_any (n := 2) hl4 (by decide))
  rw [shown9_c] at HV4
  have HW4 := hide hW4
  have HB4 := hide (hB3.trans (hb4.mono hB3.size))
  clear hb3 hB3 hb4 hl4 hW4 HB2 H12 HO3 HV1 HV2
  go_wp2_with fail
  rw [← unhide HW4]
  refine (unhide HV4).mono ?_
  rintro e w5 ⟨rfl, hb5⟩
  have hB5 := (unhide HB4).trans (hb5.mono (unhide HB4).size)
  obtain ⟨W6, hW6⟩ : ∃ W, W = w5.alloc (.cells #[.int .i64 1, .int .i64 1] 3) := ⟨_, rfl⟩
  have hb6 : Below w5.heap.size w5 W6 := by rw [hW6]; exact (Below.refl _ _).alloc (Nat.le_refl _) _
  have hl6 : Ints W6 (.slice (some ⟨w5.heap.size, 0, none⟩) 2 2) [1, 1] := by rw [hW6]; exact gLit_at (heap_alloc_new _ _) rfl rfl (by decide)
  have HV6 := hide (valid_any (n := 2) hl6 (by decide))
  rw [shown9_d] at HV6
  have HW6 := hide hW6
  have HB6 := hide (hB5.trans (hb6.mono hB5.size))
  clear hb5 hB5 hb6 hl6 hW6 HB4 HB3 HV4 HW4
  go_wp2_with fail
  rw [← unhide HW6]
  refine (unhide HV6).mono ?_
  rintro e w7 ⟨rfl, hb7⟩
  have hB7 := (unhide HB6).trans (hb7.mono (unhide HB6).size)
  clear hb7
  go_wp2
  go_ret
  exact ⟨rfl, hB7⟩

end Go.Proofs.YtflibcfecnhjgaaDoor
