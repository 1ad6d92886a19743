/-
  Reading tokens: the contract of variable.
-/
import Derived.Test.YtoiokplgkanepaaDoorReadD
namespace Go.Proofs.YtoiokplgkanepaaDoor
open Go.RowKit
set_option linter.unusedVariables false
set_option linter.unusedSimpArgs false
set_option maxRecDepth 20000

theorem BoxK.set1 {e : TypeId} {w : World} {b : Nat} {x y z u : Value} (h : BoxK e w b x y z u) (y' : Value) : BoxK e (w.setCell ⟨b, 1, none⟩ y') b x y' z u := by
  unfold BoxK at *
  rw [heap_setCell_same w b 1 _ _ y' h]; simp
theorem Rd.cell1 {w0 : World} {R : Nat} {w : World} {ts : List Tok} {dv hv sv : Value} (h : Rd w0 R w ts dv hv sv) : w.cell? ⟨R, 1, none⟩ = some dv := by
  obtain ⟨tv, hb, _⟩ := h.box
  exact hb.cell1

set_option maxHeartbeats 4000000 in
theorem variable_any {w0 : World} {R : Nat} {w : World} {ts : List Tok} {hv sv av : Value} {da : Option Addr} {nv dc : Nat} {ahead : List Int} (h : Rd w0 R w ts (.slice da nv dc) hv sv) (hf : Fair ts) (hm : IntsO (· = R) w av ahead) (hnv : nv ≤ 9223372036854775807) :
    Calls Tryd.prog 83 #[.pointer (some ⟨R, 0, none⟩), av] w (REnds (fun n v _ => v = .int .i64 n) w0 R w (.slice da nv dc) hv sv (variableR nv ahead ts)) := by
  have hlt := h.lt
  have HT := hide (numb_any h hf.ne)
  have HM : Hid (∀ w', w.grownBy w' (some R) → Ints w' av ahead) := hide (fun w' g => (hm.kept g (fun b e => by cases e; rfl)).1)
  obtain ⟨ma, mc, rfl, _, hmc⟩ := hm.1.form
  unfold maxLen at hmc
  obtain ⟨X, hX⟩ : ∃ X, X = variableR nv ahead ts := ⟨_, rfl⟩
  rw [← hX]
  unfold variableR at hX
  cases hn : numberR ts with
  | fault p c =>
    rw [hn] at HT hX
    have HX := hide hX
    clear h hf hn hm hX
    go_enter Tryd.func83, Tryd.ntmps83
    go_wp2_with fail
    refine (unhide HT).mono ?_
    rintro e w1 ⟨hg, rfl⟩
    exact ⟨rfl, ends_no (unhide HX) hg⟩
  | ok t r =>
    rw [hn] at HT hX
    obtain ⟨_, _, hb1, hb2⟩ := hf.number hn
    simp only [Res.bind] at hX
    by_cases h6 : ahead.length < 6
    · rw [if_pos h6] at hX
      have h6' : decide ((ahead.length : Int) < 6) = true := by simp; omega
      have HN1 := hide (fun W => need_ok t 7 W)
      obtain ⟨q1, hq1⟩ : ∃ q : Bool, q = (decide (0 ≤ t.n) && decide (t.n < (nv : Int))) := ⟨_, rfl⟩
      have HV := hide (fun W => isVariable_any (a := da) (m := nv) (c := dc) (n := t.n) (w := W) hnv)
      rw [← hq1] at HV
      have HN := hide (fun q W => need_any q t 5 W)
      obtain ⟨q2, hq2⟩ : ∃ q : Bool, q = aboveB t.n ahead := ⟨_, rfl⟩
      have HX : Hid (X = if (q1 && q2) = true then .ok t.n r else .fault t.at_ 5) := hide (by
        rw [hX, hq1, hq2]
        simp only [Bool.and_eq_true, decide_eq_true_eq])
      have HQ2 := hide hq2
      unfold tokV at HN HN1
      clear h hf hn hm hX h6 hq1 hq2
      go_enter Tryd.func83, Tryd.ntmps83
      go_wp2_with fail
      refine (unhide HT).mono ?_
      rintro e w1 ⟨hg, _, rfl, rfl, hr⟩
      unfold tokV
      have x1 := BoxK.new 52 w1 (.int .i64 t.kind) (.string ⟨t.text.toArray⟩) (.int .i64 t.n) (.int .i64 (t.at_ : Int))
      have hr1 := hr.push (.cells #[.int .i64 t.kind, .string ⟨t.text.toArray⟩, .int .i64 t.n, .int .i64 (t.at_ : Int)] 52)
      have hg1 := grown_then hg (World.grownBy_alloc w1 (.cells #[.int .i64 t.kind, .string ⟨t.text.toArray⟩, .int .i64 t.n, .int .i64 (t.at_ : Int)] 52) none) (by simp)
      go_wp2_with fail
      refine (unhide HN1 _).mono ?_
      rintro e W ⟨rfl, hb⟩
      replace x1 := x1.belowH hb
      replace hr1 := hr1.below hb
      replace hg1 := grown_below_then hg1 hb
      generalize w1.heap.size = tb at *
      clear hr hg HT hb HN1
      have hS0 : W.drew.cell? ⟨tb, 0, none⟩ = some (.int .i64 t.kind) ∧ W.drew.cell? ⟨tb, 1, none⟩ = some (.string ⟨t.text.toArray⟩) ∧ W.drew.cell? ⟨tb, 2, none⟩ = some (.int .i64 t.n) ∧ W.drew.cell? ⟨tb, 3, none⟩ = some (.int .i64 (t.at_ : Int)) ∧ W.drew.cell? ⟨R, 1, none⟩ = some (.slice da nv dc) := ⟨x1.cell0, x1.cell1, x1.cell2, x1.cell3, hr1.cell1⟩
      have HC := hide (isAbove_any (n := t.n) ((unhide HM _ hg1).drewN 1))
      rw [← unhide HQ2] at HC
      have X1 := hide x1
      clear x1 HM
      go_wp2
      refine wp_region_held (S := fun U => U.cell? ⟨tb, 0, none⟩ = some (.int .i64 t.kind) ∧ U.cell? ⟨tb, 1, none⟩ = some (.string ⟨t.text.toArray⟩) ∧ U.cell? ⟨tb, 2, none⟩ = some (.int .i64 t.n) ∧ U.cell? ⟨tb, 3, none⟩ = some (.int .i64 (t.at_ : Int)) ∧ U.cell? ⟨R, 1, none⟩ = some (.slice da nv dc)) (by kernel_rfl) ?_
      refine wpAnyH_take (i := 0) (v := ?_) rfl (by kernel_rfl) (by kernel_rfl) (by kernel_rfl) (fun _ _ _ h => h) (Or.inl ⟨by kernel_rfl, ?_⟩) (by assumption) ?_
      rotate_left
      · intro W hSW; obtain ⟨hS1, hS2, hS3, hS4, hS5⟩ := hSW; go_simp; first | done | rfl
      simp only [Act.put, List.setIfInBounds_toArray, List.set_cons_zero, List.set_cons_succ]
      refine wpAnyH_take (i := 1) (v := ?_) rfl (by kernel_rfl) (by kernel_rfl) (by kernel_rfl) (fun _ _ _ h => h) (Or.inl ⟨by kernel_rfl, ?_⟩) (by assumption) ?_
      rotate_left
      · intro W hSW; obtain ⟨hS1, hS2, hS3, hS4, hS5⟩ := hSW; go_simp; first | done | rfl
      simp only [Act.put, List.setIfInBounds_toArray, List.set_cons_zero, List.set_cons_succ]
      refine wpAnyH_take (i := 2) (v := ?_) rfl (by kernel_rfl) (by kernel_rfl) (by kernel_rfl) (fun _ _ _ h => h) (Or.inl ⟨by kernel_rfl, ?_⟩) (by assumption) ?_
      rotate_left
      · intro W hSW; obtain ⟨hS1, hS2, hS3, hS4, hS5⟩ := hSW; go_simp; first | done | rfl
      simp only [Act.put, List.setIfInBounds_toArray, List.set_cons_zero, List.set_cons_succ]
      refine wpAnyH_take (i := 3) (v := ?_) rfl (by kernel_rfl) (by kernel_rfl) (by kernel_rfl) (fun _ _ _ h => h) (Or.inl ⟨by kernel_rfl, ?_⟩) (by assumption) ?_
      rotate_left
      · intro W hSW; obtain ⟨hS1, hS2, hS3, hS4, hS5⟩ := hSW; go_simp; first | done | rfl
      simp only [Act.put, List.setIfInBounds_toArray, List.set_cons_zero, List.set_cons_succ]
      refine wpAnyH_take (i := 4) (v := ?_) rfl (by kernel_rfl) (by kernel_rfl) (by kernel_rfl) (fun _ _ _ h => h) (Or.inl ⟨by kernel_rfl, ?_⟩) (by assumption) ?_
      rotate_left
      · intro W hSW; obtain ⟨hS1, hS2, hS3, hS4, hS5⟩ := hSW; go_simp; first | done | rfl
      simp only [Act.put, List.setIfInBounds_toArray, List.set_cons_zero, List.set_cons_succ]
      refine wpAnyH_take (i := 5) (v := ?_) rfl (by kernel_rfl) (by kernel_rfl) (by kernel_rfl) (fun _ _ _ h => h) (Or.inl ⟨by kernel_rfl, ?_⟩) (by assumption) ?_
      rotate_left
      · intro W hSW; obtain ⟨hS1, hS2, hS3, hS4, hS5⟩ := hSW; go_simp; first | done | rfl
      simp only [Act.put, List.setIfInBounds_toArray, List.set_cons_zero, List.set_cons_succ]
      refine wpAnyH_take (i := 6) (v := ?_) rfl (by kernel_rfl) (by kernel_rfl) (by kernel_rfl) (fun _ _ _ h => h) (Or.inl ⟨by kernel_rfl, ?_⟩) (by assumption) ?_
      rotate_left
      · intro W hSW; obtain ⟨hS1, hS2, hS3, hS4, hS5⟩ := hSW; go_simp; first | done | rfl
      simp only [Act.put, List.setIfInBounds_toArray, List.set_cons_zero, List.set_cons_succ]
      refine wpAnyH_take (i := 14) (v := ?_) rfl (by kernel_rfl) (by kernel_rfl) (by kernel_rfl) (fun _ _ _ h => h) (Or.inl ⟨by kernel_rfl, ?_⟩) (by assumption) ?_
      rotate_left
      · intro W hSW; obtain ⟨hS1, hS2, hS3, hS4, hS5⟩ := hSW; go_simp; first | done | rfl
      simp only [Act.put, List.setIfInBounds_toArray, List.set_cons_zero, List.set_cons_succ]
      refine held_one (i := 7) (by kernel_rfl) rfl (by kernel_rfl) (fun K hK => ?_)
      go_simp
      refine (unhide HV _).mono ?_
      rintro e w2 ⟨rfl, rfl⟩
      refine hK.out _ _ hS0 ?_
      clear hK K
      try simp only [Act.put, List.setIfInBounds_toArray, List.set_cons_zero, List.set_cons_succ]
      cases q1 with
      | false =>
        refine wpAnyH_take (i := 8) (v := ?_) rfl (by kernel_rfl) (by kernel_rfl) (by kernel_rfl) (fun _ _ _ h => h) (Or.inl ⟨by kernel_rfl, ?_⟩) (by assumption) ?_
        rotate_left
        · intro W hSW; obtain ⟨hS1, hS2, hS3, hS4, hS5⟩ := hSW; go_simp; first | done | rfl
        simp only [Act.put, List.setIfInBounds_toArray, List.set_cons_zero, List.set_cons_succ]
        refine wpAnyH_take (i := 9) (v := undef) rfl (by kernel_rfl) (by kernel_rfl) (by kernel_rfl) (fun _ _ _ h => h) (Or.inr ⟨by kernel_rfl, rfl⟩) (by assumption) ?_
        simp only [Act.put, List.setIfInBounds_toArray, List.set_cons_zero, List.set_cons_succ]
        refine wpAnyH_take (i := 10) (v := undef) rfl (by kernel_rfl) (by kernel_rfl) (by kernel_rfl) (fun _ _ _ h => h) (Or.inr ⟨by kernel_rfl, rfl⟩) (by assumption) ?_
        simp only [Act.put, List.setIfInBounds_toArray, List.set_cons_zero, List.set_cons_succ]
        refine wpAnyH_take (i := 11) (v := undef) rfl (by kernel_rfl) (by kernel_rfl) (by kernel_rfl) (fun _ _ _ h => h) (Or.inr ⟨by kernel_rfl, rfl⟩) (by assumption) ?_
        simp only [Act.put, List.setIfInBounds_toArray, List.set_cons_zero, List.set_cons_succ]
        refine wpAnyH_take (i := 12) (v := undef) rfl (by kernel_rfl) (by kernel_rfl) (by kernel_rfl) (fun _ _ _ h => h) (Or.inr ⟨by kernel_rfl, rfl⟩) (by assumption) ?_
        simp only [Act.put, List.setIfInBounds_toArray, List.set_cons_zero, List.set_cons_succ]
        refine wpAnyH_take (i := 13) (v := ?_) rfl (by kernel_rfl) (by kernel_rfl) (by kernel_rfl) (fun _ _ _ h => h) (Or.inl ⟨by kernel_rfl, ?_⟩) (by assumption) ?_
        rotate_left
        · intro W hSW; obtain ⟨hS1, hS2, hS3, hS4, hS5⟩ := hSW; go_simp; first | done | rfl
        simp only [Act.put, List.setIfInBounds_toArray, List.set_cons_zero, List.set_cons_succ]
        refine held_one (i := 15) (by kernel_rfl) rfl (by kernel_rfl) (fun K hK => ?_)
        go_simp
        refine (unhide HN false _).mono ?_
        rintro e w2 ⟨rfl, hb⟩
        exact ⟨rfl, ends_no (unhide HX) (grown_below_then (grown_then hg1 (grown_drewN W 1 none) (by simp)) hb)⟩
      | true =>
        refine wpAnyH_take (i := 8) (v := ?_) rfl (by kernel_rfl) (by kernel_rfl) (by kernel_rfl) (fun _ _ _ h => h) (Or.inl ⟨by kernel_rfl, ?_⟩) (by assumption) ?_
        rotate_left
        · intro W hSW; obtain ⟨hS1, hS2, hS3, hS4, hS5⟩ := hSW; go_simp; first | done | rfl
        simp only [Act.put, List.setIfInBounds_toArray, List.set_cons_zero, List.set_cons_succ]
        refine wpAnyH_take (i := 9) (v := ?_) rfl (by kernel_rfl) (by kernel_rfl) (by kernel_rfl) (fun _ _ _ h => h) (Or.inl ⟨by kernel_rfl, ?_⟩) (by assumption) ?_
        rotate_left
        · intro W hSW; obtain ⟨hS1, hS2, hS3, hS4, hS5⟩ := hSW; go_simp; first | done | rfl
        simp only [Act.put, List.setIfInBounds_toArray, List.set_cons_zero, List.set_cons_succ]
        refine wpAnyH_take (i := 10) (v := ?_) rfl (by kernel_rfl) (by kernel_rfl) (by kernel_rfl) (fun _ _ _ h => h) (Or.inl ⟨by kernel_rfl, ?_⟩) (by assumption) ?_
        rotate_left
        · intro W hSW; obtain ⟨hS1, hS2, hS3, hS4, hS5⟩ := hSW; go_simp; first | done | rfl
        simp only [Act.put, List.setIfInBounds_toArray, List.set_cons_zero, List.set_cons_succ]
        refine wpAnyH_take (i := 11) (v := ?_) rfl (by kernel_rfl) (by kernel_rfl) (by kernel_rfl) (fun _ _ _ h => h) (Or.inl ⟨by kernel_rfl, ?_⟩) (by assumption) ?_
        rotate_left
        · intro W hSW; obtain ⟨hS1, hS2, hS3, hS4, hS5⟩ := hSW; go_simp; first | done | rfl
        simp only [Act.put, List.setIfInBounds_toArray, List.set_cons_zero, List.set_cons_succ]
        refine held_one (i := 12) (by kernel_rfl) rfl (by kernel_rfl) (fun K hK => ?_)
        go_simp
        refine (unhide HC).mono ?_
        rintro e w2 ⟨rfl, rfl⟩
        refine hK.out _ _ hS0 ?_
        clear hK K
        try simp only [Act.put, List.setIfInBounds_toArray, List.set_cons_zero, List.set_cons_succ]
        refine wpAnyH_take (i := 13) (v := ?_) rfl (by kernel_rfl) (by kernel_rfl) (by kernel_rfl) (fun _ _ _ h => h) (Or.inl ⟨by kernel_rfl, ?_⟩) (by assumption) ?_
        rotate_left
        · intro W hSW; obtain ⟨hS1, hS2, hS3, hS4, hS5⟩ := hSW; go_simp; first | done | rfl
        simp only [Act.put, List.setIfInBounds_toArray, List.set_cons_zero, List.set_cons_succ]
        refine held_one (i := 15) (by kernel_rfl) rfl (by kernel_rfl) (fun K hK => ?_)
        go_simp
        refine (unhide HN q2 _).mono ?_
        rintro e w2 ⟨rfl, hb⟩
        cases q2 with
        | false => exact ⟨rfl, ends_no (unhide HX) (grown_below_then (grown_then hg1 (grown_drewN W 1 none) (by simp)) hb)⟩
        | true =>
          have hb' : Below W.heap.size W w2 := below_then (Below.drewN W 1) hb
          have x1 := (unhide X1).belowH hb'
          have hS1 : w2.cell? ⟨tb, 0, none⟩ = some (.int .i64 t.kind) ∧ w2.cell? ⟨tb, 1, none⟩ = some (.string ⟨t.text.toArray⟩) ∧ w2.cell? ⟨tb, 2, none⟩ = some (.int .i64 t.n) ∧ w2.cell? ⟨tb, 3, none⟩ = some (.int .i64 (t.at_ : Int)) ∧ w2.cell? ⟨R, 1, none⟩ = some (.slice da nv dc) := ⟨x1.cell0, x1.cell1, x1.cell2, x1.cell3, (hr1.below hb').cell1⟩
          refine hK.out _ _ hS1 (wpAnyH_done (by kernel_rfl) ?_ _)
          obtain ⟨c0, c1, c2, c3, _⟩ := hS1
          have HR := hide (hr1.below hb')
          have HG := hide (grown_below_then hg1 hb')
          clear x1 hb hb' hr1 hg1 X1 hS0 hK HN HC HV
          try simp only [Act.put, List.setIfInBounds_toArray, List.set_cons_zero, List.set_cons_succ]
          go_wp2
          go_ret
          exact ends_ok (unhide HX) (unhide HG) rfl (unhide HR)
    · rw [if_neg h6] at hX
      have h6' : decide ((ahead.length : Int) < 6) = false := by simp; omega
      have HX := hide hX
      have HN1 := hide (fun W => need_no t 7 W)
      unfold tokV at HN1
      clear h hf hn hm hX h6
      go_enter Tryd.func83, Tryd.ntmps83
      go_wp2_with fail
      refine (unhide HT).mono ?_
      rintro e w1 ⟨hg, _, rfl, rfl, hr⟩
      unfold tokV
      have hg1 := grown_then hg (World.grownBy_alloc w1 (.cells #[.int .i64 t.kind, .string ⟨t.text.toArray⟩, .int .i64 t.n, .int .i64 (t.at_ : Int)] 52) none) (by simp)
      go_wp2_with fail
      refine (unhide HN1 _).mono ?_
      rintro e W ⟨rfl, hb⟩
      exact ⟨rfl, ends_no (unhide HX) (grown_below_then hg1 hb)⟩

end Go.Proofs.YtoiokplgkanepaaDoor
