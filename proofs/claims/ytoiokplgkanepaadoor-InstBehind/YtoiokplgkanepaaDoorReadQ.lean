/-
  Reading tokens: the contract of statement.
-/
import Derived.Test.YtoiokplgkanepaaDoorReadP
namespace Go.Proofs.YtoiokplgkanepaaDoor
open Go.RowKit
set_option linter.unusedVariables false
set_option linter.unusedSimpArgs false
set_option maxRecDepth 20000

/-- What is new lies off what reading writes into. -/
theorem xx_new {w0 : World} {R : Nat} {w : World} {x : Ins} {ts : List Tok} {dv hv sv : Value} (a : InSt w0 R w x ts dv hv sv) {k : Nat} (h : XX R dv hv sv k) : k < w.heap.size := by
  have hl := a.rd.lt
  obtain ⟨vs, d1, _⟩ := a.d
  obtain ⟨qs, h1, _⟩ := a.h
  obtain ⟨us, s1, _⟩ := a.s
  rcases h with h | h | h | h
  · omega
  · exact (own4_new d1 k h).2
  · exact (own4_new h1 k h).2
  · exact (own4_new s1 k h).2

set_option maxHeartbeats 1000000 in
theorem stmtD {w0 : World} {R : Nat} {w : World} {x : Ins} {t : Tok} {r : List Tok} {dv hv sv : Value} (T : Tabs w0) (a : InSt w0 R w x (t :: r) dv hv sv) (hf : Fair (t :: r)) (hN : (t :: r).length ≤ 1000000) (k : Nat) (hw : wordF t 8 0 = some k) (hk0 : ((k : Int) == 0) = true) :
    Calls Tryd.prog 15 #[.pointer (some ⟨R, 0, none⟩)] w (SEnds w0 R (if x.doms.length < 40 then (domR r).bind fun y r => .ok { x with doms := x.doms ++ [y] } r else .fault t.at_ 7)) := by
  have hlt := a.rd.lt
  have hR0 : 0 < R := Nat.lt_of_lt_of_le T.lt a.rd.le
  obtain ⟨X, hX⟩ : ∃ X, X = (if x.doms.length < 40 then (domR r).bind fun y r => .ok { x with doms := x.doms ++ [y] } r else .fault t.at_ 7) := ⟨_, rfl⟩
  rw [← hX]
  obtain ⟨va, vc, hva, hvl, hvc⟩ := a.formD
  subst hva
  unfold maxLen at hvc
  obtain ⟨hf2, hl2, _⟩ := hf.word (n := 8) (k := 0) (j := k) (r := r) (show wordT t 8 0 r = _ by rw [wordT, hw])
  simp only [List.length_cons] at hN hl2
  have HF2 := hide hf2
  have HTK := hide (rtake_any a.rd)
  have HTW := hide (fun w' (hb : Below w0.heap.size w0 w') => wordOf_any (T.below hb) t 8 0 7 rfl (by omega))
  rw [hw] at HTW
  unfold tokV at HTK HTW
  simp only [wordEnd] at HTW
  have HA := hide a
  have HX := hide hX
  have HT := hide T
  obtain ⟨q, hq⟩ : ∃ q : Bool, q = decide (x.doms.length < 40) := ⟨_, rfl⟩
  have hq' : decide ((x.doms.length : Int) < 40) = q := by rw [hq, decide_eq_decide]; omega
  have HQ := hide hq
  have HN := hide (fun W => need_any q t 7 W)
  unfold tokV at HN
  clear hX T a hf hf2 hw hq
  go_enter Tryd.func15, Tryd.ntmps15
  go_wp2_with fail
  refine (unhide HTK).mono ?_
  rintro e w1 ⟨rfl, hr1, hg1⟩
  have hs1 := ((unhide HA).kept hg1 hr1).below ((Below.refl _ _).alloc (Nat.le_refl _) (.cells #[.int .i64 t.kind, .string ⟨t.text.toArray⟩, .int .i64 t.n, .int .i64 (t.at_ : Int)] 52))
  have x1 := BoxK.new 52 w1 (.int .i64 t.kind) (.string ⟨t.text.toArray⟩) (.int .i64 t.n) (.int .i64 (t.at_ : Int))
  have HS1 := hide hs1
  have X1 := hide x1
  have HW2 := hide (unhide HTW _ hs1.rd.old)
  clear hr1 hg1 hs1 x1 HTK HTW
  go_wp2_with fail
  refine (unhide HW2).mono ?_
  rintro e W ⟨rfl, hb⟩
  have hs2 := (unhide HS1).below hb
  have x2 := (unhide X1).belowH hb
  generalize w1.heap.size = tb at *
  have hS0 : W.drew.cell? ⟨tb, 0, none⟩ = some (.int .i64 t.kind) ∧ W.drew.cell? ⟨tb, 1, none⟩ = some (.string ⟨t.text.toArray⟩) ∧ W.drew.cell? ⟨tb, 2, none⟩ = some (.int .i64 t.n) ∧ W.drew.cell? ⟨tb, 3, none⟩ = some (.int .i64 (t.at_ : Int)) ∧ W.drew.cell? ⟨R, 1, none⟩ = some (.slice va x.doms.length vc) := ⟨x2.cell0, x2.cell1, x2.cell2, x2.cell3, hs2.rd.cell1⟩
  have HS2 := hide hs2
  have X2 := hide x2
  clear hs2 x2 hb HS1 X1 HW2 HA
  go_wp2
  refine wp_region_held (S := fun U => U.cell? ⟨tb, 0, none⟩ = some (.int .i64 t.kind) ∧ U.cell? ⟨tb, 1, none⟩ = some (.string ⟨t.text.toArray⟩) ∧ U.cell? ⟨tb, 2, none⟩ = some (.int .i64 t.n) ∧ U.cell? ⟨tb, 3, none⟩ = some (.int .i64 (t.at_ : Int)) ∧ U.cell? ⟨R, 1, none⟩ = some (.slice va x.doms.length vc)) (by kernel_rfl) ?_
  refine wpAnyH_take (i := 0) (v := ?_) rfl (by kernel_rfl) (by kernel_rfl) (by kernel_rfl) (fun _ _ _ h => h) (Or.inl ⟨by kernel_rfl, ?_⟩) (by assumption) ?_
  rotate_left
  · intro W hSW; obtain ⟨hS1, hS2, hS3, hS4, hS5⟩ := hSW; go_simp; first | done | rfl
  simp only [Act.put, List.setIfInBounds_toArray, List.set_cons_zero, List.set_cons_succ]
  refine wpAnyH_take (i := 1) (v := ?_) rfl (by kernel_rfl) (by kernel_rfl) (by kernel_rfl) (fun _ _ _ h => h) (Or.inl ⟨by kernel_rfl, ?_⟩) (by assumption) ?_
  rotate_left
  · intro W hSW; obtain ⟨hS1, hS2, hS3, hS4, hS5⟩ := hSW; go_simp; first | done | rfl
  simp only [Act.put, List.setIfInBounds_toArray, List.set_cons_zero, List.set_cons_succ]
  refine wpAnyH_take (i := 2) (v := ?_) rfl (by kernel_rfl) (by kernel_rfl) (by kernel_rfl) (fun _ _ _ h => h) (Or.inl ⟨by kernel_rfl, ?_⟩) (by assumption) ?_
  rotate_left
  · intro W hSW; obtain ⟨hS1, hS2, hS3, hS4, hS5⟩ := hSW; go_simp; first | done | rfl
  simp only [Act.put, List.setIfInBounds_toArray, List.set_cons_zero, List.set_cons_succ]
  refine wpAnyH_take (i := 3) (v := ?_) rfl (by kernel_rfl) (by kernel_rfl) (by kernel_rfl) (fun _ _ _ h => h) (Or.inl ⟨by kernel_rfl, ?_⟩) (by assumption) ?_
  rotate_left
  · intro W hSW; obtain ⟨hS1, hS2, hS3, hS4, hS5⟩ := hSW; go_simp; first | done | rfl
  simp only [Act.put, List.setIfInBounds_toArray, List.set_cons_zero, List.set_cons_succ]
  refine wpAnyH_take (i := 4) (v := ?_) rfl (by kernel_rfl) (by kernel_rfl) (by kernel_rfl) (fun _ _ _ h => h) (Or.inl ⟨by kernel_rfl, ?_⟩) (by assumption) ?_
  rotate_left
  · intro W hSW; obtain ⟨hS1, hS2, hS3, hS4, hS5⟩ := hSW; go_simp; first | done | rfl
  simp only [Act.put, List.setIfInBounds_toArray, List.set_cons_zero, List.set_cons_succ]
  refine wpAnyH_take (i := 5) (v := ?_) rfl (by kernel_rfl) (by kernel_rfl) (by kernel_rfl) (fun _ _ _ h => h) (Or.inl ⟨by kernel_rfl, ?_⟩) (by assumption) ?_
  rotate_left
  · intro W hSW; obtain ⟨hS1, hS2, hS3, hS4, hS5⟩ := hSW; go_simp; first | done | rfl
  simp only [Act.put, List.setIfInBounds_toArray, List.set_cons_zero, List.set_cons_succ]
  refine wpAnyH_take (i := 6) (v := ?_) rfl (by kernel_rfl) (by kernel_rfl) (by kernel_rfl) (fun _ _ _ h => h) (Or.inl ⟨by kernel_rfl, ?_⟩) (by assumption) ?_
  rotate_left
  · intro W hSW; obtain ⟨hS1, hS2, hS3, hS4, hS5⟩ := hSW; go_simp; first | done | rfl
  simp only [Act.put, List.setIfInBounds_toArray, List.set_cons_zero, List.set_cons_succ]
  refine wpAnyH_take (i := 7) (v := ?_) rfl (by kernel_rfl) (by kernel_rfl) (by kernel_rfl) (fun _ _ _ h => h) (Or.inl ⟨by kernel_rfl, ?_⟩) (by assumption) ?_
  rotate_left
  · intro W hSW; obtain ⟨hS1, hS2, hS3, hS4, hS5⟩ := hSW; go_simp; first | done | rfl
  simp only [Act.put, List.setIfInBounds_toArray, List.set_cons_zero, List.set_cons_succ]
  refine held_one (i := 8) (by kernel_rfl) rfl (by kernel_rfl) (fun K hK => ?_)
  go_simp
  refine (unhide HN _).mono ?_
  rintro e w2 ⟨rfl, hb⟩
  have hb' : Below W.heap.size W w2 := below_then (Below.drewN W 1) hb
  have hs3 := (unhide HS2).below hb'
  have x3 := (unhide X2).belowH hb'
  cases q with
  | false => exact ⟨rfl, sends_no (by rw [unhide HX, if_neg (by simpa using unhide HQ)]) hs3.rd.old⟩
  | true =>
    have hX := unhide HX
    have hlim : x.doms.length < 40 := by simpa using unhide HQ
    rw [if_pos hlim] at hX
    have HX2 := hide hX
    have hS1 : w2.cell? ⟨tb, 0, none⟩ = some (.int .i64 t.kind) ∧ w2.cell? ⟨tb, 1, none⟩ = some (.string ⟨t.text.toArray⟩) ∧ w2.cell? ⟨tb, 2, none⟩ = some (.int .i64 t.n) ∧ w2.cell? ⟨tb, 3, none⟩ = some (.int .i64 (t.at_ : Int)) ∧ w2.cell? ⟨R, 1, none⟩ = some (.slice va x.doms.length vc) := ⟨x3.cell0, x3.cell1, x3.cell2, x3.cell3, hs3.rd.cell1⟩
    refine hK.out _ _ hS1 (wpAnyH_done (by kernel_rfl) ?_ _)
    have hs4 := hs3.below (Below.drewN w2 1)
    have HS4 := hide hs4
    have hS0' : w2.drew.cell? ⟨R, 1, none⟩ = some (.slice va x.doms.length vc) ∧ True := ⟨hs4.rd.cell1, trivial⟩
    have HCL := hide (domain_any (unhide HS4).rd (unhide HF2))
    clear hs3 x3 hb hb' hS0 hS1 hK hs4 HS2 X2 HN hX HX
    try simp only [Act.put, List.setIfInBounds_toArray, List.set_cons_zero, List.set_cons_succ]
    go_wp2
    refine wp_region_till (st := 13) (S := fun U => U.cell? ⟨R, 1, none⟩ = some (.slice va x.doms.length vc) ∧ True) (by kernel_rfl) ?_
    refine till_take (i := 0) (v := ?_) rfl (by kernel_rfl) (by kernel_rfl) (by kernel_rfl) (by kernel_rfl) (fun _ _ _ h => h) (Or.inl ⟨by kernel_rfl, ?_⟩) (by assumption) ?_
    rotate_left
    · intro W hSW; obtain ⟨hS1, _⟩ := hSW; go_simp; first | done | rfl
    simp only [Act.put, List.setIfInBounds_toArray, List.set_cons_zero, List.set_cons_succ]
    refine till_take (i := 1) (v := ?_) rfl (by kernel_rfl) (by kernel_rfl) (by kernel_rfl) (by kernel_rfl) (fun _ _ _ h => h) (Or.inl ⟨by kernel_rfl, ?_⟩) (by assumption) ?_
    rotate_left
    · intro W hSW; obtain ⟨hS1, _⟩ := hSW; go_simp; first | done | rfl
    simp only [Act.put, List.setIfInBounds_toArray, List.set_cons_zero, List.set_cons_succ]
    refine till_take (i := 2) (v := ?_) rfl (by kernel_rfl) (by kernel_rfl) (by kernel_rfl) (by kernel_rfl) (fun _ _ _ h => h) (Or.inl ⟨by kernel_rfl, ?_⟩) (by assumption) ?_
    rotate_left
    · intro W hSW; obtain ⟨hS1, _⟩ := hSW; go_simp; first | done | rfl
    simp only [Act.put, List.setIfInBounds_toArray, List.set_cons_zero, List.set_cons_succ]
    refine till_take (i := 3) (v := ?_) rfl (by kernel_rfl) (by kernel_rfl) (by kernel_rfl) (by kernel_rfl) (fun _ _ _ h => h) (Or.inl ⟨by kernel_rfl, ?_⟩) (by assumption) ?_
    rotate_left
    · intro W hSW; obtain ⟨hS1, _⟩ := hSW; go_simp; first | done | rfl
    simp only [Act.put, List.setIfInBounds_toArray, List.set_cons_zero, List.set_cons_succ]
    refine till_take (i := 4) (v := ?_) rfl (by kernel_rfl) (by kernel_rfl) (by kernel_rfl) (by kernel_rfl) (fun _ _ _ h => h) (Or.inl ⟨by kernel_rfl, ?_⟩) (by assumption) ?_
    rotate_left
    · intro W hSW; obtain ⟨hS1, _⟩ := hSW; go_simp; first | done | rfl
    simp only [Act.put, List.setIfInBounds_toArray, List.set_cons_zero, List.set_cons_succ]
    refine till_take (i := 5) (v := ?_) rfl (by kernel_rfl) (by kernel_rfl) (by kernel_rfl) (by kernel_rfl) (fun _ _ _ h => h) (Or.inl ⟨by kernel_rfl, ?_⟩) (by assumption) ?_
    rotate_left
    · intro W hSW; obtain ⟨hS1, _⟩ := hSW; go_simp; first | done | rfl
    simp only [Act.put, List.setIfInBounds_toArray, List.set_cons_zero, List.set_cons_succ]
    refine till_take (i := 6) (v := ?_) rfl (by kernel_rfl) (by kernel_rfl) (by kernel_rfl) (by kernel_rfl) (fun _ _ _ h => h) (Or.inl ⟨by kernel_rfl, ?_⟩) (by assumption) ?_
    rotate_left
    · intro W hSW; obtain ⟨hS1, _⟩ := hSW; go_simp; first | done | rfl
    simp only [Act.put, List.setIfInBounds_toArray, List.set_cons_zero, List.set_cons_succ]
    refine till_one (i := 7) (by kernel_rfl) rfl rfl (by decide) (fun K hK => ?_)
    go_simp
    refine (unhide HCL).mono ?_
    have hX := unhide HX2
    cases hv2 : domR r with
    | fault p e =>
      rw [hv2] at hX
      have HX3 := hide hX
      clear hX hv2
      rintro e w6 ⟨hg6, rfl⟩
      exact ⟨rfl, sends_no (unhide HX3) ((unhide HS4).rd.oldG hg6)⟩
    | ok y r3 =>
      rw [hv2, ok_bind] at hX
      have HX3 := hide hX
      clear hX hv2
      rintro e w6 ⟨hg6, u, rfl, hu, hr6⟩
      have hs7 := (unhide HS4).kept hg6 hr6
      have hu' := hu.weaken (Y := XX R (.slice va x.doms.length vc) hv sv) (fun g _ h => xx_new (unhide HS4) h)
      obtain ⟨ua, uc, rfl, _, _⟩ := hu.1.form
      have hS6 : w6.cell? ⟨R, 1, none⟩ = some (.slice va x.doms.length vc) ∧ True := ⟨hs7.rd.cell1, trivial⟩
      refine hK.out _ _ hS6 (fun hHeld => ?_)
      clear hK K
      try simp only [Act.put, List.setIfInBounds_toArray, List.set_cons_zero, List.set_cons_succ]
      refine till_one (i := 8) (by kernel_rfl) rfl rfl (by decide) (fun K hK => ?_)
      go_simp
      refine hK.out _ _ ⟨cell_push0 hS6.1 _, trivial⟩ (fun hHeld => ?_)
      clear hK K
      try simp only [Act.put, List.setIfInBounds_toArray, List.set_cons_zero, List.set_cons_succ]
      refine till_one (i := 9) (by kernel_rfl) rfl rfl (by decide) (fun K hK => ?_)
      have hz6 : R + 1 ≤ w6.heap.size := hs7.rd.lt
      obtain ⟨vs, d1, d2, d3⟩ := hs7.d
      refine op_app_row (.tmp 48) (.tmp 51) rfl (B := R + 1) (w := w6) d1 rfl hz6 rfl rfl (by omega) ?_
      intro v7 w7 hown7 hgrew7
      have hs8 := hs7.addD d1 d2 d3 hu' hown7 hgrew7
      obtain ⟨va7, vc7, hv7, _, _⟩ := (show Seq id w7 v7 (vs ++ [Value.slice ua y.length uc]) from Seq.of_own (enc := id) (B := R + 1) (e := 40) (by have h := hown7; unfold OwnV at h; simpa using h)).form
      subst hv7
      have r7 := hs7.rd.grown hgrew7.by_ (fun b e => .inr (by have := own4_new d1 b e; omega))
      have k1 := r7.cell1
      have kf := r7.frozen 1
      refine hK.out _ _ ⟨k1, trivial⟩ (fun hHeld => ?_)
      clear hK K
      try simp only [Act.put, List.setIfInBounds_toArray, List.set_cons_zero, List.set_cons_succ]
      refine till_one (i := 10) (by kernel_rfl) rfl rfl (by decide) (fun K hK => ?_)
      go_simp
      refine hK.out _ _ ⟨k1, trivial⟩ (fun hHeld => ?_)
      clear hK K
      try simp only [Act.put, List.setIfInBounds_toArray, List.set_cons_zero, List.set_cons_succ]
      refine till_one (i := 11) (by kernel_rfl) rfl rfl (by decide) (fun K hK => ?_)
      go_simp
      refine hK.out _ _ ⟨k1, trivial⟩ (fun hHeld => ?_)
      clear hK K
      try simp only [Act.put, List.setIfInBounds_toArray, List.set_cons_zero, List.set_cons_succ]
      refine till_one (i := 12) (by kernel_rfl) rfl rfl (by decide) (fun K hK => ?_)
      go_simp
      refine hK.out _ _ ⟨k1, trivial⟩ (fun hHeld => ?_)
      clear hK K
      try simp only [Act.put, List.setIfInBounds_toArray, List.set_cons_zero, List.set_cons_succ]
      refine till_last (by kernel_rfl) rfl rfl (by kernel_rfl) (fun K hK => ?_)
      go_simp
      refine hK.out _ _ ?_
      have HS8 := hide hs8
      simp only [List.length_append, List.length_cons, List.length_nil, Nat.zero_add, d2] at HS8
      clear hK K hHeld k1 kf r7 hown7 hgrew7 hs7 hS6 hr6 hg6 HCL HS4 hS0' hs8 hu'
      go_wp2
      first | go_end0 | skip
      exact sends_ok (unhide HX3) (unhide HS8)
      
set_option maxHeartbeats 1000000 in
theorem stmtH {w0 : World} {R : Nat} {w : World} {x : Ins} {t : Tok} {r : List Tok} {dv hv sv : Value} (T : Tabs w0) (a : InSt w0 R w x (t :: r) dv hv sv) (hf : Fair (t :: r)) (hN : (t :: r).length ≤ 1000000) (k : Nat) (hw : wordF t 8 0 = some k) (hk0 : ((k : Int) == 0) = false) (hk7 : ((k : Int) == 7) = false) :
    Calls Tryd.prog 15 #[.pointer (some ⟨R, 0, none⟩)] w (SEnds w0 R (if x.hard.length < 200 then (hardR x.doms k r).bind fun y r => .ok { x with hard := x.hard ++ [y] } r else .fault t.at_ 7)) := by
  have hlt := a.rd.lt
  have hR0 : 0 < R := Nat.lt_of_lt_of_le T.lt a.rd.le
  obtain ⟨X, hX⟩ : ∃ X, X = (if x.hard.length < 200 then (hardR x.doms k r).bind fun y r => .ok { x with hard := x.hard ++ [y] } r else .fault t.at_ 7) := ⟨_, rfl⟩
  rw [← hX]
  obtain ⟨va, vc, hva, hvl, hvc⟩ := a.formH
  subst hva
  unfold maxLen at hvc
  obtain ⟨hf2, hl2, _⟩ := hf.word (n := 8) (k := 0) (j := k) (r := r) (show wordT t 8 0 r = _ by rw [wordT, hw])
  simp only [List.length_cons] at hN hl2
  have HF2 := hide hf2
  have HTK := hide (rtake_any a.rd)
  have HTW := hide (fun w' (hb : Below w0.heap.size w0 w') => wordOf_any (T.below hb) t 8 0 7 rfl (by omega))
  rw [hw] at HTW
  unfold tokV at HTK HTW
  simp only [wordEnd] at HTW
  have HA := hide a
  have HX := hide hX
  have HT := hide T
  obtain ⟨q, hq⟩ : ∃ q : Bool, q = decide (x.hard.length < 200) := ⟨_, rfl⟩
  have hq' : decide ((x.hard.length : Int) < 200) = q := by rw [hq, decide_eq_decide]; omega
  have HQ := hide hq
  have HN := hide (fun W => need_any q t 7 W)
  unfold tokV at HN
  clear hX T a hf hf2 hw hq
  go_enter Tryd.func15, Tryd.ntmps15
  go_wp2_with fail
  refine (unhide HTK).mono ?_
  rintro e w1 ⟨rfl, hr1, hg1⟩
  have hs1 := ((unhide HA).kept hg1 hr1).below ((Below.refl _ _).alloc (Nat.le_refl _) (.cells #[.int .i64 t.kind, .string ⟨t.text.toArray⟩, .int .i64 t.n, .int .i64 (t.at_ : Int)] 52))
  have x1 := BoxK.new 52 w1 (.int .i64 t.kind) (.string ⟨t.text.toArray⟩) (.int .i64 t.n) (.int .i64 (t.at_ : Int))
  have HS1 := hide hs1
  have X1 := hide x1
  have HW2 := hide (unhide HTW _ hs1.rd.old)
  clear hr1 hg1 hs1 x1 HTK HTW
  go_wp2_with fail
  refine (unhide HW2).mono ?_
  rintro e W ⟨rfl, hb⟩
  have hs2 := (unhide HS1).below hb
  have x2 := (unhide X1).belowH hb
  generalize w1.heap.size = tb at *
  have hS0 : W.drew.cell? ⟨tb, 0, none⟩ = some (.int .i64 t.kind) ∧ W.drew.cell? ⟨tb, 1, none⟩ = some (.string ⟨t.text.toArray⟩) ∧ W.drew.cell? ⟨tb, 2, none⟩ = some (.int .i64 t.n) ∧ W.drew.cell? ⟨tb, 3, none⟩ = some (.int .i64 (t.at_ : Int)) ∧ W.drew.cell? ⟨R, 2, none⟩ = some (.slice va x.hard.length vc) := ⟨x2.cell0, x2.cell1, x2.cell2, x2.cell3, hs2.rd.cell2⟩
  have HS2 := hide hs2
  have X2 := hide x2
  clear hs2 x2 hb HS1 X1 HW2 HA
  go_wp2
  refine wp_region_held (S := fun U => U.cell? ⟨tb, 0, none⟩ = some (.int .i64 t.kind) ∧ U.cell? ⟨tb, 1, none⟩ = some (.string ⟨t.text.toArray⟩) ∧ U.cell? ⟨tb, 2, none⟩ = some (.int .i64 t.n) ∧ U.cell? ⟨tb, 3, none⟩ = some (.int .i64 (t.at_ : Int)) ∧ U.cell? ⟨R, 2, none⟩ = some (.slice va x.hard.length vc)) (by kernel_rfl) ?_
  refine wpAnyH_take (i := 0) (v := ?_) rfl (by kernel_rfl) (by kernel_rfl) (by kernel_rfl) (fun _ _ _ h => h) (Or.inl ⟨by kernel_rfl, ?_⟩) (by assumption) ?_
  rotate_left
  · intro W hSW; obtain ⟨hS1, hS2, hS3, hS4, hS5⟩ := hSW; go_simp; first | done | rfl
  simp only [Act.put, List.setIfInBounds_toArray, List.set_cons_zero, List.set_cons_succ]
  refine wpAnyH_take (i := 1) (v := ?_) rfl (by kernel_rfl) (by kernel_rfl) (by kernel_rfl) (fun _ _ _ h => h) (Or.inl ⟨by kernel_rfl, ?_⟩) (by assumption) ?_
  rotate_left
  · intro W hSW; obtain ⟨hS1, hS2, hS3, hS4, hS5⟩ := hSW; go_simp; first | done | rfl
  simp only [Act.put, List.setIfInBounds_toArray, List.set_cons_zero, List.set_cons_succ]
  refine wpAnyH_take (i := 2) (v := ?_) rfl (by kernel_rfl) (by kernel_rfl) (by kernel_rfl) (fun _ _ _ h => h) (Or.inl ⟨by kernel_rfl, ?_⟩) (by assumption) ?_
  rotate_left
  · intro W hSW; obtain ⟨hS1, hS2, hS3, hS4, hS5⟩ := hSW; go_simp; first | done | rfl
  simp only [Act.put, List.setIfInBounds_toArray, List.set_cons_zero, List.set_cons_succ]
  refine wpAnyH_take (i := 3) (v := ?_) rfl (by kernel_rfl) (by kernel_rfl) (by kernel_rfl) (fun _ _ _ h => h) (Or.inl ⟨by kernel_rfl, ?_⟩) (by assumption) ?_
  rotate_left
  · intro W hSW; obtain ⟨hS1, hS2, hS3, hS4, hS5⟩ := hSW; go_simp; first | done | rfl
  simp only [Act.put, List.setIfInBounds_toArray, List.set_cons_zero, List.set_cons_succ]
  refine wpAnyH_take (i := 4) (v := ?_) rfl (by kernel_rfl) (by kernel_rfl) (by kernel_rfl) (fun _ _ _ h => h) (Or.inl ⟨by kernel_rfl, ?_⟩) (by assumption) ?_
  rotate_left
  · intro W hSW; obtain ⟨hS1, hS2, hS3, hS4, hS5⟩ := hSW; go_simp; first | done | rfl
  simp only [Act.put, List.setIfInBounds_toArray, List.set_cons_zero, List.set_cons_succ]
  refine wpAnyH_take (i := 5) (v := ?_) rfl (by kernel_rfl) (by kernel_rfl) (by kernel_rfl) (fun _ _ _ h => h) (Or.inl ⟨by kernel_rfl, ?_⟩) (by assumption) ?_
  rotate_left
  · intro W hSW; obtain ⟨hS1, hS2, hS3, hS4, hS5⟩ := hSW; go_simp; first | done | rfl
  simp only [Act.put, List.setIfInBounds_toArray, List.set_cons_zero, List.set_cons_succ]
  refine wpAnyH_take (i := 6) (v := ?_) rfl (by kernel_rfl) (by kernel_rfl) (by kernel_rfl) (fun _ _ _ h => h) (Or.inl ⟨by kernel_rfl, ?_⟩) (by assumption) ?_
  rotate_left
  · intro W hSW; obtain ⟨hS1, hS2, hS3, hS4, hS5⟩ := hSW; go_simp; first | done | rfl
  simp only [Act.put, List.setIfInBounds_toArray, List.set_cons_zero, List.set_cons_succ]
  refine wpAnyH_take (i := 7) (v := ?_) rfl (by kernel_rfl) (by kernel_rfl) (by kernel_rfl) (fun _ _ _ h => h) (Or.inl ⟨by kernel_rfl, ?_⟩) (by assumption) ?_
  rotate_left
  · intro W hSW; obtain ⟨hS1, hS2, hS3, hS4, hS5⟩ := hSW; go_simp; first | done | rfl
  simp only [Act.put, List.setIfInBounds_toArray, List.set_cons_zero, List.set_cons_succ]
  refine held_one (i := 8) (by kernel_rfl) rfl (by kernel_rfl) (fun K hK => ?_)
  go_simp
  refine (unhide HN _).mono ?_
  rintro e w2 ⟨rfl, hb⟩
  have hb' : Below W.heap.size W w2 := below_then (Below.drewN W 1) hb
  have hs3 := (unhide HS2).below hb'
  have x3 := (unhide X2).belowH hb'
  cases q with
  | false => exact ⟨rfl, sends_no (by rw [unhide HX, if_neg (by simpa using unhide HQ)]) hs3.rd.old⟩
  | true =>
    have hX := unhide HX
    have hlim : x.hard.length < 200 := by simpa using unhide HQ
    rw [if_pos hlim] at hX
    have HX2 := hide hX
    have hS1 : w2.cell? ⟨tb, 0, none⟩ = some (.int .i64 t.kind) ∧ w2.cell? ⟨tb, 1, none⟩ = some (.string ⟨t.text.toArray⟩) ∧ w2.cell? ⟨tb, 2, none⟩ = some (.int .i64 t.n) ∧ w2.cell? ⟨tb, 3, none⟩ = some (.int .i64 (t.at_ : Int)) ∧ w2.cell? ⟨R, 2, none⟩ = some (.slice va x.hard.length vc) := ⟨x3.cell0, x3.cell1, x3.cell2, x3.cell3, hs3.rd.cell2⟩
    refine hK.out _ _ hS1 (wpAnyH_done (by kernel_rfl) ?_ _)
    have hs4 := hs3.below (Below.drewN w2 1)
    have HS4 := hide hs4
    have hS0' : w2.drew.cell? ⟨R, 2, none⟩ = some (.slice va x.hard.length vc) ∧ True := ⟨hs4.rd.cell2, trivial⟩
    have HCL := hide (hard_any ((unhide HT).below (unhide HS4).rd.old) hR0 (unhide HS4).rd (unhide HF2) (unhide HS4).doms k (by omega))
    clear hs3 x3 hb hb' hS0 hS1 hK hs4 HS2 X2 HN hX HX
    try simp only [Act.put, List.setIfInBounds_toArray, List.set_cons_zero, List.set_cons_succ]
    go_wp2
    refine wp_region_till (st := 14) (S := fun U => U.cell? ⟨R, 2, none⟩ = some (.slice va x.hard.length vc) ∧ True) (by kernel_rfl) ?_
    refine till_take (i := 0) (v := ?_) rfl (by kernel_rfl) (by kernel_rfl) (by kernel_rfl) (by kernel_rfl) (fun _ _ _ h => h) (Or.inl ⟨by kernel_rfl, ?_⟩) (by assumption) ?_
    rotate_left
    · intro W hSW; obtain ⟨hS1, _⟩ := hSW; go_simp; first | done | rfl
    simp only [Act.put, List.setIfInBounds_toArray, List.set_cons_zero, List.set_cons_succ]
    refine till_take (i := 1) (v := ?_) rfl (by kernel_rfl) (by kernel_rfl) (by kernel_rfl) (by kernel_rfl) (fun _ _ _ h => h) (Or.inl ⟨by kernel_rfl, ?_⟩) (by assumption) ?_
    rotate_left
    · intro W hSW; obtain ⟨hS1, _⟩ := hSW; go_simp; first | done | rfl
    simp only [Act.put, List.setIfInBounds_toArray, List.set_cons_zero, List.set_cons_succ]
    refine till_take (i := 2) (v := ?_) rfl (by kernel_rfl) (by kernel_rfl) (by kernel_rfl) (by kernel_rfl) (fun _ _ _ h => h) (Or.inl ⟨by kernel_rfl, ?_⟩) (by assumption) ?_
    rotate_left
    · intro W hSW; obtain ⟨hS1, _⟩ := hSW; go_simp; first | done | rfl
    simp only [Act.put, List.setIfInBounds_toArray, List.set_cons_zero, List.set_cons_succ]
    refine till_take (i := 3) (v := ?_) rfl (by kernel_rfl) (by kernel_rfl) (by kernel_rfl) (by kernel_rfl) (fun _ _ _ h => h) (Or.inl ⟨by kernel_rfl, ?_⟩) (by assumption) ?_
    rotate_left
    · intro W hSW; obtain ⟨hS1, _⟩ := hSW; go_simp; first | done | rfl
    simp only [Act.put, List.setIfInBounds_toArray, List.set_cons_zero, List.set_cons_succ]
    refine till_take (i := 4) (v := ?_) rfl (by kernel_rfl) (by kernel_rfl) (by kernel_rfl) (by kernel_rfl) (fun _ _ _ h => h) (Or.inl ⟨by kernel_rfl, ?_⟩) (by assumption) ?_
    rotate_left
    · intro W hSW; obtain ⟨hS1, _⟩ := hSW; go_simp; first | done | rfl
    simp only [Act.put, List.setIfInBounds_toArray, List.set_cons_zero, List.set_cons_succ]
    refine till_take (i := 5) (v := ?_) rfl (by kernel_rfl) (by kernel_rfl) (by kernel_rfl) (by kernel_rfl) (fun _ _ _ h => h) (Or.inl ⟨by kernel_rfl, ?_⟩) (by assumption) ?_
    rotate_left
    · intro W hSW; obtain ⟨hS1, _⟩ := hSW; go_simp; first | done | rfl
    simp only [Act.put, List.setIfInBounds_toArray, List.set_cons_zero, List.set_cons_succ]
    refine till_take (i := 6) (v := ?_) rfl (by kernel_rfl) (by kernel_rfl) (by kernel_rfl) (by kernel_rfl) (fun _ _ _ h => h) (Or.inl ⟨by kernel_rfl, ?_⟩) (by assumption) ?_
    rotate_left
    · intro W hSW; obtain ⟨hS1, _⟩ := hSW; go_simp; first | done | rfl
    simp only [Act.put, List.setIfInBounds_toArray, List.set_cons_zero, List.set_cons_succ]
    refine till_take (i := 7) (v := ?_) rfl (by kernel_rfl) (by kernel_rfl) (by kernel_rfl) (by kernel_rfl) (fun _ _ _ h => h) (Or.inl ⟨by kernel_rfl, ?_⟩) (by assumption) ?_
    rotate_left
    · intro W hSW; obtain ⟨hS1, _⟩ := hSW; go_simp; first | done | rfl
    simp only [Act.put, List.setIfInBounds_toArray, List.set_cons_zero, List.set_cons_succ]
    refine till_one (i := 8) (by kernel_rfl) rfl rfl (by decide) (fun K hK => ?_)
    go_simp
    refine (unhide HCL).mono ?_
    have hX := unhide HX2
    cases hv2 : hardR x.doms k r with
    | fault p e =>
      rw [hv2] at hX
      have HX3 := hide hX
      clear hX hv2
      rintro e w6 ⟨hg6, rfl⟩
      exact ⟨rfl, sends_no (unhide HX3) ((unhide HS4).rd.oldG hg6)⟩
    | ok y r3 =>
      rw [hv2, ok_bind] at hX
      have HX3 := hide hX
      clear hX hv2
      rintro e w6 ⟨hg6, u, rfl, ⟨qd, rfl, hu⟩, hr6⟩
      have hs7 := (unhide HS4).kept hg6 hr6
      have hu' := hu.weaken (Y := XX R dv (.slice va x.hard.length vc) sv) (fun g _ h => xx_new (unhide HS4) h)
      obtain ⟨qa, qb, qc, qe⟩ := qd
      obtain ⟨hq1, hq2, hq3, hq4⟩ := hu
      simp only [] at hq1 hq2 hq3 hq4
      obtain ⟨sa, sc, rfl, _, _⟩ := hq2.1.form
      obtain ⟨ra, rc, rfl, _, _⟩ := hq3.form
      obtain ⟨aa, ac, rfl, _, _⟩ := hq4.1.form
      subst hq1
      have hS6 : w6.cell? ⟨R, 2, none⟩ = some (.slice va x.hard.length vc) ∧ True := ⟨hs7.rd.cell2, trivial⟩
      refine hK.out _ _ hS6 (fun hHeld => ?_)
      clear hK K
      try simp only [Act.put, List.setIfInBounds_toArray, List.set_cons_zero, List.set_cons_succ]
      refine till_one (i := 9) (by kernel_rfl) rfl rfl (by decide) (fun K hK => ?_)
      go_simp
      refine hK.out _ _ ⟨cell_push0 hS6.1 _, trivial⟩ (fun hHeld => ?_)
      clear hK K
      try simp only [Act.put, List.setIfInBounds_toArray, List.set_cons_zero, List.set_cons_succ]
      refine till_one (i := 10) (by kernel_rfl) rfl rfl (by decide) (fun K hK => ?_)
      have hz6 : R + 1 ≤ w6.heap.size := hs7.rd.lt
      obtain ⟨vs, d1, d2, d3⟩ := hs7.h
      refine op_app_quad Tryd.underlying24 Tryd.infoCon rfl (by decide) (.tmp 23) (.tmp 27) rfl (B := R + 1) (w := w6) (y := ⟨.int .i64 y.kind, .slice sa y.scope.length sc, .slice ra y.rows.length rc, .slice aa y.args.length ac⟩) d1 rfl hz6 rfl (by intro u hu; simp [Quad.cells] at hu; rcases hu with rfl | rfl | rfl | rfl <;> rfl) (by omega) ?_
      intro v7 w7 hown7 hgrew7
      have hs8 := hs7.addH d1 d2 d3 hu' hown7 hgrew7
      obtain ⟨va7, vc7, hv7, _, _⟩ := hown7.seq.form
      subst hv7
      have r7 := hs7.rd.grown hgrew7.by_ (fun b e => .inr (by have := own4_new d1 b e; omega))
      have k1 := r7.cell2
      have kf := r7.frozen 2
      refine hK.out _ _ ⟨k1, trivial⟩ (fun hHeld => ?_)
      clear hK K
      try simp only [Act.put, List.setIfInBounds_toArray, List.set_cons_zero, List.set_cons_succ]
      refine till_one (i := 11) (by kernel_rfl) rfl rfl (by decide) (fun K hK => ?_)
      go_simp
      refine hK.out _ _ ⟨k1, trivial⟩ (fun hHeld => ?_)
      clear hK K
      try simp only [Act.put, List.setIfInBounds_toArray, List.set_cons_zero, List.set_cons_succ]
      refine till_one (i := 12) (by kernel_rfl) rfl rfl (by decide) (fun K hK => ?_)
      go_simp
      refine hK.out _ _ ⟨k1, trivial⟩ (fun hHeld => ?_)
      clear hK K
      try simp only [Act.put, List.setIfInBounds_toArray, List.set_cons_zero, List.set_cons_succ]
      refine till_one (i := 13) (by kernel_rfl) rfl rfl (by decide) (fun K hK => ?_)
      go_simp
      refine hK.out _ _ ⟨k1, trivial⟩ (fun hHeld => ?_)
      clear hK K
      try simp only [Act.put, List.setIfInBounds_toArray, List.set_cons_zero, List.set_cons_succ]
      refine till_last (by kernel_rfl) rfl rfl (by kernel_rfl) (fun K hK => ?_)
      go_simp
      refine hK.out _ _ ?_
      have HS8 := hide hs8
      simp only [List.length_append, List.length_cons, List.length_nil, Nat.zero_add, d2] at HS8
      clear hK K hHeld k1 kf r7 hown7 hgrew7 hs7 hS6 hr6 hg6 HCL HS4 hS0' hs8 hu'
      go_wp2
      first | go_end0 | skip
      exact sends_ok (unhide HX3) (unhide HS8)
      
set_option maxHeartbeats 1000000 in
theorem stmtS {w0 : World} {R : Nat} {w : World} {x : Ins} {t : Tok} {r : List Tok} {dv hv sv : Value} (T : Tabs w0) (a : InSt w0 R w x (t :: r) dv hv sv) (hf : Fair (t :: r)) (hN : (t :: r).length ≤ 1000000) (k : Nat) (hw : wordF t 8 0 = some k) (hk0 : ((k : Int) == 0) = false) (hk7 : ((k : Int) == 7) = true) :
    Calls Tryd.prog 15 #[.pointer (some ⟨R, 0, none⟩)] w (SEnds w0 R (if x.soft.length < 200 then (softR x.doms r).bind fun y r => .ok { x with soft := x.soft ++ [y] } r else .fault t.at_ 7)) := by
  have hlt := a.rd.lt
  have hR0 : 0 < R := Nat.lt_of_lt_of_le T.lt a.rd.le
  obtain ⟨X, hX⟩ : ∃ X, X = (if x.soft.length < 200 then (softR x.doms r).bind fun y r => .ok { x with soft := x.soft ++ [y] } r else .fault t.at_ 7) := ⟨_, rfl⟩
  rw [← hX]
  obtain ⟨va, vc, hva, hvl, hvc⟩ := a.formS
  subst hva
  unfold maxLen at hvc
  obtain ⟨hf2, hl2, _⟩ := hf.word (n := 8) (k := 0) (j := k) (r := r) (show wordT t 8 0 r = _ by rw [wordT, hw])
  simp only [List.length_cons] at hN hl2
  have HF2 := hide hf2
  have HTK := hide (rtake_any a.rd)
  have HTW := hide (fun w' (hb : Below w0.heap.size w0 w') => wordOf_any (T.below hb) t 8 0 7 rfl (by omega))
  rw [hw] at HTW
  unfold tokV at HTK HTW
  simp only [wordEnd] at HTW
  have HA := hide a
  have HX := hide hX
  have HT := hide T
  obtain ⟨q, hq⟩ : ∃ q : Bool, q = decide (x.soft.length < 200) := ⟨_, rfl⟩
  have hq' : decide ((x.soft.length : Int) < 200) = q := by rw [hq, decide_eq_decide]; omega
  have HQ := hide hq
  have HN := hide (fun W => need_any q t 7 W)
  unfold tokV at HN
  clear hX T a hf hf2 hw hq
  go_enter Tryd.func15, Tryd.ntmps15
  go_wp2_with fail
  refine (unhide HTK).mono ?_
  rintro e w1 ⟨rfl, hr1, hg1⟩
  have hs1 := ((unhide HA).kept hg1 hr1).below ((Below.refl _ _).alloc (Nat.le_refl _) (.cells #[.int .i64 t.kind, .string ⟨t.text.toArray⟩, .int .i64 t.n, .int .i64 (t.at_ : Int)] 52))
  have x1 := BoxK.new 52 w1 (.int .i64 t.kind) (.string ⟨t.text.toArray⟩) (.int .i64 t.n) (.int .i64 (t.at_ : Int))
  have HS1 := hide hs1
  have X1 := hide x1
  have HW2 := hide (unhide HTW _ hs1.rd.old)
  clear hr1 hg1 hs1 x1 HTK HTW
  go_wp2_with fail
  refine (unhide HW2).mono ?_
  rintro e W ⟨rfl, hb⟩
  have hs2 := (unhide HS1).below hb
  have x2 := (unhide X1).belowH hb
  generalize w1.heap.size = tb at *
  have hS0 : W.drew.cell? ⟨tb, 0, none⟩ = some (.int .i64 t.kind) ∧ W.drew.cell? ⟨tb, 1, none⟩ = some (.string ⟨t.text.toArray⟩) ∧ W.drew.cell? ⟨tb, 2, none⟩ = some (.int .i64 t.n) ∧ W.drew.cell? ⟨tb, 3, none⟩ = some (.int .i64 (t.at_ : Int)) ∧ W.drew.cell? ⟨R, 3, none⟩ = some (.slice va x.soft.length vc) := ⟨x2.cell0, x2.cell1, x2.cell2, x2.cell3, hs2.rd.cell3⟩
  have HS2 := hide hs2
  have X2 := hide x2
  clear hs2 x2 hb HS1 X1 HW2 HA
  go_wp2
  refine wp_region_held (S := fun U => U.cell? ⟨tb, 0, none⟩ = some (.int .i64 t.kind) ∧ U.cell? ⟨tb, 1, none⟩ = some (.string ⟨t.text.toArray⟩) ∧ U.cell? ⟨tb, 2, none⟩ = some (.int .i64 t.n) ∧ U.cell? ⟨tb, 3, none⟩ = some (.int .i64 (t.at_ : Int)) ∧ U.cell? ⟨R, 3, none⟩ = some (.slice va x.soft.length vc)) (by kernel_rfl) ?_
  refine wpAnyH_take (i := 0) (v := ?_) rfl (by kernel_rfl) (by kernel_rfl) (by kernel_rfl) (fun _ _ _ h => h) (Or.inl ⟨by kernel_rfl, ?_⟩) (by assumption) ?_
  rotate_left
  · intro W hSW; obtain ⟨hS1, hS2, hS3, hS4, hS5⟩ := hSW; go_simp; first | done | rfl
  simp only [Act.put, List.setIfInBounds_toArray, List.set_cons_zero, List.set_cons_succ]
  refine wpAnyH_take (i := 1) (v := ?_) rfl (by kernel_rfl) (by kernel_rfl) (by kernel_rfl) (fun _ _ _ h => h) (Or.inl ⟨by kernel_rfl, ?_⟩) (by assumption) ?_
  rotate_left
  · intro W hSW; obtain ⟨hS1, hS2, hS3, hS4, hS5⟩ := hSW; go_simp; first | done | rfl
  simp only [Act.put, List.setIfInBounds_toArray, List.set_cons_zero, List.set_cons_succ]
  refine wpAnyH_take (i := 2) (v := ?_) rfl (by kernel_rfl) (by kernel_rfl) (by kernel_rfl) (fun _ _ _ h => h) (Or.inl ⟨by kernel_rfl, ?_⟩) (by assumption) ?_
  rotate_left
  · intro W hSW; obtain ⟨hS1, hS2, hS3, hS4, hS5⟩ := hSW; go_simp; first | done | rfl
  simp only [Act.put, List.setIfInBounds_toArray, List.set_cons_zero, List.set_cons_succ]
  refine wpAnyH_take (i := 3) (v := ?_) rfl (by kernel_rfl) (by kernel_rfl) (by kernel_rfl) (fun _ _ _ h => h) (Or.inl ⟨by kernel_rfl, ?_⟩) (by assumption) ?_
  rotate_left
  · intro W hSW; obtain ⟨hS1, hS2, hS3, hS4, hS5⟩ := hSW; go_simp; first | done | rfl
  simp only [Act.put, List.setIfInBounds_toArray, List.set_cons_zero, List.set_cons_succ]
  refine wpAnyH_take (i := 4) (v := ?_) rfl (by kernel_rfl) (by kernel_rfl) (by kernel_rfl) (fun _ _ _ h => h) (Or.inl ⟨by kernel_rfl, ?_⟩) (by assumption) ?_
  rotate_left
  · intro W hSW; obtain ⟨hS1, hS2, hS3, hS4, hS5⟩ := hSW; go_simp; first | done | rfl
  simp only [Act.put, List.setIfInBounds_toArray, List.set_cons_zero, List.set_cons_succ]
  refine wpAnyH_take (i := 5) (v := ?_) rfl (by kernel_rfl) (by kernel_rfl) (by kernel_rfl) (fun _ _ _ h => h) (Or.inl ⟨by kernel_rfl, ?_⟩) (by assumption) ?_
  rotate_left
  · intro W hSW; obtain ⟨hS1, hS2, hS3, hS4, hS5⟩ := hSW; go_simp; first | done | rfl
  simp only [Act.put, List.setIfInBounds_toArray, List.set_cons_zero, List.set_cons_succ]
  refine wpAnyH_take (i := 6) (v := ?_) rfl (by kernel_rfl) (by kernel_rfl) (by kernel_rfl) (fun _ _ _ h => h) (Or.inl ⟨by kernel_rfl, ?_⟩) (by assumption) ?_
  rotate_left
  · intro W hSW; obtain ⟨hS1, hS2, hS3, hS4, hS5⟩ := hSW; go_simp; first | done | rfl
  simp only [Act.put, List.setIfInBounds_toArray, List.set_cons_zero, List.set_cons_succ]
  refine wpAnyH_take (i := 7) (v := ?_) rfl (by kernel_rfl) (by kernel_rfl) (by kernel_rfl) (fun _ _ _ h => h) (Or.inl ⟨by kernel_rfl, ?_⟩) (by assumption) ?_
  rotate_left
  · intro W hSW; obtain ⟨hS1, hS2, hS3, hS4, hS5⟩ := hSW; go_simp; first | done | rfl
  simp only [Act.put, List.setIfInBounds_toArray, List.set_cons_zero, List.set_cons_succ]
  refine held_one (i := 8) (by kernel_rfl) rfl (by kernel_rfl) (fun K hK => ?_)
  go_simp
  refine (unhide HN _).mono ?_
  rintro e w2 ⟨rfl, hb⟩
  have hb' : Below W.heap.size W w2 := below_then (Below.drewN W 1) hb
  have hs3 := (unhide HS2).below hb'
  have x3 := (unhide X2).belowH hb'
  cases q with
  | false => exact ⟨rfl, sends_no (by rw [unhide HX, if_neg (by simpa using unhide HQ)]) hs3.rd.old⟩
  | true =>
    have hX := unhide HX
    have hlim : x.soft.length < 200 := by simpa using unhide HQ
    rw [if_pos hlim] at hX
    have HX2 := hide hX
    have hS1 : w2.cell? ⟨tb, 0, none⟩ = some (.int .i64 t.kind) ∧ w2.cell? ⟨tb, 1, none⟩ = some (.string ⟨t.text.toArray⟩) ∧ w2.cell? ⟨tb, 2, none⟩ = some (.int .i64 t.n) ∧ w2.cell? ⟨tb, 3, none⟩ = some (.int .i64 (t.at_ : Int)) ∧ w2.cell? ⟨R, 3, none⟩ = some (.slice va x.soft.length vc) := ⟨x3.cell0, x3.cell1, x3.cell2, x3.cell3, hs3.rd.cell3⟩
    refine hK.out _ _ hS1 (wpAnyH_done (by kernel_rfl) ?_ _)
    have hs4 := hs3.below (Below.drewN w2 1)
    have HS4 := hide hs4
    have hS0' : w2.drew.cell? ⟨R, 3, none⟩ = some (.slice va x.soft.length vc) ∧ True := ⟨hs4.rd.cell3, trivial⟩
    have HCL := hide (soft_any (unhide HS4).rd (unhide HF2) (unhide HS4).doms (by omega))
    clear hs3 x3 hb hb' hS0 hS1 hK hs4 HS2 X2 HN hX HX
    try simp only [Act.put, List.setIfInBounds_toArray, List.set_cons_zero, List.set_cons_succ]
    go_wp2
    refine wp_region_till (st := 13) (S := fun U => U.cell? ⟨R, 3, none⟩ = some (.slice va x.soft.length vc) ∧ True) (by kernel_rfl) ?_
    refine till_take (i := 0) (v := ?_) rfl (by kernel_rfl) (by kernel_rfl) (by kernel_rfl) (by kernel_rfl) (fun _ _ _ h => h) (Or.inl ⟨by kernel_rfl, ?_⟩) (by assumption) ?_
    rotate_left
    · intro W hSW; obtain ⟨hS1, _⟩ := hSW; go_simp; first | done | rfl
    simp only [Act.put, List.setIfInBounds_toArray, List.set_cons_zero, List.set_cons_succ]
    refine till_take (i := 1) (v := ?_) rfl (by kernel_rfl) (by kernel_rfl) (by kernel_rfl) (by kernel_rfl) (fun _ _ _ h => h) (Or.inl ⟨by kernel_rfl, ?_⟩) (by assumption) ?_
    rotate_left
    · intro W hSW; obtain ⟨hS1, _⟩ := hSW; go_simp; first | done | rfl
    simp only [Act.put, List.setIfInBounds_toArray, List.set_cons_zero, List.set_cons_succ]
    refine till_take (i := 2) (v := ?_) rfl (by kernel_rfl) (by kernel_rfl) (by kernel_rfl) (by kernel_rfl) (fun _ _ _ h => h) (Or.inl ⟨by kernel_rfl, ?_⟩) (by assumption) ?_
    rotate_left
    · intro W hSW; obtain ⟨hS1, _⟩ := hSW; go_simp; first | done | rfl
    simp only [Act.put, List.setIfInBounds_toArray, List.set_cons_zero, List.set_cons_succ]
    refine till_take (i := 3) (v := ?_) rfl (by kernel_rfl) (by kernel_rfl) (by kernel_rfl) (by kernel_rfl) (fun _ _ _ h => h) (Or.inl ⟨by kernel_rfl, ?_⟩) (by assumption) ?_
    rotate_left
    · intro W hSW; obtain ⟨hS1, _⟩ := hSW; go_simp; first | done | rfl
    simp only [Act.put, List.setIfInBounds_toArray, List.set_cons_zero, List.set_cons_succ]
    refine till_take (i := 4) (v := ?_) rfl (by kernel_rfl) (by kernel_rfl) (by kernel_rfl) (by kernel_rfl) (fun _ _ _ h => h) (Or.inl ⟨by kernel_rfl, ?_⟩) (by assumption) ?_
    rotate_left
    · intro W hSW; obtain ⟨hS1, _⟩ := hSW; go_simp; first | done | rfl
    simp only [Act.put, List.setIfInBounds_toArray, List.set_cons_zero, List.set_cons_succ]
    refine till_take (i := 5) (v := ?_) rfl (by kernel_rfl) (by kernel_rfl) (by kernel_rfl) (by kernel_rfl) (fun _ _ _ h => h) (Or.inl ⟨by kernel_rfl, ?_⟩) (by assumption) ?_
    rotate_left
    · intro W hSW; obtain ⟨hS1, _⟩ := hSW; go_simp; first | done | rfl
    simp only [Act.put, List.setIfInBounds_toArray, List.set_cons_zero, List.set_cons_succ]
    refine till_take (i := 6) (v := ?_) rfl (by kernel_rfl) (by kernel_rfl) (by kernel_rfl) (by kernel_rfl) (fun _ _ _ h => h) (Or.inl ⟨by kernel_rfl, ?_⟩) (by assumption) ?_
    rotate_left
    · intro W hSW; obtain ⟨hS1, _⟩ := hSW; go_simp; first | done | rfl
    simp only [Act.put, List.setIfInBounds_toArray, List.set_cons_zero, List.set_cons_succ]
    refine till_one (i := 7) (by kernel_rfl) rfl rfl (by decide) (fun K hK => ?_)
    go_simp
    refine (unhide HCL).mono ?_
    have hX := unhide HX2
    cases hv2 : softR x.doms r with
    | fault p e =>
      rw [hv2] at hX
      have HX3 := hide hX
      clear hX hv2
      rintro e w6 ⟨hg6, rfl⟩
      exact ⟨rfl, sends_no (unhide HX3) ((unhide HS4).rd.oldG hg6)⟩
    | ok y r3 =>
      rw [hv2, ok_bind] at hX
      have HX3 := hide hX
      clear hX hv2
      rintro e w6 ⟨hg6, u, rfl, ⟨qd, rfl, hu⟩, hr6⟩
      have hs7 := (unhide HS4).kept hg6 hr6
      have hu' := hu.weaken (Y := XX R dv hv (.slice va x.soft.length vc)) (fun g _ h => xx_new (unhide HS4) h)
      obtain ⟨qa, qb, qc, qe⟩ := qd
      obtain ⟨hq1, hq2, hq3, hq4⟩ := hu
      simp only [] at hq1 hq2 hq3 hq4
      obtain ⟨sa, sc, rfl, _, _⟩ := hq1.1.form
      obtain ⟨ra, rc, rfl, _, _⟩ := hq2.form
      obtain ⟨aa, ac, rfl, _, _⟩ := hq3.1.form
      subst hq4
      have hS6 : w6.cell? ⟨R, 3, none⟩ = some (.slice va x.soft.length vc) ∧ True := ⟨hs7.rd.cell3, trivial⟩
      refine hK.out _ _ hS6 (fun hHeld => ?_)
      clear hK K
      try simp only [Act.put, List.setIfInBounds_toArray, List.set_cons_zero, List.set_cons_succ]
      refine till_one (i := 8) (by kernel_rfl) rfl rfl (by decide) (fun K hK => ?_)
      go_simp
      refine hK.out _ _ ⟨cell_push0 hS6.1 _, trivial⟩ (fun hHeld => ?_)
      clear hK K
      try simp only [Act.put, List.setIfInBounds_toArray, List.set_cons_zero, List.set_cons_succ]
      refine till_one (i := 9) (by kernel_rfl) rfl rfl (by decide) (fun K hK => ?_)
      have hz6 : R + 1 ≤ w6.heap.size := hs7.rd.lt
      obtain ⟨vs, d1, d2, d3⟩ := hs7.s
      refine op_app_quad Tryd.underlying25 Tryd.infoSft rfl (by decide) (.tmp 72) (.tmp 75) rfl (B := R + 1) (w := w6) (y := ⟨.slice sa y.scope.length sc, .slice ra y.rows.length rc, .slice aa y.costs.length ac, .int .i64 y.dflt⟩) d1 rfl hz6 rfl (by intro u hu; simp [Quad.cells] at hu; rcases hu with rfl | rfl | rfl | rfl <;> rfl) (by omega) ?_
      intro v7 w7 hown7 hgrew7
      have hs8 := hs7.addS d1 d2 d3 hu' hown7 hgrew7
      obtain ⟨va7, vc7, hv7, _, _⟩ := hown7.seq.form
      subst hv7
      have r7 := hs7.rd.grown hgrew7.by_ (fun b e => .inr (by have := own4_new d1 b e; omega))
      have k1 := r7.cell3
      have kf := r7.frozen 3
      refine hK.out _ _ ⟨k1, trivial⟩ (fun hHeld => ?_)
      clear hK K
      try simp only [Act.put, List.setIfInBounds_toArray, List.set_cons_zero, List.set_cons_succ]
      refine till_one (i := 10) (by kernel_rfl) rfl rfl (by decide) (fun K hK => ?_)
      go_simp
      refine hK.out _ _ ⟨k1, trivial⟩ (fun hHeld => ?_)
      clear hK K
      try simp only [Act.put, List.setIfInBounds_toArray, List.set_cons_zero, List.set_cons_succ]
      refine till_one (i := 11) (by kernel_rfl) rfl rfl (by decide) (fun K hK => ?_)
      go_simp
      refine hK.out _ _ ⟨k1, trivial⟩ (fun hHeld => ?_)
      clear hK K
      try simp only [Act.put, List.setIfInBounds_toArray, List.set_cons_zero, List.set_cons_succ]
      refine till_one (i := 12) (by kernel_rfl) rfl rfl (by decide) (fun K hK => ?_)
      go_simp
      refine hK.out _ _ ⟨k1, trivial⟩ (fun hHeld => ?_)
      clear hK K
      try simp only [Act.put, List.setIfInBounds_toArray, List.set_cons_zero, List.set_cons_succ]
      refine till_last (by kernel_rfl) rfl rfl (by kernel_rfl) (fun K hK => ?_)
      go_simp
      refine hK.out _ _ ?_
      have HS8 := hide hs8
      simp only [List.length_append, List.length_cons, List.length_nil, Nat.zero_add, d2] at HS8
      clear hK K hHeld k1 kf r7 hown7 hgrew7 hs7 hS6 hr6 hg6 HCL HS4 hS0' hs8 hu'
      go_wp2
      first | go_end0 | skip
      exact sends_ok (unhide HX3) (unhide HS8)
      
theorem stmt_any {w0 : World} {R : Nat} {w : World} {x : Ins} {ts : List Tok} {dv hv sv : Value} (T : Tabs w0) (a : InSt w0 R w x ts dv hv sv) (hf : Fair ts) (hN : ts.length ≤ 1000000) :
    Calls Tryd.prog 15 #[.pointer (some ⟨R, 0, none⟩)] w (SEnds w0 R (stmtR x ts)) := by
  obtain ⟨t, r, rfl⟩ := hf.cons
  rw [stmtR, wordT]
  cases hw : wordF t 8 0 with
  | none =>
    rw [fault_bind]
    have hlt := a.rd.lt
    have HTK := hide (rtake_any a.rd)
    have HTW := hide (fun w' (hb : Below w0.heap.size w0 w') => wordOf_any (T.below hb) t 8 0 7 rfl (by omega))
    rw [hw] at HTW
    unfold tokV at HTK HTW
    simp only [wordEnd] at HTW
    have HA := hide a
    clear T a hf hN hw
    go_enter Tryd.func15, Tryd.ntmps15
    go_wp2_with fail
    refine (unhide HTK).mono ?_
    rintro e w1 ⟨rfl, hr1, hg1⟩
    have hs1 := ((unhide HA).kept hg1 hr1).below ((Below.refl _ _).alloc (Nat.le_refl _) (.cells #[.int .i64 t.kind, .string ⟨t.text.toArray⟩, .int .i64 t.n, .int .i64 (t.at_ : Int)] 52))
    have HW2 := hide (unhide HTW _ hs1.rd.old)
    have HS1 := hide hs1
    clear hr1 hg1 hs1 HTK HTW
    go_wp2_with fail
    refine (unhide HW2).mono ?_
    rintro e W ⟨rfl, hb⟩
    exact ⟨rfl, rfl, ((unhide HS1).below hb).rd.old⟩
  | some k =>
    simp only [ok_bind]
    by_cases h0 : k = 0
    · rw [if_pos h0]
      exact stmtD T a hf hN k hw (by rw [beq_iff_eq]; omega)
    · rw [if_neg h0]
      by_cases h7 : k = 7
      · rw [if_pos h7]
        exact stmtS T a hf hN k hw (by rw [beq_eq_false_iff_ne]; omega) (by rw [beq_iff_eq]; omega)
      · rw [if_neg h7]
        exact stmtH T a hf hN k hw (by rw [beq_eq_false_iff_ne]; omega) (by rw [beq_eq_false_iff_ne]; omega)

end Go.Proofs.YtoiokplgkanepaaDoor
