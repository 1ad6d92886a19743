/-
  Proved: JoinAgrees answers true for every two Parts, and leaves what was handed in as it was; the listed variables hold what the program's text lays. No other condition.
-/
import Derived.Test.YtcndapakkkaojaaGreatDoorLawKit3
namespace Go.Proofs.YtcndapakkkaojaaGreatDoor.joinAgrees
open Go.RowKit Go.ChangeShapes Go.WideShapes Go.ChangeAt
set_option linter.unusedVariables false
set_option linter.unusedSimpArgs false
set_option maxRecDepth 20000

theorem agree_way {s u : List Int} {la lb : List (List Int)} {n m : Nat} (g : Fine s la n) (g' : Fine u lb m) {P Q : List (List Int)} (hP : semiR s la u lb = P) (hQ : semiR u lb s la = Q) : agreeB s la u lb = (sameR s P s la && sameR u Q u lb) := by
  rw [Bool.eq_iff_iff, agree_iff g g', Bool.and_eq_true, sameR_iff, sameR_iff, hP, hQ]
  simp

set_option maxHeartbeats 32000000 in
theorem walk {l0 l1 : List Int} {k0 k1 : List (List Int)} {v0 v1 : Value} {w : World} (i0 : RelV w v0 l0 k0) (i1 : RelV w v1 l1 k1) :
    Calls Tryz.prog 7 #[v0, v1] w fun e w' => e = .returned (.bool true) ∧ Below w.heap.size w w' := by
  obtain ⟨a0, c0, b0, d0, rfl, _, f0, _, g0, s0, t0⟩ := i0.form
  obtain ⟨a1, c1, b1, d1, rfl, _, f1, _, g1, s1, t1⟩ := i1.form
  unfold maxLen at f0 g0 f1 g1
  obtain ⟨W0, hW0⟩ : ∃ W, W = ((w.alloc (.cells #[.slice a0 l0.length c0, .slice b0 k0.length d0] 25)).alloc (.cells #[.slice a1 l1.length c1, .slice b1 k1.length d1] 25)) := ⟨_, rfl⟩
  have hB : Below w.heap.size w W0 := by rw [hW0]; exact ((Below.refl w.heap.size w).alloc (Nat.le_refl _) (.cells #[.slice a0 l0.length c0, .slice b0 k0.length d0] 25)).alloc (by simp; try omega) (.cells #[.slice a1 l1.length c1, .slice b1 k1.length d1] 25)
  have p0 : BoxP W0 (w.heap.size) (.slice a0 l0.length c0) (.slice b0 k0.length d0) := by rw [hW0]; have := (BoxP.new w (.slice a0 l0.length c0) (.slice b0 k0.length d0)).push (.cells #[.slice a1 l1.length c1, .slice b1 k1.length d1] 25); exact this
  have p1 : BoxP W0 (w.heap.size + 1) (.slice a1 l1.length c1) (.slice b1 k1.length d1) := by rw [hW0]; have := BoxP.new (w.alloc (.cells #[.slice a0 l0.length c0, .slice b0 k0.length d0] 25)) (.slice a1 l1.length c1) (.slice b1 k1.length d1); simpa using this
  replace s0 := s0.below hB
  replace t0 := t0.below hB
  replace s1 := s1.below hB
  replace t1 := t1.below hB
  have HW0 := hide hW0
  clear hW0 i0 i1
  have G := hide (fine_small l0 k0)
  have G' := hide (fine_small l1 k1)
  go_enter Tryz.func7, Tryz.ntmps7
  go_wp2_with fail
  rw [← unhide HW0]
  refine (shown3_any _).mono ?_
  rintro e w1 ⟨rfl, hb⟩
  replace s0 := s0.below hb
  replace t0 := t0.below hb
  replace p0 := p0.belowH hb
  replace s1 := s1.below hb
  replace t1 := t1.below hb
  replace p1 := p1.belowH hb
  replace hB := hB.trans (hb.mono hB.size)
  clear hb
  have c0_p0 := p0.cell0
  have c1_p0 := p0.cell1
  have c0_p1 := p1.cell0
  have c1_p1 := p1.cell1
  go_wp2_with fail
  refine (small3_any s0 t0).mono ?_
  rintro e w101 ⟨u_r, rfl, r, hb⟩
  replace s1 := s1.below hb
  replace t1 := t1.below hb
  replace p0 := p0.belowH hb
  replace p1 := p1.belowH hb
  replace hB := below_then hB hb
  obtain ⟨a_r, c_r, b_r, d_r, e_r, _, _, _, _, _, _⟩ := r.form
  rw [e_r] at r ⊢
  clear e_r
  clear hb c0_p0 c1_p0 c0_p1 c1_p1
  clear s0 t0 p0
  generalize smallS3 l0 = s at *
  generalize smallR3 l0 k0 = la at *
  have pb := (Below.refl _ w101).alloc (Nat.le_refl _) (.cells #[.slice a_r (s).length c_r, .slice b_r (la).length d_r] 27)
  replace r := r.below pb
  replace s1 := s1.below pb
  replace t1 := t1.below pb
  replace p1 := p1.push (.cells #[.slice a_r (s).length c_r, .slice b_r (la).length d_r] 27)
  have xr := Box.new w101 (.slice a_r (s).length c_r) (.slice b_r (la).length d_r)
  replace hB := below_then hB pb
  clear pb
  have c0_p1 := p1.cell0
  have c1_p1 := p1.cell1
  have c0_xr := xr.cell0
  have c1_xr := xr.cell1
  go_wp2_with fail
  refine (small3_any s1 t1).mono ?_
  rintro e w102 ⟨u_t, rfl, t, hb⟩
  replace r := r.below hb
  replace p1 := p1.belowH hb
  replace xr := xr.belowH hb
  replace hB := below_then hB hb
  obtain ⟨a_t, c_t, b_t, d_t, e_t, _, _, _, _, _, _⟩ := t.form
  rw [e_t] at t ⊢
  clear e_t
  clear hb c0_p1 c1_p1 c0_xr c1_xr
  clear s1 t1 p1
  generalize smallS3 l1 = u at *
  generalize smallR3 l1 k1 = lb at *
  have pb := (Below.refl _ w102).alloc (Nat.le_refl _) (.cells #[.slice a_t (u).length c_t, .slice b_t (lb).length d_t] 27)
  replace r := r.below pb
  replace t := t.below pb
  replace xr := xr.push (.cells #[.slice a_t (u).length c_t, .slice b_t (lb).length d_t] 27)
  have xt := Box.new w102 (.slice a_t (u).length c_t) (.slice b_t (lb).length d_t)
  replace hB := below_then hB pb
  clear pb
  obtain ⟨P, hP⟩ : ∃ P, semiR s la u lb = P := ⟨_, rfl⟩
  obtain ⟨Q, hQ⟩ : ∃ Q, semiR u lb s la = Q := ⟨_, rfl⟩
  have EW := hide (agree_way (unhide G) (unhide G') hP hQ)
  have ES := hide (agree_semi (unhide G) (unhide G'))
  have GP := hide ((unhide G).semi (u := u) (lb := lb))
  have GQ := hide ((unhide G').semi (u := s) (lb := la))
  rw [hP] at GP
  rw [hQ] at GQ
  rw [hP, hQ] at ES
  have HP := hide hP
  have HQ := hide hQ
  clear hP hQ
  have c0_xr := xr.cell0
  have c1_xr := xr.cell1
  have c0_xt := xt.cell0
  have c1_xt := xt.cell1
  go_wp2_with fail
  refine (semi_eq r t (unhide G) (unhide G') (by omega) (by omega) (unhide HP)).mono ?_
  rintro e w103 ⟨u_p, rfl, p, hb⟩
  replace r := r.below hb
  replace t := t.below hb
  replace xr := xr.belowH hb
  replace xt := xt.belowH hb
  replace hB := below_then hB hb
  obtain ⟨a_p, c_p, b_p, d_p, e_p, _, _, _, _, _, _⟩ := p.form
  rw [e_p] at p ⊢
  clear e_p
  clear hb c0_xr c1_xr c0_xt c1_xt
  have pb := (Below.refl _ w103).alloc (Nat.le_refl _) (.cells #[.slice a_p (s).length c_p, .slice b_p (P).length d_p] 27)
  replace r := r.below pb
  replace t := t.below pb
  replace p := p.below pb
  replace xr := xr.push (.cells #[.slice a_p (s).length c_p, .slice b_p (P).length d_p] 27)
  replace xt := xt.push (.cells #[.slice a_p (s).length c_p, .slice b_p (P).length d_p] 27)
  have xp := Box.new w103 (.slice a_p (s).length c_p) (.slice b_p (P).length d_p)
  replace hB := below_then hB pb
  clear pb
  have c0_xr := xr.cell0
  have c1_xr := xr.cell1
  have c0_xt := xt.cell0
  have c1_xt := xt.cell1
  have c0_xp := xp.cell0
  have c1_xp := xp.cell1
  go_wp2_with fail
  refine (semi_eq t r (unhide G') (unhide G) (by omega) (by omega) (unhide HQ)).mono ?_
  rintro e w104 ⟨u_q, rfl, q, hb⟩
  replace r := r.below hb
  replace t := t.below hb
  replace p := p.below hb
  replace xr := xr.belowH hb
  replace xt := xt.belowH hb
  replace xp := xp.belowH hb
  replace hB := below_then hB hb
  obtain ⟨a_q, c_q, b_q, d_q, e_q, _, _, _, _, _, _⟩ := q.form
  rw [e_q] at q ⊢
  clear e_q
  clear hb c0_xr c1_xr c0_xt c1_xt c0_xp c1_xp
  have pb := (Below.refl _ w104).alloc (Nat.le_refl _) (.cells #[.slice a_q (u).length c_q, .slice b_q (Q).length d_q] 27)
  replace r := r.below pb
  replace t := t.below pb
  replace p := p.below pb
  replace q := q.below pb
  replace xr := xr.push (.cells #[.slice a_q (u).length c_q, .slice b_q (Q).length d_q] 27)
  replace xt := xt.push (.cells #[.slice a_q (u).length c_q, .slice b_q (Q).length d_q] 27)
  replace xp := xp.push (.cells #[.slice a_q (u).length c_q, .slice b_q (Q).length d_q] 27)
  have xq := Box.new w104 (.slice a_q (u).length c_q) (.slice b_q (Q).length d_q)
  replace hB := below_then hB pb
  clear pb
  obtain ⟨q1, h1⟩ : ∃ b, sameR s P s la = b := ⟨_, rfl⟩
  obtain ⟨q2, h2⟩ : ∃ b, sameR u Q u lb = b := ⟨_, rfl⟩
  rw [h1, h2] at EW
  have HQ1 := hide h1
  have HQ2 := hide h2
  clear h1 h2
  have c0_xr := xr.cell0
  have c1_xr := xr.cell1
  have c0_xt := xt.cell0
  have c1_xt := xt.cell1
  have c0_xp := xp.cell0
  have c1_xp := xp.cell1
  have c0_xq := xq.cell0
  have c1_xq := xq.cell1
  go_wp2_with fail
  refine (same_q p r (unhide HQ1)).mono ?_
  rintro e w105 ⟨rfl, hb⟩
  replace r := r.below hb
  replace t := t.below hb
  replace p := p.below hb
  replace q := q.below hb
  replace xr := xr.belowH hb
  replace xt := xt.belowH hb
  replace xp := xp.belowH hb
  replace xq := xq.belowH hb
  replace hB := below_then hB hb
  clear hb c0_xr c1_xr c0_xt c1_xt c0_xp c1_xp c0_xq c1_xq
  cases q1 with
  | false =>
    have EK := hide (show agreeB s la u lb = false from (unhide EW).trans rfl)
    clear HQ1 HQ2
    go_wp2
    have HR := hide r
    have HT := hide t
    have HPP := hide p
    have HQQ := hide q
    clear r t p q
    have HK := hide (fun W (hb : Below w105.heap.size w105 W) => (And.intro (And.intro (xr.belowH hb).cell0 (xr.belowH hb).cell1) (And.intro (And.intro (xt.belowH hb).cell0 (xt.belowH hb).cell1) (And.intro (And.intro (xp.belowH hb).cell0 (xp.belowH hb).cell1) (And.intro (xq.belowH hb).cell0 (xq.belowH hb).cell1)))))
    have hbR := Below.refl w105.heap.size w105
    clear xr xt xp xq
    go_region_held3 (fun W => (W.cell? ⟨w101.heap.size, 0, none⟩ = some (.slice a_r (s).length c_r) ∧ W.cell? ⟨w101.heap.size, 1, none⟩ = some (.slice b_r (la).length d_r)) ∧ (W.cell? ⟨w102.heap.size, 0, none⟩ = some (.slice a_t (u).length c_t) ∧ W.cell? ⟨w102.heap.size, 1, none⟩ = some (.slice b_t (lb).length d_t)) ∧ (W.cell? ⟨w103.heap.size, 0, none⟩ = some (.slice a_p (s).length c_p) ∧ W.cell? ⟨w103.heap.size, 1, none⟩ = some (.slice b_p (P).length d_p)) ∧ (W.cell? ⟨w104.heap.size, 0, none⟩ = some (.slice a_q (u).length c_q) ∧ W.cell? ⟨w104.heap.size, 1, none⟩ = some (.slice b_q (Q).length d_q)))
      (first | exact unhide HK _ (by first | exact hR4 | exact hR3 | exact hR2 | exact hR1  | exact hbR | exact below_same rfl rfl rfl rfl | exact below_then hR4 (below_push rfl rfl rfl rfl) | exact below_then hR4 (below_same rfl rfl rfl rfl)))
      (first
        | (go_at_call 19; refine (agree_q (q := false) ((unhide HR).below hR3) ((unhide HT).below hR3) (unhide G) (unhide G') (by omega) (by omega) (unhide EK)).mono ?_; rintro e w109 ⟨rfl, hq4⟩; have hR4 : Below w105.heap.size w105 w109 := below_then hR3 hq4)
        | (go_at_call 19; refine (agree_q (q := false) ((unhide HT).below hR2) ((unhide HR).below hR2) (unhide G') (unhide G) (by omega) (by omega) (agree_comm.trans (unhide EK))).mono ?_; rintro e w108 ⟨rfl, hq3⟩; have hR3 : Below w105.heap.size w105 w108 := below_then hR2 hq3)
        | (go_at_call 19; refine (agree_q (q := true) ((unhide HPP).below hR1) ((unhide HQQ).below hR1) (unhide GP) (unhide GQ) (by omega) (by omega) (unhide ES)).mono ?_; rintro e w107 ⟨rfl, hq2⟩; have hR2 : Below w105.heap.size w105 w107 := below_then hR1 hq2)
        | (go_at_call 19; refine (agree_q (q := false) ((unhide HR).below (by first | exact hbR | exact below_same rfl rfl rfl rfl)) ((unhide HT).below (by first | exact hbR | exact below_same rfl rfl rfl rfl)) (unhide G) (unhide G') (by omega) (by omega) (unhide EK)).mono ?_; rintro e w106 ⟨rfl, hq1⟩; have hR1 : Below w105.heap.size w105 w106 := below_then (by first | exact hbR | exact below_same rfl rfl rfl rfl) hq1))
    all_goals
      go_wp2
      go_ret
      exact ⟨rfl, below_then hB hR4⟩
  | true =>
    have c0_xr := xr.cell0
    have c1_xr := xr.cell1
    have c0_xt := xt.cell0
    have c1_xt := xt.cell1
    have c0_xp := xp.cell0
    have c1_xp := xp.cell1
    have c0_xq := xq.cell0
    have c1_xq := xq.cell1
    go_wp2_with fail
    refine (same_q q t (unhide HQ2)).mono ?_
    rintro e w110 ⟨rfl, hb⟩
    replace r := r.below hb
    replace t := t.below hb
    replace p := p.below hb
    replace q := q.below hb
    replace xr := xr.belowH hb
    replace xt := xt.belowH hb
    replace xp := xp.belowH hb
    replace xq := xq.belowH hb
    replace hB := below_then hB hb
    clear hb c0_xr c1_xr c0_xt c1_xt c0_xp c1_xp c0_xq c1_xq
    have EK := hide (show agreeB s la u lb = q2 from (unhide EW).trans (Bool.true_and q2))
    have hqq : (q2 == q2) = true := by simp
    clear HQ1 HQ2
    go_wp2
    have HR := hide r
    have HT := hide t
    have HPP := hide p
    have HQQ := hide q
    clear r t p q
    have HK := hide (fun W (hb : Below w110.heap.size w110 W) => (And.intro (And.intro (xr.belowH hb).cell0 (xr.belowH hb).cell1) (And.intro (And.intro (xt.belowH hb).cell0 (xt.belowH hb).cell1) (And.intro (And.intro (xp.belowH hb).cell0 (xp.belowH hb).cell1) (And.intro (xq.belowH hb).cell0 (xq.belowH hb).cell1)))))
    have hbR := Below.refl w110.heap.size w110
    clear xr xt xp xq
    go_region_held3 (fun W => (W.cell? ⟨w101.heap.size, 0, none⟩ = some (.slice a_r (s).length c_r) ∧ W.cell? ⟨w101.heap.size, 1, none⟩ = some (.slice b_r (la).length d_r)) ∧ (W.cell? ⟨w102.heap.size, 0, none⟩ = some (.slice a_t (u).length c_t) ∧ W.cell? ⟨w102.heap.size, 1, none⟩ = some (.slice b_t (lb).length d_t)) ∧ (W.cell? ⟨w103.heap.size, 0, none⟩ = some (.slice a_p (s).length c_p) ∧ W.cell? ⟨w103.heap.size, 1, none⟩ = some (.slice b_p (P).length d_p)) ∧ (W.cell? ⟨w104.heap.size, 0, none⟩ = some (.slice a_q (u).length c_q) ∧ W.cell? ⟨w104.heap.size, 1, none⟩ = some (.slice b_q (Q).length d_q)))
      (first | exact unhide HK _ (by first | exact hR4 | exact hR3 | exact hR2 | exact hR1  | exact hbR | exact below_same rfl rfl rfl rfl | exact below_then hR4 (below_push rfl rfl rfl rfl) | exact below_then hR4 (below_same rfl rfl rfl rfl)))
      (first
        | (go_at_call 19; refine (agree_q (q := q2) ((unhide HR).below hR3) ((unhide HT).below hR3) (unhide G) (unhide G') (by omega) (by omega) (unhide EK)).mono ?_; rintro e w114 ⟨rfl, hq4⟩; have hR4 : Below w110.heap.size w110 w114 := below_then hR3 hq4)
        | (go_at_call 19; refine (agree_q (q := q2) ((unhide HT).below hR2) ((unhide HR).below hR2) (unhide G') (unhide G) (by omega) (by omega) (agree_comm.trans (unhide EK))).mono ?_; rintro e w113 ⟨rfl, hq3⟩; have hR3 : Below w110.heap.size w110 w113 := below_then hR2 hq3)
        | (go_at_call 19; refine (agree_q (q := true) ((unhide HPP).below hR1) ((unhide HQQ).below hR1) (unhide GP) (unhide GQ) (by omega) (by omega) (unhide ES)).mono ?_; rintro e w112 ⟨rfl, hq2⟩; have hR2 : Below w110.heap.size w110 w112 := below_then hR1 hq2)
        | (go_at_call 19; refine (agree_q (q := q2) ((unhide HR).below (by first | exact hbR | exact below_same rfl rfl rfl rfl)) ((unhide HT).below (by first | exact hbR | exact below_same rfl rfl rfl rfl)) (unhide G) (unhide G') (by omega) (by omega) (unhide EK)).mono ?_; rintro e w111 ⟨rfl, hq1⟩; have hR1 : Below w110.heap.size w110 w111 := below_then (by first | exact hbR | exact below_same rfl rfl rfl rfl) hq1))
    all_goals
      go_wp2
      go_ret
      exact ⟨rfl, below_then hB hR4⟩

set_option maxRecDepth 100000 in
theorem lifted (os : Os) (started : os.Started) (H : Type) (enc : TypeId × Value → H) :
    ReturnsInHanded {} Tryz.checked os 7 .any (fun w args => (Rows.joinAgreesSpec.pre enc Tryz.prog Tryz.f7 [] false w args ∧ laidMetH Tryz.prog laidIn w) ∧ sizedMet enc Tryz.prog Tryz.f7 (OpenSpec.ofChange Rows.joinAgreesSpec) false w args)
      (Rows.joinAgreesSpec.post enc Tryz.prog Tryz.f7 false true false false) := by
  refine returnsInHanded_of_change_and (C := Tryz.checked) (X := fun w _ => laidMetH Tryz.prog laidIn w) (fun _ _ _ hh h => h.of_heap hh) own started (by kernel_rfl) Tryz.func7
    (ChangeSpec.witness_shaped (enc := enc) (C := Tryz.checked) (os := os) (X := fun w _ => laidMetH Tryz.prog laidIn w) false (World.doorLaid Tryz.prog doorN os) #[.agg #[.slice none 0 0, .slice none 0 0], .agg #[.slice none 0 0, .slice none 0 0]] 8 rfl (World.shaped_of_RefB (by kernel_rfl) (by kernel_rfl)) (by kernel_rfl) (by kernel_rfl) (by kernel_rfl) (door_met os _)) ?_
  intro W base args ds gs before hval0 hW _ _ _ _
  have hval : ∀ (j : Nat) t v, Tryz.f7.params[j]? = some t → args[j]? = some v → Value.okWide Tryz.prog W .any base t v := hval0
  have hW' := hW
  obtain ⟨p, q, hA0, hV, rfl, hfz, hnd⟩ := hW
  have hA : DataW.TrodAll enc Tryz.prog W 0 (fun _ => true) true Tryz.f7.params.toList args.toList ds p := hA0
  rw [Tryz.params7] at hA hval
  obtain ⟨v0, vs0, d0, ds0, p0, q0, hargs, rfl, rfl, h0, r0⟩ := trodAll_cons hA
  obtain ⟨v1, vs1, d1, ds1, p1, q1, rfl, rfl, rfl, h1, r1⟩ := trodAll_cons r0
  obtain ⟨rfl, rfl, rfl⟩ := trodAll_nil r1
  obtain rfl : args = #[v0, v1] := by cases args; simp_all
  obtain ⟨rfl, rfl⟩ := trodVars_none hV
  obtain ⟨l0, k0, i0, m0, n0⟩ := read_part h0 (hval 0 25 v0 rfl rfl)
  have lt0 : ∀ x ∈ p0, x.block < W.heap.size := by obtain ⟨m, hm⟩ := h0; exact DataW.trod_lt m _ _ _ hm
  obtain ⟨l1, k1, i1, m1, n1⟩ := read_part h1 (hval 1 25 v1 rfl rfl)
  have lt1 : ∀ x ∈ p1, x.block < W.heap.size := by obtain ⟨m, hm⟩ := h1; exact DataW.trod_lt m _ _ _ hm
  clear hA0 hval0
  refine (walk i0 i1).mono fun e W' ⟨he, bel⟩ => ?_
  subst he
  exact ⟨_, rfl, _, _, _, [], _, [], hW', trodAll_mk1 (shut_bool Tryz.underlying4 _), (trodAll_cons_mk (Below.trod laidOut (by kernel_rfl) (of_decide_eq_true (by kernel_rfl)) h0 bel lt0) (trodAll_cons_mk (Below.trod laidOut (by kernel_rfl) (of_decide_eq_true (by kernel_rfl)) h1 bel lt1) trodAll_mk0)), rfl, bel.frame _, fun h => by cases h⟩

theorem over : Rows.joinAgreesRow.holds Tryz.pinned (OpenSpec.ofChange Rows.joinAgreesSpec) :=
  OpenClaim.holds_of_wide 7 Tryz.f7 rfl rfl rfl rfl rfl rfl rfl ⟨rfl, rfl, rfl, rfl, rfl⟩ rfl rfl rfl rfl rfl (by kernel_rfl) Tryz.func7 (by kernel_rfl)
    (of_decide_eq_true (by kernel_rfl)) (by unfold Func.isWrapper; first | (rw [if_pos (by decide +kernel)]; kernel_rfl) | (rw [if_neg (by decide +kernel)]; exact ⟨rfl, rfl⟩))
    (fun os started H enc _ => lifted os started H enc)

/-- The statement: the tied card. -/
theorem proved : Rows.JoinAgreesCardSaid :=
  Claim7.holds_tied_plain_at .later [] [.data, .data, .data] true (true, "7888708df1aa7c808ebd15fb47d32b01dabe941ed2c526b83533b5aed37430b1") false
    over (fun _ h => by cases h) (by kernel_rfl) (fun _ h => by cases h) joinAgrees_row_tie rfl ⟨rfl, rfl⟩ (by kernel_rfl) rfl
    (fun f fn hf hfn => by
      obtain rfl : f = 7 := Option.some.inj ((show Tryz.prog.funcNamed "arborist/arboristlaw03.JoinAgrees" = some 7 by kernel_rfl).symm.trans hf) |>.symm
      obtain rfl : fn = Tryz.f7 := (Option.some.inj (Tryz.func7.symm.trans hfn)).symm
      exact ⟨by kernel_rfl, fun j t ht => by
        rw [Tryz.params7] at ht
        have hm : t ∈ [25, 25] := by simpa using Array.mem_of_getElem? ht
        have hall : ([25, 25].all fun u => !Tryz.prog.wantsStandIn u) = true := by kernel_rfl
        exact (show Tryz.prog.wantsStandIn t = false by simpa using List.all_eq_true.1 hall t hm)⟩)
    (by kernel_rfl)
#print axioms proved
end Go.Proofs.YtcndapakkkaojaaGreatDoor.joinAgrees
