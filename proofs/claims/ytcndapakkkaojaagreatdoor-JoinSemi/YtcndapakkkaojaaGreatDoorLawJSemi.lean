/-
  Proved: JoinSemi answers true for every two Parts, and leaves what was handed in as it was; the listed variables hold what the program's text lays. No other condition.
-/
import Derived.Test.YtcndapakkkaojaaGreatDoorLawKit3
namespace Go.Proofs.YtcndapakkkaojaaGreatDoor.joinSemi
open Go.RowKit Go.ChangeShapes Go.WideShapes Go.ChangeAt
set_option linter.unusedVariables false
set_option linter.unusedSimpArgs false
set_option maxRecDepth 20000

set_option maxHeartbeats 32000000 in
theorem walk {l0 l1 : List Int} {k0 k1 : List (List Int)} {v0 v1 : Value} {w : World} (i0 : RelV w v0 l0 k0) (i1 : RelV w v1 l1 k1) :
    Calls Tryz.prog 6 #[v0, v1] w fun e w' => e = .returned (.bool true) ∧ Below w.heap.size w w' := by
  obtain ⟨a0, c0, b0, d0, rfl, _, f0, _, g0, s0, t0⟩ := i0.form
  obtain ⟨a1, c1, b1, d1, rfl, _, f1, _, g1, s1, t1⟩ := i1.form
  unfold maxLen at f0 g0 f1 g1
  obtain ⟨W0, hW0⟩ : ∃ W, W = ((w.alloc (.cells #[.slice a0 l0.length c0, .slice b0 k0.length d0] 25)).alloc (.cells #[.slice a1 l1.length c1, .slice b1 k1.length d1] 25)) := ⟨_, rfl⟩
  have hB : Below w.heap.size w W0 := by rw [hW0]; exact ((Below.refl w.heap.size w).alloc (Nat.le_refl _) (.cells #[.slice a0 l0.length c0, .slice b0 k0.length d0] 25)).alloc (by simp; try omega) (.cells #[.slice a1 l1.length c1, .slice b1 k1.length d1] 25)
  have p0 : BoxP W0 (w.heap.size) (.slice a0 l0.length c0) (.slice b0 k0.length d0) := by rw [hW0]; have := (BoxP.new w (.slice a0 l0.length c0) (.slice b0 k0.length d0)).push (.cells #[.slice a1 l1.length c1, .slice b1 k1.length d1] 25); exact this
  have p1 : BoxP W0 (w.heap.size + 1) (.slice a1 l1.length c1) (.slice b1 k1.length d1) := by rw [hW0]; have := BoxP.new (w.alloc (.cells #[.slice a0 l0.length c0, .slice b0 k0.length d0] 25)) (.slice a1 l1.length c1) (.slice b1 k1.length d1); simpa using this
  replace s0 := s0.below hB
  replace t0 := t0.below hB
  replace s1 := s1.below hB
  replace t1 := t1.below hB
  have HW0 := hide hW0
  clear hW0 i0 i1
  have G := hide (fine_small l0 k0)
  have G' := hide (fine_small l1 k1)
  have hs3 := smallS3_len l0
  have hu3 := smallS3_len l1
  go_enter Tryz.func6, Tryz.ntmps6
  go_wp2_with fail
  rw [← unhide HW0]
  refine (shown3_any _).mono ?_
  rintro e w1 ⟨rfl, hb⟩
  replace s0 := s0.below hb
  replace t0 := t0.below hb
  replace p0 := p0.belowH hb
  replace s1 := s1.below hb
  replace t1 := t1.below hb
  replace p1 := p1.belowH hb
  replace hB := hB.trans (hb.mono hB.size)
  clear hb
  have c0_p0 := p0.cell0
  have c1_p0 := p0.cell1
  have c0_p1 := p1.cell0
  have c1_p1 := p1.cell1
  go_wp2_with fail
  refine (small3_any s0 t0).mono ?_
  rintro e w101 ⟨u_r, rfl, r, hb⟩
  replace s1 := s1.below hb
  replace t1 := t1.below hb
  replace p0 := p0.belowH hb
  replace p1 := p1.belowH hb
  replace hB := below_then hB hb
  obtain ⟨a_r, c_r, b_r, d_r, e_r, _, _, _, _, _, _⟩ := r.form
  rw [e_r] at r ⊢
  clear e_r
  clear hb c0_p0 c1_p0 c0_p1 c1_p1
  clear s0 t0 p0
  generalize smallS3 l0 = s at *
  generalize smallR3 l0 k0 = la at *
  have pb := (Below.refl _ w101).alloc (Nat.le_refl _) (.cells #[.slice a_r (s).length c_r, .slice b_r (la).length d_r] 27)
  replace r := r.below pb
  replace s1 := s1.below pb
  replace t1 := t1.below pb
  replace p1 := p1.push (.cells #[.slice a_r (s).length c_r, .slice b_r (la).length d_r] 27)
  have xr := Box.new w101 (.slice a_r (s).length c_r) (.slice b_r (la).length d_r)
  replace hB := below_then hB pb
  clear pb
  have c0_p1 := p1.cell0
  have c1_p1 := p1.cell1
  have c0_xr := xr.cell0
  have c1_xr := xr.cell1
  go_wp2_with fail
  refine (small3_any s1 t1).mono ?_
  rintro e w102 ⟨u_t, rfl, t, hb⟩
  replace r := r.below hb
  replace p1 := p1.belowH hb
  replace xr := xr.belowH hb
  replace hB := below_then hB hb
  obtain ⟨a_t, c_t, b_t, d_t, e_t, _, _, _, _, _, _⟩ := t.form
  rw [e_t] at t ⊢
  clear e_t
  clear hb c0_p1 c1_p1 c0_xr c1_xr
  clear s1 t1 p1
  generalize smallS3 l1 = u at *
  generalize smallR3 l1 k1 = lb at *
  have pb := (Below.refl _ w102).alloc (Nat.le_refl _) (.cells #[.slice a_t (u).length c_t, .slice b_t (lb).length d_t] 27)
  replace r := r.below pb
  replace t := t.below pb
  replace xr := xr.push (.cells #[.slice a_t (u).length c_t, .slice b_t (lb).length d_t] 27)
  have xt := Box.new w102 (.slice a_t (u).length c_t) (.slice b_t (lb).length d_t)
  replace hB := below_then hB pb
  clear pb
  obtain ⟨P, hP⟩ : ∃ P, semiR s la u lb = P := ⟨_, rfl⟩
  obtain ⟨S, hS⟩ : ∃ S, joinL s u = S := ⟨_, rfl⟩
  obtain ⟨J, hJ⟩ : ∃ J, joinR s la u lb = J := ⟨_, rfl⟩
  have GP := hide ((unhide G).semi (u := u) (lb := lb))
  have GJ := hide (((unhide G).join (unhide G') (by omega)).mono (show 12 * 12 ≤ 5000 by omega))
  have E1 := hide (proj_join (unhide G) (unhide G') (by omega))
  have E2 := hide (semi_twice (s := s) (u := u) (la := la) (lb := lb))
  have E3 := hide (join_self (unhide G))
  have E4 := hide (semi_proj (unhide G) u)
  have hp1 := Nat.le_trans (pair_le s u lb la) (Nat.mul_le_mul (unhide G).llen (unhide G').llen)
  have hp2 := Nat.le_trans (pair_le s s la la) (Nat.mul_le_mul (unhide G).llen (unhide G).llen)
  have GX := hide ((unhide G).proj u)
  rw [hP] at GP E2
  rw [hS, hJ] at GJ E1
  rw [hP] at E1
  have HP := hide hP
  have HS := hide hS
  have HJ := hide hJ
  have H1 := hide hp1
  have H2 := hide hp2
  clear hP hS hJ hp1 hp2
  have c0_xr := xr.cell0
  have c1_xr := xr.cell1
  have c0_xt := xt.cell0
  have c1_xt := xt.cell1
  go_wp2_with fail
  refine (semi_eq r t (unhide G) (unhide G') (by omega) (by omega) (unhide HP)).mono ?_
  rintro e w103 ⟨u_p, rfl, p, hb⟩
  replace r := r.below hb
  replace t := t.below hb
  replace xr := xr.belowH hb
  replace xt := xt.belowH hb
  replace hB := below_then hB hb
  obtain ⟨a_p, c_p, b_p, d_p, e_p, _, _, _, _, _, _⟩ := p.form
  rw [e_p] at p ⊢
  clear e_p
  clear hb c0_xr c1_xr c0_xt c1_xt
  have pb := (Below.refl _ w103).alloc (Nat.le_refl _) (.cells #[.slice a_p (s).length c_p, .slice b_p (P).length d_p] 27)
  replace r := r.below pb
  replace t := t.below pb
  replace p := p.below pb
  replace xr := xr.push (.cells #[.slice a_p (s).length c_p, .slice b_p (P).length d_p] 27)
  replace xt := xt.push (.cells #[.slice a_p (s).length c_p, .slice b_p (P).length d_p] 27)
  have xp := Box.new w103 (.slice a_p (s).length c_p) (.slice b_p (P).length d_p)
  replace hB := below_then hB pb
  clear pb
  have c0_xr := xr.cell0
  have c1_xr := xr.cell1
  have c0_xt := xt.cell0
  have c1_xt := xt.cell1
  have c0_xp := xp.cell0
  have c1_xp := xp.cell1
  go_wp2_with fail
  refine (join_eq (most := 10000) r t (unhide G) (unhide G') (by omega) (by omega) (by omega) (by have := unhide H1; omega) (unhide HS) (unhide HJ)).mono ?_
  rintro e w104 ⟨u_j, rfl, j, hb⟩
  replace r := r.below hb
  replace t := t.below hb
  replace p := p.below hb
  replace xr := xr.belowH hb
  replace xt := xt.belowH hb
  replace xp := xp.belowH hb
  replace hB := below_then hB hb
  obtain ⟨a_j, c_j, b_j, d_j, e_j, _, _, _, _, _, _⟩ := j.form
  rw [e_j] at j ⊢
  clear e_j
  clear hb c0_xr c1_xr c0_xt c1_xt c0_xp c1_xp
  have pb := (Below.refl _ w104).alloc (Nat.le_refl _) (.cells #[.slice a_j (S).length c_j, .slice b_j (J).length d_j] 27)
  replace r := r.below pb
  replace t := t.below pb
  replace p := p.below pb
  replace j := j.below pb
  replace xr := xr.push (.cells #[.slice a_j (S).length c_j, .slice b_j (J).length d_j] 27)
  replace xt := xt.push (.cells #[.slice a_j (S).length c_j, .slice b_j (J).length d_j] 27)
  replace xp := xp.push (.cells #[.slice a_j (S).length c_j, .slice b_j (J).length d_j] 27)
  have xj := Box.new w104 (.slice a_j (S).length c_j) (.slice b_j (J).length d_j)
  replace hB := below_then hB pb
  clear pb
  have c0_xr := xr.cell0
  have c1_xr := xr.cell1
  have c0_xt := xt.cell0
  have c1_xt := xt.cell1
  have c0_xp := xp.cell0
  have c1_xp := xp.cell1
  have c0_xj := xj.cell0
  have c1_xj := xj.cell1
  go_wp2_with fail
  refine (semi_eq p t (unhide GP) (unhide G') (by omega) (by omega) (unhide E2)).mono ?_
  rintro e w105 ⟨u_g, rfl, g, hb⟩
  replace r := r.below hb
  replace t := t.below hb
  replace p := p.below hb
  replace j := j.below hb
  replace xr := xr.belowH hb
  replace xt := xt.belowH hb
  replace xp := xp.belowH hb
  replace xj := xj.belowH hb
  replace hB := below_then hB hb
  obtain ⟨a_g, c_g, b_g, d_g, e_g, _, _, _, _, _, _⟩ := g.form
  rw [e_g] at g ⊢
  clear e_g
  clear hb c0_xr c1_xr c0_xt c1_xt c0_xp c1_xp c0_xj c1_xj
  have pb := (Below.refl _ w105).alloc (Nat.le_refl _) (.cells #[.slice a_g (s).length c_g, .slice b_g (P).length d_g] 27)
  replace r := r.below pb
  replace t := t.below pb
  replace p := p.below pb
  replace j := j.below pb
  replace g := g.below pb
  replace xr := xr.push (.cells #[.slice a_g (s).length c_g, .slice b_g (P).length d_g] 27)
  replace xt := xt.push (.cells #[.slice a_g (s).length c_g, .slice b_g (P).length d_g] 27)
  replace xp := xp.push (.cells #[.slice a_g (s).length c_g, .slice b_g (P).length d_g] 27)
  replace xj := xj.push (.cells #[.slice a_g (s).length c_g, .slice b_g (P).length d_g] 27)
  have xg := Box.new w105 (.slice a_g (s).length c_g) (.slice b_g (P).length d_g)
  replace hB := below_then hB pb
  clear pb
  have c0_xr := xr.cell0
  have c1_xr := xr.cell1
  have c0_xt := xt.cell0
  have c1_xt := xt.cell1
  have c0_xp := xp.cell0
  have c1_xp := xp.cell1
  have c0_xj := xj.cell0
  have c1_xj := xj.cell1
  have c0_xg := xg.cell0
  have c1_xg := xg.cell1
  go_wp2_with fail
  refine (join_eq (most := 10000) r r (unhide G) (unhide G) (by omega) (by omega) (by omega) (by have := unhide H2; omega) (unhide E3).1 (unhide E3).2).mono ?_
  rintro e w106 ⟨u_z, rfl, z, hb⟩
  replace r := r.below hb
  replace t := t.below hb
  replace p := p.below hb
  replace j := j.below hb
  replace g := g.below hb
  replace xr := xr.belowH hb
  replace xt := xt.belowH hb
  replace xp := xp.belowH hb
  replace xj := xj.belowH hb
  replace xg := xg.belowH hb
  replace hB := below_then hB hb
  obtain ⟨a_z, c_z, b_z, d_z, e_z, _, _, _, _, _, _⟩ := z.form
  rw [e_z] at z ⊢
  clear e_z
  clear hb c0_xr c1_xr c0_xt c1_xt c0_xp c1_xp c0_xj c1_xj c0_xg c1_xg
  have pb := (Below.refl _ w106).alloc (Nat.le_refl _) (.cells #[.slice a_z (s).length c_z, .slice b_z (la).length d_z] 27)
  replace r := r.below pb
  replace t := t.below pb
  replace p := p.below pb
  replace j := j.below pb
  replace g := g.below pb
  replace z := z.below pb
  replace xr := xr.push (.cells #[.slice a_z (s).length c_z, .slice b_z (la).length d_z] 27)
  replace xt := xt.push (.cells #[.slice a_z (s).length c_z, .slice b_z (la).length d_z] 27)
  replace xp := xp.push (.cells #[.slice a_z (s).length c_z, .slice b_z (la).length d_z] 27)
  replace xj := xj.push (.cells #[.slice a_z (s).length c_z, .slice b_z (la).length d_z] 27)
  replace xg := xg.push (.cells #[.slice a_z (s).length c_z, .slice b_z (la).length d_z] 27)
  have xz := Box.new w106 (.slice a_z (s).length c_z) (.slice b_z (la).length d_z)
  replace hB := below_then hB pb
  clear pb
  go_wp2
  generalize (w106.alloc (.cells #[.slice a_z (s).length c_z, .slice b_z (la).length d_z] 27)) = W9 at *
  have HRI := hide r.ints
  have HTI := hide t.ints
  have HR := hide r
  have HT := hide t
  have HPP := hide p
  have HJJ := hide j
  have HGG := hide g
  have HZZ := hide z
  clear r t p j g z
  have HK := hide (fun W (hb : Below W9.heap.size W9 W) => (And.intro (And.intro (xr.belowH hb).cell0 (xr.belowH hb).cell1) (And.intro (And.intro (xt.belowH hb).cell0 (xt.belowH hb).cell1) (And.intro (And.intro (xp.belowH hb).cell0 (xp.belowH hb).cell1) (And.intro (And.intro (xj.belowH hb).cell0 (xj.belowH hb).cell1) (And.intro (And.intro (xg.belowH hb).cell0 (xg.belowH hb).cell1) (And.intro (xz.belowH hb).cell0 (xz.belowH hb).cell1)))))))
  have hbR := Below.refl W9.heap.size W9
  clear xr xt xp xj xg xz
  go_region_held3 (fun W => (W.cell? ⟨w101.heap.size, 0, none⟩ = some (.slice a_r (s).length c_r) ∧ W.cell? ⟨w101.heap.size, 1, none⟩ = some (.slice b_r (la).length d_r)) ∧ (W.cell? ⟨w102.heap.size, 0, none⟩ = some (.slice a_t (u).length c_t) ∧ W.cell? ⟨w102.heap.size, 1, none⟩ = some (.slice b_t (lb).length d_t)) ∧ (W.cell? ⟨w103.heap.size, 0, none⟩ = some (.slice a_p (s).length c_p) ∧ W.cell? ⟨w103.heap.size, 1, none⟩ = some (.slice b_p (P).length d_p)) ∧ (W.cell? ⟨w104.heap.size, 0, none⟩ = some (.slice a_j (S).length c_j) ∧ W.cell? ⟨w104.heap.size, 1, none⟩ = some (.slice b_j (J).length d_j)) ∧ (W.cell? ⟨w105.heap.size, 0, none⟩ = some (.slice a_g (s).length c_g) ∧ W.cell? ⟨w105.heap.size, 1, none⟩ = some (.slice b_g (P).length d_g)) ∧ (W.cell? ⟨w106.heap.size, 0, none⟩ = some (.slice a_z (s).length c_z) ∧ W.cell? ⟨w106.heap.size, 1, none⟩ = some (.slice b_z (la).length d_z)))
    (first | exact unhide HK _ (by first | exact hR7 | exact hR6 | exact hR5 | exact hR4 | exact hR3 | exact hR2 | exact hR1  | exact hbR | exact below_same rfl rfl rfl rfl | exact below_then hR7 (below_push rfl rfl rfl rfl) | exact below_then hR7 (below_same rfl rfl rfl rfl)))
    (first
      | (go_at_call 25; refine (same_yes y3 ((unhide HR).below hR6) rfl rfl).mono ?_; rintro e w113 ⟨rfl, hq7⟩; have hR7 : Below W9.heap.size W9 w113 := below_then hR6 hq7)
      | (go_at_call 17; refine (semi_eq ((unhide HR).below hR5) y2 (unhide G) (unhide GX) (by omega) (by omega) (unhide E4)).mono ?_; rintro e w112 ⟨u_y3, rfl, y3, hq6⟩; obtain ⟨a_y3, c_y3, b_y3, d_y3, e_y3, _, _, _, _, _, _⟩ := y3.form; rw [e_y3] at y3 ⊢; clear e_y3; have hR6 : Below W9.heap.size W9 w112 := below_then hR5 hq6)
      | (go_at_call 26; refine (project_rel ((unhide HR).below hR4) ((unhide HTI).below hR4) ((unhide G).good (by omega)) (by omega)).mono ?_; rintro e w111 ⟨u_y2, rfl, y2, hq5⟩; obtain ⟨a_y2, c_y2, b_y2, d_y2, e_y2, _, _, _, _, _, _⟩ := y2.form; rw [e_y2] at y2 ⊢; clear e_y2; have hR5 : Below W9.heap.size W9 w111 := below_then hR4 hq5)
      | (go_at_call 25; refine (same_yes ((unhide HZZ).below hR3) ((unhide HR).below hR3) rfl rfl).mono ?_; rintro e w110 ⟨rfl, hq4⟩; have hR4 : Below W9.heap.size W9 w110 := below_then hR3 hq4)
      | (go_at_call 25; refine (same_yes ((unhide HGG).below hR2) ((unhide HPP).below hR2) rfl rfl).mono ?_; rintro e w109 ⟨rfl, hq3⟩; have hR3 : Below W9.heap.size W9 w109 := below_then hR2 hq3)
      | (go_at_call 25; refine (same_yes ((unhide HPP).below hR1) y1 (unhide E1).1.symm (unhide E1).2.symm).mono ?_; rintro e w108 ⟨rfl, hq2⟩; have hR2 : Below W9.heap.size W9 w108 := below_then hR1 hq2)
      | (go_at_call 26; refine (project_rel ((unhide HJJ).below (by first | exact hbR | exact below_same rfl rfl rfl rfl)) ((unhide HRI).below (by first | exact hbR | exact below_same rfl rfl rfl rfl)) ((unhide GJ).good (by omega)) (by omega)).mono ?_; rintro e w107 ⟨u_y1, rfl, y1, hq1⟩; obtain ⟨a_y1, c_y1, b_y1, d_y1, e_y1, _, _, _, _, _, _⟩ := y1.form; rw [e_y1] at y1 ⊢; clear e_y1; have hR1 : Below W9.heap.size W9 w107 := below_then (by first | exact hbR | exact below_same rfl rfl rfl rfl) hq1))
  all_goals
    go_wp2
    go_ret
    exact ⟨rfl, below_then hB hR7⟩

set_option maxRecDepth 100000 in
theorem lifted (os : Os) (started : os.Started) (H : Type) (enc : TypeId × Value → H) :
    ReturnsInHanded {} Tryz.checked os 6 .any (fun w args => (Rows.joinSemiSpec.pre enc Tryz.prog Tryz.f6 [] false w args ∧ laidMetH Tryz.prog laidIn w) ∧ sizedMet enc Tryz.prog Tryz.f6 (OpenSpec.ofChange Rows.joinSemiSpec) false w args)
      (Rows.joinSemiSpec.post enc Tryz.prog Tryz.f6 false true false false) := by
  refine returnsInHanded_of_change_and (C := Tryz.checked) (X := fun w _ => laidMetH Tryz.prog laidIn w) (fun _ _ _ hh h => h.of_heap hh) own started (by kernel_rfl) Tryz.func6
    (ChangeSpec.witness_shaped (enc := enc) (C := Tryz.checked) (os := os) (X := fun w _ => laidMetH Tryz.prog laidIn w) false (World.doorLaid Tryz.prog doorN os) #[.agg #[.slice none 0 0, .slice none 0 0], .agg #[.slice none 0 0, .slice none 0 0]] 8 rfl (World.shaped_of_RefB (by kernel_rfl) (by kernel_rfl)) (by kernel_rfl) (by kernel_rfl) (by kernel_rfl) (door_met os _)) ?_
  intro W base args ds gs before hval0 hW _ _ _ _
  have hval : ∀ (j : Nat) t v, Tryz.f6.params[j]? = some t → args[j]? = some v → Value.okWide Tryz.prog W .any base t v := hval0
  have hW' := hW
  obtain ⟨p, q, hA0, hV, rfl, hfz, hnd⟩ := hW
  have hA : DataW.TrodAll enc Tryz.prog W 0 (fun _ => true) true Tryz.f6.params.toList args.toList ds p := hA0
  rw [Tryz.params6] at hA hval
  obtain ⟨v0, vs0, d0, ds0, p0, q0, hargs, rfl, rfl, h0, r0⟩ := trodAll_cons hA
  obtain ⟨v1, vs1, d1, ds1, p1, q1, rfl, rfl, rfl, h1, r1⟩ := trodAll_cons r0
  obtain ⟨rfl, rfl, rfl⟩ := trodAll_nil r1
  obtain rfl : args = #[v0, v1] := by cases args; simp_all
  obtain ⟨rfl, rfl⟩ := trodVars_none hV
  obtain ⟨l0, k0, i0, m0, n0⟩ := read_part h0 (hval 0 25 v0 rfl rfl)
  have lt0 : ∀ x ∈ p0, x.block < W.heap.size := by obtain ⟨m, hm⟩ := h0; exact DataW.trod_lt m _ _ _ hm
  obtain ⟨l1, k1, i1, m1, n1⟩ := read_part h1 (hval 1 25 v1 rfl rfl)
  have lt1 : ∀ x ∈ p1, x.block < W.heap.size := by obtain ⟨m, hm⟩ := h1; exact DataW.trod_lt m _ _ _ hm
  clear hA0 hval0
  refine (walk i0 i1).mono fun e W' ⟨he, bel⟩ => ?_
  subst he
  exact ⟨_, rfl, _, _, _, [], _, [], hW', trodAll_mk1 (shut_bool Tryz.underlying4 _), (trodAll_cons_mk (Below.trod laidOut (by kernel_rfl) (of_decide_eq_true (by kernel_rfl)) h0 bel lt0) (trodAll_cons_mk (Below.trod laidOut (by kernel_rfl) (of_decide_eq_true (by kernel_rfl)) h1 bel lt1) trodAll_mk0)), rfl, bel.frame _, fun h => by cases h⟩

theorem over : Rows.joinSemiRow.holds Tryz.pinned (OpenSpec.ofChange Rows.joinSemiSpec) :=
  OpenClaim.holds_of_wide 6 Tryz.f6 rfl rfl rfl rfl rfl rfl rfl ⟨rfl, rfl, rfl, rfl, rfl⟩ rfl rfl rfl rfl rfl (by kernel_rfl) Tryz.func6 (by kernel_rfl)
    (of_decide_eq_true (by kernel_rfl)) (by unfold Func.isWrapper; first | (rw [if_pos (by decide +kernel)]; kernel_rfl) | (rw [if_neg (by decide +kernel)]; exact ⟨rfl, rfl⟩))
    (fun os started H enc _ => lifted os started H enc)

/-- The statement: the tied card. -/
theorem proved : Rows.JoinSemiCardSaid :=
  Claim7.holds_tied_plain_at .later [] [.data, .data, .data] true (true, "7888708df1aa7c808ebd15fb47d32b01dabe941ed2c526b83533b5aed37430b1") false
    over (fun _ h => by cases h) (by kernel_rfl) (fun _ h => by cases h) joinSemi_row_tie rfl ⟨rfl, rfl⟩ (by kernel_rfl) rfl
    (fun f fn hf hfn => by
      obtain rfl : f = 6 := Option.some.inj ((show Tryz.prog.funcNamed "arborist/arboristlaw03.JoinSemi" = some 6 by kernel_rfl).symm.trans hf) |>.symm
      obtain rfl : fn = Tryz.f6 := (Option.some.inj (Tryz.func6.symm.trans hfn)).symm
      exact ⟨by kernel_rfl, fun j t ht => by
        rw [Tryz.params6] at ht
        have hm : t ∈ [25, 25] := by simpa using Array.mem_of_getElem? ht
        have hall : ([25, 25].all fun u => !Tryz.prog.wantsStandIn u) = true := by kernel_rfl
        exact (show Tryz.prog.wantsStandIn t = false by simpa using List.all_eq_true.1 hall t hm)⟩)
    (by kernel_rfl)
#print axioms proved
end Go.Proofs.YtcndapakkkaojaaGreatDoor.joinSemi
