/-
  Proved: JoinTells answers true for every two Parts and every number, and leaves what was handed in as it was; the listed variables hold what the program's text lays. No other condition.
-/
import Derived.Test.YtoiokplgkanepaaGreatDoorLawKit3
import Derived.Test.YtoiokplgkanepaaGreatDoorRefSemi
namespace Go.Proofs.YtoiokplgkanepaaGreatDoor.joinTells
open Go.RowKit Go.ChangeShapes Go.WideShapes Go.ChangeAt
set_option linter.unusedVariables false
set_option linter.unusedSimpArgs false
set_option maxRecDepth 20000

theorem refJoin_eq {s u S : List Int} {la lb J : List (List Int)} {v v' : Value} {w : World} (h : RelV w v s la) (h' : RelV w v' u lb) (g : Fine s la 12) (g' : Fine u lb 12) (e1 : joinL s u = S) (e2 : joinR s la u lb = J) :
    Calls Tryz.prog 8 #[v, v'] w fun e w' => ∃ x, e = .returned x ∧ RelV w' x S J ∧ Below w.heap.size w w' := by
  have h1 := g.llen
  have h2 := g'.llen
  have h3 := g.slen
  have h4 := g'.slen
  have h5 := joinS_le 0 g.asc g'.asc
  have h6 : (la.length + 1) * lb.length ≤ 13 * 12 := Nat.mul_le_mul (by omega) h2
  rw [← e1, ← e2]
  exact refJoin3_any h h' g.asc.nodup g.wide g'.wide (by omega) (by omega) (by omega) (by omega) (by omega) (by omega)

theorem refSemi_eq {s u : List Int} {la lb R : List (List Int)} {v v' : Value} {w : World} (h : RelV w v s la) (h' : RelV w v' u lb) (g : Fine s la 12) (g' : Fine u lb 12) (e : semiR s la u lb = R) :
    Calls Tryz.prog 11 #[v, v'] w fun e w' => ∃ x, e = .returned x ∧ RelV w' x s R ∧ Below w.heap.size w w' := by
  have h1 := g.llen
  have h2 := g'.llen
  have h3 := g.slen
  rw [← e]
  exact refSemi_any h h' g.asc.nodup g.wide g'.wide (by omega) (by omega) (by omega)

theorem refAgree_q {s u : List Int} {la lb : List (List Int)} {n m : Nat} {v v' : Value} {w : World} {q : Bool} (h : RelV w v s la) (h' : RelV w v' u lb) (g : Fine s la n) (g' : Fine u lb m) (hn : n ≤ 5000) (hm : m ≤ 5000) (hq : agreeB s la u lb = q) :
    Calls Tryz.prog 13 #[v, v'] w fun e w' => e = .returned (.bool q) ∧ Below w.heap.size w w' := by rw [← hq]; exact refAgree_any h h' g g' hn hm

theorem refSame_yes {s : List Int} {ll : List (List Int)} {v v' : Value} {w : World} (h : RelV w v s ll) (h' : RelV w v' s ll) :
    Calls Tryz.prog 9 #[v, v'] w fun e w' => e = .returned (.bool true) ∧ Below w.heap.size w w' := by
  have := refSame_rel h h'
  rwa [show sameR s ll s ll = true from sameR_iff.2 ⟨rfl, rfl⟩] at this

set_option maxHeartbeats 32000000 in
theorem walk {l0 l1 : List Int} {k0 k1 : List (List Int)} {l2 : Int} {v0 v1 v2 : Value} {w : World} (i0 : RelV w v0 l0 k0) (i1 : RelV w v1 l1 k1) (i2 : v2 = .int .i64 l2) :
    Calls Tryz.prog 3 #[v0, v1, v2] w fun e w' => e = .returned (.bool true) ∧ Below w.heap.size w w' := by
  subst i2
  obtain ⟨a0, c0, b0, d0, rfl, _, f0, _, g0, s0, t0⟩ := i0.form
  obtain ⟨a1, c1, b1, d1, rfl, _, f1, _, g1, s1, t1⟩ := i1.form
  unfold maxLen at f0 g0 f1 g1
  obtain ⟨W0, hW0⟩ : ∃ W, W = ((w.alloc (.cells #[.slice a0 l0.length c0, .slice b0 k0.length d0] 25)).alloc (.cells #[.slice a1 l1.length c1, .slice b1 k1.length d1] 25)) := ⟨_, rfl⟩
  have hB : Below w.heap.size w W0 := by rw [hW0]; exact ((Below.refl w.heap.size w).alloc (Nat.le_refl _) (.cells #[.slice a0 l0.length c0, .slice b0 k0.length d0] 25)).alloc (by simp; try omega) (.cells #[.slice a1 l1.length c1, .slice b1 k1.length d1] 25)
  have p0 : BoxP W0 (w.heap.size) (.slice a0 l0.length c0) (.slice b0 k0.length d0) := by rw [hW0]; have := (BoxP.new w (.slice a0 l0.length c0) (.slice b0 k0.length d0)).push (.cells #[.slice a1 l1.length c1, .slice b1 k1.length d1] 25); exact this
  have p1 : BoxP W0 (w.heap.size + 1) (.slice a1 l1.length c1) (.slice b1 k1.length d1) := by rw [hW0]; have := BoxP.new (w.alloc (.cells #[.slice a0 l0.length c0, .slice b0 k0.length d0] 25)) (.slice a1 l1.length c1) (.slice b1 k1.length d1); simpa using this
  replace s0 := s0.below hB
  replace t0 := t0.below hB
  replace s1 := s1.below hB
  replace t1 := t1.below hB
  have HW0 := hide hW0
  clear hW0 i0 i1
  have G := hide (fine_small l0 k0)
  have G' := hide (fine_small l1 k1)
  have hs3 := smallS3_len l0
  have hu3 := smallS3_len l1
  go_enter Tryz.func3, Tryz.ntmps3
  go_wp2_with fail
  rw [← unhide HW0]
  refine (shown3_any _).mono ?_
  rintro e w1 ⟨rfl, hb⟩
  replace s0 := s0.below hb
  replace t0 := t0.below hb
  replace p0 := p0.belowH hb
  replace s1 := s1.below hb
  replace t1 := t1.below hb
  replace p1 := p1.belowH hb
  replace hB := hB.trans (hb.mono hB.size)
  clear hb
  have c0_p0 := p0.cell0
  have c1_p0 := p0.cell1
  have c0_p1 := p1.cell0
  have c1_p1 := p1.cell1
  go_wp2_with fail
  refine (small3_any s0 t0).mono ?_
  rintro e w101 ⟨u_r, rfl, r, hb⟩
  replace s1 := s1.below hb
  replace t1 := t1.below hb
  replace p0 := p0.belowH hb
  replace p1 := p1.belowH hb
  replace hB := below_then hB hb
  obtain ⟨a_r, c_r, b_r, d_r, e_r, _, _, _, _, _, _⟩ := r.form
  rw [e_r] at r ⊢
  clear e_r
  clear hb c0_p0 c1_p0 c0_p1 c1_p1
  clear s0 t0 p0
  generalize smallS3 l0 = s at *
  generalize smallR3 l0 k0 = la at *
  have pb := (Below.refl _ w101).alloc (Nat.le_refl _) (.cells #[.slice a_r (s).length c_r, .slice b_r (la).length d_r] 27)
  replace r := r.below pb
  replace s1 := s1.below pb
  replace t1 := t1.below pb
  replace p1 := p1.push (.cells #[.slice a_r (s).length c_r, .slice b_r (la).length d_r] 27)
  have xr := Box.new w101 (.slice a_r (s).length c_r) (.slice b_r (la).length d_r)
  replace hB := below_then hB pb
  clear pb
  have c0_p1 := p1.cell0
  have c1_p1 := p1.cell1
  have c0_xr := xr.cell0
  have c1_xr := xr.cell1
  go_wp2_with fail
  refine (small3_any s1 t1).mono ?_
  rintro e w102 ⟨u_t, rfl, t, hb⟩
  replace r := r.below hb
  replace p1 := p1.belowH hb
  replace xr := xr.belowH hb
  replace hB := below_then hB hb
  obtain ⟨a_t, c_t, b_t, d_t, e_t, _, _, _, _, _, _⟩ := t.form
  rw [e_t] at t ⊢
  clear e_t
  clear hb c0_p1 c1_p1 c0_xr c1_xr
  clear s1 t1 p1
  generalize smallS3 l1 = u at *
  generalize smallR3 l1 k1 = lb at *
  have pb := (Below.refl _ w102).alloc (Nat.le_refl _) (.cells #[.slice a_t (u).length c_t, .slice b_t (lb).length d_t] 27)
  replace r := r.below pb
  replace t := t.below pb
  replace xr := xr.push (.cells #[.slice a_t (u).length c_t, .slice b_t (lb).length d_t] 27)
  have xt := Box.new w102 (.slice a_t (u).length c_t) (.slice b_t (lb).length d_t)
  replace hB := below_then hB pb
  clear pb
  obtain ⟨P, hP⟩ : ∃ P, semiR s la u lb = P := ⟨_, rfl⟩
  obtain ⟨S, hS⟩ : ∃ S, joinL s u = S := ⟨_, rfl⟩
  obtain ⟨J, hJ⟩ : ∃ J, joinR s la u lb = J := ⟨_, rfl⟩
  obtain ⟨ag, hag⟩ : ∃ q, agreeB s la u lb = q := ⟨_, rfl⟩
  have GJ := hide (((unhide G).join (unhide G') (by omega)).good (by omega))
  have EL := hide (join_len (unhide G) (unhide G'))
  rw [hS, hJ] at GJ
  rw [hJ] at EL
  have HP := hide hP
  have HS := hide hS
  have HJ := hide hJ
  have HAG := hide hag
  clear hP hS hJ hag hs3 hu3
  have hagg : (ag != ag) = false := by simp
  by_cases hm : (J.length : Int) ≤ l2
  · have HM := hide (show ((pairR s la u lb).length : Int) ≤ l2 by rw [← unhide EL]; exact hm)
    have hgt : decide ((J.length : Int) > l2) = false := by simpa using hm
    have hgt2 : decide (l2 < (J.length : Int)) = false := hgt
    have c0_xr := xr.cell0
    have c1_xr := xr.cell1
    have c0_xt := xt.cell0
    have c1_xt := xt.cell1
    go_wp2_with fail
    refine (join_eq (most := l2) r t (unhide G) (unhide G') (by omega) (by omega) (by omega) (unhide HM) (unhide HS) (unhide HJ)).mono ?_
    rintro e w103 ⟨u_j, rfl, j, hb⟩
    replace r := r.below hb
    replace t := t.below hb
    replace xr := xr.belowH hb
    replace xt := xt.belowH hb
    replace hB := below_then hB hb
    obtain ⟨a_j, c_j, b_j, d_j, e_j, _, _, _, _, _, _⟩ := j.form
    rw [e_j] at j ⊢
    clear e_j
    clear hb c0_xr c1_xr c0_xt c1_xt
    have pb := (Below.refl _ w103).alloc (Nat.le_refl _) (.cells #[.slice a_j (S).length c_j, .slice b_j (J).length d_j] 27)
    replace r := r.below pb
    replace t := t.below pb
    replace j := j.below pb
    replace xr := xr.push (.cells #[.slice a_j (S).length c_j, .slice b_j (J).length d_j] 27)
    replace xt := xt.push (.cells #[.slice a_j (S).length c_j, .slice b_j (J).length d_j] 27)
    have xj := Box.new w103 (.slice a_j (S).length c_j) (.slice b_j (J).length d_j)
    replace hB := below_then hB pb
    clear pb
    have c0_xr := xr.cell0
    have c1_xr := xr.cell1
    have c0_xt := xt.cell0
    have c1_xt := xt.cell1
    have c0_xj := xj.cell0
    have c1_xj := xj.cell1
    go_wp2_with fail
    refine (refJoin_eq r t (unhide G) (unhide G') (unhide HS) (unhide HJ)).mono ?_
    rintro e w104 ⟨u_k, rfl, k, hb⟩
    replace r := r.below hb
    replace t := t.below hb
    replace j := j.below hb
    replace xr := xr.belowH hb
    replace xt := xt.belowH hb
    replace xj := xj.belowH hb
    replace hB := below_then hB hb
    obtain ⟨a_k, c_k, b_k, d_k, e_k, _, _, _, _, _, _⟩ := k.form
    rw [e_k] at k ⊢
    clear e_k
    clear hb c0_xr c1_xr c0_xt c1_xt c0_xj c1_xj
    have pb := (Below.refl _ w104).alloc (Nat.le_refl _) (.cells #[.slice a_k (S).length c_k, .slice b_k (J).length d_k] 27)
    replace r := r.below pb
    replace t := t.below pb
    replace j := j.below pb
    replace k := k.below pb
    replace xr := xr.push (.cells #[.slice a_k (S).length c_k, .slice b_k (J).length d_k] 27)
    replace xt := xt.push (.cells #[.slice a_k (S).length c_k, .slice b_k (J).length d_k] 27)
    replace xj := xj.push (.cells #[.slice a_k (S).length c_k, .slice b_k (J).length d_k] 27)
    have xk := Box.new w104 (.slice a_k (S).length c_k) (.slice b_k (J).length d_k)
    replace hB := below_then hB pb
    clear pb
    go_wp2
    generalize (w104.alloc (.cells #[.slice a_k (S).length c_k, .slice b_k (J).length d_k] 27)) = W9 at *
    have HR := hide r
    have HT := hide t
    have HJJ := hide j
    have HKK := hide k
    have XJ := hide xj
    have XK := hide xk
    clear r t j k xj xk
    have HK := hide (fun W (hb : Below W9.heap.size W9 W) => (And.intro (And.intro (xr.belowH hb).cell0 (xr.belowH hb).cell1) (And.intro (xt.belowH hb).cell0 (xt.belowH hb).cell1)))
    have hbR := Below.refl W9.heap.size W9
    clear xr xt
    go_region_held3 (fun W => (W.cell? ⟨w101.heap.size, 0, none⟩ = some (.slice a_r (s).length c_r) ∧ W.cell? ⟨w101.heap.size, 1, none⟩ = some (.slice b_r (la).length d_r)) ∧ (W.cell? ⟨w102.heap.size, 0, none⟩ = some (.slice a_t (u).length c_t) ∧ W.cell? ⟨w102.heap.size, 1, none⟩ = some (.slice b_t (lb).length d_t)))
      (first | exact unhide HK _ (by first | exact hR5 | exact hR4 | exact hR3 | exact hR2 | exact hR1  | exact hbR | exact below_same rfl rfl rfl rfl | exact below_then hR5 (below_push rfl rfl rfl rfl) | exact below_then hR5 (below_same rfl rfl rfl rfl)))
      (first
        | (go_at_call 13; refine (refAgree_q (q := ag) ((unhide HR).below hR4) ((unhide HT).below hR4) (unhide G) (unhide G') (by omega) (by omega) (unhide HAG)).mono ?_; rintro e w109 ⟨rfl, hq5⟩; have hR5 : Below W9.heap.size W9 w109 := below_then hR4 hq5)
        | (go_at_call 12; refine (agree_q (q := ag) ((unhide HR).below hR3) ((unhide HT).below hR3) (unhide G) (unhide G') (by omega) (by omega) (unhide HAG)).mono ?_; rintro e w108 ⟨rfl, hq4⟩; have hR4 : Below W9.heap.size W9 w108 := below_then hR3 hq4)
        | (go_at_call 9; refine (refSame_yes (p.below hq2) q).mono ?_; rintro e w107 ⟨rfl, hq3⟩; have hR3 : Below W9.heap.size W9 w107 := below_then hR2 hq3)
        | (go_at_call 11; refine (refSemi_eq ((unhide HR).below hR1) ((unhide HT).below hR1) (unhide G) (unhide G') (unhide HP)).mono ?_; rintro e w106 ⟨u_q, rfl, q, hq2⟩; obtain ⟨a_q, c_q, b_q, d_q, e_q, _, _, _, _, _, _⟩ := q.form; rw [e_q] at q ⊢; clear e_q; have hR2 : Below W9.heap.size W9 w106 := below_then hR1 hq2)
        | (go_at_call 10; refine (semi_eq ((unhide HR).below (by first | exact hbR | exact below_same rfl rfl rfl rfl)) ((unhide HT).below (by first | exact hbR | exact below_same rfl rfl rfl rfl)) (unhide G) (unhide G') (by omega) (by omega) (unhide HP)).mono ?_; rintro e w105 ⟨u_p, rfl, p, hq1⟩; obtain ⟨a_p, c_p, b_p, d_p, e_p, _, _, _, _, _, _⟩ := p.form; rw [e_p] at p ⊢; clear e_p; have hR1 : Below W9.heap.size W9 w105 := below_then (by first | exact hbR | exact below_same rfl rfl rfl rfl) hq1))
    all_goals
      have xj := (unhide XJ).belowH hR5
      have xk := (unhide XK).belowH hR5
      have j := (unhide HJJ).below hR5
      have k := (unhide HKK).below hR5
      have hB' := below_then hB hR5
      clear hB
      have hB := hB'
      clear hB' XJ XK HJJ HKK p q hR1 hR2 hR3 hR4 hR5 hq1 hq2 hq3 hq4 hq5
      have c0_xj := xj.cell0
      have c1_xj := xj.cell1
      have c0_xk := xk.cell0
      have c1_xk := xk.cell1
      go_wp2_with fail
      refine (refSame_yes j k).mono ?_
      rintro e w110 ⟨rfl, hb⟩
      replace j := j.below hb
      replace k := k.below hb
      replace xj := xj.belowH hb
      replace xk := xk.belowH hb
      replace hB := below_then hB hb
      clear hb c0_xj c1_xj c0_xk c1_xk
      have c0_xj := xj.cell0
      have c1_xj := xj.cell1
      have c0_xk := xk.cell0
      have c1_xk := xk.cell1
      go_wp2_with fail
      refine (right_yes j (unhide GJ).right).mono ?_
      rintro e w111 ⟨rfl, hb⟩
      replace xj := xj.belowH hb
      replace xk := xk.belowH hb
      replace hB := below_then hB hb
      clear hb c0_xj c1_xj c0_xk c1_xk
      go_wp2
      go_ret
      exact ⟨rfl, hB⟩
  · have HM := hide (show l2 < ((pairR s la u lb).length : Int) by rw [← unhide EL]; omega)
    have hgt : decide ((J.length : Int) > l2) = true := by simpa using hm
    have hgt2 : decide (l2 < (J.length : Int)) = true := hgt
    have c0_xr := xr.cell0
    have c1_xr := xr.cell1
    have c0_xt := xt.cell0
    have c1_xt := xt.cell1
    go_wp2_with fail
    refine (join_no (most := l2) r t (unhide G) (unhide G') (by omega) (by omega) (by omega) (unhide HM)).mono ?_
    rintro e w112 ⟨rfl, hb⟩
    replace r := r.below hb
    replace t := t.below hb
    replace xr := xr.belowH hb
    replace xt := xt.belowH hb
    replace hB := below_then hB hb
    clear hb c0_xr c1_xr c0_xt c1_xt
    have pb := (Below.refl _ w112).alloc (Nat.le_refl _) (.cells #[.slice none 0 0, .slice none 0 0] 27)
    replace r := r.below pb
    replace t := t.below pb
    replace xr := xr.push (.cells #[.slice none 0 0, .slice none 0 0] 27)
    replace xt := xt.push (.cells #[.slice none 0 0, .slice none 0 0] 27)
    have xj := Box.new w112 (.slice none 0 0) (.slice none 0 0)
    replace hB := below_then hB pb
    clear pb
    have c0_xr := xr.cell0
    have c1_xr := xr.cell1
    have c0_xt := xt.cell0
    have c1_xt := xt.cell1
    have c0_xj := xj.cell0
    have c1_xj := xj.cell1
    go_wp2_with fail
    refine (refJoin_eq r t (unhide G) (unhide G') (unhide HS) (unhide HJ)).mono ?_
    rintro e w113 ⟨u_k, rfl, k, hb⟩
    replace r := r.below hb
    replace t := t.below hb
    replace xr := xr.belowH hb
    replace xt := xt.belowH hb
    replace xj := xj.belowH hb
    replace hB := below_then hB hb
    obtain ⟨a_k, c_k, b_k, d_k, e_k, _, _, _, _, _, _⟩ := k.form
    rw [e_k] at k ⊢
    clear e_k
    clear hb c0_xr c1_xr c0_xt c1_xt c0_xj c1_xj
    have pb := (Below.refl _ w113).alloc (Nat.le_refl _) (.cells #[.slice a_k (S).length c_k, .slice b_k (J).length d_k] 27)
    replace r := r.below pb
    replace t := t.below pb
    replace k := k.below pb
    replace xr := xr.push (.cells #[.slice a_k (S).length c_k, .slice b_k (J).length d_k] 27)
    replace xt := xt.push (.cells #[.slice a_k (S).length c_k, .slice b_k (J).length d_k] 27)
    replace xj := xj.push (.cells #[.slice a_k (S).length c_k, .slice b_k (J).length d_k] 27)
    have xk := Box.new w113 (.slice a_k (S).length c_k) (.slice b_k (J).length d_k)
    replace hB := below_then hB pb
    clear pb
    go_wp2
    generalize (w113.alloc (.cells #[.slice a_k (S).length c_k, .slice b_k (J).length d_k] 27)) = W9 at *
    have HR := hide r
    have HT := hide t
    have XJ := hide xj
    have XK := hide xk
    clear r t k xj xk
    have HK := hide (fun W (hb : Below W9.heap.size W9 W) => (And.intro (And.intro (xr.belowH hb).cell0 (xr.belowH hb).cell1) (And.intro (xt.belowH hb).cell0 (xt.belowH hb).cell1)))
    have hbR := Below.refl W9.heap.size W9
    clear xr xt
    go_region_held3 (fun W => (W.cell? ⟨w101.heap.size, 0, none⟩ = some (.slice a_r (s).length c_r) ∧ W.cell? ⟨w101.heap.size, 1, none⟩ = some (.slice b_r (la).length d_r)) ∧ (W.cell? ⟨w102.heap.size, 0, none⟩ = some (.slice a_t (u).length c_t) ∧ W.cell? ⟨w102.heap.size, 1, none⟩ = some (.slice b_t (lb).length d_t)))
      (first | exact unhide HK _ (by first | exact hR5 | exact hR4 | exact hR3 | exact hR2 | exact hR1  | exact hbR | exact below_same rfl rfl rfl rfl | exact below_then hR5 (below_push rfl rfl rfl rfl) | exact below_then hR5 (below_same rfl rfl rfl rfl)))
      (first
        | (go_at_call 13; refine (refAgree_q (q := ag) ((unhide HR).below hR4) ((unhide HT).below hR4) (unhide G) (unhide G') (by omega) (by omega) (unhide HAG)).mono ?_; rintro e w118 ⟨rfl, hq5⟩; have hR5 : Below W9.heap.size W9 w118 := below_then hR4 hq5)
        | (go_at_call 12; refine (agree_q (q := ag) ((unhide HR).below hR3) ((unhide HT).below hR3) (unhide G) (unhide G') (by omega) (by omega) (unhide HAG)).mono ?_; rintro e w117 ⟨rfl, hq4⟩; have hR4 : Below W9.heap.size W9 w117 := below_then hR3 hq4)
        | (go_at_call 9; refine (refSame_yes (p.below hq2) q).mono ?_; rintro e w116 ⟨rfl, hq3⟩; have hR3 : Below W9.heap.size W9 w116 := below_then hR2 hq3)
        | (go_at_call 11; refine (refSemi_eq ((unhide HR).below hR1) ((unhide HT).below hR1) (unhide G) (unhide G') (unhide HP)).mono ?_; rintro e w115 ⟨u_q, rfl, q, hq2⟩; obtain ⟨a_q, c_q, b_q, d_q, e_q, _, _, _, _, _, _⟩ := q.form; rw [e_q] at q ⊢; clear e_q; have hR2 : Below W9.heap.size W9 w115 := below_then hR1 hq2)
        | (go_at_call 10; refine (semi_eq ((unhide HR).below (by first | exact hbR | exact below_same rfl rfl rfl rfl)) ((unhide HT).below (by first | exact hbR | exact below_same rfl rfl rfl rfl)) (unhide G) (unhide G') (by omega) (by omega) (unhide HP)).mono ?_; rintro e w114 ⟨u_p, rfl, p, hq1⟩; obtain ⟨a_p, c_p, b_p, d_p, e_p, _, _, _, _, _, _⟩ := p.form; rw [e_p] at p ⊢; clear e_p; have hR1 : Below W9.heap.size W9 w114 := below_then (by first | exact hbR | exact below_same rfl rfl rfl rfl) hq1))
    all_goals
      have c0_xj := ((unhide XJ).belowH hR5).cell0
      have c1_xj := ((unhide XJ).belowH hR5).cell1
      have c0_xk := ((unhide XK).belowH hR5).cell0
      have c1_xk := ((unhide XK).belowH hR5).cell1
      have hB' := below_then hB hR5
      clear hB XJ XK p q hR1 hR2 hR3 hR4 hR5 hq1 hq2 hq3 hq4 hq5
      go_wp2
      go_ret
      exact ⟨rfl, hB'⟩

set_option maxRecDepth 100000 in
theorem lifted (os : Os) (started : os.Started) (H : Type) (enc : TypeId × Value → H) :
    ReturnsInHanded {} Tryz.checked os 3 .any (fun w args => (Rows.joinTellsSpec.pre enc Tryz.prog Tryz.f3 [] false w args ∧ laidMetH Tryz.prog laidIn w) ∧ sizedMet enc Tryz.prog Tryz.f3 (OpenSpec.ofChange Rows.joinTellsSpec) false w args)
      (Rows.joinTellsSpec.post enc Tryz.prog Tryz.f3 false true false false) := by
  refine returnsInHanded_of_change_and (C := Tryz.checked) (X := fun w _ => laidMetH Tryz.prog laidIn w) (fun _ _ _ hh h => h.of_heap hh) own started (by kernel_rfl) Tryz.func3
    (ChangeSpec.witness_shaped (enc := enc) (C := Tryz.checked) (os := os) (X := fun w _ => laidMetH Tryz.prog laidIn w) false (World.doorLaid Tryz.prog doorN os) #[.agg #[.slice none 0 0, .slice none 0 0], .agg #[.slice none 0 0, .slice none 0 0], .int .i64 0] 8 rfl (World.shaped_of_RefB (by kernel_rfl) (by kernel_rfl)) (by kernel_rfl) (by kernel_rfl) (by kernel_rfl) (door_met os _)) ?_
  intro W base args ds gs before hval0 hW _ _ _ _
  have hval : ∀ (j : Nat) t v, Tryz.f3.params[j]? = some t → args[j]? = some v → Value.okWide Tryz.prog W .any base t v := hval0
  have hW' := hW
  obtain ⟨p, q, hA0, hV, rfl, hfz, hnd⟩ := hW
  have hA : DataW.TrodAll enc Tryz.prog W 0 (fun _ => true) true Tryz.f3.params.toList args.toList ds p := hA0
  rw [Tryz.params3] at hA hval
  obtain ⟨v0, vs0, d0, ds0, p0, q0, hargs, rfl, rfl, h0, r0⟩ := trodAll_cons hA
  obtain ⟨v1, vs1, d1, ds1, p1, q1, rfl, rfl, rfl, h1, r1⟩ := trodAll_cons r0
  obtain ⟨v2, vs2, d2, ds2, p2, q2, rfl, rfl, rfl, h2, r2⟩ := trodAll_cons r1
  obtain ⟨rfl, rfl, rfl⟩ := trodAll_nil r2
  obtain rfl : args = #[v0, v1, v2] := by cases args; simp_all
  obtain ⟨rfl, rfl⟩ := trodVars_none hV
  obtain ⟨l0, k0, i0, m0, n0⟩ := read_part h0 (hval 0 25 v0 rfl rfl)
  have lt0 : ∀ x ∈ p0, x.block < W.heap.size := by obtain ⟨m, hm⟩ := h0; exact DataW.trod_lt m _ _ _ hm
  obtain ⟨l1, k1, i1, m1, n1⟩ := read_part h1 (hval 1 25 v1 rfl rfl)
  have lt1 : ∀ x ∈ p1, x.block < W.heap.size := by obtain ⟨m, hm⟩ := h1; exact DataW.trod_lt m _ _ _ hm
  obtain ⟨l2, i2, m2⟩ := read_int h2 (hval 2 3 v2 rfl rfl)
  have lt2 : ∀ x ∈ p2, x.block < W.heap.size := by obtain ⟨m, hm⟩ := h2; exact DataW.trod_lt m _ _ _ hm
  clear hA0 hval0
  refine (walk i0 i1 i2).mono fun e W' ⟨he, bel⟩ => ?_
  subst he
  exact ⟨_, rfl, _, _, _, [], _, [], hW', trodAll_mk1 (shut_bool Tryz.underlying4 _), (trodAll_cons_mk (Below.trod laidOut (by kernel_rfl) (of_decide_eq_true (by kernel_rfl)) h0 bel lt0) (trodAll_cons_mk (Below.trod laidOut (by kernel_rfl) (of_decide_eq_true (by kernel_rfl)) h1 bel lt1) (trodAll_cons_mk (Below.trod laidOut (by kernel_rfl) (of_decide_eq_true (by kernel_rfl)) h2 bel lt2) trodAll_mk0))), rfl, bel.frame _, fun h => by cases h⟩

theorem over : Rows.joinTellsRow.holds Tryz.pinned (OpenSpec.ofChange Rows.joinTellsSpec) :=
  OpenClaim.holds_of_wide 3 Tryz.f3 rfl rfl rfl rfl rfl rfl rfl ⟨rfl, rfl, rfl, rfl, rfl⟩ rfl rfl rfl rfl rfl (by kernel_rfl) Tryz.func3 (by kernel_rfl)
    (of_decide_eq_true (by kernel_rfl)) (by unfold Func.isWrapper; first | (rw [if_pos (by decide +kernel)]; kernel_rfl) | (rw [if_neg (by decide +kernel)]; exact ⟨rfl, rfl⟩))
    (fun os started H enc _ => lifted os started H enc)

/-- The statement: the tied card. -/
theorem proved : Rows.JoinTellsCardSaid :=
  Claim7.holds_tied_plain_at .later [] [.data, .data, .data] true (true, "b710a40ed91f1a7ab9323d612b67f05f7a5c93907a40730ac9a60b2e465762de") false
    over (fun _ h => by cases h) (by kernel_rfl) (fun _ h => by cases h) joinTells_row_tie rfl ⟨rfl, rfl⟩ (by kernel_rfl) rfl
    (fun f fn hf hfn => by
      obtain rfl : f = 3 := Option.some.inj ((show Tryz.prog.funcNamed "arborist/arboristlaw03.JoinTells" = some 3 by kernel_rfl).symm.trans hf) |>.symm
      obtain rfl : fn = Tryz.f3 := (Option.some.inj (Tryz.func3.symm.trans hfn)).symm
      exact ⟨by kernel_rfl, fun j t ht => by
        rw [Tryz.params3] at ht
        have hm : t ∈ [25, 25, 3] := by simpa using Array.mem_of_getElem? ht
        have hall : ([25, 25, 3].all fun u => !Tryz.prog.wantsStandIn u) = true := by kernel_rfl
        exact (show Tryz.prog.wantsStandIn t = false by simpa using List.all_eq_true.1 hall t hm)⟩)
    (by kernel_rfl)
#print axioms proved
end Go.Proofs.YtoiokplgkanepaaGreatDoor.joinTells
