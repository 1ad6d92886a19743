/-
  Proved: JoinUnit answers true for every Part, and leaves what was handed in as it was; the listed variables hold what the program's text lays. No other condition.
-/
import Derived.Test.YtcndapakkkaojaaGreatDoorJoinAll3
namespace Go.Proofs.YtcndapakkkaojaaGreatDoor.joinUnit
open Go.RowKit Go.ChangeShapes Go.WideShapes Go.ChangeAt
set_option linter.unusedVariables false
set_option linter.unusedSimpArgs false
set_option maxRecDepth 20000

theorem unitE {U0 : List Int} {U1 : List (List Int)} {w : World} (e1 : [] = U0) (e2 : [[]] = U1) : Calls Tryz.prog 27 #[] w fun e w' => ∃ u, e = .returned u ∧ RelV w' u U0 U1 ∧ Below w.heap.size w w' := by
  subst e1 e2
  exact unit_any w

theorem joinN {s u S : List Int} {la lb J : List (List Int)} {n m : Nat} {v v' : Value} {most : Int} {w : World} (h : RelV w v s la) (h' : RelV w v' u lb) (g : Fine s la n) (g' : Fine u lb m) (hn : n < 100000) (hm : m < 100000) (hnm : n * m < 100000) (hmost : ((pairR s la u lb).length : Int) ≤ most) (e1 : joinL s u = S) (e2 : joinR s la u lb = J) :
    Calls Tryz.prog 14 #[v, v', .int .i64 most] w fun e w' => ∃ x y, e = .returned (.tuple #[.agg #[x, y], .int .i64 0]) ∧ RelV w' (.agg #[x, y]) S J ∧ (∀ b, b < w.heap.size → y.ownBlock ≠ some b) ∧ Below w.heap.size w w' := by
  rw [← e1, ← e2]
  refine (join_any h h' g g' hn hm hnm).mono fun e w' ⟨h1, h2⟩ => ?_
  rcases h1 with ⟨x, y, e1, h3, _, h5⟩ | ⟨_, h3⟩
  · exact ⟨x, y, e1, h3, h5, h2⟩
  · omega

theorem allNil {U0 : List Int} {U1 : List (List Int)} {w : World} (e1 : [] = U0) (e2 : [[]] = U1) : Calls Tryz.prog 23 #[.slice none 0 0, .int .i64 1] w fun e w' => ∃ u, e = .returned (.tuple #[u, .int .i64 0]) ∧ RelV w' u U0 U1 ∧ Below w.heap.size w w' := by
  subst e1 e2
  refine (all_any (most := 1) (RelS.nil w) (by simp) (by simp) (fun k hk => by simp at hk)).mono fun e w' ⟨h1, h2⟩ => ?_
  rcases h1 with ⟨x, y, e1, h3, _⟩ | ⟨_, k, hk, _⟩
  · exact ⟨_, e1, h3, h2⟩
  · simp at hk

set_option maxHeartbeats 64000000 in
theorem walk {l0 : List Int} {k0 : List (List Int)} {v0 : Value} {w : World} (i0 : RelV w v0 l0 k0) :
    Calls Tryz.prog 8 #[v0] w fun e w' => e = .returned (.bool true) ∧ Below w.heap.size w w' := by
  obtain ⟨a0, c0, b0, d0, rfl, _, f0, _, g0, s0, t0⟩ := i0.form
  unfold maxLen at f0 g0
  obtain ⟨W0, hW0⟩ : ∃ W, W = (w.alloc (.cells #[.slice a0 l0.length c0, .slice b0 k0.length d0] 25)) := ⟨_, rfl⟩
  have hB : Below w.heap.size w W0 := by rw [hW0]; exact (Below.refl w.heap.size w).alloc (Nat.le_refl _) (.cells #[.slice a0 l0.length c0, .slice b0 k0.length d0] 25)
  have p0 : BoxP W0 (w.heap.size) (.slice a0 l0.length c0) (.slice b0 k0.length d0) := by rw [hW0]; have := BoxP.new w (.slice a0 l0.length c0) (.slice b0 k0.length d0); exact this
  replace s0 := s0.below hB
  replace t0 := t0.below hB
  have HW0 := hide hW0
  clear hW0 i0
  have G := hide (fine_small l0 k0)
  go_enter Tryz.func8, Tryz.ntmps8
  go_wp2_with fail
  rw [← unhide HW0]
  refine (shown3_any _).mono ?_
  rintro e w1 ⟨rfl, hb⟩
  replace s0 := s0.below hb
  replace t0 := t0.below hb
  replace p0 := p0.belowH hb
  replace hB := hB.trans (hb.mono hB.size)
  clear hb
  have c0_p0 := p0.cell0
  have c1_p0 := p0.cell1
  go_wp2_with fail
  refine (small3_any s0 t0).mono ?_
  rintro e w101 ⟨u_a, rfl, a, hb⟩
  replace s0 := s0.below hb
  replace p0 := p0.belowH hb
  replace hB := below_then hB hb
  obtain ⟨a_a, c_a, b_a, d_a, e_a, _, _, _, _, _, _⟩ := a.form
  rw [e_a] at a ⊢
  clear e_a
  clear hb c0_p0 c1_p0
  clear s0 t0 p0
  generalize smallS3 l0 = s at *
  generalize smallR3 l0 k0 = la at *
  have pb := (Below.refl _ w101).alloc (Nat.le_refl _) (.cells #[.slice a_a (s).length c_a, .slice b_a (la).length d_a] 27)
  replace a := a.below pb
  have xa := Box.new w101 (.slice a_a (s).length c_a) (.slice b_a (la).length d_a)
  replace hB := below_then hB pb
  clear pb
  obtain ⟨U0, hU0⟩ : ∃ U : List Int, [] = U := ⟨_, rfl⟩
  obtain ⟨U1, hU1⟩ : ∃ U : List (List Int), [[]] = U := ⟨_, rfl⟩
  obtain ⟨E, hE⟩ : ∃ E : List (List Int), [] = E := ⟨_, rfl⟩
  have GU := hide (show Fine U0 U1 1 by rw [← hU1, ← hU0]; exact fine_unit)
  have GN := hide fine_unit.none
  have E1 := hide (show joinL s U0 = s by rw [← hU0]; exact joinS_nil (unhide G).asc)
  have E2 := hide (show joinR s la U0 U1 = la by rw [← hU1, ← hU0]; exact join_unit (unhide G))
  have E3 := hide (show joinL U0 s = s by rw [← hU0]; exact nil_joinS (unhide G).asc)
  have E4 := hide (show joinR U0 U1 s la = la by rw [← hU1, ← hU0]; exact unit_join (unhide G))
  have E5 := hide (show joinR s la [] [] = E from join_nil.trans hE)
  have H1 := hide (show ((pairR s la U0 U1).length : Int) ≤ 100 by have h1 := pair_le s U0 U1 la; have h2 := (unhide G).llen; have h3 := Nat.mul_le_mul h2 (unhide GU).llen; omega)
  have H2 := hide (show ((pairR U0 U1 s la).length : Int) ≤ 100 by have h1 := pair_le U0 s la U1; have h2 := (unhide G).llen; have h3 := Nat.mul_le_mul (unhide GU).llen h2; omega)
  have H3 := hide (show ((pairR s la [] []).length : Int) ≤ 100 by rw [pair_nil]; decide)
  have hE1 : ((E.length : Int) == 0) = true := by rw [← hE]; rfl
  have HU0 := hide hU0
  have HU1 := hide hU1
  have E6 := hide (joinS_nil (unhide G).asc)
  clear hU0 hU1 hE
  go_wp2
  generalize (w101.alloc (.cells #[.slice a_a (s).length c_a, .slice b_a (la).length d_a] 27)) = W9 at *
  have HA := hide a
  have XA := hide xa
  clear a
  have HK := hide (fun W (hb : Below W9.heap.size W9 W) => (And.intro (xa.belowH hb).cell0 (xa.belowH hb).cell1))
  have hbR := Below.refl W9.heap.size W9
  clear xa
  go_region_held3 (fun W => (W.cell? ⟨w101.heap.size, 0, none⟩ = some (.slice a_a (s).length c_a) ∧ W.cell? ⟨w101.heap.size, 1, none⟩ = some (.slice b_a (la).length d_a)))
    (first | exact unhide HK _ (by first | exact hR2 | exact hR1 | exact below_store hR2 hR1.size _ _ | exact below_store hR2 (Nat.le_refl _) _ _ | exact hbR | exact below_same rfl rfl rfl rfl | exact below_then hR2 (below_push rfl rfl rfl rfl) | exact below_then hR1 (below_push rfl rfl rfl rfl) | exact below_push rfl rfl rfl rfl))
    (first
      | (go_at_call 14; have hpv := hR1; clear hpv; refine (joinN (most := 100) ((unhide HA).below (by first | exact hR1 | exact below_then hR1 (below_push rfl rfl rfl rfl))) (by first | exact y1 | exact y1.below (below_push rfl rfl rfl rfl)) (unhide G) (unhide GU) (by omega) (by omega) (by omega) (unhide H1) (unhide E1) (unhide E2)).mono ?_; rintro e w103 ⟨x_y2, y_y2, rfl, y2, nn, hq2⟩; obtain ⟨a_y2, c_y2, b_y2, d_y2, e_y2, _, _, _, _, _, _⟩ := y2.form; cases e_y2; have hR2 : Below W9.heap.size W9 w103 := below_then (by first | exact hR1 | exact below_then hR1 (below_push rfl rfl rfl rfl)) hq2; first | (have bq : Box w103 w102.heap.size (.slice none 0 0) (.slice none 0 0) := ((Box.new w102 (.slice none 0 0) (.slice none 0 0)).belowH hq2); have bqa := bq.cell0; have bqb := bq.cell1; have bqc := bq.frozen 0; have bqd := bq.frozen 1; clear bq) | (have bq : Box w103 W9.heap.size (.slice none 0 0) (.slice none 0 0) := (((Box.new W9.drew (.slice none 0 0) (.slice none 0 0)).belowH hq1).belowH hq2); have bqa := bq.cell0; have bqb := bq.cell1; have bqc := bq.frozen 0; have bqd := bq.frozen 1; clear bq) | skip)
      | (go_at_call 27; refine (unitE (unhide HU0) (unhide HU1)).mono ?_; rintro e w102 ⟨u_y1, rfl, y1, hq1⟩; obtain ⟨a_y1, c_y1, b_y1, d_y1, e_y1, _, _, _, _, _, _⟩ := y1.form; rw [e_y1] at y1 ⊢; clear e_y1; have hR1 : Below W9.heap.size W9 w102 := below_then (by first | exact hbR | exact below_same rfl rfl rfl rfl | exact below_push rfl rfl rfl rfl) hq1))
  all_goals
    try go_wp2
    first
      | (have hpath := (show Below (w102.alloc (.cells #[.slice none 0 0, .slice none 0 0] 27)).heap.size (w102.alloc (.cells #[.slice none 0 0, .slice none 0 0] 27)) w103 from hq2); have bx0 : Box w103 w102.heap.size (.slice none 0 0) (.slice none 0 0) := ((Box.new w102 (.slice none 0 0) (.slice none 0 0)).belowH hq2); have xr := (bx0.set0 (.slice a_y2 (s).length c_y2)).set1 (.slice b_y2 (la).length d_y2); have r := rel_store bx0.boxS bx0.cell0 y2.ints y2.tups (nn _ (by first | exact (Box.new w102 (.slice none 0 0) (.slice none 0 0)).lt | (simp; omega) | exact (Box.new w102 (.slice none 0 0) (.slice none 0 0)).lt)); have hRF := below_store hR2 (b := w102.heap.size) hR1.size (.slice a_y2 (s).length c_y2) (.slice b_y2 (la).length d_y2); clear hpath bx0; generalize ((w103.setCell ⟨w102.heap.size, 0, none⟩ (.slice a_y2 (s).length c_y2)).setCell ⟨w102.heap.size, 1, none⟩ (.slice b_y2 (la).length d_y2)) = WF at *; obtain ⟨bk, hbk⟩ : ∃ b, b = w102.heap.size := ⟨_, rfl⟩; rw [← hbk] at xr ⊢; clear hbk)
      | (have hpath := (show Below (W9.drew.alloc (.cells #[.slice none 0 0, .slice none 0 0] 27)).heap.size (W9.drew.alloc (.cells #[.slice none 0 0, .slice none 0 0] 27)) w102 from hq1); have bx0 : Box w103 W9.heap.size (.slice none 0 0) (.slice none 0 0) := (((Box.new W9.drew (.slice none 0 0) (.slice none 0 0)).belowH hq1).belowH hq2); have xr := (bx0.set0 (.slice a_y2 (s).length c_y2)).set1 (.slice b_y2 (la).length d_y2); have r := rel_store bx0.boxS bx0.cell0 y2.ints y2.tups (nn _ (by first | exact (Box.new W9.drew (.slice none 0 0) (.slice none 0 0)).lt | (simp; omega) | exact (Nat.lt_of_lt_of_le (Box.new W9.drew (.slice none 0 0) (.slice none 0 0)).lt hq1.size))); have hRF := below_store hR2 (b := W9.heap.size) (Nat.le_refl _) (.slice a_y2 (s).length c_y2) (.slice b_y2 (la).length d_y2); clear hpath bx0; generalize ((w103.setCell ⟨W9.heap.size, 0, none⟩ (.slice a_y2 (s).length c_y2)).setCell ⟨W9.heap.size, 1, none⟩ (.slice b_y2 (la).length d_y2)) = WF at *; obtain ⟨bk, hbk⟩ : ∃ b, b = W9.heap.size := ⟨_, rfl⟩; rw [← hbk] at xr ⊢; clear hbk)
      | (have xr := Box.new w103 (.slice a_y2 (s).length c_y2) (.slice b_y2 (la).length d_y2); have r := y2.below ((Below.refl _ w103).alloc (Nat.le_refl _) (.cells #[.slice a_y2 (s).length c_y2, .slice b_y2 (la).length d_y2] 27)); have hRF := below_then hR2 ((Below.refl _ w103).alloc (Nat.le_refl _) (.cells #[.slice a_y2 (s).length c_y2, .slice b_y2 (la).length d_y2] 27)); generalize (w103.alloc (.cells #[.slice a_y2 (s).length c_y2, .slice b_y2 (la).length d_y2] 27)) = WF at *; obtain ⟨bk, hbk⟩ : ∃ b, b = w103.heap.size := ⟨_, rfl⟩; rw [← hbk] at xr ⊢; clear hbk)
    clear hR1 hR2 hq1 hq2 hbR nn
    have xa := (unhide XA).belowH hRF
    have a := (unhide HA).below hRF
    replace hB := below_then hB hRF
    clear XA HA hRF y1 y2
    have HA := hide a
    have HR := hide r
    have XA := hide xa
    have XR := hide xr
    clear a r
    try go_wp2
    have HK := hide (fun W (hb : Below WF.heap.size WF W) => (And.intro (xa.belowH hb).cell0 (xa.belowH hb).cell1))
    have hbR := Below.refl WF.heap.size WF
    clear xa
    go_region_held3 (fun W => (W.cell? ⟨w101.heap.size, 0, none⟩ = some (.slice a_a (s).length c_a) ∧ W.cell? ⟨w101.heap.size, 1, none⟩ = some (.slice b_a (la).length d_a)))
      (first | exact unhide HK _ (by first | exact hR2 | exact hR1 | exact below_store hR2 hR1.size _ _ | exact below_store hR2 (Nat.le_refl _) _ _ | exact hbR | exact below_same rfl rfl rfl rfl | exact below_then hR2 (below_push rfl rfl rfl rfl) | exact below_then hR1 (below_push rfl rfl rfl rfl) | exact below_push rfl rfl rfl rfl))
      (first
        | (go_at_call 14; have hpv := hR1; clear hpv; refine (joinN (most := 100) (by first | exact y3 | exact y3.below (below_push rfl rfl rfl rfl)) ((unhide HA).below (by first | exact hR1 | exact below_then hR1 (below_push rfl rfl rfl rfl))) (unhide GU) (unhide G) (by omega) (by omega) (by omega) (unhide H2) (unhide E3) (unhide E4)).mono ?_; rintro e w105 ⟨x_y4, y_y4, rfl, y4, nn, hq2⟩; obtain ⟨a_y4, c_y4, b_y4, d_y4, e_y4, _, _, _, _, _, _⟩ := y4.form; cases e_y4; have hR2 : Below WF.heap.size WF w105 := below_then (by first | exact hR1 | exact below_then hR1 (below_push rfl rfl rfl rfl)) hq2; first | (have bq : Box w105 w104.heap.size (.slice none 0 0) (.slice none 0 0) := ((Box.new w104 (.slice none 0 0) (.slice none 0 0)).belowH hq2); have bqa := bq.cell0; have bqb := bq.cell1; have bqc := bq.frozen 0; have bqd := bq.frozen 1; clear bq) | (have bq : Box w105 WF.heap.size (.slice none 0 0) (.slice none 0 0) := (((Box.new WF.drew (.slice none 0 0) (.slice none 0 0)).belowH hq1).belowH hq2); have bqa := bq.cell0; have bqb := bq.cell1; have bqc := bq.frozen 0; have bqd := bq.frozen 1; clear bq) | skip)
        | (go_at_call 27; refine (unitE (unhide HU0) (unhide HU1)).mono ?_; rintro e w104 ⟨u_y3, rfl, y3, hq1⟩; obtain ⟨a_y3, c_y3, b_y3, d_y3, e_y3, _, _, _, _, _, _⟩ := y3.form; rw [e_y3] at y3 ⊢; clear e_y3; have hR1 : Below WF.heap.size WF w104 := below_then (by first | exact hbR | exact below_same rfl rfl rfl rfl | exact below_push rfl rfl rfl rfl) hq1))
    all_goals
      first
        | (have hpath := (show Below (w104.alloc (.cells #[.slice none 0 0, .slice none 0 0] 27)).heap.size (w104.alloc (.cells #[.slice none 0 0, .slice none 0 0] 27)) w105 from hq2); have bx0 : Box w105 w104.heap.size (.slice none 0 0) (.slice none 0 0) := ((Box.new w104 (.slice none 0 0) (.slice none 0 0)).belowH hq2); have xs := (bx0.set0 (.slice a_y4 (s).length c_y4)).set1 (.slice b_y4 (la).length d_y4); have z := rel_store bx0.boxS bx0.cell0 y4.ints y4.tups (nn _ (by first | exact (Box.new w104 (.slice none 0 0) (.slice none 0 0)).lt | (simp; omega) | exact (Box.new w104 (.slice none 0 0) (.slice none 0 0)).lt)); have hRF := below_store hR2 (b := w104.heap.size) hR1.size (.slice a_y4 (s).length c_y4) (.slice b_y4 (la).length d_y4); clear hpath bx0; generalize ((w105.setCell ⟨w104.heap.size, 0, none⟩ (.slice a_y4 (s).length c_y4)).setCell ⟨w104.heap.size, 1, none⟩ (.slice b_y4 (la).length d_y4)) = WG at *; obtain ⟨bl, hbk⟩ : ∃ b, b = w104.heap.size := ⟨_, rfl⟩; rw [← hbk] at xs ⊢; clear hbk)
        | (have hpath := (show Below (WF.drew.alloc (.cells #[.slice none 0 0, .slice none 0 0] 27)).heap.size (WF.drew.alloc (.cells #[.slice none 0 0, .slice none 0 0] 27)) w104 from hq1); have bx0 : Box w105 WF.heap.size (.slice none 0 0) (.slice none 0 0) := (((Box.new WF.drew (.slice none 0 0) (.slice none 0 0)).belowH hq1).belowH hq2); have xs := (bx0.set0 (.slice a_y4 (s).length c_y4)).set1 (.slice b_y4 (la).length d_y4); have z := rel_store bx0.boxS bx0.cell0 y4.ints y4.tups (nn _ (by first | exact (Box.new WF.drew (.slice none 0 0) (.slice none 0 0)).lt | (simp; omega) | exact (Nat.lt_of_lt_of_le (Box.new WF.drew (.slice none 0 0) (.slice none 0 0)).lt hq1.size))); have hRF := below_store hR2 (b := WF.heap.size) (Nat.le_refl _) (.slice a_y4 (s).length c_y4) (.slice b_y4 (la).length d_y4); clear hpath bx0; generalize ((w105.setCell ⟨WF.heap.size, 0, none⟩ (.slice a_y4 (s).length c_y4)).setCell ⟨WF.heap.size, 1, none⟩ (.slice b_y4 (la).length d_y4)) = WG at *; obtain ⟨bl, hbk⟩ : ∃ b, b = WF.heap.size := ⟨_, rfl⟩; rw [← hbk] at xs ⊢; clear hbk)
        | (have xs := Box.new w105 (.slice a_y4 (s).length c_y4) (.slice b_y4 (la).length d_y4); have z := y4.below ((Below.refl _ w105).alloc (Nat.le_refl _) (.cells #[.slice a_y4 (s).length c_y4, .slice b_y4 (la).length d_y4] 27)); have hRF := below_then hR2 ((Below.refl _ w105).alloc (Nat.le_refl _) (.cells #[.slice a_y4 (s).length c_y4, .slice b_y4 (la).length d_y4] 27)); generalize (w105.alloc (.cells #[.slice a_y4 (s).length c_y4, .slice b_y4 (la).length d_y4] 27)) = WG at *; obtain ⟨bl, hbk⟩ : ∃ b, b = w105.heap.size := ⟨_, rfl⟩; rw [← hbk] at xs ⊢; clear hbk)
      clear hR1 hR2 hq1 hq2 hbR nn
      have xa := (unhide XA).belowH hRF
      replace xr := (unhide XR).belowH hRF
      have a := (unhide HA).below hRF
      have r := (unhide HR).below hRF
      replace hB := below_then hB hRF
      clear XA XR HA HR hRF y3 y4
      have c0_xa := xa.cell0
      have c1_xa := xa.cell1
      have c0_xr := xr.cell0
      have c1_xr := xr.cell1
      have c0_xs := xs.cell0
      have c1_xs := xs.cell1
      go_wp2_with fail
      refine (join_eq (most := 100) a (rel_none _) (unhide G) (unhide GN) (by omega) (by omega) (by omega) (unhide H3) (unhide E6) (unhide E5)).mono ?_
      rintro e w106 ⟨u_n, rfl, n, hb⟩
      replace a := a.below hb
      replace r := r.below hb
      replace z := z.below hb
      replace xa := xa.belowH hb
      replace xr := xr.belowH hb
      replace xs := xs.belowH hb
      replace hB := below_then hB hb
      obtain ⟨a_n, c_n, b_n, d_n, e_n, _, _, _, _, _, _⟩ := n.form
      rw [e_n] at n ⊢
      clear e_n
      clear hb c0_xa c1_xa c0_xr c1_xr c0_xs c1_xs
      have pb := (Below.refl _ w106).alloc (Nat.le_refl _) (.cells #[.slice a_n (s).length c_n, .slice b_n (E).length d_n] 27)
      replace a := a.below pb
      replace r := r.below pb
      replace z := z.below pb
      replace n := n.below pb
      replace xa := xa.push (.cells #[.slice a_n (s).length c_n, .slice b_n (E).length d_n] 27)
      replace xr := xr.push (.cells #[.slice a_n (s).length c_n, .slice b_n (E).length d_n] 27)
      replace xs := xs.push (.cells #[.slice a_n (s).length c_n, .slice b_n (E).length d_n] 27)
      have xn := Box.new w106 (.slice a_n (s).length c_n) (.slice b_n (E).length d_n)
      replace hB := below_then hB pb
      clear pb
      have c0_xa := xa.cell0
      have c1_xa := xa.cell1
      have c0_xr := xr.cell0
      have c1_xr := xr.cell1
      have c0_xs := xs.cell0
      have c1_xs := xs.cell1
      have c0_xn := xn.cell0
      have c1_xn := xn.cell1
      go_wp2_with fail
      refine (allNil (unhide HU0) (unhide HU1)).mono ?_
      rintro e w107 ⟨u_q, rfl, q, hb⟩
      replace a := a.below hb
      replace r := r.below hb
      replace z := z.below hb
      replace n := n.below hb
      replace xa := xa.belowH hb
      replace xr := xr.belowH hb
      replace xs := xs.belowH hb
      replace xn := xn.belowH hb
      replace hB := below_then hB hb
      obtain ⟨a_q, c_q, b_q, d_q, e_q, _, _, _, _, _, _⟩ := q.form
      rw [e_q] at q ⊢
      clear e_q
      clear hb c0_xa c1_xa c0_xr c1_xr c0_xs c1_xs c0_xn c1_xn
      have pb := (Below.refl _ w107).alloc (Nat.le_refl _) (.cells #[.slice a_q (U0).length c_q, .slice b_q (U1).length d_q] 27)
      replace a := a.below pb
      replace r := r.below pb
      replace z := z.below pb
      replace q := q.below pb
      replace xa := xa.push (.cells #[.slice a_q (U0).length c_q, .slice b_q (U1).length d_q] 27)
      replace xr := xr.push (.cells #[.slice a_q (U0).length c_q, .slice b_q (U1).length d_q] 27)
      replace xs := xs.push (.cells #[.slice a_q (U0).length c_q, .slice b_q (U1).length d_q] 27)
      replace xn := xn.push (.cells #[.slice a_q (U0).length c_q, .slice b_q (U1).length d_q] 27)
      have xq := Box.new w107 (.slice a_q (U0).length c_q) (.slice b_q (U1).length d_q)
      replace hB := below_then hB pb
      clear pb
      go_wp2
      generalize (w107.alloc (.cells #[.slice a_q (U0).length c_q, .slice b_q (U1).length d_q] 27)) = W10 at *
      have HA := hide a
      have HR := hide r
      have HZ := hide z
      have HQ := hide q
      clear a r z n q
      have HK := hide (fun W (hb : Below W10.heap.size W10 W) => (And.intro (And.intro (xa.belowH hb).cell0 (xa.belowH hb).cell1) (And.intro (And.intro (xr.belowH hb).cell0 (xr.belowH hb).cell1) (And.intro (And.intro (xs.belowH hb).cell0 (xs.belowH hb).cell1) (And.intro (And.intro (xn.belowH hb).cell0 (xn.belowH hb).cell1) (And.intro (xq.belowH hb).cell0 (xq.belowH hb).cell1))))))
      have hbR := Below.refl W10.heap.size W10
      clear xa xr xs xn xq
      go_region_held3 (fun W => (W.cell? ⟨w101.heap.size, 0, none⟩ = some (.slice a_a (s).length c_a) ∧ W.cell? ⟨w101.heap.size, 1, none⟩ = some (.slice b_a (la).length d_a)) ∧ (W.cell? ⟨bk, 0, none⟩ = some (.slice a_y2 (s).length c_y2) ∧ W.cell? ⟨bk, 1, none⟩ = some (.slice b_y2 (la).length d_y2)) ∧ (W.cell? ⟨bl, 0, none⟩ = some (.slice a_y4 (s).length c_y4) ∧ W.cell? ⟨bl, 1, none⟩ = some (.slice b_y4 (la).length d_y4)) ∧ (W.cell? ⟨w106.heap.size, 0, none⟩ = some (.slice a_n (s).length c_n) ∧ W.cell? ⟨w106.heap.size, 1, none⟩ = some (.slice b_n (E).length d_n)) ∧ (W.cell? ⟨w107.heap.size, 0, none⟩ = some (.slice a_q (U0).length c_q) ∧ W.cell? ⟨w107.heap.size, 1, none⟩ = some (.slice b_q (U1).length d_q)))
        (first | exact unhide HK _ (by first | exact hR4 | exact hR3 | exact hR2 | exact hR1  | exact hbR | exact below_same rfl rfl rfl rfl | exact below_then hR4 (below_push rfl rfl rfl rfl) | exact below_then hR4 (below_same rfl rfl rfl rfl)))
        (first
          | (go_at_call 25; refine (same_yes ((unhide HQ).below hR3) y5 rfl rfl).mono ?_; rintro e w111 ⟨rfl, hq4⟩; have hR4 : Below W10.heap.size W10 w111 := below_then hR3 hq4)
          | (go_at_call 27; refine (unitE (unhide HU0) (unhide HU1)).mono ?_; rintro e w110 ⟨u_y5, rfl, y5, hq3⟩; obtain ⟨a_y5, c_y5, b_y5, d_y5, e_y5, _, _, _, _, _, _⟩ := y5.form; rw [e_y5] at y5 ⊢; clear e_y5; have hR3 : Below W10.heap.size W10 w110 := below_then hR2 hq3)
          | (go_at_call 25; refine (same_yes ((unhide HZ).below hR1) ((unhide HA).below hR1) rfl rfl).mono ?_; rintro e w109 ⟨rfl, hq2⟩; have hR2 : Below W10.heap.size W10 w109 := below_then hR1 hq2)
          | (go_at_call 25; refine (same_yes ((unhide HR).below (by first | exact hbR | exact below_same rfl rfl rfl rfl)) ((unhide HA).below (by first | exact hbR | exact below_same rfl rfl rfl rfl)) rfl rfl).mono ?_; rintro e w108 ⟨rfl, hq1⟩; have hR1 : Below W10.heap.size W10 w108 := below_then (by first | exact hbR | exact below_same rfl rfl rfl rfl) hq1))
      all_goals
        go_wp2
        go_ret
        exact ⟨rfl, below_then hB hR4⟩

set_option maxRecDepth 100000 in
theorem lifted (os : Os) (started : os.Started) (H : Type) (enc : TypeId × Value → H) :
    ReturnsInHanded {} Tryz.checked os 8 .any (fun w args => (Rows.joinUnitSpec.pre enc Tryz.prog Tryz.f8 [] false w args ∧ laidMetH Tryz.prog laidIn w) ∧ sizedMet enc Tryz.prog Tryz.f8 (OpenSpec.ofChange Rows.joinUnitSpec) false w args)
      (Rows.joinUnitSpec.post enc Tryz.prog Tryz.f8 false true false false) := by
  refine returnsInHanded_of_change_and (C := Tryz.checked) (X := fun w _ => laidMetH Tryz.prog laidIn w) (fun _ _ _ hh h => h.of_heap hh) own started (by kernel_rfl) Tryz.func8
    (ChangeSpec.witness_shaped (enc := enc) (C := Tryz.checked) (os := os) (X := fun w _ => laidMetH Tryz.prog laidIn w) false (World.doorLaid Tryz.prog doorN os) #[.agg #[.slice none 0 0, .slice none 0 0]] 8 rfl (World.shaped_of_RefB (by kernel_rfl) (by kernel_rfl)) (by kernel_rfl) (by kernel_rfl) (by kernel_rfl) (door_met os _)) ?_
  intro W base args ds gs before hval0 hW _ _ _ _
  have hval : ∀ (j : Nat) t v, Tryz.f8.params[j]? = some t → args[j]? = some v → Value.okWide Tryz.prog W .any base t v := hval0
  have hW' := hW
  obtain ⟨p, q, hA0, hV, rfl, hfz, hnd⟩ := hW
  have hA : DataW.TrodAll enc Tryz.prog W 0 (fun _ => true) true Tryz.f8.params.toList args.toList ds p := hA0
  rw [Tryz.params8] at hA hval
  obtain ⟨v0, vs0, d0, ds0, p0, q0, hargs, rfl, rfl, h0, r0⟩ := trodAll_cons hA
  obtain ⟨rfl, rfl, rfl⟩ := trodAll_nil r0
  obtain rfl : args = #[v0] := by cases args; simp_all
  obtain ⟨rfl, rfl⟩ := trodVars_none hV
  obtain ⟨l0, k0, i0, m0, n0⟩ := read_part h0 (hval 0 25 v0 rfl rfl)
  have lt0 : ∀ x ∈ p0, x.block < W.heap.size := by obtain ⟨m, hm⟩ := h0; exact DataW.trod_lt m _ _ _ hm
  clear hA0 hval0
  refine (walk i0).mono fun e W' ⟨he, bel⟩ => ?_
  subst he
  exact ⟨_, rfl, _, _, _, [], _, [], hW', trodAll_mk1 (shut_bool Tryz.underlying4 _), (trodAll_cons_mk (Below.trod laidOut (by kernel_rfl) (of_decide_eq_true (by kernel_rfl)) h0 bel lt0) trodAll_mk0), rfl, bel.frame _, fun h => by cases h⟩

theorem over : Rows.joinUnitRow.holds Tryz.pinned (OpenSpec.ofChange Rows.joinUnitSpec) :=
  OpenClaim.holds_of_wide 8 Tryz.f8 rfl rfl rfl rfl rfl rfl rfl ⟨rfl, rfl, rfl, rfl, rfl⟩ rfl rfl rfl rfl rfl (by kernel_rfl) Tryz.func8 (by kernel_rfl)
    (of_decide_eq_true (by kernel_rfl)) (by unfold Func.isWrapper; first | (rw [if_pos (by decide +kernel)]; kernel_rfl) | (rw [if_neg (by decide +kernel)]; exact ⟨rfl, rfl⟩))
    (fun os started H enc _ => lifted os started H enc)

/-- The statement: the tied card. -/
theorem proved : Rows.JoinUnitCardSaid :=
  Claim7.holds_tied_plain_at .later [] [.data, .data, .data] true (true, "7888708df1aa7c808ebd15fb47d32b01dabe941ed2c526b83533b5aed37430b1") false
    over (fun _ h => by cases h) (by kernel_rfl) (fun _ h => by cases h) joinUnit_row_tie rfl ⟨rfl, rfl⟩ (by kernel_rfl) rfl
    (fun f fn hf hfn => by
      obtain rfl : f = 8 := Option.some.inj ((show Tryz.prog.funcNamed "arborist/arboristlaw03.JoinUnit" = some 8 by kernel_rfl).symm.trans hf) |>.symm
      obtain rfl : fn = Tryz.f8 := (Option.some.inj (Tryz.func8.symm.trans hfn)).symm
      exact ⟨by kernel_rfl, fun j t ht => by
        rw [Tryz.params8] at ht
        have hm : t ∈ [25] := by simpa using Array.mem_of_getElem? ht
        have hall : ([25].all fun u => !Tryz.prog.wantsStandIn u) = true := by kernel_rfl
        exact (show Tryz.prog.wantsStandIn t = false by simpa using List.all_eq_true.1 hall t hm)⟩)
    (by kernel_rfl)
#print axioms proved
end Go.Proofs.YtcndapakkkaojaaGreatDoor.joinUnit
