/-
  Proved: JoinCuts answers true for every two Parts, and leaves what was handed in as it was; the listed variables hold what the program's text lays. No other condition.
-/
import Derived.Test.YtcndapakkkaojaaGreatDoorLawKit3
namespace Go.Proofs.YtcndapakkkaojaaGreatDoor.joinCuts
open Go.RowKit Go.ChangeShapes Go.WideShapes Go.ChangeAt
set_option linter.unusedVariables false
set_option linter.unusedSimpArgs false
set_option maxRecDepth 20000

theorem has_yes {s : List Int} {ll : List (List Int)} {t : List Int} {v vt : Value} {w : World} (h : RelV w v s ll) (ht : Ints w vt t) (hm : t ∈ ll) :
    Calls Tryz.prog 29 #[v, vt] w fun e w' => e = .returned (.bool true) ∧ Below w.heap.size w w' := by
  have := has_any h ht
  rwa [show hasL ll t = true by unfold hasL; simpa using hm] at this

theorem cmp_zero {l : List Int} {v v' : Value} {w : World} (h : Ints w v l) (h' : Ints w v' l) :
    Calls Tryz.prog 31 #[v, v'] w fun e w' => e = .returned (.int .i64 0) ∧ Below w.heap.size w w' := by
  have := Calls.toBelow (refCompare_any h h')
  rwa [cmpL_refl] at this

theorem project_eq {s vars s' : List Int} {ll ll' : List (List Int)} {v vv : Value} {w : World} (h : RelV w v s ll) (hv : Ints w vv vars) (g : Good s ll) (hvl : vars.length < 100000000) (e1 : meetL s vars = s') (e2 : projL s ll vars = ll') :
    Calls Tryz.prog 26 #[v, vv] w fun e w' => ∃ u, e = .returned u ∧ RelV w' u s' ll' ∧ Below w.heap.size w w' := by rw [← e1, ← e2]; exact project_rel h hv g hvl

theorem meet_eq {s u M : List Int} {v v' : Value} {w : World} (h : Ints w v s) (h' : Ints w v' u) (hl : s.length < 100000) (e : meetL s u = M) :
    Calls Tryz.prog 30 #[v, v'] w fun e w' => ∃ x, e = .returned x ∧ Ints w' x M ∧ New w.heap.size w' x ∧ Below w.heap.size w w' := by rw [← e]; exact refMeet_any h h' (by omega)

theorem unite_eq {s u S : List Int} {v v' : Value} {w : World} (h : Ints w v s) (h' : Ints w v' u) (hl : s.length + u.length < 100000) (e : joinL s u = S) :
    Calls Tryz.prog 32 #[v, v'] w fun e w' => ∃ x, e = .returned x ∧ Ints w' x S ∧ New w.heap.size w' x ∧ Below w.heap.size w w' := by rw [← e]; exact refJoin_any h h' (by omega)

set_option maxHeartbeats 32000000 in
theorem walk {l0 l1 : List Int} {k0 k1 : List (List Int)} {v0 v1 : Value} {w : World} (i0 : RelV w v0 l0 k0) (i1 : RelV w v1 l1 k1) :
    Calls Tryz.prog 10 #[v0, v1] w fun e w' => e = .returned (.bool true) ∧ Below w.heap.size w w' := by
  obtain ⟨a0, c0, b0, d0, rfl, _, f0, _, g0, s0, t0⟩ := i0.form
  obtain ⟨a1, c1, b1, d1, rfl, _, f1, _, g1, s1, t1⟩ := i1.form
  unfold maxLen at f0 g0 f1 g1
  obtain ⟨W0, hW0⟩ : ∃ W, W = ((w.alloc (.cells #[.slice a0 l0.length c0, .slice b0 k0.length d0] 25)).alloc (.cells #[.slice a1 l1.length c1, .slice b1 k1.length d1] 25)) := ⟨_, rfl⟩
  have hB : Below w.heap.size w W0 := by rw [hW0]; exact ((Below.refl w.heap.size w).alloc (Nat.le_refl _) (.cells #[.slice a0 l0.length c0, .slice b0 k0.length d0] 25)).alloc (by simp; try omega) (.cells #[.slice a1 l1.length c1, .slice b1 k1.length d1] 25)
  have p0 : BoxP W0 (w.heap.size) (.slice a0 l0.length c0) (.slice b0 k0.length d0) := by rw [hW0]; have := (BoxP.new w (.slice a0 l0.length c0) (.slice b0 k0.length d0)).push (.cells #[.slice a1 l1.length c1, .slice b1 k1.length d1] 25); exact this
  have p1 : BoxP W0 (w.heap.size + 1) (.slice a1 l1.length c1) (.slice b1 k1.length d1) := by rw [hW0]; have := BoxP.new (w.alloc (.cells #[.slice a0 l0.length c0, .slice b0 k0.length d0] 25)) (.slice a1 l1.length c1) (.slice b1 k1.length d1); simpa using this
  replace s0 := s0.below hB
  replace t0 := t0.below hB
  replace s1 := s1.below hB
  replace t1 := t1.below hB
  have HW0 := hide hW0
  clear hW0 i0 i1
  have G := hide (fine_small l0 k0)
  have G' := hide (fine_small l1 k1)
  have hs3 := smallS3_len l0
  have hu3 := smallS3_len l1
  go_enter Tryz.func10, Tryz.ntmps10
  go_wp2_with fail
  rw [← unhide HW0]
  refine (shown3_any _).mono ?_
  rintro e w1 ⟨rfl, hb⟩
  replace s0 := s0.below hb
  replace t0 := t0.below hb
  replace p0 := p0.belowH hb
  replace s1 := s1.below hb
  replace t1 := t1.below hb
  replace p1 := p1.belowH hb
  replace hB := hB.trans (hb.mono hB.size)
  clear hb
  have c0_p0 := p0.cell0
  have c1_p0 := p0.cell1
  have c0_p1 := p1.cell0
  have c1_p1 := p1.cell1
  go_wp2_with fail
  refine (small3_any s0 t0).mono ?_
  rintro e w101 ⟨u_r, rfl, r, hb⟩
  replace s1 := s1.below hb
  replace t1 := t1.below hb
  replace p0 := p0.belowH hb
  replace p1 := p1.belowH hb
  replace hB := below_then hB hb
  obtain ⟨a_r, c_r, b_r, d_r, e_r, _, _, _, _, _, _⟩ := r.form
  rw [e_r] at r ⊢
  clear e_r
  clear hb c0_p0 c1_p0 c0_p1 c1_p1
  clear s0 t0 p0
  generalize smallS3 l0 = s at *
  generalize smallR3 l0 k0 = la at *
  have pb := (Below.refl _ w101).alloc (Nat.le_refl _) (.cells #[.slice a_r (s).length c_r, .slice b_r (la).length d_r] 27)
  replace r := r.below pb
  replace s1 := s1.below pb
  replace t1 := t1.below pb
  replace p1 := p1.push (.cells #[.slice a_r (s).length c_r, .slice b_r (la).length d_r] 27)
  have xr := Box.new w101 (.slice a_r (s).length c_r) (.slice b_r (la).length d_r)
  replace hB := below_then hB pb
  clear pb
  have c0_p1 := p1.cell0
  have c1_p1 := p1.cell1
  have c0_xr := xr.cell0
  have c1_xr := xr.cell1
  go_wp2_with fail
  refine (small3_any s1 t1).mono ?_
  rintro e w102 ⟨u_t, rfl, t, hb⟩
  replace r := r.below hb
  replace p1 := p1.belowH hb
  replace xr := xr.belowH hb
  replace hB := below_then hB hb
  obtain ⟨a_t, c_t, b_t, d_t, e_t, _, _, _, _, _, _⟩ := t.form
  rw [e_t] at t ⊢
  clear e_t
  clear hb c0_p1 c1_p1 c0_xr c1_xr
  clear s1 t1 p1
  generalize smallS3 l1 = u at *
  generalize smallR3 l1 k1 = lb at *
  have pb := (Below.refl _ w102).alloc (Nat.le_refl _) (.cells #[.slice a_t (u).length c_t, .slice b_t (lb).length d_t] 27)
  replace r := r.below pb
  replace t := t.below pb
  replace xr := xr.push (.cells #[.slice a_t (u).length c_t, .slice b_t (lb).length d_t] 27)
  have xt := Box.new w102 (.slice a_t (u).length c_t) (.slice b_t (lb).length d_t)
  replace hB := below_then hB pb
  clear pb
  obtain ⟨P, hP⟩ : ∃ P, semiR s la u lb = P := ⟨_, rfl⟩
  obtain ⟨S, hS⟩ : ∃ S, joinL s u = S := ⟨_, rfl⟩
  obtain ⟨J, hJ⟩ : ∃ J, joinR s la u lb = J := ⟨_, rfl⟩
  obtain ⟨M, hM⟩ : ∃ M, meetL s u = M := ⟨_, rfl⟩
  have GJ := hide (((unhide G).join (unhide G') (by omega)).good (by omega))
  have E1 := hide (proj_join (unhide G) (unhide G') (by omega))
  have EM := hide (fun t (ht : t ∈ semiR s la u lb) => (mem_semi.1 ht).1)
  have hla := (unhide G).llen
  have hlb := (unhide G').llen
  have EL := hide (join_len (unhide G) (unhide G'))
  have H1 := hide (pair_le s u lb la)
  have EA := hide (fun h => pair_all (s := s) (u := u) h lb la)
  have hPl : (semiR s la u lb).length ≤ la.length := List.length_filter_le _ _
  have hp1 := Nat.mul_le_mul hla hlb
  rw [hS, hJ] at GJ E1
  rw [hP] at E1 EM hPl
  rw [hJ] at EL
  rw [hM] at EA
  rw [← unhide EL] at H1 EA
  have H0 := hide (show ((pairR s la u lb).length : Int) ≤ 1000 by rw [← unhide EL]; have := unhide H1; omega)
  have HP := hide hP
  have HS := hide hS
  have HJ := hide hJ
  have HM := hide hM
  have HP1 := hide hp1
  clear hP hS hJ hM EL hp1
  have c0_xr := xr.cell0
  have c1_xr := xr.cell1
  have c0_xt := xt.cell0
  have c1_xt := xt.cell1
  go_wp2_with fail
  refine (join_eq (most := 1000) r t (unhide G) (unhide G') (by omega) (by omega) (by omega) (unhide H0) (unhide HS) (unhide HJ)).mono ?_
  rintro e w103 ⟨u_j, rfl, j, hb⟩
  replace r := r.below hb
  replace t := t.below hb
  replace xr := xr.belowH hb
  replace xt := xt.belowH hb
  replace hB := below_then hB hb
  obtain ⟨a_j, c_j, b_j, d_j, e_j, _, _, _, _, _, _⟩ := j.form
  rw [e_j] at j ⊢
  clear e_j
  clear hb c0_xr c1_xr c0_xt c1_xt
  have pb := (Below.refl _ w103).alloc (Nat.le_refl _) (.cells #[.slice a_j (S).length c_j, .slice b_j (J).length d_j] 27)
  replace r := r.below pb
  replace t := t.below pb
  replace j := j.below pb
  replace xr := xr.push (.cells #[.slice a_j (S).length c_j, .slice b_j (J).length d_j] 27)
  replace xt := xt.push (.cells #[.slice a_j (S).length c_j, .slice b_j (J).length d_j] 27)
  have xj := Box.new w103 (.slice a_j (S).length c_j) (.slice b_j (J).length d_j)
  replace hB := below_then hB pb
  clear pb
  have ri := r.ints
  have c0_xr := xr.cell0
  have c1_xr := xr.cell1
  have c0_xt := xt.cell0
  have c1_xt := xt.cell1
  have c0_xj := xj.cell0
  have c1_xj := xj.cell1
  go_wp2_with fail
  refine (project_eq j ri (unhide GJ) (by omega) (unhide E1).1 (unhide E1).2).mono ?_
  rintro e w104 ⟨u_p, rfl, p, hb⟩
  replace r := r.below hb
  replace t := t.below hb
  replace j := j.below hb
  replace xr := xr.belowH hb
  replace xt := xt.belowH hb
  replace xj := xj.belowH hb
  replace hB := below_then hB hb
  obtain ⟨a_p, c_p, b_p, d_p, e_p, _, _, _, _, _, _⟩ := p.form
  rw [e_p] at p ⊢
  clear e_p
  clear hb c0_xr c1_xr c0_xt c1_xt c0_xj c1_xj
  clear ri
  have pb := (Below.refl _ w104).alloc (Nat.le_refl _) (.cells #[.slice a_p (s).length c_p, .slice b_p (P).length d_p] 27)
  replace r := r.below pb
  replace t := t.below pb
  replace j := j.below pb
  replace p := p.below pb
  replace xr := xr.push (.cells #[.slice a_p (s).length c_p, .slice b_p (P).length d_p] 27)
  replace xt := xt.push (.cells #[.slice a_p (s).length c_p, .slice b_p (P).length d_p] 27)
  replace xj := xj.push (.cells #[.slice a_p (s).length c_p, .slice b_p (P).length d_p] 27)
  have xp := Box.new w104 (.slice a_p (s).length c_p) (.slice b_p (P).length d_p)
  replace hB := below_then hB pb
  clear pb
  go_wp2
  generalize (w104.alloc (.cells #[.slice a_p (s).length c_p, .slice b_p (P).length d_p] 27)) = W9 at *
  have hx : Tups W9 (.slice b_p P.length d_p) P := p.tups
  have HB := hide hB
  have HR := hide r
  have HT := hide t
  have HJJ := hide j
  clear hB r t j p
  go_loopw [11] (fun i wr => ∃ k : Nat, k ≤ P.length ∧ i = .int .i64 k ∧ Below W9.heap.size W9 wr) (fun i _ => P.length - (intOf i).toNat)
  case atStart => exact ⟨0, by omega, rfl, Below.refl _ _⟩
  case round =>
    obtain ⟨k, hk, rfl, hbel⟩ := hrel
    rename World => W1
    have yr := xr.belowH hbel
    have yt := xt.belowH hbel
    have yj := xj.belowH hbel
    have yp := xp.belowH hbel
    have c1_yp := yp.cell1
    by_cases hkl : k < P.length
    · obtain ⟨bl, ol, ul, hble, hcl, hiL⟩ := (hx.below hbel).at hkl
      subst hble
      obtain ⟨ia, ic, rfl, _, _⟩ := hiL.form
      have hmk := unhide EM _ (List.getElem_mem hkl)
      have hr1 := (unhide HR).below hbel
      have HH := hide (fun W (hb : Below W1.heap.size W1 W) => has_yes (hr1.below hb) (hiL.below hb) hmk)
      clear xr xt xj xp hx hmk hiL hr1 yt yj
      go_wp2
      
      
      have HK := hide (fun W (hb : Below W1.heap.size W1 W) => (And.intro (And.intro (yr.belowH hb).cell0 (yr.belowH hb).cell1) (And.intro (And.intro (yp.belowH hb).cell0 (yp.belowH hb).cell1) (Below.cell_of hb hcl))))
      have hbR := Below.refl W1.heap.size W1
      clear yr yp
      go_region_held3 (fun W => (W.cell? ⟨w101.heap.size, 0, none⟩ = some (.slice a_r (s).length c_r) ∧ W.cell? ⟨w101.heap.size, 1, none⟩ = some (.slice b_r (la).length d_r)) ∧ (W.cell? ⟨w104.heap.size, 0, none⟩ = some (.slice a_p (s).length c_p) ∧ W.cell? ⟨w104.heap.size, 1, none⟩ = some (.slice (some ⟨bl, ol, none⟩) (P).length d_p)) ∧ W.cell? ⟨bl, ol + k, none⟩ = some (.slice ia P[k].length ic))
        (first | exact unhide HK _ (by first | exact hR1  | exact hbR | exact below_same rfl rfl rfl rfl | exact below_then hR1 (below_push rfl rfl rfl rfl) | exact below_then hR1 (below_same rfl rfl rfl rfl)))
        (first
          | (go_at_call 29; refine (unhide HH _ (by first | exact hbR | exact below_same rfl rfl rfl rfl)).mono ?_; rintro e w105 ⟨rfl, hq1⟩; have hR1 : Below W1.heap.size W1 w105 := below_then (by first | exact hbR | exact below_same rfl rfl rfl rfl) hq1))
      all_goals
        go_wp2
        go_roundw
        case rel => exact ⟨k + 1, by omega, by go_num, below_then hbel hR1⟩
        case measure => simp [intOf]; omega
    · have hB := below_then (unhide HB) hbel
      have r := (unhide HR).below hbel
      have t := (unhide HT).below hbel
      have j := (unhide HJJ).below hbel
      have ri := r.ints
      have ti := t.ints
      have ji := j.ints
      have hw : IntKind.i64.wrap ((la.length : Int) * (lb.length : Int)) = (la.length : Int) * (lb.length : Int) := by
        have h9 : (la.length : Int) * (lb.length : Int) ≤ 144 := by have := unhide HP1; exact_mod_cast this
        have h8 : (0 : Int) ≤ (la.length : Int) * (lb.length : Int) := Int.mul_nonneg (by omega) (by omega)
        rw [IntKind.wrap_i64]; omega
      have hle : (J.length : Int) ≤ (la.length : Int) * (lb.length : Int) := by exact_mod_cast unhide H1
      have hEA : M = [] → (J.length : Int) = (la.length : Int) * (lb.length : Int) := fun h => by exact_mod_cast unhide EA h
      clear xr xt xj xp hx HB hbel r t j
      
      have c0_yr := yr.cell0
      have c1_yr := yr.cell1
      have c0_yt := yt.cell0
      have c1_yt := yt.cell1
      have c0_yj := yj.cell0
      have c1_yj := yj.cell1
      go_wp2_with fail
      refine (meet_eq ri ti (by omega) (unhide HM)).mono ?_
      rintro e w106 ⟨v_m, rfl, m, n_m, hb⟩
      replace ri := ri.below hb
      replace ti := ti.below hb
      replace ji := ji.below hb
      replace yr := yr.belowH hb
      replace yt := yt.belowH hb
      replace yj := yj.belowH hb
      replace hB := below_then hB hb
      obtain ⟨a_m, c_m, e_m, _, _⟩ := m.form
      rw [e_m] at m n_m ⊢
      clear e_m
      clear hb c0_yr c1_yr c0_yt c1_yt c0_yj c1_yj
      clear c1_yp n_m
      by_cases hM0 : M = []
      case' pos =>
        have hJE := hEA hM0
        have hM1 : ((M.length : Int) == 0) = true := by rw [hM0]; rfl
        have hne : ((J.length : Int) == (la.length : Int) * (lb.length : Int)) = true := by simpa using hJE
      case' neg =>
        have hM1 : ((M.length : Int) == 0) = false := by simpa using hM0
      all_goals
        have c0_yr := yr.cell0
        have c1_yr := yr.cell1
        have c0_yt := yt.cell0
        have c1_yt := yt.cell1
        have c0_yj := yj.cell0
        have c1_yj := yj.cell1
        clear hM0 hEA m
        go_wp2
        clear c0_yr c1_yr c0_yt c1_yt c0_yj c1_yj
        
        have HRI := hide ri
        have HTI := hide ti
        have HJI := hide ji
        clear ri ti ji
        have HK := hide (fun W (hb : Below w106.heap.size w106 W) => (And.intro (And.intro (yr.belowH hb).cell0 (yr.belowH hb).cell1) (And.intro (And.intro (yt.belowH hb).cell0 (yt.belowH hb).cell1) (And.intro (yj.belowH hb).cell0 (yj.belowH hb).cell1))))
        have hbR := Below.refl w106.heap.size w106
        clear yr yt yj
        go_region_held3 (fun W => (W.cell? ⟨w101.heap.size, 0, none⟩ = some (.slice a_r (s).length c_r) ∧ W.cell? ⟨w101.heap.size, 1, none⟩ = some (.slice b_r (la).length d_r)) ∧ (W.cell? ⟨w102.heap.size, 0, none⟩ = some (.slice a_t (u).length c_t) ∧ W.cell? ⟨w102.heap.size, 1, none⟩ = some (.slice b_t (lb).length d_t)) ∧ (W.cell? ⟨w103.heap.size, 0, none⟩ = some (.slice a_j (S).length c_j) ∧ W.cell? ⟨w103.heap.size, 1, none⟩ = some (.slice b_j (J).length d_j)))
          (first | exact unhide HK _ (by first | exact hR2 | exact hR1  | exact hbR | exact below_same rfl rfl rfl rfl | exact below_then hR2 (below_push rfl rfl rfl rfl) | exact below_then hR2 (below_same rfl rfl rfl rfl)))
          (first
            | (go_at_call 31; refine (cmp_zero ((unhide HJI).below hR1) y1).mono ?_; rintro e w108 ⟨rfl, hq2⟩; have hR2 : Below w106.heap.size w106 w108 := below_then hR1 hq2)
            | (go_at_call 32; refine (unite_eq ((unhide HRI).below (by first | exact hbR | exact below_same rfl rfl rfl rfl)) ((unhide HTI).below (by first | exact hbR | exact below_same rfl rfl rfl rfl)) (by omega) (unhide HS)).mono ?_; rintro e w107 ⟨u_y1, rfl, y1, n_y1, hq1⟩; obtain ⟨a_y1, c_y1, e_y1, _, _⟩ := y1.form; rw [e_y1] at y1 n_y1 ⊢; clear e_y1; have hR1 : Below w106.heap.size w106 w107 := below_then (by first | exact hbR | exact below_same rfl rfl rfl rfl) hq1))
        all_goals
          go_wp2
          go_ret
          exact ⟨rfl, below_then hB hR2⟩

set_option maxRecDepth 100000 in
theorem lifted (os : Os) (started : os.Started) (H : Type) (enc : TypeId × Value → H) :
    ReturnsInHanded {} Tryz.checked os 10 .any (fun w args => (Rows.joinCutsSpec.pre enc Tryz.prog Tryz.f10 [] false w args ∧ laidMetH Tryz.prog laidIn w) ∧ sizedMet enc Tryz.prog Tryz.f10 (OpenSpec.ofChange Rows.joinCutsSpec) false w args)
      (Rows.joinCutsSpec.post enc Tryz.prog Tryz.f10 false true false false) := by
  refine returnsInHanded_of_change_and (C := Tryz.checked) (X := fun w _ => laidMetH Tryz.prog laidIn w) (fun _ _ _ hh h => h.of_heap hh) own started (by kernel_rfl) Tryz.func10
    (ChangeSpec.witness_shaped (enc := enc) (C := Tryz.checked) (os := os) (X := fun w _ => laidMetH Tryz.prog laidIn w) false (World.doorLaid Tryz.prog doorN os) #[.agg #[.slice none 0 0, .slice none 0 0], .agg #[.slice none 0 0, .slice none 0 0]] 8 rfl (World.shaped_of_RefB (by kernel_rfl) (by kernel_rfl)) (by kernel_rfl) (by kernel_rfl) (by kernel_rfl) (door_met os _)) ?_
  intro W base args ds gs before hval0 hW _ _ _ _
  have hval : ∀ (j : Nat) t v, Tryz.f10.params[j]? = some t → args[j]? = some v → Value.okWide Tryz.prog W .any base t v := hval0
  have hW' := hW
  obtain ⟨p, q, hA0, hV, rfl, hfz, hnd⟩ := hW
  have hA : DataW.TrodAll enc Tryz.prog W 0 (fun _ => true) true Tryz.f10.params.toList args.toList ds p := hA0
  rw [Tryz.params10] at hA hval
  obtain ⟨v0, vs0, d0, ds0, p0, q0, hargs, rfl, rfl, h0, r0⟩ := trodAll_cons hA
  obtain ⟨v1, vs1, d1, ds1, p1, q1, rfl, rfl, rfl, h1, r1⟩ := trodAll_cons r0
  obtain ⟨rfl, rfl, rfl⟩ := trodAll_nil r1
  obtain rfl : args = #[v0, v1] := by cases args; simp_all
  obtain ⟨rfl, rfl⟩ := trodVars_none hV
  obtain ⟨l0, k0, i0, m0, n0⟩ := read_part h0 (hval 0 25 v0 rfl rfl)
  have lt0 : ∀ x ∈ p0, x.block < W.heap.size := by obtain ⟨m, hm⟩ := h0; exact DataW.trod_lt m _ _ _ hm
  obtain ⟨l1, k1, i1, m1, n1⟩ := read_part h1 (hval 1 25 v1 rfl rfl)
  have lt1 : ∀ x ∈ p1, x.block < W.heap.size := by obtain ⟨m, hm⟩ := h1; exact DataW.trod_lt m _ _ _ hm
  clear hA0 hval0
  refine (walk i0 i1).mono fun e W' ⟨he, bel⟩ => ?_
  subst he
  exact ⟨_, rfl, _, _, _, [], _, [], hW', trodAll_mk1 (shut_bool Tryz.underlying4 _), (trodAll_cons_mk (Below.trod laidOut (by kernel_rfl) (of_decide_eq_true (by kernel_rfl)) h0 bel lt0) (trodAll_cons_mk (Below.trod laidOut (by kernel_rfl) (of_decide_eq_true (by kernel_rfl)) h1 bel lt1) trodAll_mk0)), rfl, bel.frame _, fun h => by cases h⟩

theorem over : Rows.joinCutsRow.holds Tryz.pinned (OpenSpec.ofChange Rows.joinCutsSpec) :=
  OpenClaim.holds_of_wide 10 Tryz.f10 rfl rfl rfl rfl rfl rfl rfl ⟨rfl, rfl, rfl, rfl, rfl⟩ rfl rfl rfl rfl rfl (by kernel_rfl) Tryz.func10 (by kernel_rfl)
    (of_decide_eq_true (by kernel_rfl)) (by unfold Func.isWrapper; first | (rw [if_pos (by decide +kernel)]; kernel_rfl) | (rw [if_neg (by decide +kernel)]; exact ⟨rfl, rfl⟩))
    (fun os started H enc _ => lifted os started H enc)

/-- The statement: the tied card. -/
theorem proved : Rows.JoinCutsCardSaid :=
  Claim7.holds_tied_plain_at .later [] [.data, .data, .data] true (true, "7888708df1aa7c808ebd15fb47d32b01dabe941ed2c526b83533b5aed37430b1") false
    over (fun _ h => by cases h) (by kernel_rfl) (fun _ h => by cases h) joinCuts_row_tie rfl ⟨rfl, rfl⟩ (by kernel_rfl) rfl
    (fun f fn hf hfn => by
      obtain rfl : f = 10 := Option.some.inj ((show Tryz.prog.funcNamed "arborist/arboristlaw03.JoinCuts" = some 10 by kernel_rfl).symm.trans hf) |>.symm
      obtain rfl : fn = Tryz.f10 := (Option.some.inj (Tryz.func10.symm.trans hfn)).symm
      exact ⟨by kernel_rfl, fun j t ht => by
        rw [Tryz.params10] at ht
        have hm : t ∈ [25, 25] := by simpa using Array.mem_of_getElem? ht
        have hall : ([25, 25].all fun u => !Tryz.prog.wantsStandIn u) = true := by kernel_rfl
        exact (show Tryz.prog.wantsStandIn t = false by simpa using List.all_eq_true.1 hall t hm)⟩)
    (by kernel_rfl)
#print axioms proved
end Go.Proofs.YtcndapakkkaojaaGreatDoor.joinCuts
