/-
  Proved: JoinParts answers true for every two Parts and rows of rows, and leaves what was handed in as it was; the listed variables hold what the program's text lays. No other condition.
-/
import Derived.Test.YtcndapakkkaojaaGreatDoorJoinAll3
namespace Go.Proofs.YtcndapakkkaojaaGreatDoor.joinParts
open Go.RowKit Go.ChangeShapes Go.WideShapes Go.ChangeAt
set_option linter.unusedVariables false
set_option linter.unusedSimpArgs false
set_option maxRecDepth 20000

theorem _root_.Go.Proofs.YtcndapakkkaojaaGreatDoor.RelV.pushed {w w' : World} {o : Obj} {v : Value} {s : List Int} {ll : List (List Int)} (h : RelV w v s ll) (hb : Below (w.alloc o).heap.size (w.alloc o) w') : RelV w' v s ll := (h.below ((Below.refl _ _).alloc (Nat.le_refl _) o)).below hb

set_option maxHeartbeats 4000000 in
theorem union_okN {s s' : List Int} {ll ll' : List (List Int)} {v v' : Value} {w : World} (h : RelV w v s ll) (h' : RelV w v' s' ll') (hs : s = s') (hl : ll.length < 10000) (hl' : ll'.length < 10000) (hsl : s.length < 100000000) (hrw : ∀ t ∈ ll ++ ll', t.length < 100000000) :
    Calls Tryz.prog 28 #[v, v'] w fun e w' => ∃ x y, e = .returned (.tuple #[.agg #[x, y], .int .i64 0]) ∧ RelV w' (.agg #[x, y]) s (unionL ll ll') ∧ (∀ b, b < w.heap.size → y.ownBlock ≠ some b) ∧ Below w.heap.size w w' := by
  obtain ⟨a, ca, b, cb, rfl, k1, k2, k3, k4, hs1, ht1⟩ := h.form
  obtain ⟨a', ca', b', cb', rfl, k1', k2', k3', k4', hs2, ht2⟩ := h'.form
  unfold maxLen at k2 k4 k2' k4'
  obtain ⟨W0, hW0⟩ : ∃ W, W = ((w.alloc (.cells #[.slice a s.length ca, .slice b ll.length cb] 27)).alloc (.cells #[.slice a' s'.length ca', .slice b' ll'.length cb'] 27)).alloc (.cells #[.slice none 0 0, .slice none 0 0] 27) := ⟨_, rfl⟩
  have hb0 : Below w.heap.size w W0 := by rw [hW0]; exact (b2x w _ _).alloc (by simp; omega) _
  have hbx0 : Box W0 w.heap.size (.slice a s.length ca) (.slice b ll.length cb) := by rw [hW0]; exact ((Box.new w _ _).push _).push _
  have hbx1 : Box W0 (w.heap.size + 1) (.slice a' s'.length ca') (.slice b' ll'.length cb') := by
    rw [hW0]; have := (Box.new (w.alloc (.cells #[.slice a s.length ca, .slice b ll.length cb] 27)) (.slice a' s'.length ca') (.slice b' ll'.length cb')).push (.cells #[.slice none 0 0, .slice none 0 0] 27); simpa using this
  have hbx2 : Box W0 (w.heap.size + 1 + 1) (.slice none 0 0) (.slice none 0 0) := by
    rw [hW0]; have := Box.new ((w.alloc (.cells #[.slice a s.length ca, .slice b ll.length cb] 27)).alloc (.cells #[.slice a' s'.length ca', .slice b' ll'.length cb'] 27)) (.slice none 0 0) (.slice none 0 0); simpa using this
  have HE := hide (Calls.toBelow (equal_any (hs1.below hb0) (hs2.below hb0)))
  rw [sameL_iff.2 hs] at HE
  have HW0 := hide hW0
  have hzw := hb0.size
  have HRW := hide hrw
  clear h h' hW0 hs hrw
  go_enter Tryz.func28, Tryz.ntmps28
  go_wp2_with fail
  rw [← unhide HW0]
  refine (unhide HE).mono ?_
  rintro e w1 ⟨rfl, hb1⟩
  replace hbx0 := hbx0.belowH hb1
  replace hbx1 := hbx1.belowH hb1
  replace hbx2 := hbx2.belowH hb1
  have hbel1 := hb0.trans (hb1.mono hzw)
  have hc01 := hbx0.cell1
  have hc11 := hbx1.cell1
  have hc00 := hbx0.cell0
  have hb2 := (Below.refl w1.heap.size w1).alloc (Nat.le_refl _) (.cells #[.slice b ll.length cb, .slice b' ll'.length cb'] 23)
  have HC := hide (concat_any ((ht1.below hbel1).below hb2) ((ht2.below hbel1).below hb2) (heap_alloc_new w1 _) (by omega) (by omega))
  clear HE
  go_wp2_with fail
  refine (unhide HC).mono ?_
  rintro e w2 ⟨vc, rfl, hvc, _, hb3⟩
  have hb3' : Below w1.heap.size w1 w2 := hb2.trans (hb3.mono (by simp))
  have HS := hide (sort_any hvc (by simp; omega) (unhide HRW))
  replace hbx0 := hbx0.belowH hb3'
  replace hbx2 := hbx2.belowH hb3'
  have hbel2 := hbel1.trans (hb3'.mono (by have := hb1.size; omega))
  have hd00 := hbx0.cell0
  clear HC hvc hc01 hc11 hc00 hb3
  go_wp2_with fail
  refine (unhide HS).mono ?_
  rintro e w3 ⟨u3, rfl, hu3, hun3, hb4⟩
  obtain ⟨va, vc', hve, _, _⟩ := hu3.form
  rw [hve] at hu3 hun3 ⊢
  replace hbx0 := hbx0.belowH hb4
  replace hbx2 := hbx2.belowH hb4
  have hbel3 := hbel2.trans (hb4.mono (by have := hbel2.size; omega))
  have he00 := hbx0.cell0
  have HCL := hide (cloneI_any (hs1.below hbel3) hsl)
  clear HS hve hd00
  go_wp2_with fail
  refine (unhide HCL).mono ?_
  rintro e w4 ⟨u4, rfl, hu4, hb5⟩
  have hi4 := Seq.of_own hu4
  obtain ⟨ua, uc, hue, _, _⟩ := hi4.form
  rw [hue] at hi4 ⊢
  have hz2 := hbx2.lt
  have hz3 : w.heap.size + 1 + 1 < w2.heap.size := by
    have := (hbx2.lt)
    have h1 := hbel2.size
    have h5 := hb3'.size
    have h6 := hb1.size
    have h7 : w.heap.size + 1 + 1 < W0.heap.size := by rw [unhide HW0]; simp
    omega
  replace hbx2 := hbx2.belowH hb5
  have hd0 := hbx2.cell0
  have hd1 := hbx2.cell1
  have hg0 := hbx2.frozen 0
  have hg1 := hbx2.frozen 1
  have hbl := hbel3.trans (hb5.mono (by have := hbel3.size; omega))
  have ht4 := hu3.below hb5
  clear HCL hue hu4 he00
  go_wp2
  have hfin := rel_store hbx2.boxS hd0 hi4 ht4 (hun3.ne hz3)
  refine bodyPost_ret (v := .tuple #[.agg #[.slice ua s.length uc, .slice va (sortL (ll ++ ll')).length vc'], .int .i64 0]) (by simp [results, Tryz.results28, go_sem, hd0, hd1]) rfl ⟨_, _, rfl, hfin, fun b hb => hun3.ne (by omega), below_store hbl (by omega) _ _⟩

theorem unionN {s : List Int} {ll ll' U : List (List Int)} {v v' : Value} {w : World} (h : RelV w v s ll) (h' : RelV w v' s ll') (g : Good s ll) (g' : Good s ll') (e : unionL ll ll' = U) :
    Calls Tryz.prog 28 #[v, v'] w fun e w' => ∃ x y, e = .returned (.tuple #[.agg #[x, y], .int .i64 0]) ∧ RelV w' (.agg #[x, y]) s U ∧ (∀ b, b < w.heap.size → y.ownBlock ≠ some b) ∧ Below w.heap.size w w' := by
  rw [← e]
  exact union_okN h h' rfl (by have := g.llen; omega) (by have := g'.llen; omega) (by have := g.slen; omega) (fun t ht => by
    have hs := g.slen
    rcases List.mem_append.1 ht with h1 | h1
    · have := g.wide t h1; omega
    · have := g'.wide t h1; omega)

set_option maxHeartbeats 32000000 in
theorem walk {l0 l1 : List Int} {k0 k1 : List (List Int)} {l2 : List (List Int)} {v0 v1 v2 : Value} {w : World} (i0 : RelV w v0 l0 k0) (i1 : RelV w v1 l1 k1) (i2 : Tups w v2 l2) :
    Calls Tryz.prog 9 #[v0, v1, v2] w fun e w' => e = .returned (.bool true) ∧ Below w.heap.size w w' := by
  obtain ⟨a0, c0, b0, d0, rfl, _, f0, _, g0, s0, t0⟩ := i0.form
  obtain ⟨a1, c1, b1, d1, rfl, _, f1, _, g1, s1, t1⟩ := i1.form
  unfold maxLen at f0 g0 f1 g1
  obtain ⟨W0, hW0⟩ : ∃ W, W = ((w.alloc (.cells #[.slice a0 l0.length c0, .slice b0 k0.length d0] 25)).alloc (.cells #[.slice a1 l1.length c1, .slice b1 k1.length d1] 25)) := ⟨_, rfl⟩
  have hB : Below w.heap.size w W0 := by rw [hW0]; exact ((Below.refl w.heap.size w).alloc (Nat.le_refl _) (.cells #[.slice a0 l0.length c0, .slice b0 k0.length d0] 25)).alloc (by simp; try omega) (.cells #[.slice a1 l1.length c1, .slice b1 k1.length d1] 25)
  have p0 : BoxP W0 (w.heap.size) (.slice a0 l0.length c0) (.slice b0 k0.length d0) := by rw [hW0]; have := (BoxP.new w (.slice a0 l0.length c0) (.slice b0 k0.length d0)).push (.cells #[.slice a1 l1.length c1, .slice b1 k1.length d1] 25); exact this
  have p1 : BoxP W0 (w.heap.size + 1) (.slice a1 l1.length c1) (.slice b1 k1.length d1) := by rw [hW0]; have := BoxP.new (w.alloc (.cells #[.slice a0 l0.length c0, .slice b0 k0.length d0] 25)) (.slice a1 l1.length c1) (.slice b1 k1.length d1); simpa using this
  replace s0 := s0.below hB
  replace t0 := t0.below hB
  replace s1 := s1.below hB
  replace t1 := t1.below hB
  have HW0 := hide hW0
  clear hW0 i0 i1
  replace i2 := i2.below hB
  obtain ⟨b2, d2, rfl, _, _⟩ := i2.form
  have G := hide (fine_small l0 k0)
  have G' := hide (fine_small l1 k1)
  have G2 := hide (fine_small l1 l2)
  have hs3 := smallS3_len l0
  have hu3 := smallS3_len l1
  go_enter Tryz.func9, Tryz.ntmps9
  go_wp2_with fail
  rw [← unhide HW0]
  refine (shown3_any _).mono ?_
  rintro e w1 ⟨rfl, hb⟩
  replace i2 := i2.below hb
  replace s0 := s0.below hb
  replace t0 := t0.below hb
  replace p0 := p0.belowH hb
  replace s1 := s1.below hb
  replace t1 := t1.below hb
  replace p1 := p1.belowH hb
  replace hB := hB.trans (hb.mono hB.size)
  clear hb
  have c0_p0 := p0.cell0
  have c1_p0 := p0.cell1
  have c0_p1 := p1.cell0
  have c1_p1 := p1.cell1
  go_wp2_with fail
  refine (small3_any s0 t0).mono ?_
  rintro e w101 ⟨u_r, rfl, r, hb⟩
  replace s1 := s1.below hb
  replace t1 := t1.below hb
  replace i2 := i2.below hb
  replace p0 := p0.belowH hb
  replace p1 := p1.belowH hb
  replace hB := below_then hB hb
  obtain ⟨a_r, c_r, b_r, d_r, e_r, _, _, _, _, _, _⟩ := r.form
  rw [e_r] at r ⊢
  clear e_r
  clear hb c0_p0 c1_p0 c0_p1 c1_p1
  clear s0 t0 p0
  generalize smallS3 l0 = s at *
  generalize smallR3 l0 k0 = la at *
  have pb := (Below.refl _ w101).alloc (Nat.le_refl _) (.cells #[.slice a_r (s).length c_r, .slice b_r (la).length d_r] 27)
  replace r := r.below pb
  replace s1 := s1.below pb
  replace t1 := t1.below pb
  replace i2 := i2.below pb
  replace p1 := p1.push (.cells #[.slice a_r (s).length c_r, .slice b_r (la).length d_r] 27)
  have xr := Box.new w101 (.slice a_r (s).length c_r) (.slice b_r (la).length d_r)
  replace hB := below_then hB pb
  clear pb
  have c0_p1 := p1.cell0
  have c1_p1 := p1.cell1
  have c0_xr := xr.cell0
  have c1_xr := xr.cell1
  go_wp2_with fail
  refine (small3_any s1 t1).mono ?_
  rintro e w102 ⟨u_t, rfl, t, hb⟩
  replace r := r.below hb
  replace s1 := s1.below hb
  replace i2 := i2.below hb
  replace p1 := p1.belowH hb
  replace xr := xr.belowH hb
  replace hB := below_then hB hb
  obtain ⟨a_t, c_t, b_t, d_t, e_t, _, _, _, _, _, _⟩ := t.form
  rw [e_t] at t ⊢
  clear e_t
  clear hb c0_p1 c1_p1 c0_xr c1_xr
  clear t1
  obtain ⟨u, hu⟩ : ∃ u, u = smallS3 l1 := ⟨_, rfl⟩
  rw [← hu] at G' G2 t hu3 ⊢
  have HU := hide hu.symm
  clear hu
  generalize smallR3 l1 k1 = lb at *
  have pb := (Below.refl _ w102).alloc (Nat.le_refl _) (.cells #[.slice a_t (u).length c_t, .slice b_t (lb).length d_t] 27)
  replace r := r.below pb
  replace t := t.below pb
  replace s1 := s1.below pb
  replace i2 := i2.below pb
  replace p1 := p1.push (.cells #[.slice a_t (u).length c_t, .slice b_t (lb).length d_t] 27)
  replace xr := xr.push (.cells #[.slice a_t (u).length c_t, .slice b_t (lb).length d_t] 27)
  have xt := Box.new w102 (.slice a_t (u).length c_t) (.slice b_t (lb).length d_t)
  replace hB := below_then hB pb
  clear pb
  have c0_p1 := p1.cell0
  have c1_p1 := p1.cell1
  have c0_xr := xr.cell0
  have c1_xr := xr.cell1
  have c0_xt := xt.cell0
  have c1_xt := xt.cell1
  go_wp2_with fail
  refine (small3_eq s1 i2 (unhide HU)).mono ?_
  rintro e w103 ⟨u_z, rfl, z, hb⟩
  replace r := r.below hb
  replace t := t.below hb
  replace p1 := p1.belowH hb
  replace xr := xr.belowH hb
  replace xt := xt.belowH hb
  replace hB := below_then hB hb
  obtain ⟨a_z, c_z, b_z, d_z, e_z, _, _, _, _, _, _⟩ := z.form
  rw [e_z] at z ⊢
  clear e_z
  clear hb c0_p1 c1_p1 c0_xr c1_xr c0_xt c1_xt
  clear s1 i2 p1
  generalize smallR3 l1 l2 = lc at *
  have pb := (Below.refl _ w103).alloc (Nat.le_refl _) (.cells #[.slice a_z (u).length c_z, .slice b_z (lc).length d_z] 27)
  replace r := r.below pb
  replace t := t.below pb
  replace z := z.below pb
  replace xr := xr.push (.cells #[.slice a_z (u).length c_z, .slice b_z (lc).length d_z] 27)
  replace xt := xt.push (.cells #[.slice a_z (u).length c_z, .slice b_z (lc).length d_z] 27)
  have xz := Box.new w103 (.slice a_z (u).length c_z) (.slice b_z (lc).length d_z)
  replace hB := below_then hB pb
  clear pb
  obtain ⟨U, hU⟩ : ∃ U, unionL lb lc = U := ⟨_, rfl⟩
  obtain ⟨S, hS⟩ : ∃ S, joinL s u = S := ⟨_, rfl⟩
  obtain ⟨JP, hJP⟩ : ∃ J, joinR s la u U = J := ⟨_, rfl⟩
  obtain ⟨JB, hJB⟩ : ∃ J, joinR s la u lb = J := ⟨_, rfl⟩
  obtain ⟨JC, hJC⟩ : ∃ J, joinR s la u lc = J := ⟨_, rfl⟩
  obtain ⟨JV, hJV⟩ : ∃ J, unionL JB JC = J := ⟨_, rfl⟩
  obtain ⟨PB, hPB⟩ : ∃ P, semiR s la u lb = P := ⟨_, rfl⟩
  obtain ⟨PC, hPC⟩ : ∃ P, semiR s la u lc = P := ⟨_, rfl⟩
  obtain ⟨PV, hPV⟩ : ∃ P, unionL PB PC = P := ⟨_, rfl⟩
  have GU := hide ((unhide G').union (unhide G2))
  have GJB := hide (((unhide G).join (unhide G') (by omega)).good (by omega))
  have GJC := hide (((unhide G).join (unhide G2) (by omega)).good (by omega))
  have GPB := hide ((((unhide G).semi (u := u) (lb := lb))).good (by omega))
  have GPC := hide ((((unhide G).semi (u := u) (lb := lc))).good (by omega))
  have E1 := hide (join_union (unhide G) (unhide G') (unhide G2))
  have E2 := hide (semi_union (u := u) (lb := lb) (lc := lc) (unhide G))
  rw [hU] at GU E1 E2
  rw [hS, hJB] at GJB
  rw [hS, hJC] at GJC
  rw [hPB] at GPB
  rw [hPC] at GPC
  rw [hJP, hJB, hJC, hJV] at E1
  rw [hPB, hPC, hPV] at E2
  have H1 := hide (Nat.le_trans (pair_le s u U la) (Nat.mul_le_mul (unhide G).llen (unhide GU).llen))
  have H2 := hide (Nat.le_trans (pair_le s u lb la) (Nat.mul_le_mul (unhide G).llen (unhide G').llen))
  have H3 := hide (Nat.le_trans (pair_le s u lc la) (Nat.mul_le_mul (unhide G).llen (unhide G2).llen))
  have HU2 := hide hU
  have HS := hide hS
  have HJP := hide hJP
  have HJB := hide hJB
  have HJC := hide hJC
  have HJV := hide hJV
  have HPB := hide hPB
  have HPC := hide hPC
  have HPV := hide hPV
  clear hU hS hJP hJB hJC hJV hPB hPC hPV
  have c0_xr := xr.cell0
  have c1_xr := xr.cell1
  have c0_xt := xt.cell0
  have c1_xt := xt.cell1
  have c0_xz := xz.cell0
  have c1_xz := xz.cell1
  go_wp2_with fail
  refine (union_eq t z ((unhide G').good (by omega)) ((unhide G2).good (by omega)) (unhide HU2)).mono ?_
  rintro e w104 ⟨u_n, rfl, n, hb⟩
  replace r := r.below hb
  replace t := t.below hb
  replace z := z.below hb
  replace xr := xr.belowH hb
  replace xt := xt.belowH hb
  replace xz := xz.belowH hb
  replace hB := below_then hB hb
  obtain ⟨a_n, c_n, b_n, d_n, e_n, _, _, _, _, _, _⟩ := n.form
  rw [e_n] at n ⊢
  clear e_n
  clear hb c0_xr c1_xr c0_xt c1_xt c0_xz c1_xz
  have pb := (Below.refl _ w104).alloc (Nat.le_refl _) (.cells #[.slice a_n (u).length c_n, .slice b_n (U).length d_n] 27)
  replace r := r.below pb
  replace t := t.below pb
  replace z := z.below pb
  replace n := n.below pb
  replace xr := xr.push (.cells #[.slice a_n (u).length c_n, .slice b_n (U).length d_n] 27)
  replace xt := xt.push (.cells #[.slice a_n (u).length c_n, .slice b_n (U).length d_n] 27)
  replace xz := xz.push (.cells #[.slice a_n (u).length c_n, .slice b_n (U).length d_n] 27)
  have xn := Box.new w104 (.slice a_n (u).length c_n) (.slice b_n (U).length d_n)
  replace hB := below_then hB pb
  clear pb
  have c0_xr := xr.cell0
  have c1_xr := xr.cell1
  have c0_xt := xt.cell0
  have c1_xt := xt.cell1
  have c0_xz := xz.cell0
  have c1_xz := xz.cell1
  have c0_xn := xn.cell0
  have c1_xn := xn.cell1
  go_wp2_with fail
  refine (join_eq (most := 1000) r n (unhide G) (unhide GU) (by omega) (by omega) (by omega) (by have := unhide H1; omega) (unhide HS) (unhide HJP)).mono ?_
  rintro e w105 ⟨u_p, rfl, p, hb⟩
  replace r := r.below hb
  replace t := t.below hb
  replace z := z.below hb
  replace n := n.below hb
  replace xr := xr.belowH hb
  replace xt := xt.belowH hb
  replace xz := xz.belowH hb
  replace xn := xn.belowH hb
  replace hB := below_then hB hb
  obtain ⟨a_p, c_p, b_p, d_p, e_p, _, _, _, _, _, _⟩ := p.form
  rw [e_p] at p ⊢
  clear e_p
  clear hb c0_xr c1_xr c0_xt c1_xt c0_xz c1_xz c0_xn c1_xn
  have pb := (Below.refl _ w105).alloc (Nat.le_refl _) (.cells #[.slice a_p (S).length c_p, .slice b_p (JP).length d_p] 27)
  replace r := r.below pb
  replace t := t.below pb
  replace z := z.below pb
  replace n := n.below pb
  replace p := p.below pb
  replace xr := xr.push (.cells #[.slice a_p (S).length c_p, .slice b_p (JP).length d_p] 27)
  replace xt := xt.push (.cells #[.slice a_p (S).length c_p, .slice b_p (JP).length d_p] 27)
  replace xz := xz.push (.cells #[.slice a_p (S).length c_p, .slice b_p (JP).length d_p] 27)
  replace xn := xn.push (.cells #[.slice a_p (S).length c_p, .slice b_p (JP).length d_p] 27)
  have xp := Box.new w105 (.slice a_p (S).length c_p) (.slice b_p (JP).length d_p)
  replace hB := below_then hB pb
  clear pb
  have c0_xr := xr.cell0
  have c1_xr := xr.cell1
  have c0_xt := xt.cell0
  have c1_xt := xt.cell1
  have c0_xz := xz.cell0
  have c1_xz := xz.cell1
  have c0_xn := xn.cell0
  have c1_xn := xn.cell1
  have c0_xp := xp.cell0
  have c1_xp := xp.cell1
  go_wp2_with fail
  refine (join_eq (most := 1000) r t (unhide G) (unhide G') (by omega) (by omega) (by omega) (by have := unhide H2; omega) (unhide HS) (unhide HJB)).mono ?_
  rintro e w106 ⟨u_q, rfl, q, hb⟩
  replace r := r.below hb
  replace t := t.below hb
  replace z := z.below hb
  replace n := n.below hb
  replace p := p.below hb
  replace xr := xr.belowH hb
  replace xt := xt.belowH hb
  replace xz := xz.belowH hb
  replace xn := xn.belowH hb
  replace xp := xp.belowH hb
  replace hB := below_then hB hb
  obtain ⟨a_q, c_q, b_q, d_q, e_q, _, _, _, _, _, _⟩ := q.form
  rw [e_q] at q ⊢
  clear e_q
  clear hb c0_xr c1_xr c0_xt c1_xt c0_xz c1_xz c0_xn c1_xn c0_xp c1_xp
  have pb := (Below.refl _ w106).alloc (Nat.le_refl _) (.cells #[.slice a_q (S).length c_q, .slice b_q (JB).length d_q] 27)
  replace r := r.below pb
  replace t := t.below pb
  replace z := z.below pb
  replace n := n.below pb
  replace p := p.below pb
  replace q := q.below pb
  replace xr := xr.push (.cells #[.slice a_q (S).length c_q, .slice b_q (JB).length d_q] 27)
  replace xt := xt.push (.cells #[.slice a_q (S).length c_q, .slice b_q (JB).length d_q] 27)
  replace xz := xz.push (.cells #[.slice a_q (S).length c_q, .slice b_q (JB).length d_q] 27)
  replace xn := xn.push (.cells #[.slice a_q (S).length c_q, .slice b_q (JB).length d_q] 27)
  replace xp := xp.push (.cells #[.slice a_q (S).length c_q, .slice b_q (JB).length d_q] 27)
  have xq := Box.new w106 (.slice a_q (S).length c_q) (.slice b_q (JB).length d_q)
  replace hB := below_then hB pb
  clear pb
  have c0_xr := xr.cell0
  have c1_xr := xr.cell1
  have c0_xt := xt.cell0
  have c1_xt := xt.cell1
  have c0_xz := xz.cell0
  have c1_xz := xz.cell1
  have c0_xn := xn.cell0
  have c1_xn := xn.cell1
  have c0_xp := xp.cell0
  have c1_xp := xp.cell1
  have c0_xq := xq.cell0
  have c1_xq := xq.cell1
  go_wp2_with fail
  refine (join_eq (most := 1000) r z (unhide G) (unhide G2) (by omega) (by omega) (by omega) (by have := unhide H3; omega) (unhide HS) (unhide HJC)).mono ?_
  rintro e w107 ⟨u_c, rfl, c, hb⟩
  replace r := r.below hb
  replace t := t.below hb
  replace z := z.below hb
  replace n := n.below hb
  replace p := p.below hb
  replace q := q.below hb
  replace xr := xr.belowH hb
  replace xt := xt.belowH hb
  replace xz := xz.belowH hb
  replace xn := xn.belowH hb
  replace xp := xp.belowH hb
  replace xq := xq.belowH hb
  replace hB := below_then hB hb
  obtain ⟨a_c, c_c, b_c, d_c, e_c, _, _, _, _, _, _⟩ := c.form
  rw [e_c] at c ⊢
  clear e_c
  clear hb c0_xr c1_xr c0_xt c1_xt c0_xz c1_xz c0_xn c1_xn c0_xp c1_xp c0_xq c1_xq
  have pb := (Below.refl _ w107).alloc (Nat.le_refl _) (.cells #[.slice a_c (S).length c_c, .slice b_c (JC).length d_c] 27)
  replace r := r.below pb
  replace t := t.below pb
  replace z := z.below pb
  replace n := n.below pb
  replace p := p.below pb
  replace q := q.below pb
  replace c := c.below pb
  replace xr := xr.push (.cells #[.slice a_c (S).length c_c, .slice b_c (JC).length d_c] 27)
  replace xt := xt.push (.cells #[.slice a_c (S).length c_c, .slice b_c (JC).length d_c] 27)
  replace xz := xz.push (.cells #[.slice a_c (S).length c_c, .slice b_c (JC).length d_c] 27)
  replace xn := xn.push (.cells #[.slice a_c (S).length c_c, .slice b_c (JC).length d_c] 27)
  replace xp := xp.push (.cells #[.slice a_c (S).length c_c, .slice b_c (JC).length d_c] 27)
  replace xq := xq.push (.cells #[.slice a_c (S).length c_c, .slice b_c (JC).length d_c] 27)
  have xc := Box.new w107 (.slice a_c (S).length c_c) (.slice b_c (JC).length d_c)
  replace hB := below_then hB pb
  clear pb
  have c0_xr := xr.cell0
  have c1_xr := xr.cell1
  have c0_xt := xt.cell0
  have c1_xt := xt.cell1
  have c0_xz := xz.cell0
  have c1_xz := xz.cell1
  have c0_xn := xn.cell0
  have c1_xn := xn.cell1
  have c0_xp := xp.cell0
  have c1_xp := xp.cell1
  have c0_xq := xq.cell0
  have c1_xq := xq.cell1
  have c0_xc := xc.cell0
  have c1_xc := xc.cell1
  go_wp2_with fail
  refine (union_eq q c (unhide GJB) (unhide GJC) (unhide HJV)).mono ?_
  rintro e w108 ⟨u_v, rfl, v, hb⟩
  replace r := r.below hb
  replace t := t.below hb
  replace z := z.below hb
  replace n := n.below hb
  replace p := p.below hb
  replace xr := xr.belowH hb
  replace xt := xt.belowH hb
  replace xz := xz.belowH hb
  replace xn := xn.belowH hb
  replace xp := xp.belowH hb
  replace xq := xq.belowH hb
  replace xc := xc.belowH hb
  replace hB := below_then hB hb
  obtain ⟨a_v, c_v, b_v, d_v, e_v, _, _, _, _, _, _⟩ := v.form
  rw [e_v] at v ⊢
  clear e_v
  clear hb c0_xr c1_xr c0_xt c1_xt c0_xz c1_xz c0_xn c1_xn c0_xp c1_xp c0_xq c1_xq c0_xc c1_xc
  have pb := (Below.refl _ w108).alloc (Nat.le_refl _) (.cells #[.slice a_v (S).length c_v, .slice b_v (JV).length d_v] 27)
  replace r := r.below pb
  replace t := t.below pb
  replace z := z.below pb
  replace n := n.below pb
  replace p := p.below pb
  replace v := v.below pb
  replace xr := xr.push (.cells #[.slice a_v (S).length c_v, .slice b_v (JV).length d_v] 27)
  replace xt := xt.push (.cells #[.slice a_v (S).length c_v, .slice b_v (JV).length d_v] 27)
  replace xz := xz.push (.cells #[.slice a_v (S).length c_v, .slice b_v (JV).length d_v] 27)
  replace xn := xn.push (.cells #[.slice a_v (S).length c_v, .slice b_v (JV).length d_v] 27)
  replace xp := xp.push (.cells #[.slice a_v (S).length c_v, .slice b_v (JV).length d_v] 27)
  have xv := Box.new w108 (.slice a_v (S).length c_v) (.slice b_v (JV).length d_v)
  replace hB := below_then hB pb
  clear pb
  clear q c xq xc
  go_wp2
  generalize (w108.alloc (.cells #[.slice a_v (S).length c_v, .slice b_v (JV).length d_v] 27)) = W9 at *
  have HR := hide r
  have HT := hide t
  have HZ := hide z
  have HN := hide n
  have HPP := hide p
  have HV := hide v
  have XR := hide xr
  have XN := hide xn
  have XP := hide xp
  have XV := hide xv
  clear r t z n p v
  have HK := hide (fun W (hb : Below W9.heap.size W9 W) => (And.intro (And.intro (xr.belowH hb).cell0 (xr.belowH hb).cell1) (And.intro (And.intro (xt.belowH hb).cell0 (xt.belowH hb).cell1) (And.intro (xz.belowH hb).cell0 (xz.belowH hb).cell1))))
  have hbR := Below.refl W9.heap.size W9
  clear xr xt xz
  go_region_held3 (fun W => (W.cell? ⟨w101.heap.size, 0, none⟩ = some (.slice a_r (s).length c_r) ∧ W.cell? ⟨w101.heap.size, 1, none⟩ = some (.slice b_r (la).length d_r)) ∧ (W.cell? ⟨w102.heap.size, 0, none⟩ = some (.slice a_t (u).length c_t) ∧ W.cell? ⟨w102.heap.size, 1, none⟩ = some (.slice b_t (lb).length d_t)) ∧ (W.cell? ⟨w103.heap.size, 0, none⟩ = some (.slice a_z (u).length c_z) ∧ W.cell? ⟨w103.heap.size, 1, none⟩ = some (.slice b_z (lc).length d_z)))
    (first | exact unhide HK _ (by first | exact hR3 | exact hR2 | exact hR1 | exact below_store hR3 hR2.size _ _ | exact below_store hR3 hR1.size _ _ | exact below_store hR3 (Nat.le_refl _) _ _ | exact hbR | exact below_same rfl rfl rfl rfl | exact below_then hR3 (below_push rfl rfl rfl rfl) | exact below_then hR2 (below_push rfl rfl rfl rfl) | exact below_then hR1 (below_push rfl rfl rfl rfl) | exact below_push rfl rfl rfl rfl))
    (first
      | (go_at_call 28; have hpv := hR2; clear hpv; refine (unionN (by first | exact y1.below hq2 | exact y1.below (below_then hq2 (below_push rfl rfl rfl rfl)) | exact y1.pushed hq2) (by first | exact y2 | exact y2.below (below_push rfl rfl rfl rfl)) (unhide GPB) (unhide GPC) (unhide HPV)).mono ?_; rintro e w111 ⟨x_y3, y_y3, rfl, y3, nn, hq3⟩; obtain ⟨a_y3, c_y3, b_y3, d_y3, e_y3, _, _, _, _, _, _⟩ := y3.form; cases e_y3; have hR3 : Below W9.heap.size W9 w111 := below_then (by first | exact hR2 | exact below_then hR2 (below_push rfl rfl rfl rfl)) hq3; first | (have bq : Box w111 w110.heap.size (.slice none 0 0) (.slice none 0 0) := ((Box.new w110 (.slice none 0 0) (.slice none 0 0)).belowH hq3); have bqa := bq.cell0; have bqb := bq.cell1; have bqc := bq.frozen 0; have bqd := bq.frozen 1; clear bq) | (have bq : Box w111 w109.heap.size (.slice none 0 0) (.slice none 0 0) := (((Box.new w109 (.slice none 0 0) (.slice none 0 0)).belowH hq2).belowH hq3); have bqa := bq.cell0; have bqb := bq.cell1; have bqc := bq.frozen 0; have bqd := bq.frozen 1; clear bq) | (have bq : Box w111 W9.heap.size (.slice none 0 0) (.slice none 0 0) := ((((Box.new W9.drew (.slice none 0 0) (.slice none 0 0)).belowH hq1).belowH hq2).belowH hq3); have bqa := bq.cell0; have bqb := bq.cell1; have bqc := bq.frozen 0; have bqd := bq.frozen 1; clear bq) | skip)
      | (go_at_call 17; have hpv := hR1; clear hpv; refine (semi_eq ((unhide HR).below (by first | exact hR1 | exact below_then hR1 (below_push rfl rfl rfl rfl))) ((unhide HZ).below (by first | exact hR1 | exact below_then hR1 (below_push rfl rfl rfl rfl))) (unhide G) (unhide G2) (by omega) (by omega) (unhide HPC)).mono ?_; rintro e w110 ⟨u_y2, rfl, y2, hq2⟩; obtain ⟨a_y2, c_y2, b_y2, d_y2, e_y2, _, _, _, _, _, _⟩ := y2.form; rw [e_y2] at y2 ⊢; clear e_y2; have hR2 : Below W9.heap.size W9 w110 := below_then (by first | exact hR1 | exact below_then hR1 (below_push rfl rfl rfl rfl)) hq2)
      | (go_at_call 17; refine (semi_eq ((unhide HR).below (by first | exact hbR | exact below_same rfl rfl rfl rfl | exact below_push rfl rfl rfl rfl)) ((unhide HT).below (by first | exact hbR | exact below_same rfl rfl rfl rfl | exact below_push rfl rfl rfl rfl)) (unhide G) (unhide G') (by omega) (by omega) (unhide HPB)).mono ?_; rintro e w109 ⟨u_y1, rfl, y1, hq1⟩; obtain ⟨a_y1, c_y1, b_y1, d_y1, e_y1, _, _, _, _, _, _⟩ := y1.form; rw [e_y1] at y1 ⊢; clear e_y1; have hR1 : Below W9.heap.size W9 w109 := below_then (by first | exact hbR | exact below_same rfl rfl rfl rfl | exact below_push rfl rfl rfl rfl) hq1))
  all_goals
    try go_wp2
    first
      | (have hpath := (show Below (w110.alloc (.cells #[.slice none 0 0, .slice none 0 0] 27)).heap.size (w110.alloc (.cells #[.slice none 0 0, .slice none 0 0] 27)) w111 from hq3); have bx0 : Box w111 w110.heap.size (.slice none 0 0) (.slice none 0 0) := ((Box.new w110 (.slice none 0 0) (.slice none 0 0)).belowH hq3); have ys := (bx0.set0 (.slice a_y3 (s).length c_y3)).set1 (.slice b_y3 (PV).length d_y3); have y4 := rel_store bx0.boxS bx0.cell0 y3.ints y3.tups (nn _ (by first | exact (Box.new w110 (.slice none 0 0) (.slice none 0 0)).lt | (simp; omega) | exact (Box.new w110 (.slice none 0 0) (.slice none 0 0)).lt)); have hRF := below_store hR3 (b := w110.heap.size) hR2.size (.slice a_y3 (s).length c_y3) (.slice b_y3 (PV).length d_y3); clear hpath bx0; generalize ((w111.setCell ⟨w110.heap.size, 0, none⟩ (.slice a_y3 (s).length c_y3)).setCell ⟨w110.heap.size, 1, none⟩ (.slice b_y3 (PV).length d_y3)) = WF at *; obtain ⟨bk, hbk⟩ : ∃ b, b = w110.heap.size := ⟨_, rfl⟩; rw [← hbk] at ys ⊢; clear hbk)
      | (have hpath := (show Below (w109.alloc (.cells #[.slice none 0 0, .slice none 0 0] 27)).heap.size (w109.alloc (.cells #[.slice none 0 0, .slice none 0 0] 27)) w110 from hq2); have bx0 : Box w111 w109.heap.size (.slice none 0 0) (.slice none 0 0) := (((Box.new w109 (.slice none 0 0) (.slice none 0 0)).belowH hq2).belowH hq3); have ys := (bx0.set0 (.slice a_y3 (s).length c_y3)).set1 (.slice b_y3 (PV).length d_y3); have y4 := rel_store bx0.boxS bx0.cell0 y3.ints y3.tups (nn _ (by first | exact (Box.new w109 (.slice none 0 0) (.slice none 0 0)).lt | (simp; omega) | exact (Nat.lt_of_lt_of_le (Box.new w109 (.slice none 0 0) (.slice none 0 0)).lt hq2.size))); have hRF := below_store hR3 (b := w109.heap.size) hR1.size (.slice a_y3 (s).length c_y3) (.slice b_y3 (PV).length d_y3); clear hpath bx0; generalize ((w111.setCell ⟨w109.heap.size, 0, none⟩ (.slice a_y3 (s).length c_y3)).setCell ⟨w109.heap.size, 1, none⟩ (.slice b_y3 (PV).length d_y3)) = WF at *; obtain ⟨bk, hbk⟩ : ∃ b, b = w109.heap.size := ⟨_, rfl⟩; rw [← hbk] at ys ⊢; clear hbk)
      | (have hpath := (show Below (W9.drew.alloc (.cells #[.slice none 0 0, .slice none 0 0] 27)).heap.size (W9.drew.alloc (.cells #[.slice none 0 0, .slice none 0 0] 27)) w109 from hq1); have bx0 : Box w111 W9.heap.size (.slice none 0 0) (.slice none 0 0) := ((((Box.new W9.drew (.slice none 0 0) (.slice none 0 0)).belowH hq1).belowH hq2).belowH hq3); have ys := (bx0.set0 (.slice a_y3 (s).length c_y3)).set1 (.slice b_y3 (PV).length d_y3); have y4 := rel_store bx0.boxS bx0.cell0 y3.ints y3.tups (nn _ (by first | exact (Box.new W9.drew (.slice none 0 0) (.slice none 0 0)).lt | (simp; omega) | exact (Nat.lt_of_lt_of_le (Nat.lt_of_lt_of_le (Box.new W9.drew (.slice none 0 0) (.slice none 0 0)).lt hq1.size) hq2.size))); have hRF := below_store hR3 (b := W9.heap.size) (Nat.le_refl _) (.slice a_y3 (s).length c_y3) (.slice b_y3 (PV).length d_y3); clear hpath bx0; generalize ((w111.setCell ⟨W9.heap.size, 0, none⟩ (.slice a_y3 (s).length c_y3)).setCell ⟨W9.heap.size, 1, none⟩ (.slice b_y3 (PV).length d_y3)) = WF at *; obtain ⟨bk, hbk⟩ : ∃ b, b = W9.heap.size := ⟨_, rfl⟩; rw [← hbk] at ys ⊢; clear hbk)
      | (have ys := Box.new w111 (.slice a_y3 (s).length c_y3) (.slice b_y3 (PV).length d_y3); have y4 := y3.below ((Below.refl _ w111).alloc (Nat.le_refl _) (.cells #[.slice a_y3 (s).length c_y3, .slice b_y3 (PV).length d_y3] 27)); have hRF := below_then hR3 ((Below.refl _ w111).alloc (Nat.le_refl _) (.cells #[.slice a_y3 (s).length c_y3, .slice b_y3 (PV).length d_y3] 27)); generalize (w111.alloc (.cells #[.slice a_y3 (s).length c_y3, .slice b_y3 (PV).length d_y3] 27)) = WF at *; obtain ⟨bk, hbk⟩ : ∃ b, b = w111.heap.size := ⟨_, rfl⟩; rw [← hbk] at ys ⊢; clear hbk)
    clear hR1 hR2 hR3 hq1 hq2 hq3 hbR nn
    have yr := (unhide XR).belowH hRF
    have yn := (unhide XN).belowH hRF
    have yp := (unhide XP).belowH hRF
    have yv := (unhide XV).belowH hRF
    have r := (unhide HR).below hRF
    have n := (unhide HN).below hRF
    have p := (unhide HPP).below hRF
    have v := (unhide HV).below hRF
    replace hB := below_then hB hRF
    clear XR XN XP XV HR HT HZ HN HPP HV hRF y1 y2 y3
    
    try go_wp2
    have HR := hide r
    have HN := hide n
    have HPP := hide p
    have HV := hide v
    have HY := hide y4
    clear r n p v y4
    have HK := hide (fun W (hb : Below WF.heap.size WF W) => (And.intro (And.intro (yr.belowH hb).cell0 (yr.belowH hb).cell1) (And.intro (And.intro (yn.belowH hb).cell0 (yn.belowH hb).cell1) (And.intro (And.intro (yp.belowH hb).cell0 (yp.belowH hb).cell1) (And.intro (And.intro (yv.belowH hb).cell0 (yv.belowH hb).cell1) (And.intro (ys.belowH hb).cell0 (ys.belowH hb).cell1))))))
    have hbR := Below.refl WF.heap.size WF
    clear yr yn yp yv ys
    go_region_held3 (fun W => (W.cell? ⟨w101.heap.size, 0, none⟩ = some (.slice a_r (s).length c_r) ∧ W.cell? ⟨w101.heap.size, 1, none⟩ = some (.slice b_r (la).length d_r)) ∧ (W.cell? ⟨w104.heap.size, 0, none⟩ = some (.slice a_n (u).length c_n) ∧ W.cell? ⟨w104.heap.size, 1, none⟩ = some (.slice b_n (U).length d_n)) ∧ (W.cell? ⟨w105.heap.size, 0, none⟩ = some (.slice a_p (S).length c_p) ∧ W.cell? ⟨w105.heap.size, 1, none⟩ = some (.slice b_p (JP).length d_p)) ∧ (W.cell? ⟨w108.heap.size, 0, none⟩ = some (.slice a_v (S).length c_v) ∧ W.cell? ⟨w108.heap.size, 1, none⟩ = some (.slice b_v (JV).length d_v)) ∧ (W.cell? ⟨bk, 0, none⟩ = some (.slice a_y3 (s).length c_y3) ∧ W.cell? ⟨bk, 1, none⟩ = some (.slice b_y3 (PV).length d_y3)))
      (first | exact unhide HK _ (by first | exact hR3 | exact hR2 | exact hR1  | exact hbR | exact below_same rfl rfl rfl rfl | exact below_then hR3 (below_push rfl rfl rfl rfl) | exact below_then hR3 (below_same rfl rfl rfl rfl)))
      (first
        | (go_at_call 25; refine (same_yes y5 ((unhide HY).below hR2) rfl rfl).mono ?_; rintro e w114 ⟨rfl, hq3⟩; have hR3 : Below WF.heap.size WF w114 := below_then hR2 hq3)
        | (go_at_call 17; refine (semi_eq ((unhide HR).below hR1) ((unhide HN).below hR1) (unhide G) (unhide GU) (by omega) (by omega) (unhide E2)).mono ?_; rintro e w113 ⟨u_y5, rfl, y5, hq2⟩; obtain ⟨a_y5, c_y5, b_y5, d_y5, e_y5, _, _, _, _, _, _⟩ := y5.form; rw [e_y5] at y5 ⊢; clear e_y5; have hR2 : Below WF.heap.size WF w113 := below_then hR1 hq2)
        | (go_at_call 25; refine (same_yes ((unhide HPP).below (by first | exact hbR | exact below_same rfl rfl rfl rfl)) ((unhide HV).below (by first | exact hbR | exact below_same rfl rfl rfl rfl)) rfl (unhide E1)).mono ?_; rintro e w112 ⟨rfl, hq1⟩; have hR1 : Below WF.heap.size WF w112 := below_then (by first | exact hbR | exact below_same rfl rfl rfl rfl) hq1))
    all_goals
      go_wp2
      go_ret
      exact ⟨rfl, below_then hB hR3⟩

set_option maxRecDepth 100000 in
theorem lifted (os : Os) (started : os.Started) (H : Type) (enc : TypeId × Value → H) :
    ReturnsInHanded {} Tryz.checked os 9 .any (fun w args => (Rows.joinPartsSpec.pre enc Tryz.prog Tryz.f9 [] false w args ∧ laidMetH Tryz.prog laidIn w) ∧ sizedMet enc Tryz.prog Tryz.f9 (OpenSpec.ofChange Rows.joinPartsSpec) false w args)
      (Rows.joinPartsSpec.post enc Tryz.prog Tryz.f9 false true false false) := by
  refine returnsInHanded_of_change_and (C := Tryz.checked) (X := fun w _ => laidMetH Tryz.prog laidIn w) (fun _ _ _ hh h => h.of_heap hh) own started (by kernel_rfl) Tryz.func9
    (ChangeSpec.witness_shaped (enc := enc) (C := Tryz.checked) (os := os) (X := fun w _ => laidMetH Tryz.prog laidIn w) false (World.doorLaid Tryz.prog doorN os) #[.agg #[.slice none 0 0, .slice none 0 0], .agg #[.slice none 0 0, .slice none 0 0], .slice none 0 0] 8 rfl (World.shaped_of_RefB (by kernel_rfl) (by kernel_rfl)) (by kernel_rfl) (by kernel_rfl) (by kernel_rfl) (door_met os _)) ?_
  intro W base args ds gs before hval0 hW _ _ _ _
  have hval : ∀ (j : Nat) t v, Tryz.f9.params[j]? = some t → args[j]? = some v → Value.okWide Tryz.prog W .any base t v := hval0
  have hW' := hW
  obtain ⟨p, q, hA0, hV, rfl, hfz, hnd⟩ := hW
  have hA : DataW.TrodAll enc Tryz.prog W 0 (fun _ => true) true Tryz.f9.params.toList args.toList ds p := hA0
  rw [Tryz.params9] at hA hval
  obtain ⟨v0, vs0, d0, ds0, p0, q0, hargs, rfl, rfl, h0, r0⟩ := trodAll_cons hA
  obtain ⟨v1, vs1, d1, ds1, p1, q1, rfl, rfl, rfl, h1, r1⟩ := trodAll_cons r0
  obtain ⟨v2, vs2, d2, ds2, p2, q2, rfl, rfl, rfl, h2, r2⟩ := trodAll_cons r1
  obtain ⟨rfl, rfl, rfl⟩ := trodAll_nil r2
  obtain rfl : args = #[v0, v1, v2] := by cases args; simp_all
  obtain ⟨rfl, rfl⟩ := trodVars_none hV
  obtain ⟨l0, k0, i0, m0, n0⟩ := read_part h0 (hval 0 25 v0 rfl rfl)
  have lt0 : ∀ x ∈ p0, x.block < W.heap.size := by obtain ⟨m, hm⟩ := h0; exact DataW.trod_lt m _ _ _ hm
  obtain ⟨l1, k1, i1, m1, n1⟩ := read_part h1 (hval 1 25 v1 rfl rfl)
  have lt1 : ∀ x ∈ p1, x.block < W.heap.size := by obtain ⟨m, hm⟩ := h1; exact DataW.trod_lt m _ _ _ hm
  obtain ⟨l2, i2, m2⟩ := read_tups h2 (okWide_slice Tryz.underlying23 (hval 2 23 v2 rfl rfl))
  have lt2 : ∀ x ∈ p2, x.block < W.heap.size := by obtain ⟨m, hm⟩ := h2; exact DataW.trod_lt m _ _ _ hm
  clear hA0 hval0
  refine (walk i0 i1 i2).mono fun e W' ⟨he, bel⟩ => ?_
  subst he
  exact ⟨_, rfl, _, _, _, [], _, [], hW', trodAll_mk1 (shut_bool Tryz.underlying4 _), (trodAll_cons_mk (Below.trod laidOut (by kernel_rfl) (of_decide_eq_true (by kernel_rfl)) h0 bel lt0) (trodAll_cons_mk (Below.trod laidOut (by kernel_rfl) (of_decide_eq_true (by kernel_rfl)) h1 bel lt1) (trodAll_cons_mk (Below.trod laidOut (by kernel_rfl) (of_decide_eq_true (by kernel_rfl)) h2 bel lt2) trodAll_mk0))), rfl, bel.frame _, fun h => by cases h⟩

theorem over : Rows.joinPartsRow.holds Tryz.pinned (OpenSpec.ofChange Rows.joinPartsSpec) :=
  OpenClaim.holds_of_wide 9 Tryz.f9 rfl rfl rfl rfl rfl rfl rfl ⟨rfl, rfl, rfl, rfl, rfl⟩ rfl rfl rfl rfl rfl (by kernel_rfl) Tryz.func9 (by kernel_rfl)
    (of_decide_eq_true (by kernel_rfl)) (by unfold Func.isWrapper; first | (rw [if_pos (by decide +kernel)]; kernel_rfl) | (rw [if_neg (by decide +kernel)]; exact ⟨rfl, rfl⟩))
    (fun os started H enc _ => lifted os started H enc)

/-- The statement: the tied card. -/
theorem proved : Rows.JoinPartsCardSaid :=
  Claim7.holds_tied_plain_at .later [] [.data, .data, .data] true (true, "7888708df1aa7c808ebd15fb47d32b01dabe941ed2c526b83533b5aed37430b1") false
    over (fun _ h => by cases h) (by kernel_rfl) (fun _ h => by cases h) joinParts_row_tie rfl ⟨rfl, rfl⟩ (by kernel_rfl) rfl
    (fun f fn hf hfn => by
      obtain rfl : f = 9 := Option.some.inj ((show Tryz.prog.funcNamed "arborist/arboristlaw03.JoinParts" = some 9 by kernel_rfl).symm.trans hf) |>.symm
      obtain rfl : fn = Tryz.f9 := (Option.some.inj (Tryz.func9.symm.trans hfn)).symm
      exact ⟨by kernel_rfl, fun j t ht => by
        rw [Tryz.params9] at ht
        have hm : t ∈ [25, 25, 23] := by simpa using Array.mem_of_getElem? ht
        have hall : ([25, 25, 23].all fun u => !Tryz.prog.wantsStandIn u) = true := by kernel_rfl
        exact (show Tryz.prog.wantsStandIn t = false by simpa using List.all_eq_true.1 hall t hm)⟩)
    (by kernel_rfl)
#print axioms proved
end Go.Proofs.YtcndapakkkaojaaGreatDoor.joinParts
