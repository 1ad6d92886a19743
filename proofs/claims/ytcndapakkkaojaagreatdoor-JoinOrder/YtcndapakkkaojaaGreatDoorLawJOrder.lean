/-
  Proved: JoinOrder answers true for every three Parts, and leaves what was handed in as it was; the listed variables hold what the program's text lays. No other condition.
-/
import Derived.Test.YtcndapakkkaojaaGreatDoorJoinAll3
namespace Go.Proofs.YtcndapakkkaojaaGreatDoor.joinOrder
open Go.RowKit Go.ChangeShapes Go.WideShapes Go.ChangeAt
set_option linter.unusedVariables false
set_option linter.unusedSimpArgs false
set_option maxRecDepth 20000

theorem lit_relS {W : World} {b : Nat} {x0 y0 x1 y1 x2 y2 : Value} {r0 r1 r2 : List Int × List (List Int)} (h : W.heap[b]? = some (.cells #[x0, y0, x1, y1, x2, y2] 27 (0, 0))) (h0 : RelV W (.agg #[x0, y0]) r0.1 r0.2) (h1 : RelV W (.agg #[x1, y1]) r1.1 r1.2) (h2 : RelV W (.agg #[x2, y2]) r2.1 r2.2) :
    RelS W (.slice (some ⟨b, 0, none⟩) 3 3) [r0, r1, r2] := by
  refine ⟨_, 3, rfl, by simp, by simp [maxLen], fun i hi => ?_⟩
  have hc : ∀ k, W.cell? ⟨b, k, none⟩ = #[x0, y0, x1, y1, x2, y2][k]? := fun k => by simp only [World.cell?, h]; simp
  match i, hi with
  | 0, _ => exact ⟨b, 0, x0, y0, rfl, by rw [hc]; rfl, by rw [hc]; rfl, h0⟩
  | 1, _ => exact ⟨b, 0, x1, y1, rfl, by rw [hc]; rfl, by rw [hc]; rfl, h1⟩
  | 2, _ => exact ⟨b, 0, x2, y2, rfl, by rw [hc]; rfl, by rw [hc]; rfl, h2⟩

theorem all3_ok {s u t S : List Int} {la lb lc J : List (List Int)} {v : Value} {w : World} (h : RelS w v [(s, la), (u, lb), (t, lc)]) (g : Fine s la 12) (g' : Fine u lb 12) (g'' : Fine t lc 12) (h1 : s.length ≤ 3) (h2 : u.length ≤ 3) (h3 : t.length ≤ 3)
    (e1 : joinL (joinL s u) t = S) (e2 : joinR (joinL s u) (joinR s la u lb) t lc = J) :
    Calls Tryz.prog 23 #[v, .int .i64 10000] w fun e w' => ∃ x, e = .returned (.tuple #[x, .int .i64 0]) ∧ RelV w' x S J ∧ Below w.heap.size w w' := by
  have a0 : allR [] = ([], [[]]) := rfl
  have a1 : allR [(s, la)] = (s, la) := by
    show (joinL [] s, joinR [] [[]] s la) = _
    rw [nil_joinS g.asc, unit_join g]
  have a2 : allR [(s, la), (u, lb)] = (joinL s u, joinR s la u lb) := by
    show stepR (allR [(s, la)]) (u, lb) = _
    rw [a1]; rfl
  have a3 : allR [(s, la), (u, lb), (t, lc)] = (S, J) := by
    show stepR (allR [(s, la), (u, lb)]) (t, lc) = _
    rw [a2]; unfold stepR; rw [e1, e2]
  have gj := g.join g' (by omega)
  have n1 := g.llen
  have n2 := gj.llen
  have c0 : cntR [(s, la), (u, lb), (t, lc)] 0 ≤ 12 := by
    show (pairR (allR []).1 (allR []).2 s la).length ≤ 12
    rw [a0]; exact Nat.le_trans (pair_le [] s la [[]]) (by show 1 * la.length ≤ 12; omega)
  have c1 : cntR [(s, la), (u, lb), (t, lc)] 1 ≤ 144 := by
    show (pairR (allR [(s, la)]).1 (allR [(s, la)]).2 u lb).length ≤ 144
    rw [a1]; exact Nat.le_trans (pair_le s u lb la) (Nat.mul_le_mul n1 g'.llen)
  have c2 : cntR [(s, la), (u, lb), (t, lc)] 2 ≤ 1728 := by
    show (pairR (allR [(s, la), (u, lb)]).1 (allR [(s, la), (u, lb)]).2 t lc).length ≤ 1728
    rw [a2]; exact Nat.le_trans (pair_le _ t lc _) (Nat.mul_le_mul n2 g''.llen)
  have call : ∀ k, k < 3 → (cntR [(s, la), (u, lb), (t, lc)] k : Int) ≤ 10000 := fun k hk => by
    match k, hk with
    | 0, _ => omega
    | 1, _ => omega
    | 2, _ => omega
  refine (all_any h (fun r hr => ?_) (by simp) (fun k hk _ => ?_)).mono fun e w' ⟨h1, h2⟩ => ?_
  · simp at hr
    rcases hr with rfl | rfl | rfl
    · exact ⟨g, h1⟩
    · exact ⟨g', h2⟩
    · exact ⟨g'', h3⟩
  · match k, hk with
    | 0, _ => show (allR []).2.length ≤ 5000; rw [a0]; simp
    | 1, _ => show (allR [(s, la)]).2.length ≤ 5000; rw [a1]; show la.length ≤ 5000; omega
    | 2, _ => show (allR [(s, la), (u, lb)]).2.length ≤ 5000; rw [a2]; show (joinR s la u lb).length ≤ 5000; omega
  · rcases h1 with ⟨x, y, e1, h3, _⟩ | ⟨_, k, hk, _, h3⟩
    · rw [a3] at h3; exact ⟨_, e1, h3, h2⟩
    · have := call k hk; omega

set_option maxHeartbeats 32000000 in
theorem walk {l0 l1 l2 : List Int} {k0 k1 k2 : List (List Int)} {v0 v1 v2 : Value} {w : World} (i0 : RelV w v0 l0 k0) (i1 : RelV w v1 l1 k1) (i2 : RelV w v2 l2 k2) :
    Calls Tryz.prog 5 #[v0, v1, v2] w fun e w' => e = .returned (.bool true) ∧ Below w.heap.size w w' := by
  obtain ⟨a0, c0, b0, d0, rfl, _, f0, _, g0, s0, t0⟩ := i0.form
  obtain ⟨a1, c1, b1, d1, rfl, _, f1, _, g1, s1, t1⟩ := i1.form
  obtain ⟨a2, c2, b2, d2, rfl, _, f2, _, g2, s2, t2⟩ := i2.form
  unfold maxLen at f0 g0 f1 g1 f2 g2
  obtain ⟨W0, hW0⟩ : ∃ W, W = (((w.alloc (.cells #[.slice a0 l0.length c0, .slice b0 k0.length d0] 25)).alloc (.cells #[.slice a1 l1.length c1, .slice b1 k1.length d1] 25)).alloc (.cells #[.slice a2 l2.length c2, .slice b2 k2.length d2] 25)) := ⟨_, rfl⟩
  have hB : Below w.heap.size w W0 := by rw [hW0]; exact (((Below.refl w.heap.size w).alloc (Nat.le_refl _) (.cells #[.slice a0 l0.length c0, .slice b0 k0.length d0] 25)).alloc (by simp; try omega) (.cells #[.slice a1 l1.length c1, .slice b1 k1.length d1] 25)).alloc (by simp; try omega) (.cells #[.slice a2 l2.length c2, .slice b2 k2.length d2] 25)
  have p0 : BoxP W0 (w.heap.size) (.slice a0 l0.length c0) (.slice b0 k0.length d0) := by rw [hW0]; have := ((BoxP.new w (.slice a0 l0.length c0) (.slice b0 k0.length d0)).push (.cells #[.slice a1 l1.length c1, .slice b1 k1.length d1] 25)).push (.cells #[.slice a2 l2.length c2, .slice b2 k2.length d2] 25); exact this
  have p1 : BoxP W0 (w.heap.size + 1) (.slice a1 l1.length c1) (.slice b1 k1.length d1) := by rw [hW0]; have := (BoxP.new (w.alloc (.cells #[.slice a0 l0.length c0, .slice b0 k0.length d0] 25)) (.slice a1 l1.length c1) (.slice b1 k1.length d1)).push (.cells #[.slice a2 l2.length c2, .slice b2 k2.length d2] 25); simpa using this
  have p2 : BoxP W0 (w.heap.size + 1 + 1) (.slice a2 l2.length c2) (.slice b2 k2.length d2) := by rw [hW0]; have := BoxP.new ((w.alloc (.cells #[.slice a0 l0.length c0, .slice b0 k0.length d0] 25)).alloc (.cells #[.slice a1 l1.length c1, .slice b1 k1.length d1] 25)) (.slice a2 l2.length c2) (.slice b2 k2.length d2); simpa using this
  replace s0 := s0.below hB
  replace t0 := t0.below hB
  replace s1 := s1.below hB
  replace t1 := t1.below hB
  replace s2 := s2.below hB
  replace t2 := t2.below hB
  have HW0 := hide hW0
  clear hW0 i0 i1 i2
  have G := hide (fine_small l0 k0)
  have G' := hide (fine_small l1 k1)
  have G'' := hide (fine_small l2 k2)
  have h1 := smallS3_len l0
  have h2 := smallS3_len l1
  have h3 := smallS3_len l2
  go_enter Tryz.func5, Tryz.ntmps5
  go_wp2_with fail
  rw [← unhide HW0]
  refine (shown3_any _).mono ?_
  rintro e w1 ⟨rfl, hb⟩
  replace s0 := s0.below hb
  replace t0 := t0.below hb
  replace p0 := p0.belowH hb
  replace s1 := s1.below hb
  replace t1 := t1.below hb
  replace p1 := p1.belowH hb
  replace s2 := s2.below hb
  replace t2 := t2.below hb
  replace p2 := p2.belowH hb
  replace hB := hB.trans (hb.mono hB.size)
  clear hb
  have c0_p0 := p0.cell0
  have c1_p0 := p0.cell1
  have c0_p1 := p1.cell0
  have c1_p1 := p1.cell1
  have c0_p2 := p2.cell0
  have c1_p2 := p2.cell1
  go_wp2_with fail
  refine (small3_any s0 t0).mono ?_
  rintro e w101 ⟨u_a, rfl, a, hb⟩
  replace s1 := s1.below hb
  replace t1 := t1.below hb
  replace s2 := s2.below hb
  replace t2 := t2.below hb
  replace p0 := p0.belowH hb
  replace p1 := p1.belowH hb
  replace p2 := p2.belowH hb
  replace hB := below_then hB hb
  obtain ⟨a_a, c_a, b_a, d_a, e_a, _, _, _, _, _, _⟩ := a.form
  rw [e_a] at a ⊢
  clear e_a
  clear hb c0_p0 c1_p0 c0_p1 c1_p1 c0_p2 c1_p2
  clear s0 t0 p0
  generalize smallS3 l0 = s at *
  generalize smallR3 l0 k0 = la at *
  have pb := (Below.refl _ w101).alloc (Nat.le_refl _) (.cells #[.slice a_a (s).length c_a, .slice b_a (la).length d_a] 27)
  replace a := a.below pb
  replace s1 := s1.below pb
  replace t1 := t1.below pb
  replace s2 := s2.below pb
  replace t2 := t2.below pb
  replace p1 := p1.push (.cells #[.slice a_a (s).length c_a, .slice b_a (la).length d_a] 27)
  replace p2 := p2.push (.cells #[.slice a_a (s).length c_a, .slice b_a (la).length d_a] 27)
  have xa := Box.new w101 (.slice a_a (s).length c_a) (.slice b_a (la).length d_a)
  replace hB := below_then hB pb
  clear pb
  have c0_p1 := p1.cell0
  have c1_p1 := p1.cell1
  have c0_p2 := p2.cell0
  have c1_p2 := p2.cell1
  have c0_xa := xa.cell0
  have c1_xa := xa.cell1
  go_wp2_with fail
  refine (small3_any s1 t1).mono ?_
  rintro e w102 ⟨u_b, rfl, b, hb⟩
  replace a := a.below hb
  replace s2 := s2.below hb
  replace t2 := t2.below hb
  replace p1 := p1.belowH hb
  replace p2 := p2.belowH hb
  replace xa := xa.belowH hb
  replace hB := below_then hB hb
  obtain ⟨a_b, c_b, b_b, d_b, e_b, _, _, _, _, _, _⟩ := b.form
  rw [e_b] at b ⊢
  clear e_b
  clear hb c0_p1 c1_p1 c0_p2 c1_p2 c0_xa c1_xa
  clear s1 t1 p1
  generalize smallS3 l1 = u at *
  generalize smallR3 l1 k1 = lb at *
  have pb := (Below.refl _ w102).alloc (Nat.le_refl _) (.cells #[.slice a_b (u).length c_b, .slice b_b (lb).length d_b] 27)
  replace a := a.below pb
  replace b := b.below pb
  replace s2 := s2.below pb
  replace t2 := t2.below pb
  replace p2 := p2.push (.cells #[.slice a_b (u).length c_b, .slice b_b (lb).length d_b] 27)
  replace xa := xa.push (.cells #[.slice a_b (u).length c_b, .slice b_b (lb).length d_b] 27)
  have xb := Box.new w102 (.slice a_b (u).length c_b) (.slice b_b (lb).length d_b)
  replace hB := below_then hB pb
  clear pb
  have c0_p2 := p2.cell0
  have c1_p2 := p2.cell1
  have c0_xa := xa.cell0
  have c1_xa := xa.cell1
  have c0_xb := xb.cell0
  have c1_xb := xb.cell1
  go_wp2_with fail
  refine (small3_any s2 t2).mono ?_
  rintro e w103 ⟨u_c, rfl, c, hb⟩
  replace a := a.below hb
  replace b := b.below hb
  replace p2 := p2.belowH hb
  replace xa := xa.belowH hb
  replace xb := xb.belowH hb
  replace hB := below_then hB hb
  obtain ⟨a_c, c_c, b_c, d_c, e_c, _, _, _, _, _, _⟩ := c.form
  rw [e_c] at c ⊢
  clear e_c
  clear hb c0_p2 c1_p2 c0_xa c1_xa c0_xb c1_xb
  clear s2 t2 p2
  generalize smallS3 l2 = t at *
  generalize smallR3 l2 k2 = lc at *
  have pb := (Below.refl _ w103).alloc (Nat.le_refl _) (.cells #[.slice a_c (t).length c_c, .slice b_c (lc).length d_c] 27)
  replace a := a.below pb
  replace b := b.below pb
  replace c := c.below pb
  replace xa := xa.push (.cells #[.slice a_c (t).length c_c, .slice b_c (lc).length d_c] 27)
  replace xb := xb.push (.cells #[.slice a_c (t).length c_c, .slice b_c (lc).length d_c] 27)
  have xc := Box.new w103 (.slice a_c (t).length c_c) (.slice b_c (lc).length d_c)
  replace hB := below_then hB pb
  clear pb
  obtain ⟨S, hS⟩ : ∃ S, joinL (joinL s u) t = S := ⟨_, rfl⟩
  obtain ⟨J, hJ⟩ : ∃ J, joinR (joinL s u) (joinR s la u lb) t lc = J := ⟨_, rfl⟩
  obtain ⟨S3, hS3⟩ : ∃ S, joinL u t = S := ⟨_, rfl⟩
  obtain ⟨J3, hJ3⟩ : ∃ J, joinR u lb t lc = J := ⟨_, rfl⟩
  have gsu := (unhide G).join (unhide G') (by omega)
  have GBC := hide ((unhide G').join (unhide G'') (by omega))
  have E1 := hide (show joinL (joinL t s) u = S by rw [joinS_assoc (unhide G'').asc (unhide G).asc (unhide G').asc, joinS_comm (unhide G'').asc gsu.asc]; exact hS)
  have E2 := hide (show joinR (joinL t s) (joinR t lc s la) u lb = J by rw [join_assoc (unhide G'') (unhide G) (unhide G') (by omega), join_comm (unhide G'') gsu]; exact hJ)
  have E3 := hide (show joinL s S3 = S by rw [← hS3, ← joinS_assoc (unhide G).asc (unhide G').asc (unhide G'').asc]; exact hS)
  have E4 := hide (show joinR s la S3 J3 = J by rw [← hS3, ← hJ3, ← join_assoc (unhide G) (unhide G') (unhide G'') (by omega)]; exact hJ)
  rw [hS3, hJ3] at GBC
  have H3 := hide (Nat.le_trans (pair_le u t lc lb) (Nat.mul_le_mul (unhide G').llen (unhide G'').llen))
  have H4 := hide (Nat.le_trans (pair_le s S3 J3 la) (Nat.mul_le_mul (unhide G).llen (unhide GBC).llen))
  have HS := hide hS
  have HJ := hide hJ
  have HS3 := hide hS3
  have HJ3 := hide hJ3
  clear hS hJ hS3 hJ3 gsu
  have c0_xa := xa.cell0
  have c1_xa := xa.cell1
  have c0_xb := xb.cell0
  have c1_xb := xb.cell1
  have c0_xc := xc.cell0
  have c1_xc := xc.cell1
  have pb := (Below.refl _ (w103.alloc (.cells #[.slice a_c (t).length c_c, .slice b_c (lc).length d_c] 27))).alloc (Nat.le_refl _) (.cells #[.slice a_a (s).length c_a, .slice b_a (la).length d_a, .slice a_b (u).length c_b, .slice b_b (lb).length d_b, .slice a_c (t).length c_c, .slice b_c (lc).length d_c] 27)
  have hls := (lit_relS (r0 := (s, la)) (r1 := (u, lb)) (r2 := (t, lc)) (heap_alloc_new (w103.alloc (.cells #[.slice a_c (t).length c_c, .slice b_c (lc).length d_c] 27)) _) (a.below pb) (b.below pb) (c.below pb))
  simp only [World.size_alloc] at hls
  have HLS := hide hls
  clear hls
  go_wp2_with fail
  refine (all3_ok (unhide HLS) (unhide G) (unhide G') (unhide G'') (by omega) (by omega) (by omega) (unhide HS) (unhide HJ)).mono ?_
  rintro e wA ⟨u_p, rfl, p, hb⟩
  replace hb := below_then pb hb
  replace a := a.below hb
  replace b := b.below hb
  replace c := c.below hb
  replace xa := xa.belowH hb
  replace xb := xb.belowH hb
  replace xc := xc.belowH hb
  replace hB := below_then hB hb
  obtain ⟨a_p, c_p, b_p, d_p, e_p, _, _, _, _, _, _⟩ := p.form
  rw [e_p] at p ⊢
  clear e_p
  clear hb pb HLS c0_xa c1_xa c0_xb c1_xb c0_xc c1_xc
  
  have pb := (Below.refl _ wA).alloc (Nat.le_refl _) (.cells #[.slice a_p (S).length c_p, .slice b_p (J).length d_p] 27)
  replace a := a.below pb
  replace b := b.below pb
  replace c := c.below pb
  replace p := p.below pb
  replace xa := xa.push (.cells #[.slice a_p (S).length c_p, .slice b_p (J).length d_p] 27)
  replace xb := xb.push (.cells #[.slice a_p (S).length c_p, .slice b_p (J).length d_p] 27)
  replace xc := xc.push (.cells #[.slice a_p (S).length c_p, .slice b_p (J).length d_p] 27)
  have xp := Box.new wA (.slice a_p (S).length c_p) (.slice b_p (J).length d_p)
  replace hB := below_then hB pb
  clear pb
  have c0_xa := xa.cell0
  have c1_xa := xa.cell1
  have c0_xb := xb.cell0
  have c1_xb := xb.cell1
  have c0_xc := xc.cell0
  have c1_xc := xc.cell1
  have c0_xp := xp.cell0
  have c1_xp := xp.cell1
  have pb := (Below.refl _ (wA.alloc (.cells #[.slice a_p (S).length c_p, .slice b_p (J).length d_p] 27))).alloc (Nat.le_refl _) (.cells #[.slice a_c (t).length c_c, .slice b_c (lc).length d_c, .slice a_a (s).length c_a, .slice b_a (la).length d_a, .slice a_b (u).length c_b, .slice b_b (lb).length d_b] 27)
  have hls := (lit_relS (r0 := (t, lc)) (r1 := (s, la)) (r2 := (u, lb)) (heap_alloc_new (wA.alloc (.cells #[.slice a_p (S).length c_p, .slice b_p (J).length d_p] 27)) _) (c.below pb) (a.below pb) (b.below pb))
  simp only [World.size_alloc] at hls
  have HLS := hide hls
  clear hls
  go_wp2_with fail
  refine (all3_ok (unhide HLS) (unhide G'') (unhide G) (unhide G') (by omega) (by omega) (by omega) (unhide E1) (unhide E2)).mono ?_
  rintro e wB ⟨u_q, rfl, q, hb⟩
  replace hb := below_then pb hb
  replace a := a.below hb
  replace b := b.below hb
  replace c := c.below hb
  replace p := p.below hb
  replace xa := xa.belowH hb
  replace xb := xb.belowH hb
  replace xc := xc.belowH hb
  replace xp := xp.belowH hb
  replace hB := below_then hB hb
  obtain ⟨a_q, c_q, b_q, d_q, e_q, _, _, _, _, _, _⟩ := q.form
  rw [e_q] at q ⊢
  clear e_q
  clear hb pb HLS c0_xa c1_xa c0_xb c1_xb c0_xc c1_xc c0_xp c1_xp
  
  have pb := (Below.refl _ wB).alloc (Nat.le_refl _) (.cells #[.slice a_q (S).length c_q, .slice b_q (J).length d_q] 27)
  replace a := a.below pb
  replace b := b.below pb
  replace c := c.below pb
  replace p := p.below pb
  replace q := q.below pb
  replace xa := xa.push (.cells #[.slice a_q (S).length c_q, .slice b_q (J).length d_q] 27)
  replace xb := xb.push (.cells #[.slice a_q (S).length c_q, .slice b_q (J).length d_q] 27)
  replace xc := xc.push (.cells #[.slice a_q (S).length c_q, .slice b_q (J).length d_q] 27)
  replace xp := xp.push (.cells #[.slice a_q (S).length c_q, .slice b_q (J).length d_q] 27)
  have xq := Box.new wB (.slice a_q (S).length c_q) (.slice b_q (J).length d_q)
  replace hB := below_then hB pb
  clear pb
  have c0_xa := xa.cell0
  have c1_xa := xa.cell1
  have c0_xb := xb.cell0
  have c1_xb := xb.cell1
  have c0_xc := xc.cell0
  have c1_xc := xc.cell1
  have c0_xp := xp.cell0
  have c1_xp := xp.cell1
  have c0_xq := xq.cell0
  have c1_xq := xq.cell1
  go_wp2_with fail
  refine (join_eq (most := 10000) b c (unhide G') (unhide G'') (by omega) (by omega) (by omega) (by have := unhide H3; omega) (unhide HS3) (unhide HJ3)).mono ?_
  rintro e w104 ⟨u_d, rfl, d, hb⟩
  replace a := a.below hb
  replace b := b.below hb
  replace c := c.below hb
  replace p := p.below hb
  replace q := q.below hb
  replace xa := xa.belowH hb
  replace xb := xb.belowH hb
  replace xc := xc.belowH hb
  replace xp := xp.belowH hb
  replace xq := xq.belowH hb
  replace hB := below_then hB hb
  obtain ⟨a_d, c_d, b_d, d_d, e_d, _, _, _, _, _, _⟩ := d.form
  rw [e_d] at d ⊢
  clear e_d
  clear hb c0_xa c1_xa c0_xb c1_xb c0_xc c1_xc c0_xp c1_xp c0_xq c1_xq
  have pb := (Below.refl _ w104).alloc (Nat.le_refl _) (.cells #[.slice a_d (S3).length c_d, .slice b_d (J3).length d_d] 27)
  replace a := a.below pb
  replace p := p.below pb
  replace q := q.below pb
  replace d := d.below pb
  replace xa := xa.push (.cells #[.slice a_d (S3).length c_d, .slice b_d (J3).length d_d] 27)
  replace xp := xp.push (.cells #[.slice a_d (S3).length c_d, .slice b_d (J3).length d_d] 27)
  replace xq := xq.push (.cells #[.slice a_d (S3).length c_d, .slice b_d (J3).length d_d] 27)
  have xd := Box.new w104 (.slice a_d (S3).length c_d) (.slice b_d (J3).length d_d)
  replace hB := below_then hB pb
  clear pb
  have c0_xa := xa.cell0
  have c1_xa := xa.cell1
  have c0_xp := xp.cell0
  have c1_xp := xp.cell1
  have c0_xq := xq.cell0
  have c1_xq := xq.cell1
  have c0_xd := xd.cell0
  have c1_xd := xd.cell1
  go_wp2_with fail
  refine (join_eq (most := 10000) a d (unhide G) (unhide GBC) (by omega) (by omega) (by omega) (by have := unhide H4; omega) (unhide E3) (unhide E4)).mono ?_
  rintro e w105 ⟨u_f, rfl, f, hb⟩
  replace p := p.below hb
  replace q := q.below hb
  replace xa := xa.belowH hb
  replace xp := xp.belowH hb
  replace xq := xq.belowH hb
  replace xd := xd.belowH hb
  replace hB := below_then hB hb
  obtain ⟨a_f, c_f, b_f, d_f, e_f, _, _, _, _, _, _⟩ := f.form
  rw [e_f] at f ⊢
  clear e_f
  clear hb c0_xa c1_xa c0_xp c1_xp c0_xq c1_xq c0_xd c1_xd
  have pb := (Below.refl _ w105).alloc (Nat.le_refl _) (.cells #[.slice a_f (S).length c_f, .slice b_f (J).length d_f] 27)
  replace p := p.below pb
  replace q := q.below pb
  replace f := f.below pb
  replace xp := xp.push (.cells #[.slice a_f (S).length c_f, .slice b_f (J).length d_f] 27)
  replace xq := xq.push (.cells #[.slice a_f (S).length c_f, .slice b_f (J).length d_f] 27)
  have xf := Box.new w105 (.slice a_f (S).length c_f) (.slice b_f (J).length d_f)
  replace hB := below_then hB pb
  clear pb
  have c0_xp := xp.cell0
  have c1_xp := xp.cell1
  have c0_xq := xq.cell0
  have c1_xq := xq.cell1
  have c0_xf := xf.cell0
  have c1_xf := xf.cell1
  go_wp2_with fail
  refine (same_yes p q rfl rfl).mono ?_
  rintro e w106 ⟨rfl, hb⟩
  replace p := p.below hb
  replace f := f.below hb
  replace xp := xp.belowH hb
  replace xq := xq.belowH hb
  replace xf := xf.belowH hb
  replace hB := below_then hB hb
  clear hb c0_xp c1_xp c0_xq c1_xq c0_xf c1_xf
  have c0_xp := xp.cell0
  have c1_xp := xp.cell1
  have c0_xf := xf.cell0
  have c1_xf := xf.cell1
  go_wp2_with fail
  refine (same_yes p f rfl rfl).mono ?_
  rintro e w107 ⟨rfl, hb⟩
  replace xp := xp.belowH hb
  replace xf := xf.belowH hb
  replace hB := below_then hB hb
  clear hb c0_xp c1_xp c0_xf c1_xf
  go_wp2
  go_ret
  exact ⟨rfl, hB⟩

set_option maxRecDepth 100000 in
theorem lifted (os : Os) (started : os.Started) (H : Type) (enc : TypeId × Value → H) :
    ReturnsInHanded {} Tryz.checked os 5 .any (fun w args => (Rows.joinOrderSpec.pre enc Tryz.prog Tryz.f5 [] false w args ∧ laidMetH Tryz.prog laidIn w) ∧ sizedMet enc Tryz.prog Tryz.f5 (OpenSpec.ofChange Rows.joinOrderSpec) false w args)
      (Rows.joinOrderSpec.post enc Tryz.prog Tryz.f5 false true false false) := by
  refine returnsInHanded_of_change_and (C := Tryz.checked) (X := fun w _ => laidMetH Tryz.prog laidIn w) (fun _ _ _ hh h => h.of_heap hh) own started (by kernel_rfl) Tryz.func5
    (ChangeSpec.witness_shaped (enc := enc) (C := Tryz.checked) (os := os) (X := fun w _ => laidMetH Tryz.prog laidIn w) false (World.doorLaid Tryz.prog doorN os) #[.agg #[.slice none 0 0, .slice none 0 0], .agg #[.slice none 0 0, .slice none 0 0], .agg #[.slice none 0 0, .slice none 0 0]] 8 rfl (World.shaped_of_RefB (by kernel_rfl) (by kernel_rfl)) (by kernel_rfl) (by kernel_rfl) (by kernel_rfl) (door_met os _)) ?_
  intro W base args ds gs before hval0 hW _ _ _ _
  have hval : ∀ (j : Nat) t v, Tryz.f5.params[j]? = some t → args[j]? = some v → Value.okWide Tryz.prog W .any base t v := hval0
  have hW' := hW
  obtain ⟨p, q, hA0, hV, rfl, hfz, hnd⟩ := hW
  have hA : DataW.TrodAll enc Tryz.prog W 0 (fun _ => true) true Tryz.f5.params.toList args.toList ds p := hA0
  rw [Tryz.params5] at hA hval
  obtain ⟨v0, vs0, d0, ds0, p0, q0, hargs, rfl, rfl, h0, r0⟩ := trodAll_cons hA
  obtain ⟨v1, vs1, d1, ds1, p1, q1, rfl, rfl, rfl, h1, r1⟩ := trodAll_cons r0
  obtain ⟨v2, vs2, d2, ds2, p2, q2, rfl, rfl, rfl, h2, r2⟩ := trodAll_cons r1
  obtain ⟨rfl, rfl, rfl⟩ := trodAll_nil r2
  obtain rfl : args = #[v0, v1, v2] := by cases args; simp_all
  obtain ⟨rfl, rfl⟩ := trodVars_none hV
  obtain ⟨l0, k0, i0, m0, n0⟩ := read_part h0 (hval 0 25 v0 rfl rfl)
  have lt0 : ∀ x ∈ p0, x.block < W.heap.size := by obtain ⟨m, hm⟩ := h0; exact DataW.trod_lt m _ _ _ hm
  obtain ⟨l1, k1, i1, m1, n1⟩ := read_part h1 (hval 1 25 v1 rfl rfl)
  have lt1 : ∀ x ∈ p1, x.block < W.heap.size := by obtain ⟨m, hm⟩ := h1; exact DataW.trod_lt m _ _ _ hm
  obtain ⟨l2, k2, i2, m2, n2⟩ := read_part h2 (hval 2 25 v2 rfl rfl)
  have lt2 : ∀ x ∈ p2, x.block < W.heap.size := by obtain ⟨m, hm⟩ := h2; exact DataW.trod_lt m _ _ _ hm
  clear hA0 hval0
  refine (walk i0 i1 i2).mono fun e W' ⟨he, bel⟩ => ?_
  subst he
  exact ⟨_, rfl, _, _, _, [], _, [], hW', trodAll_mk1 (shut_bool Tryz.underlying4 _), (trodAll_cons_mk (Below.trod laidOut (by kernel_rfl) (of_decide_eq_true (by kernel_rfl)) h0 bel lt0) (trodAll_cons_mk (Below.trod laidOut (by kernel_rfl) (of_decide_eq_true (by kernel_rfl)) h1 bel lt1) (trodAll_cons_mk (Below.trod laidOut (by kernel_rfl) (of_decide_eq_true (by kernel_rfl)) h2 bel lt2) trodAll_mk0))), rfl, bel.frame _, fun h => by cases h⟩

theorem over : Rows.joinOrderRow.holds Tryz.pinned (OpenSpec.ofChange Rows.joinOrderSpec) :=
  OpenClaim.holds_of_wide 5 Tryz.f5 rfl rfl rfl rfl rfl rfl rfl ⟨rfl, rfl, rfl, rfl, rfl⟩ rfl rfl rfl rfl rfl (by kernel_rfl) Tryz.func5 (by kernel_rfl)
    (of_decide_eq_true (by kernel_rfl)) (by unfold Func.isWrapper; first | (rw [if_pos (by decide +kernel)]; kernel_rfl) | (rw [if_neg (by decide +kernel)]; exact ⟨rfl, rfl⟩))
    (fun os started H enc _ => lifted os started H enc)

/-- The statement: the tied card. -/
theorem proved : Rows.JoinOrderCardSaid :=
  Claim7.holds_tied_plain_at .later [] [.data, .data, .data] true (true, "7888708df1aa7c808ebd15fb47d32b01dabe941ed2c526b83533b5aed37430b1") false
    over (fun _ h => by cases h) (by kernel_rfl) (fun _ h => by cases h) joinOrder_row_tie rfl ⟨rfl, rfl⟩ (by kernel_rfl) rfl
    (fun f fn hf hfn => by
      obtain rfl : f = 5 := Option.some.inj ((show Tryz.prog.funcNamed "arborist/arboristlaw03.JoinOrder" = some 5 by kernel_rfl).symm.trans hf) |>.symm
      obtain rfl : fn = Tryz.f5 := (Option.some.inj (Tryz.func5.symm.trans hfn)).symm
      exact ⟨by kernel_rfl, fun j t ht => by
        rw [Tryz.params5] at ht
        have hm : t ∈ [25, 25, 25] := by simpa using Array.mem_of_getElem? ht
        have hall : ([25, 25, 25].all fun u => !Tryz.prog.wantsStandIn u) = true := by kernel_rfl
        exact (show Tryz.prog.wantsStandIn t = false by simpa using List.all_eq_true.1 hall t hm)⟩)
    (by kernel_rfl)
#print axioms proved
end Go.Proofs.YtcndapakkkaojaaGreatDoor.joinOrder
