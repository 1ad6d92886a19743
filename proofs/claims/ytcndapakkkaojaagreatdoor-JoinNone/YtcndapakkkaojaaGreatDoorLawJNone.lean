/-
  Proved: JoinNone answers true for every two Parts, and leaves what was handed in as it was; the listed variables hold what the program's text lays. No other condition.
-/
import Derived.Test.YtcndapakkkaojaaGreatDoorLawKit3
namespace Go.Proofs.YtcndapakkkaojaaGreatDoor.joinNone
open Go.RowKit Go.ChangeShapes Go.WideShapes Go.ChangeAt
set_option linter.unusedVariables false
set_option linter.unusedSimpArgs false
set_option maxRecDepth 20000

theorem agree_none {s u : List Int} {la : List (List Int)} {n : Nat} (g : Fine s la n) (g' : Fine u [] 0) : agreeB s la u [] = decide ((la.length : Int) = 0) := by
  rw [Bool.eq_iff_iff, agree_iff g g']
  constructor
  · rintro ⟨h, _⟩
    rw [semi_nil] at h
    subst h; rfl
  · intro h
    have : la = [] := List.length_eq_zero_iff.1 (by simpa using h)
    subst this
    exact ⟨rfl, rfl⟩

set_option maxHeartbeats 16000000 in
theorem walk {l0 l1 : List Int} {k0 k1 : List (List Int)} {v0 v1 : Value} {w : World} (i0 : RelV w v0 l0 k0) (i1 : RelV w v1 l1 k1) :
    Calls Tryz.prog 11 #[v0, v1] w fun e w' => e = .returned (.bool true) ∧ Below w.heap.size w w' := by
  obtain ⟨a0, c0, b0, d0, rfl, _, f0, _, g0, s0, t0⟩ := i0.form
  obtain ⟨a1, c1, b1, d1, rfl, _, f1, _, g1, s1, t1⟩ := i1.form
  unfold maxLen at f0 g0 f1 g1
  obtain ⟨W0, hW0⟩ : ∃ W, W = ((w.alloc (.cells #[.slice a0 l0.length c0, .slice b0 k0.length d0] 25)).alloc (.cells #[.slice a1 l1.length c1, .slice b1 k1.length d1] 25)) := ⟨_, rfl⟩
  have hB : Below w.heap.size w W0 := by rw [hW0]; exact ((Below.refl w.heap.size w).alloc (Nat.le_refl _) (.cells #[.slice a0 l0.length c0, .slice b0 k0.length d0] 25)).alloc (by simp; try omega) (.cells #[.slice a1 l1.length c1, .slice b1 k1.length d1] 25)
  have p0 : BoxP W0 (w.heap.size) (.slice a0 l0.length c0) (.slice b0 k0.length d0) := by rw [hW0]; have := (BoxP.new w (.slice a0 l0.length c0) (.slice b0 k0.length d0)).push (.cells #[.slice a1 l1.length c1, .slice b1 k1.length d1] 25); exact this
  have p1 : BoxP W0 (w.heap.size + 1) (.slice a1 l1.length c1) (.slice b1 k1.length d1) := by rw [hW0]; have := BoxP.new (w.alloc (.cells #[.slice a0 l0.length c0, .slice b0 k0.length d0] 25)) (.slice a1 l1.length c1) (.slice b1 k1.length d1); simpa using this
  replace s0 := s0.below hB
  replace t0 := t0.below hB
  replace s1 := s1.below hB
  replace t1 := t1.below hB
  have HW0 := hide hW0
  clear hW0 i0 i1
  have hf0 := run_scheme
  have hf1 := run_rows
  have G := hide (fine_small l0 k0)
  have GY := hide (fine_small l1 [])
  go_enter Tryz.func11, Tryz.ntmps11
  go_wp2_with fail
  rw [← unhide HW0]
  refine (shown3_any _).mono ?_
  rintro e w1 ⟨rfl, hb⟩
  replace s0 := s0.below hb
  replace t0 := t0.below hb
  replace s1 := s1.below hb
  replace p0 := p0.belowH hb
  replace p1 := p1.belowH hb
  replace hB := hB.trans (hb.mono hB.size)
  clear hb t1
  have c0_p0 := p0.cell0
  have c1_p0 := p0.cell1
  have c0_p1 := p1.cell0
  have c1_p1 := p1.cell1
  go_wp2_with fail
  refine (small3_any s0 t0).mono ?_
  rintro e w101 ⟨u_r, rfl, r, hb⟩
  replace s1 := s1.below hb
  replace p0 := p0.belowH hb
  replace p1 := p1.belowH hb
  replace hB := below_then hB hb
  obtain ⟨a_r, c_r, b_r, d_r, e_r, _, _, _, _, _, _⟩ := r.form
  rw [e_r] at r ⊢
  clear e_r
  clear hb c0_p0 c1_p0 c0_p1 c1_p1
  clear s0 t0 p0
  generalize smallS3 l0 = s at *
  generalize smallR3 l0 k0 = ll at *
  have pb := (Below.refl _ w101).alloc (Nat.le_refl _) (.cells #[.slice a_r (s).length c_r, .slice b_r (ll).length d_r] 27)
  replace r := r.below pb
  replace s1 := s1.below pb
  replace p1 := p1.push (.cells #[.slice a_r (s).length c_r, .slice b_r (ll).length d_r] 27)
  have xr := Box.new w101 (.slice a_r (s).length c_r) (.slice b_r (ll).length d_r)
  replace hB := below_then hB pb
  clear pb
  have c0_p1 := p1.cell0
  have c1_p1 := p1.cell1
  have c0_xr := xr.cell0
  have c1_xr := xr.cell1
  go_wp2_with fail
  refine (small3_any s1 (Tups.none _)).mono ?_
  rintro e w102 ⟨u_y, rfl, y, hb⟩
  replace r := r.below hb
  replace p1 := p1.belowH hb
  replace xr := xr.belowH hb
  replace hB := below_then hB hb
  obtain ⟨a_y, c_y, b_y, d_y, e_y, _, _, _, _, _, _⟩ := y.form
  rw [e_y] at y ⊢
  clear e_y
  clear hb c0_p1 c1_p1 c0_xr c1_xr
  clear s1 p1
  have GU := hide (unhide GY).none
  generalize smallS3 l1 = u at *
  generalize smallR3 l1 [] = lu at *
  have n0 : RelV _ (.agg #[.slice a_y u.length c_y, .slice none 0 0]) u [] := ⟨_, _, rfl, y.ints, Tups.none _⟩
  clear y GY
  have pb := (Below.refl _ w102).alloc (Nat.le_refl _) (.cells #[.slice a_y u.length c_y, .slice none 0 0] 27)
  replace r := r.below pb
  replace n0 := n0.below pb
  replace xr := xr.push (.cells #[.slice a_y u.length c_y, .slice none 0 0] 27)
  have xn := Box.new w102 (.slice a_y u.length c_y) (.slice none 0 0)
  replace hB := below_then hB pb
  clear pb
  obtain ⟨S, hS⟩ : ∃ S, S = joinL s u := ⟨_, rfl⟩
  obtain ⟨E, hE⟩ : ∃ E : List (List Int), E = [] := ⟨_, rfl⟩
  have HE := hide hE
  have HS := hide hS
  have HS2 := hide (hS.trans (joinS_comm (unhide G).asc (unhide GU).asc))
  clear hS hE
  have c0_xr := xr.cell0
  have c1_xr := xr.cell1
  have c0_xn := xn.cell0
  have c1_xn := xn.cell1
  go_wp2_with fail
  refine (join_eq (most := 0) r n0 (unhide G) (unhide GU) (by omega) (by omega) (by omega) (by rw [pair_nil]; decide) (unhide HS).symm (join_nil.trans (unhide HE).symm)).mono ?_
  rintro e w103 ⟨u_j, rfl, j, hb⟩
  replace r := r.below hb
  replace n0 := n0.below hb
  replace xr := xr.belowH hb
  replace xn := xn.belowH hb
  replace hB := below_then hB hb
  obtain ⟨a_j, c_j, b_j, d_j, e_j, _, _, _, _, _, _⟩ := j.form
  rw [e_j] at j ⊢
  clear e_j
  clear hb c0_xr c1_xr c0_xn c1_xn
  have pb := (Below.refl _ w103).alloc (Nat.le_refl _) (.cells #[.slice a_j (S).length c_j, .slice b_j (E).length d_j] 27)
  replace r := r.below pb
  replace n0 := n0.below pb
  replace j := j.below pb
  replace xr := xr.push (.cells #[.slice a_j (S).length c_j, .slice b_j (E).length d_j] 27)
  replace xn := xn.push (.cells #[.slice a_j (S).length c_j, .slice b_j (E).length d_j] 27)
  have xj := Box.new w103 (.slice a_j (S).length c_j) (.slice b_j (E).length d_j)
  replace hB := below_then hB pb
  clear pb
  have c0_xr := xr.cell0
  have c1_xr := xr.cell1
  have c0_xn := xn.cell0
  have c1_xn := xn.cell1
  have c0_xj := xj.cell0
  have c1_xj := xj.cell1
  go_wp2_with fail
  refine (join_eq (most := 0) n0 r (unhide GU) (unhide G) (by omega) (by omega) (by omega) (by rw [nil_pair]; decide) (unhide HS2).symm (nil_join.trans (unhide HE).symm)).mono ?_
  rintro e w104 ⟨u_k, rfl, k, hb⟩
  replace r := r.below hb
  replace n0 := n0.below hb
  replace j := j.below hb
  replace xr := xr.belowH hb
  replace xn := xn.belowH hb
  replace xj := xj.belowH hb
  replace hB := below_then hB hb
  obtain ⟨a_k, c_k, b_k, d_k, e_k, _, _, _, _, _, _⟩ := k.form
  rw [e_k] at k ⊢
  clear e_k
  clear hb c0_xr c1_xr c0_xn c1_xn c0_xj c1_xj
  have pb := (Below.refl _ w104).alloc (Nat.le_refl _) (.cells #[.slice a_k (S).length c_k, .slice b_k (E).length d_k] 27)
  replace r := r.below pb
  replace n0 := n0.below pb
  replace j := j.below pb
  replace k := k.below pb
  replace xr := xr.push (.cells #[.slice a_k (S).length c_k, .slice b_k (E).length d_k] 27)
  replace xn := xn.push (.cells #[.slice a_k (S).length c_k, .slice b_k (E).length d_k] 27)
  replace xj := xj.push (.cells #[.slice a_k (S).length c_k, .slice b_k (E).length d_k] 27)
  have xk := Box.new w104 (.slice a_k (S).length c_k) (.slice b_k (E).length d_k)
  replace hB := below_then hB pb
  clear pb
  have y0 := xr.cell0
  have y1 := xr.cell1
  have e0 : RelV _ (.agg #[.slice a_r s.length c_r, .slice none 0 0]) s [] := ⟨_, _, rfl, r.ints, Tups.none _⟩
  have pb := (Below.refl _ (w104.alloc (.cells #[.slice a_k (S).length c_k, .slice b_k (E).length d_k] 27))).alloc (Nat.le_refl _) (.cells #[.slice a_r s.length c_r, .slice none 0 0] 27)
  replace r := r.below pb
  replace n0 := n0.below pb
  replace j := j.below pb
  replace k := k.below pb
  replace e0 := e0.below pb
  replace xr := xr.push (.cells #[.slice a_r s.length c_r, .slice none 0 0] 27)
  replace xn := xn.push (.cells #[.slice a_r s.length c_r, .slice none 0 0] 27)
  replace xj := xj.push (.cells #[.slice a_r s.length c_r, .slice none 0 0] 27)
  replace xk := xk.push (.cells #[.slice a_r s.length c_r, .slice none 0 0] 27)
  have xe := Box.new (w104.alloc (.cells #[.slice a_k (S).length c_k, .slice b_k (E).length d_k] 27)) (.slice a_r s.length c_r) (.slice none 0 0)
  simp only [World.size_alloc] at xe
  replace hB := below_then hB pb
  clear pb
  go_wp2
  clear y0 y1
  generalize ((w104.alloc (.cells #[.slice a_k (S).length c_k, .slice b_k (E).length d_k] 27)).alloc (.cells #[.slice a_r s.length c_r, .slice none 0 0] 27)) = W9 at *
  have hE0 : (E.length == 0) = true := by rw [unhide HE]; rfl
  have hE1 : ((E.length : Int) == 0) = true := by rw [unhide HE]; rfl
  have HR := hide r
  have HN := hide n0
  have HJ := hide j
  have HKK := hide k
  have HE0 := hide e0
  have HA1 := hide (show agreeB u [] s [] = true from by rw [agree_none (unhide GU) (unhide G).none]; rfl)
  obtain ⟨q, hq⟩ : ∃ q, q = decide ((ll.length : Int) = 0) := ⟨_, rfl⟩
  have HA2 := hide ((agree_none (unhide G) (unhide GU)).trans hq.symm)
  have hq1 : ((ll.length : Int) == 0) = q := by rw [hq]; exact Bool.eq_iff_iff.2 (by simp)
  have hqq : (q == q) = true := by simp
  have HZ := hide (fun (L : List (List Int)) (h : L = []) => show ((L.length : Int) == 0) = true from by rw [h]; rfl)
  clear r n0 j k e0 hq
  have HK := hide (fun W (hb : Below W9.heap.size W9 W) => (And.intro (And.intro (xr.belowH hb).cell0 (xr.belowH hb).cell1) (And.intro (And.intro (xn.belowH hb).cell0 (xn.belowH hb).cell1) (And.intro (And.intro (xj.belowH hb).cell0 (xj.belowH hb).cell1) (And.intro (And.intro (xk.belowH hb).cell0 (xk.belowH hb).cell1) (And.intro (xe.belowH hb).cell0 (xe.belowH hb).cell1))))))
  have hbR := Below.refl W9.heap.size W9
  clear xr xn xj xk xe
  go_region_held3 (fun W => (W.cell? ⟨w101.heap.size, 0, none⟩ = some (.slice a_r (s).length c_r) ∧ W.cell? ⟨w101.heap.size, 1, none⟩ = some (.slice b_r (ll).length d_r)) ∧ (W.cell? ⟨w102.heap.size, 0, none⟩ = some (.slice a_y u.length c_y) ∧ W.cell? ⟨w102.heap.size, 1, none⟩ = some (.slice none 0 0)) ∧ (W.cell? ⟨w103.heap.size, 0, none⟩ = some (.slice a_j (S).length c_j) ∧ W.cell? ⟨w103.heap.size, 1, none⟩ = some (.slice b_j (E).length d_j)) ∧ (W.cell? ⟨w104.heap.size, 0, none⟩ = some (.slice a_k (S).length c_k) ∧ W.cell? ⟨w104.heap.size, 1, none⟩ = some (.slice b_k (E).length d_k)) ∧ (W.cell? ⟨w104.heap.size + 1, 0, none⟩ = some (.slice a_r s.length c_r) ∧ W.cell? ⟨w104.heap.size + 1, 1, none⟩ = some (.slice none 0 0)))
    (first | exact unhide HK _ (by first | exact hR4 | exact hR3 | exact hR2 | exact hR1  | exact hbR | exact below_same rfl rfl rfl rfl | exact below_then hR4 (below_push rfl rfl rfl rfl) | exact below_then hR4 (below_same rfl rfl rfl rfl)))
    (first
      | (go_at_call 19; refine (agree_q ((unhide HR).below hR3) ((unhide HN).below hR3) (unhide G) (unhide GU) (by omega) (by omega) (unhide HA2)).mono ?_; rintro e w108 ⟨rfl, hq4⟩; have hR4 : Below W9.heap.size W9 w108 := below_then hR3 hq4)
      | (go_at_call 19; refine (agree_q ((unhide HN).below hR2) ((unhide HE0).below hR2) (unhide GU) (unhide G).none (by omega) (by omega) (unhide HA1)).mono ?_; rintro e w107 ⟨rfl, hq3⟩; have hR3 : Below W9.heap.size W9 w107 := below_then hR2 hq3)
      | (go_at_call 17; refine (semi_eq ((unhide HR).below hR1) ((unhide HN).below hR1) (unhide G) (unhide GU) (by omega) (by omega) (semi_nil.trans (unhide HE).symm)).mono ?_; rintro e w106 ⟨u_m, rfl, m, hq2⟩; obtain ⟨a_m, c_m, b_m, d_m, e_m, _, _, _, _, _, _⟩ := m.form; rw [e_m] at m ⊢; clear e_m; have hR2 : Below W9.heap.size W9 w106 := below_then hR1 hq2)
      | (go_at_call 25; refine (same_yes ((unhide HJ).below (by first | exact hbR | exact below_same rfl rfl rfl rfl)) ((unhide HKK).below (by first | exact hbR | exact below_same rfl rfl rfl rfl)) rfl rfl).mono ?_; rintro e w105 ⟨rfl, hq1⟩; have hR1 : Below W9.heap.size W9 w105 := below_then (by first | exact hbR | exact below_same rfl rfl rfl rfl) hq1))
  all_goals
    go_wp2
    go_ret
    exact ⟨rfl, below_then hB hR4⟩

set_option maxRecDepth 100000 in
theorem lifted (os : Os) (started : os.Started) (H : Type) (enc : TypeId × Value → H) :
    ReturnsInHanded {} Tryz.checked os 11 .any (fun w args => (Rows.joinNoneSpec.pre enc Tryz.prog Tryz.f11 [] false w args ∧ laidMetH Tryz.prog laidIn w) ∧ sizedMet enc Tryz.prog Tryz.f11 (OpenSpec.ofChange Rows.joinNoneSpec) false w args)
      (Rows.joinNoneSpec.post enc Tryz.prog Tryz.f11 false true false false) := by
  refine returnsInHanded_of_change_and (C := Tryz.checked) (X := fun w _ => laidMetH Tryz.prog laidIn w) (fun _ _ _ hh h => h.of_heap hh) own started (by kernel_rfl) Tryz.func11
    (ChangeSpec.witness_shaped (enc := enc) (C := Tryz.checked) (os := os) (X := fun w _ => laidMetH Tryz.prog laidIn w) false (World.doorLaid Tryz.prog doorN os) #[.agg #[.slice none 0 0, .slice none 0 0], .agg #[.slice none 0 0, .slice none 0 0]] 8 rfl (World.shaped_of_RefB (by kernel_rfl) (by kernel_rfl)) (by kernel_rfl) (by kernel_rfl) (by kernel_rfl) (door_met os _)) ?_
  intro W base args ds gs before hval0 hW _ _ _ _
  have hval : ∀ (j : Nat) t v, Tryz.f11.params[j]? = some t → args[j]? = some v → Value.okWide Tryz.prog W .any base t v := hval0
  have hW' := hW
  obtain ⟨p, q, hA0, hV, rfl, hfz, hnd⟩ := hW
  have hA : DataW.TrodAll enc Tryz.prog W 0 (fun _ => true) true Tryz.f11.params.toList args.toList ds p := hA0
  rw [Tryz.params11] at hA hval
  obtain ⟨v0, vs0, d0, ds0, p0, q0, hargs, rfl, rfl, h0, r0⟩ := trodAll_cons hA
  obtain ⟨v1, vs1, d1, ds1, p1, q1, rfl, rfl, rfl, h1, r1⟩ := trodAll_cons r0
  obtain ⟨rfl, rfl, rfl⟩ := trodAll_nil r1
  obtain rfl : args = #[v0, v1] := by cases args; simp_all
  obtain ⟨rfl, rfl⟩ := trodVars_none hV
  obtain ⟨l0, k0, i0, m0, n0⟩ := read_part h0 (hval 0 25 v0 rfl rfl)
  have lt0 : ∀ x ∈ p0, x.block < W.heap.size := by obtain ⟨m, hm⟩ := h0; exact DataW.trod_lt m _ _ _ hm
  obtain ⟨l1, k1, i1, m1, n1⟩ := read_part h1 (hval 1 25 v1 rfl rfl)
  have lt1 : ∀ x ∈ p1, x.block < W.heap.size := by obtain ⟨m, hm⟩ := h1; exact DataW.trod_lt m _ _ _ hm
  clear hA0 hval0
  refine (walk i0 i1).mono fun e W' ⟨he, bel⟩ => ?_
  subst he
  exact ⟨_, rfl, _, _, _, [], _, [], hW', trodAll_mk1 (shut_bool Tryz.underlying4 _), (trodAll_cons_mk (Below.trod laidOut (by kernel_rfl) (of_decide_eq_true (by kernel_rfl)) h0 bel lt0) (trodAll_cons_mk (Below.trod laidOut (by kernel_rfl) (of_decide_eq_true (by kernel_rfl)) h1 bel lt1) trodAll_mk0)), rfl, bel.frame _, fun h => by cases h⟩

theorem over : Rows.joinNoneRow.holds Tryz.pinned (OpenSpec.ofChange Rows.joinNoneSpec) :=
  OpenClaim.holds_of_wide 11 Tryz.f11 rfl rfl rfl rfl rfl rfl rfl ⟨rfl, rfl, rfl, rfl, rfl⟩ rfl rfl rfl rfl rfl (by kernel_rfl) Tryz.func11 (by kernel_rfl)
    (of_decide_eq_true (by kernel_rfl)) (by unfold Func.isWrapper; first | (rw [if_pos (by decide +kernel)]; kernel_rfl) | (rw [if_neg (by decide +kernel)]; exact ⟨rfl, rfl⟩))
    (fun os started H enc _ => lifted os started H enc)

/-- The statement: the tied card. -/
theorem proved : Rows.JoinNoneCardSaid :=
  Claim7.holds_tied_plain_at .later [] [.data, .data, .data] true (true, "7888708df1aa7c808ebd15fb47d32b01dabe941ed2c526b83533b5aed37430b1") false
    over (fun _ h => by cases h) (by kernel_rfl) (fun _ h => by cases h) joinNone_row_tie rfl ⟨rfl, rfl⟩ (by kernel_rfl) rfl
    (fun f fn hf hfn => by
      obtain rfl : f = 11 := Option.some.inj ((show Tryz.prog.funcNamed "arborist/arboristlaw03.JoinNone" = some 11 by kernel_rfl).symm.trans hf) |>.symm
      obtain rfl : fn = Tryz.f11 := (Option.some.inj (Tryz.func11.symm.trans hfn)).symm
      exact ⟨by kernel_rfl, fun j t ht => by
        rw [Tryz.params11] at ht
        have hm : t ∈ [25, 25] := by simpa using Array.mem_of_getElem? ht
        have hall : ([25, 25].all fun u => !Tryz.prog.wantsStandIn u) = true := by kernel_rfl
        exact (show Tryz.prog.wantsStandIn t = false by simpa using List.all_eq_true.1 hall t hm)⟩)
    (by kernel_rfl)
#print axioms proved
end Go.Proofs.YtcndapakkkaojaaGreatDoor.joinNone
