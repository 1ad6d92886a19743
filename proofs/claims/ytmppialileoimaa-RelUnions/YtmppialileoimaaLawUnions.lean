/-
  Proved: RelUnions answers true for every two schemes and rows, and leaves what was handed in as it was. No condition.
-/
import Derived.Test.YtmppialileoimaaRelRows
namespace Go.Proofs.Ytmppialileoimaa.relUnions
open Go.RowKit Go.ChangeShapes Go.WideShapes Go.ChangeAt
set_option linter.unusedVariables false
set_option linter.unusedSimpArgs false
set_option maxRecDepth 20000

theorem refUnion_rel {s s' : List Int} {ll ll' : List (List Int)} {v v' : Value} {w : World} (h : RelV w v s ll) (h' : RelV w v' s' ll') (g : Good s ll) (g' : Good s' ll') :
    Calls Try.prog 31 #[v, v'] w fun e w' => ∃ u, e = .returned u ∧ RelV w' u s (unionL ll ll') ∧ Below w.heap.size w w' :=
  refUnion_any h h' (by have := g.llen; omega) (by have := g'.llen; omega) (by have := g.slen; omega) (fun t ht => by
    have hs := g.slen
    have hs' := g'.slen
    rcases List.mem_append.1 ht with h1 | h1
    · have := g.wide t h1; omega
    · have := g'.wide t h1; omega)

theorem union_eq {s s' : List Int} {ll ll' : List (List Int)} {v v' : Value} {w : World} (h : RelV w v s ll) (h' : RelV w v' s' ll') (hs : s = s') (g : Good s ll) (g' : Good s' ll') :
    Calls Try.prog 29 #[v, v'] w fun e w' => ∃ u, e = .returned (.tuple #[u, .int .i64 0]) ∧ RelV w' u s (unionL ll ll') ∧ Below w.heap.size w w' := by
  subst hs
  exact union_rel h h' g g'

set_option maxHeartbeats 16000000 in
theorem walk {l0 : List Int} {l1 : List (List Int)} {l2 : List Int} {l3 : List (List Int)} {v0 v1 v2 v3 : Value} {w : World} (i0 : Ints w v0 l0) (m0 : ∀ n ∈ l0, InI64 n) (i1 : Tups w v1 l1) (m1 : ∀ l ∈ l1, ∀ n ∈ l, InI64 n) (i2 : Ints w v2 l2) (m2 : ∀ n ∈ l2, InI64 n) (i3 : Tups w v3 l3) (m3 : ∀ l ∈ l3, ∀ n ∈ l, InI64 n) :
    Calls Try.prog 5 #[v0, v1, v2, v3] w fun e w' => e = .returned (.bool true) ∧ Below w.heap.size w w' := by
  clear m0 m1 m2 m3
  have hB := Below.refl w.heap.size w
  have G := hide (good_small l0 l1)
  have G' := hide (good_small l2 l3)
  go_enter Try.func5, Try.ntmps5
  go_wp2_with fail
  refine (shown2_any _).mono ?_
  rintro e w101 ⟨rfl, hb⟩
  replace i0 := i0.below hb
  replace i1 := i1.below hb
  replace i2 := i2.below hb
  replace i3 := i3.below hb
  replace hB := below_then hB hb
  clear hb
  go_wp2_with fail
  refine (small_any i0 i1).mono ?_
  rintro e w102 ⟨u_r, rfl, r, hb⟩
  replace i2 := i2.below hb
  replace i3 := i3.below hb
  replace hB := below_then hB hb
  obtain ⟨a_r, c_r, b_r, d_r, e_r, _, _, _, _, _, _⟩ := r.form
  rw [e_r] at r ⊢
  clear e_r
  clear hb
  clear i0 i1
  generalize smallS l0 = s at *
  generalize smallR l0 l1 = ll at *
  have pb := (Below.refl _ w102).alloc (Nat.le_refl _) (.cells #[.slice a_r (s).length c_r, .slice b_r (ll).length d_r] 25)
  replace r := r.below pb
  replace i2 := i2.below pb
  replace i3 := i3.below pb
  have xr := Box.new w102 (.slice a_r (s).length c_r) (.slice b_r (ll).length d_r)
  replace hB := below_then hB pb
  clear pb
  have c0_xr := xr.cell0
  have c1_xr := xr.cell1
  go_wp2_with fail
  refine (small_any i2 i3).mono ?_
  rintro e w103 ⟨u_t, rfl, t, hb⟩
  replace r := r.below hb
  replace xr := xr.belowH hb
  replace hB := below_then hB hb
  obtain ⟨a_t, c_t, b_t, d_t, e_t, _, _, _, _, _, _⟩ := t.form
  rw [e_t] at t ⊢
  clear e_t
  clear hb c0_xr c1_xr
  clear i2 i3
  generalize smallS l2 = s' at *
  generalize smallR l2 l3 = ll' at *
  have pb := (Below.refl _ w103).alloc (Nat.le_refl _) (.cells #[.slice a_t (s').length c_t, .slice b_t (ll').length d_t] 25)
  replace r := r.below pb
  replace t := t.below pb
  replace xr := xr.push (.cells #[.slice a_t (s').length c_t, .slice b_t (ll').length d_t] 25)
  have xt := Box.new w103 (.slice a_t (s').length c_t) (.slice b_t (ll').length d_t)
  replace hB := below_then hB pb
  clear pb
  have hqq : ∀ q : Bool, (q != q) = false := by decide
  by_cases hss : s = s'
  · have HSS := hide hss
    clear hss
    have c0_xr := xr.cell0
    have c1_xr := xr.cell1
    have c0_xt := xt.cell0
    have c1_xt := xt.cell1
    go_wp2_with fail
    refine (union_eq r t (unhide HSS) (unhide G) (unhide G')).mono ?_
    rintro e w104 ⟨u_u, rfl, u, hb⟩
    replace r := r.below hb
    replace t := t.below hb
    replace xr := xr.belowH hb
    replace xt := xt.belowH hb
    replace hB := below_then hB hb
    obtain ⟨a_u, c_u, b_u, d_u, e_u, _, _, _, _, _, _⟩ := u.form
    rw [e_u] at u ⊢
    clear e_u
    clear hb c0_xr c1_xr c0_xt c1_xt
    generalize hU : unionL ll ll' = U at *
    have HU := hide hU
    clear hU
    have pb := (Below.refl _ w104).alloc (Nat.le_refl _) (.cells #[.slice a_u (s).length c_u, .slice b_u (U).length d_u] 25)
    replace r := r.below pb
    replace t := t.below pb
    replace u := u.below pb
    replace xr := xr.push (.cells #[.slice a_u (s).length c_u, .slice b_u (U).length d_u] 25)
    replace xt := xt.push (.cells #[.slice a_u (s).length c_u, .slice b_u (U).length d_u] 25)
    have xu := Box.new w104 (.slice a_u (s).length c_u) (.slice b_u (U).length d_u)
    replace hB := below_then hB pb
    clear pb
    go_wp2
    generalize (w104.alloc (.cells #[.slice a_u (s).length c_u, .slice b_u (U).length d_u] 25)) = W0 at *
    have XR := hide xr
    have XT := hide xt
    have XU := hide xu
    have HR := hide r
    have HT := hide t
    have HUU := hide u
    clear r t u
    have HK := hide (fun W (hb : Below W0.heap.size W0 W) => (And.intro (And.intro (xr.belowH hb).cell0 (xr.belowH hb).cell1) (And.intro (xt.belowH hb).cell0 (xt.belowH hb).cell1)))
    have hbR := Below.refl W0.heap.size W0
    clear xr xt
    go_region_held3 (fun W => (W.cell? ⟨w102.heap.size, 0, none⟩ = some (.slice a_r (s).length c_r) ∧ W.cell? ⟨w102.heap.size, 1, none⟩ = some (.slice b_r (ll).length d_r)) ∧ (W.cell? ⟨w103.heap.size, 0, none⟩ = some (.slice a_t (s').length c_t) ∧ W.cell? ⟨w103.heap.size, 1, none⟩ = some (.slice b_t (ll').length d_t)))
      (first | exact unhide HK _ (by first | exact hR2 | exact hR1  | exact hbR | exact below_same rfl rfl rfl rfl))
      (first
        | (go_at_call 18; refine (refSame_rel ((unhide HR).below hR1) ((unhide HT).below hR1)).mono ?_; rintro e w106 ⟨rfl, hq2⟩; have hR2 : Below W0.heap.size W0 w106 := below_then hR1 hq2)
        | (go_at_call 30; refine (same_rel ((unhide HR).below (by first | exact hbR | exact below_same rfl rfl rfl rfl)) ((unhide HT).below (by first | exact hbR | exact below_same rfl rfl rfl rfl))).mono ?_; rintro e w105 ⟨rfl, hq1⟩; have hR1 : Below W0.heap.size W0 w105 := below_then (by first | exact hbR | exact below_same rfl rfl rfl rfl) hq1))
    all_goals
      have yr := (unhide XR).belowH hR2
      have yt := (unhide XT).belowH hR2
      have yu := (unhide XU).belowH hR2
      have r := (unhide HR).below hR2
      have t := (unhide HT).below hR2
      have u := (unhide HUU).below hR2
      have hB2 := below_then hB hR2
      have HCMP := hide (Calls.toBelow (refCompare_any (show Ints _ (.slice a_r s.length c_r) s by obtain ⟨_, _, e, h, _⟩ := r; cases e; exact h) (show Ints _ (.slice a_t s'.length c_t) s' by obtain ⟨_, _, e, h, _⟩ := t; cases e; exact h)))
      rw [show cmpL s s' = 0 by rw [unhide HSS]; exact cmpL_refl _] at HCMP
      have c0 := yr.cell0
      have c1 := yt.cell0
      clear XR XT XU HR HT HUU HK hR1 hR2 hq1 hq2 hB
      generalize sameR s ll s' ll' = q0 at *
      go_wp2_with fail
      refine (unhide HCMP).mono ?_
      rintro e W1 ⟨rfl, hb⟩
      replace yr := yr.belowH hb
      replace yt := yt.belowH hb
      replace yu := yu.belowH hb
      replace r := r.below hb
      replace t := t.below hb
      replace u := u.below hb
      have hB3 := below_then hB2 hb
      
      clear hb hB2 c0 c1 HCMP
      have HR := hide r
      have HT := hide t
      have HUU := hide u
      clear r t u
      go_wp2
      
      have HK := hide (fun W (hb : Below W1.heap.size W1 W) => (And.intro (And.intro (yr.belowH hb).cell0 (yr.belowH hb).cell1) (And.intro (And.intro (yt.belowH hb).cell0 (yt.belowH hb).cell1) (And.intro (yu.belowH hb).cell0 (yu.belowH hb).cell1))))
      have hbR := Below.refl W1.heap.size W1
      clear yr yt yu
      go_region_held3 (fun W => (W.cell? ⟨w102.heap.size, 0, none⟩ = some (.slice a_r (s).length c_r) ∧ W.cell? ⟨w102.heap.size, 1, none⟩ = some (.slice b_r (ll).length d_r)) ∧ (W.cell? ⟨w103.heap.size, 0, none⟩ = some (.slice a_t (s').length c_t) ∧ W.cell? ⟨w103.heap.size, 1, none⟩ = some (.slice b_t (ll').length d_t)) ∧ (W.cell? ⟨w104.heap.size, 0, none⟩ = some (.slice a_u (s).length c_u) ∧ W.cell? ⟨w104.heap.size, 1, none⟩ = some (.slice b_u (U).length d_u)))
        (first | exact unhide HK _ (by first | exact hR2 | exact hR1  | exact hbR | exact below_same rfl rfl rfl rfl))
        (first
          | (go_at_call 18; refine (refSame_yes ((unhide HUU).below hR1) z rfl (unhide HU).symm).mono ?_; rintro e w108 ⟨rfl, hq2⟩; have hR2 : Below W1.heap.size W1 w108 := below_then hR1 hq2)
          | (go_at_call 31; refine (refUnion_rel ((unhide HR).below (by first | exact hbR | exact below_same rfl rfl rfl rfl)) ((unhide HT).below (by first | exact hbR | exact below_same rfl rfl rfl rfl)) (unhide G) (unhide G')).mono ?_; rintro e w107 ⟨u_z, rfl, z, hq1⟩; obtain ⟨a_z, c_z, b_z, d_z, e_z, _, _, _, _, _, _⟩ := z.form; rw [e_z] at z ⊢; clear e_z; have hR1 : Below W1.heap.size W1 w107 := below_then (by first | exact hbR | exact below_same rfl rfl rfl rfl) hq1))
      all_goals
        go_wp2
        go_ret
        exact ⟨rfl, below_then hB3 hR2⟩
  · have HSS := hide hss
    clear hss
    
    have c0_xr := xr.cell0
    have c1_xr := xr.cell1
    have c0_xt := xt.cell0
    have c1_xt := xt.cell1
    go_wp2_with fail
    refine (union_no r t (unhide HSS)).mono ?_
    rintro e w109 ⟨rfl, hb⟩
    replace r := r.below hb
    replace t := t.below hb
    replace xr := xr.belowH hb
    replace xt := xt.belowH hb
    replace hB := below_then hB hb
    clear hb c0_xr c1_xr c0_xt c1_xt
    have pb := (Below.refl _ w109).alloc (Nat.le_refl _) (.cells #[.slice none 0 0, .slice none 0 0] 25)
    replace r := r.below pb
    replace t := t.below pb
    replace xr := xr.push (.cells #[.slice none 0 0, .slice none 0 0] 25)
    replace xt := xt.push (.cells #[.slice none 0 0, .slice none 0 0] 25)
    have xu := Box.new w109 (.slice none 0 0) (.slice none 0 0)
    replace hB := below_then hB pb
    clear pb
    go_wp2
    generalize (w109.alloc (.cells #[.slice none 0 0, .slice none 0 0] 25)) = W0 at *
    have XR := hide xr
    have XT := hide xt
    have XU := hide xu
    have HR := hide r
    have HT := hide t
    clear r t
    have HK := hide (fun W (hb : Below W0.heap.size W0 W) => (And.intro (And.intro (xr.belowH hb).cell0 (xr.belowH hb).cell1) (And.intro (xt.belowH hb).cell0 (xt.belowH hb).cell1)))
    have hbR := Below.refl W0.heap.size W0
    clear xr xt
    go_region_held3 (fun W => (W.cell? ⟨w102.heap.size, 0, none⟩ = some (.slice a_r (s).length c_r) ∧ W.cell? ⟨w102.heap.size, 1, none⟩ = some (.slice b_r (ll).length d_r)) ∧ (W.cell? ⟨w103.heap.size, 0, none⟩ = some (.slice a_t (s').length c_t) ∧ W.cell? ⟨w103.heap.size, 1, none⟩ = some (.slice b_t (ll').length d_t)))
      (first | exact unhide HK _ (by first | exact hR2 | exact hR1  | exact hbR | exact below_same rfl rfl rfl rfl))
      (first
        | (go_at_call 18; refine (refSame_rel ((unhide HR).below hR1) ((unhide HT).below hR1)).mono ?_; rintro e w111 ⟨rfl, hq2⟩; have hR2 : Below W0.heap.size W0 w111 := below_then hR1 hq2)
        | (go_at_call 30; refine (same_rel ((unhide HR).below (by first | exact hbR | exact below_same rfl rfl rfl rfl)) ((unhide HT).below (by first | exact hbR | exact below_same rfl rfl rfl rfl))).mono ?_; rintro e w110 ⟨rfl, hq1⟩; have hR1 : Below W0.heap.size W0 w110 := below_then (by first | exact hbR | exact below_same rfl rfl rfl rfl) hq1))
    all_goals
      have yr := (unhide XR).belowH hR2
      have yt := (unhide XT).belowH hR2
      have yu := (unhide XU).belowH hR2
      have r := (unhide HR).below hR2
      have t := (unhide HT).below hR2
      have hB2 := below_then hB hR2
      have HCMP := hide (Calls.toBelow (refCompare_any (show Ints _ (.slice a_r s.length c_r) s by obtain ⟨_, _, e, h, _⟩ := r; cases e; exact h) (show Ints _ (.slice a_t s'.length c_t) s' by obtain ⟨_, _, e, h, _⟩ := t; cases e; exact h)))
      have hcz : cmpL s s' ≠ 0 := fun e => unhide HSS (cmpL_eq e)
      generalize cmpL s s' = cz at HCMP hcz
      have hcz' : (cz != 0) = true := by simp [hcz]
      clear hcz
      have c0 := yr.cell0
      have c1 := yt.cell0
      clear XR XT XU HR HT HK hR1 hR2 hq1 hq2 hB
      generalize sameR s ll s' ll' = q0 at *
      go_wp2_with fail
      refine (unhide HCMP).mono ?_
      rintro e W1 ⟨rfl, hb⟩
      replace yu := yu.belowH hb
      have hB3 := below_then hB2 hb
      have d0 := yu.cell0
      have d1 := yu.cell1
      clear hb hB2 c0 c1 HCMP yr yt r t
      go_wp2
      go_ret
      exact ⟨rfl, hB3⟩

set_option maxRecDepth 100000 in
theorem lifted (os : Os) (started : os.Started) (H : Type) (enc : TypeId × Value → H) :
    ReturnsInHanded {} Try.checked os 5 .any (Rows.relUnionsSpec.pre6 enc Try.prog Try.f5 Rows.relUnionsRow.domain false) (Rows.relUnionsSpec.post enc Try.prog Try.f5 false true false false) := by
  refine returnsInHanded_of_change (C := Try.checked) own started (by kernel_rfl) Try.func5
    (ChangeSpec.witness6 (enc := enc) (C := Try.checked) false ⟨#[], #[.slice none 0 0, .slice none 0 0, .slice none 0 0, .slice none 0 0], []⟩ 8 (by kernel_rfl) (by kernel_rfl) (by kernel_rfl) (by kernel_rfl)) ?_
  intro W base args ds gs before hval0 hW hcnd _
  have hval : ∀ (j : Nat) t v, Try.f5.params[j]? = some t → args[j]? = some v → Value.okWide Try.prog W .any base t v := hval0
  have hW' := hW
  obtain ⟨p, q, hA0, hV, rfl, hfz, hnd⟩ := hW
  have hA : DataW.TrodAll enc Try.prog W 0 (fun _ => true) true Try.f5.params.toList args.toList ds p := hA0
  rw [Try.params5] at hA hval
  obtain ⟨v0, vs0, d0, ds0, p0, q0, hargs, rfl, rfl, h0, r0⟩ := trodAll_cons hA
  obtain ⟨v1, vs1, d1, ds1, p1, q1, rfl, rfl, rfl, h1, r1⟩ := trodAll_cons r0
  obtain ⟨v2, vs2, d2, ds2, p2, q2, rfl, rfl, rfl, h2, r2⟩ := trodAll_cons r1
  obtain ⟨v3, vs3, d3, ds3, p3, q3, rfl, rfl, rfl, h3, r3⟩ := trodAll_cons r2
  obtain ⟨rfl, rfl, rfl⟩ := trodAll_nil r3
  obtain rfl : args = #[v0, v1, v2, v3] := by cases args; simp_all
  obtain ⟨rfl, rfl⟩ := trodVars_none hV
  obtain ⟨l0, i0, m0⟩ := read_ints h0 (okWide_slice Try.underlying22 (hval 0 22 v0 rfl rfl))
  have lt0 : ∀ x ∈ p0, x.block < W.heap.size := by obtain ⟨m, hm⟩ := h0; exact DataW.trod_lt m _ _ _ hm
  obtain ⟨l1, i1, m1⟩ := read_tups h1 (okWide_slice Try.underlying23 (hval 1 23 v1 rfl rfl))
  have lt1 : ∀ x ∈ p1, x.block < W.heap.size := by obtain ⟨m, hm⟩ := h1; exact DataW.trod_lt m _ _ _ hm
  obtain ⟨l2, i2, m2⟩ := read_ints h2 (okWide_slice Try.underlying22 (hval 2 22 v2 rfl rfl))
  have lt2 : ∀ x ∈ p2, x.block < W.heap.size := by obtain ⟨m, hm⟩ := h2; exact DataW.trod_lt m _ _ _ hm
  obtain ⟨l3, i3, m3⟩ := read_tups h3 (okWide_slice Try.underlying23 (hval 3 23 v3 rfl rfl))
  have lt3 : ∀ x ∈ p3, x.block < W.heap.size := by obtain ⟨m, hm⟩ := h3; exact DataW.trod_lt m _ _ _ hm
  clear hA0 hval0
  refine (walk i0 m0 i1 m1 i2 m2 i3 m3).mono fun e W' ⟨he, bel⟩ => ?_
  subst he
  exact ⟨_, rfl, _, _, _, [], _, [], hW', trodAll_mk1 (shut_bool Try.underlying4 _), (trodAll_cons_mk (Below.trod laidOut (by kernel_rfl) (of_decide_eq_true (by kernel_rfl)) h0 bel lt0) (trodAll_cons_mk (Below.trod laidOut (by kernel_rfl) (of_decide_eq_true (by kernel_rfl)) h1 bel lt1) (trodAll_cons_mk (Below.trod laidOut (by kernel_rfl) (of_decide_eq_true (by kernel_rfl)) h2 bel lt2) (trodAll_cons_mk (Below.trod laidOut (by kernel_rfl) (of_decide_eq_true (by kernel_rfl)) h3 bel lt3) trodAll_mk0)))), rfl, bel.frame _, fun h => by cases h⟩

theorem over : Rows.relUnionsRow.holds Try.pinned (OpenSpec.ofChange Rows.relUnionsSpec) :=
  OpenClaim.holds_of_wide 5 Try.f5 rfl rfl rfl rfl rfl rfl rfl ⟨rfl, rfl, rfl, rfl, rfl⟩ rfl rfl rfl rfl rfl (by kernel_rfl) Try.func5 (by kernel_rfl)
    (of_decide_eq_true (by kernel_rfl)) (by unfold Func.isWrapper; first | (rw [if_pos (by decide +kernel)]; kernel_rfl) | (rw [if_neg (by decide +kernel)]; exact ⟨rfl, rfl⟩))
    (fun os started H enc _ => lifted os started H enc)

/-- The statement. -/
theorem proved : Rows.RelUnionsSaid := over
#print axioms proved
end Go.Proofs.Ytmppialileoimaa.relUnions
