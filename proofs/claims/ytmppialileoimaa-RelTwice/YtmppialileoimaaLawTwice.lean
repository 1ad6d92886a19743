/-
  Proved: RelTwice answers true for every scheme, rows and two rows of variables, and leaves what was handed in as it was. No condition.
-/
import Derived.Test.YtmppialileoimaaRelRows
namespace Go.Proofs.Ytmppialileoimaa.relTwice
open Go.RowKit Go.ChangeShapes Go.WideShapes Go.ChangeAt
set_option linter.unusedVariables false
set_option linter.unusedSimpArgs false
set_option maxRecDepth 20000

set_option maxHeartbeats 16000000 in
theorem walk {l0 : List Int} {l1 : List (List Int)} {l2 l3 : List Int} {v0 v1 v2 v3 : Value} {w : World} (i0 : Ints w v0 l0) (m0 : ∀ n ∈ l0, InI64 n) (i1 : Tups w v1 l1) (m1 : ∀ l ∈ l1, ∀ n ∈ l, InI64 n) (i2 : Ints w v2 l2) (m2 : ∀ n ∈ l2, InI64 n) (i3 : Ints w v3 l3) (m3 : ∀ n ∈ l3, InI64 n) :
    Calls Try.prog 6 #[v0, v1, v2, v3] w fun e w' => e = .returned (.bool true) ∧ Below w.heap.size w w' := by
  obtain ⟨b, cb, rfl, hlb, hcb⟩ := i2.form
  obtain ⟨d, cd, rfl, hld, hcd⟩ := i3.form
  unfold maxLen at hcb hcd
  clear m0 m1 m2 m3
  have hB := Below.refl w.heap.size w
  have G := hide (good_small l0 l1)
  go_enter Try.func6, Try.ntmps6
  go_wp2_with fail
  refine (shown2_any _).mono ?_
  rintro e w101 ⟨rfl, hb⟩
  replace i0 := i0.below hb
  replace i1 := i1.below hb
  replace i2 := i2.below hb
  replace i3 := i3.below hb
  replace hB := below_then hB hb
  clear hb
  go_wp2_with fail
  refine (small_any i0 i1).mono ?_
  rintro e w102 ⟨u_r, rfl, r, hb⟩
  replace i2 := i2.below hb
  replace i3 := i3.below hb
  replace hB := below_then hB hb
  obtain ⟨a_r, c_r, b_r, d_r, e_r, _, _, _, _, _, _⟩ := r.form
  rw [e_r] at r ⊢
  clear e_r
  clear hb
  clear i0 i1
  generalize smallS l0 = s at *
  generalize smallR l0 l1 = ll at *
  have pb := (Below.refl _ w102).alloc (Nat.le_refl _) (.cells #[.slice a_r (s).length c_r, .slice b_r (ll).length d_r] 25)
  replace r := r.below pb
  replace i2 := i2.below pb
  replace i3 := i3.below pb
  have xr := Box.new w102 (.slice a_r (s).length c_r) (.slice b_r (ll).length d_r)
  replace hB := below_then hB pb
  clear pb
  have j2 := i2.cut 10
  have j3 := i3.cut 10
  have hcut2 := run_cut b l2.length cb (min (l2.length : Int) ((10 : Nat) : Int)) (min (l2.length : Int) ((10 : Nat) : Int)).toNat (by omega) (by omega)
  have hcut3 := run_cut d l3.length cd (min (l3.length : Int) ((10 : Nat) : Int)) (min (l3.length : Int) ((10 : Nat) : Int)).toNat (by omega) (by omega)
  have hv2 : (l2.take 10).length ≤ 10 := List.length_take_le _ _
  have hv3 : (l3.take 10).length ≤ 10 := List.length_take_le _ _
  generalize l2.take 10 = one at j2 hv2
  generalize l3.take 10 = two at j3 hv3
  clear i2 i3
  have c0_xr := xr.cell0
  have c1_xr := xr.cell1
  go_wp2_with fail
  refine (project_rel r j2 (unhide G) (by omega)).mono ?_
  rintro e w103 ⟨u_p, rfl, p, hb⟩
  replace r := r.below hb
  replace j2 := j2.below hb
  replace j3 := j3.below hb
  replace xr := xr.belowH hb
  replace hB := below_then hB hb
  obtain ⟨a_p, c_p, b_p, d_p, e_p, _, _, _, _, _, _⟩ := p.form
  rw [e_p] at p ⊢
  clear e_p
  clear hb c0_xr c1_xr
  have G1 := hide ((unhide G).proj one)
  have G2 := hide ((unhide G).proj two)
  have E1 := hide (meet_self (one := one) (unhide G).asc)
  have E2 := hide (proj_all (unhide G1) (unhide E1))
  have E3 := hide (meet_comm2 (one := one) (two := two) (unhide G).asc)
  have E4 := hide (proj_comm (one := one) (two := two) (unhide G))
  have E5 := hide (meet_all (unhide G).asc)
  have E6 := hide (proj_all (unhide G) (unhide E5))
  have E7 := hide (proj_empty (vars := one) (unhide G))
  have hle := proj_le s one ll
  generalize meetL s one = s1 at *
  generalize projL s ll one = l1' at *
  have pb := (Below.refl _ w103).alloc (Nat.le_refl _) (.cells #[.slice a_p (s1).length c_p, .slice b_p (l1').length d_p] 25)
  replace r := r.below pb
  replace j2 := j2.below pb
  replace j3 := j3.below pb
  replace p := p.below pb
  replace xr := xr.push (.cells #[.slice a_p (s1).length c_p, .slice b_p (l1').length d_p] 25)
  have xa := Box.new w103 (.slice a_p (s1).length c_p) (.slice b_p (l1').length d_p)
  replace hB := below_then hB pb
  clear pb
  have c0_xr := xr.cell0
  have c1_xr := xr.cell1
  have c0_xa := xa.cell0
  have c1_xa := xa.cell1
  go_wp2_with fail
  refine (project_rel p j3 (unhide G1) (by omega)).mono ?_
  rintro e w104 ⟨u_q, rfl, q, hb⟩
  replace r := r.below hb
  replace j2 := j2.below hb
  replace j3 := j3.below hb
  replace p := p.below hb
  replace xr := xr.belowH hb
  replace xa := xa.belowH hb
  replace hB := below_then hB hb
  obtain ⟨a_q, c_q, b_q, d_q, e_q, _, _, _, _, _, _⟩ := q.form
  rw [e_q] at q ⊢
  clear e_q
  clear hb c0_xr c1_xr c0_xa c1_xa
  generalize meetL s1 two = s12 at *
  generalize projL s1 l1' two = l12 at *
  have pb := (Below.refl _ w104).alloc (Nat.le_refl _) (.cells #[.slice a_q (s12).length c_q, .slice b_q (l12).length d_q] 25)
  replace r := r.below pb
  replace j2 := j2.below pb
  replace j3 := j3.below pb
  replace p := p.below pb
  replace q := q.below pb
  replace xr := xr.push (.cells #[.slice a_q (s12).length c_q, .slice b_q (l12).length d_q] 25)
  replace xa := xa.push (.cells #[.slice a_q (s12).length c_q, .slice b_q (l12).length d_q] 25)
  have xb := Box.new w104 (.slice a_q (s12).length c_q) (.slice b_q (l12).length d_q)
  replace hB := below_then hB pb
  clear pb
  have c0_xr := xr.cell0
  have c1_xr := xr.cell1
  have c0_xa := xa.cell0
  have c1_xa := xa.cell1
  have c0_xb := xb.cell0
  have c1_xb := xb.cell1
  go_wp2_with fail
  refine (project_rel r j3 (unhide G) (by omega)).mono ?_
  rintro e w105 ⟨u_t, rfl, t, hb⟩
  replace r := r.below hb
  replace j2 := j2.below hb
  replace j3 := j3.below hb
  replace p := p.below hb
  replace q := q.below hb
  replace xr := xr.belowH hb
  replace xa := xa.belowH hb
  replace xb := xb.belowH hb
  replace hB := below_then hB hb
  obtain ⟨a_t, c_t, b_t, d_t, e_t, _, _, _, _, _, _⟩ := t.form
  rw [e_t] at t ⊢
  clear e_t
  clear hb c0_xr c1_xr c0_xa c1_xa c0_xb c1_xb
  have c0_xr := xr.cell0
  have c1_xr := xr.cell1
  have c0_xa := xa.cell0
  have c1_xa := xa.cell1
  have c0_xb := xb.cell0
  have c1_xb := xb.cell1
  go_wp2_with fail
  refine (project_rel t j2 (unhide G2) (by omega)).mono ?_
  rintro e w106 ⟨u_z, rfl, z, hb⟩
  replace r := r.below hb
  replace j2 := j2.below hb
  replace j3 := j3.below hb
  replace p := p.below hb
  replace q := q.below hb
  replace xr := xr.belowH hb
  replace xa := xa.belowH hb
  replace xb := xb.belowH hb
  replace hB := below_then hB hb
  obtain ⟨a_z, c_z, b_z, d_z, e_z, _, _, _, _, _, _⟩ := z.form
  rw [e_z] at z ⊢
  clear e_z
  clear hb c0_xr c1_xr c0_xa c1_xa c0_xb c1_xb
  generalize meetL (meetL s two) one = s21 at *
  generalize projL (meetL s two) (projL s ll two) one = l21 at *
  have pb := (Below.refl _ w106).alloc (Nat.le_refl _) (.cells #[.slice a_z (s21).length c_z, .slice b_z (l21).length d_z] 25)
  replace r := r.below pb
  replace j2 := j2.below pb
  replace j3 := j3.below pb
  replace p := p.below pb
  replace q := q.below pb
  replace z := z.below pb
  replace xr := xr.push (.cells #[.slice a_z (s21).length c_z, .slice b_z (l21).length d_z] 25)
  replace xa := xa.push (.cells #[.slice a_z (s21).length c_z, .slice b_z (l21).length d_z] 25)
  replace xb := xb.push (.cells #[.slice a_z (s21).length c_z, .slice b_z (l21).length d_z] 25)
  have xc := Box.new w106 (.slice a_z (s21).length c_z) (.slice b_z (l21).length d_z)
  replace hB := below_then hB pb
  clear pb
  clear hcut2 hcut3
  go_wp2
  generalize (w106.alloc (.cells #[.slice a_z (s21).length c_z, .slice b_z (l21).length d_z] 25)) = W0 at *
  have rs : Ints W0 (.slice a_r s.length c_r) s := by obtain ⟨_, _, e, h, _⟩ := r; cases e; exact h
  have HK := hide (fun W (hb : Below W0.heap.size W0 W) => And.intro (And.intro (xr.belowH hb).cell0 (xr.belowH hb).cell1) (And.intro (And.intro (xa.belowH hb).cell0 (xa.belowH hb).cell1) (And.intro (And.intro (xb.belowH hb).cell0 (xb.belowH hb).cell1) (And.intro (xc.belowH hb).cell0 (xc.belowH hb).cell1))))
  have HP1 := hide (fun W (hb : Below W0.heap.size W0 W) => project_rel (p.below hb) (j2.below hb) (unhide G1) (by omega))
  have HP2 := hide (fun W (hb : Below W0.heap.size W0 W) => project_rel (r.below hb) (rs.below hb) (unhide G) (by have := (unhide G).slen; omega))
  have hbR := Below.refl W0.heap.size W0
  have hz : Hid ((((l1'.length : Int) == 0) == ((ll.length : Int) == 0)) = true) := hide (by
    have := unhide E7
    by_cases h : ll.length = 0
    · simp [h, this.2 h]
    · have h1 : l1'.length ≠ 0 := fun e => h (this.1 e)
      have e1 : ((l1'.length : Int) == 0) = false := by simpa using h1
      have e2 : ((ll.length : Int) == 0) = false := by simpa using h
      rw [e1, e2]; rfl)
  have HR := hide r
  have HPP := hide p
  have HQ := hide q
  have HZ := hide z
  have hz' := unhide hz
  clear xr xa xb xc r p q z j2 j3 rs
  go_region_held3 (fun W => (W.cell? ⟨w102.heap.size, 0, none⟩ = some (.slice a_r s.length c_r) ∧ W.cell? ⟨w102.heap.size, 1, none⟩ = some (.slice b_r ll.length d_r)) ∧ (W.cell? ⟨w103.heap.size, 0, none⟩ = some (.slice a_p s1.length c_p) ∧ W.cell? ⟨w103.heap.size, 1, none⟩ = some (.slice b_p l1'.length d_p)) ∧ (W.cell? ⟨w104.heap.size, 0, none⟩ = some (.slice a_q s12.length c_q) ∧ W.cell? ⟨w104.heap.size, 1, none⟩ = some (.slice b_q l12.length d_q)) ∧ (W.cell? ⟨w106.heap.size, 0, none⟩ = some (.slice a_z s21.length c_z) ∧ W.cell? ⟨w106.heap.size, 1, none⟩ = some (.slice b_z l21.length d_z)))
    (first | exact unhide HK _ (by first | exact hB7 | exact hB6 | exact hB5 | exact hB4 | exact hB3 | exact hbR | exact below_same rfl rfl rfl rfl))
    (first
      | (go_at_call 30; refine (same_yes h6 ((unhide HR).below hB6) (unhide E5) (unhide E6)).mono ?_; rintro e w7 ⟨rfl, hb7⟩; have hB7 := below_then hB6 hb7)
      | (go_at_call 20; refine (unhide HP2 _ hB5).mono ?_; rintro e w6 ⟨u6, rfl, h6, hb6⟩; obtain ⟨a6, c6, b6, d6, e6, _, _, _, _, _, _⟩ := h6.form; rw [e6] at h6 ⊢; clear e6; have hB6 := below_then hB5 hb6)
      | (go_at_call 30; refine (same_yes ((unhide HQ).below hB4) ((unhide HZ).below hB4) (unhide E3) (unhide E4)).mono ?_; rintro e w5 ⟨rfl, hb5⟩; have hB5 := below_then hB4 hb5)
      | (go_at_call 30; refine (same_yes h3 ((unhide HPP).below hB3) (unhide E1) (unhide E2)).mono ?_; rintro e w4 ⟨rfl, hb4⟩; have hB4 := below_then hB3 hb4)
      | (go_at_call 20; refine (unhide HP1 _ (by first | exact hbR | exact below_same rfl rfl rfl rfl)).mono ?_; rintro e w3 ⟨u3, rfl, h3, hb3⟩; obtain ⟨a3, c3, b3, d3, e3, _, _, _, _, _, _⟩ := h3.form; rw [e3] at h3 ⊢; clear e3; have hB3 : Below W0.heap.size W0 w3 := below_then (by first | exact hbR | exact below_same rfl rfl rfl rfl) hb3))
  all_goals
    go_wp2
    go_ret
    exact ⟨rfl, below_then hB hB7⟩

set_option maxRecDepth 100000 in
theorem lifted (os : Os) (started : os.Started) (H : Type) (enc : TypeId × Value → H) :
    ReturnsInHanded {} Try.checked os 6 .any (Rows.relTwiceSpec.pre6 enc Try.prog Try.f6 Rows.relTwiceRow.domain false) (Rows.relTwiceSpec.post enc Try.prog Try.f6 false true false false) := by
  refine returnsInHanded_of_change (C := Try.checked) own started (by kernel_rfl) Try.func6
    (ChangeSpec.witness6 (enc := enc) (C := Try.checked) false ⟨#[], #[.slice none 0 0, .slice none 0 0, .slice none 0 0, .slice none 0 0], []⟩ 8 (by kernel_rfl) (by kernel_rfl) (by kernel_rfl) (by kernel_rfl)) ?_
  intro W base args ds gs before hval0 hW hcnd _
  have hval : ∀ (j : Nat) t v, Try.f6.params[j]? = some t → args[j]? = some v → Value.okWide Try.prog W .any base t v := hval0
  have hW' := hW
  obtain ⟨p, q, hA0, hV, rfl, hfz, hnd⟩ := hW
  have hA : DataW.TrodAll enc Try.prog W 0 (fun _ => true) true Try.f6.params.toList args.toList ds p := hA0
  rw [Try.params6] at hA hval
  obtain ⟨v0, vs0, d0, ds0, p0, q0, hargs, rfl, rfl, h0, r0⟩ := trodAll_cons hA
  obtain ⟨v1, vs1, d1, ds1, p1, q1, rfl, rfl, rfl, h1, r1⟩ := trodAll_cons r0
  obtain ⟨v2, vs2, d2, ds2, p2, q2, rfl, rfl, rfl, h2, r2⟩ := trodAll_cons r1
  obtain ⟨v3, vs3, d3, ds3, p3, q3, rfl, rfl, rfl, h3, r3⟩ := trodAll_cons r2
  obtain ⟨rfl, rfl, rfl⟩ := trodAll_nil r3
  obtain rfl : args = #[v0, v1, v2, v3] := by cases args; simp_all
  obtain ⟨rfl, rfl⟩ := trodVars_none hV
  obtain ⟨l0, i0, m0⟩ := read_ints h0 (okWide_slice Try.underlying22 (hval 0 22 v0 rfl rfl))
  have lt0 : ∀ x ∈ p0, x.block < W.heap.size := by obtain ⟨m, hm⟩ := h0; exact DataW.trod_lt m _ _ _ hm
  obtain ⟨l1, i1, m1⟩ := read_tups h1 (okWide_slice Try.underlying23 (hval 1 23 v1 rfl rfl))
  have lt1 : ∀ x ∈ p1, x.block < W.heap.size := by obtain ⟨m, hm⟩ := h1; exact DataW.trod_lt m _ _ _ hm
  obtain ⟨l2, i2, m2⟩ := read_ints h2 (okWide_slice Try.underlying22 (hval 2 22 v2 rfl rfl))
  have lt2 : ∀ x ∈ p2, x.block < W.heap.size := by obtain ⟨m, hm⟩ := h2; exact DataW.trod_lt m _ _ _ hm
  obtain ⟨l3, i3, m3⟩ := read_ints h3 (okWide_slice Try.underlying22 (hval 3 22 v3 rfl rfl))
  have lt3 : ∀ x ∈ p3, x.block < W.heap.size := by obtain ⟨m, hm⟩ := h3; exact DataW.trod_lt m _ _ _ hm
  clear hA0 hval0
  refine (walk i0 m0 i1 m1 i2 m2 i3 m3).mono fun e W' ⟨he, bel⟩ => ?_
  subst he
  exact ⟨_, rfl, _, _, _, [], _, [], hW', trodAll_mk1 (shut_bool Try.underlying4 _), (trodAll_cons_mk (Below.trod laidOut (by kernel_rfl) (of_decide_eq_true (by kernel_rfl)) h0 bel lt0) (trodAll_cons_mk (Below.trod laidOut (by kernel_rfl) (of_decide_eq_true (by kernel_rfl)) h1 bel lt1) (trodAll_cons_mk (Below.trod laidOut (by kernel_rfl) (of_decide_eq_true (by kernel_rfl)) h2 bel lt2) (trodAll_cons_mk (Below.trod laidOut (by kernel_rfl) (of_decide_eq_true (by kernel_rfl)) h3 bel lt3) trodAll_mk0)))), rfl, bel.frame _, fun h => by cases h⟩

theorem over : Rows.relTwiceRow.holds Try.pinned (OpenSpec.ofChange Rows.relTwiceSpec) :=
  OpenClaim.holds_of_wide 6 Try.f6 rfl rfl rfl rfl rfl rfl rfl ⟨rfl, rfl, rfl, rfl, rfl⟩ rfl rfl rfl rfl rfl (by kernel_rfl) Try.func6 (by kernel_rfl)
    (of_decide_eq_true (by kernel_rfl)) (by unfold Func.isWrapper; first | (rw [if_pos (by decide +kernel)]; kernel_rfl) | (rw [if_neg (by decide +kernel)]; exact ⟨rfl, rfl⟩))
    (fun os started H enc _ => lifted os started H enc)

/-- The statement. -/
theorem proved : Rows.RelTwiceSaid := over
#print axioms proved
end Go.Proofs.Ytmppialileoimaa.relTwice
