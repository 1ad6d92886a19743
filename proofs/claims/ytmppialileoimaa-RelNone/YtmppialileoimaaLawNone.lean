/-
  Proved: RelNone answers true for every scheme, rows, variables, variable and value, and leaves what was handed in as it was. No condition.
-/
import Derived.Test.YtmppialileoimaaLawKit2
namespace Go.Proofs.Ytmppialileoimaa.relNone
open Go.RowKit Go.ChangeShapes Go.WideShapes Go.ChangeAt
set_option linter.unusedVariables false
set_option linter.unusedSimpArgs false
set_option maxRecDepth 20000

theorem proj_nil (s vars : List Int) : projL s [] vars = [] := rfl
theorem sel_nil (s : List Int) (x y : Int) : selL s [] x y = [] := rfl
theorem val_nil (s : List Int) (x : Int) : valL s [] x = [] := rfl

set_option maxHeartbeats 16000000 in
theorem walk {l0 : List Int} {l1 : List (List Int)} {l2 : List Int} {l3 l4 : Int} {v0 v1 v2 v3 v4 : Value} {w : World} (i0 : Ints w v0 l0) (m0 : ∀ n ∈ l0, InI64 n) (i1 : Tups w v1 l1) (m1 : ∀ l ∈ l1, ∀ n ∈ l, InI64 n) (i2 : Ints w v2 l2) (m2 : ∀ n ∈ l2, InI64 n) (i3 : v3 = .int .i64 l3) (m3 : InI64 l3) (i4 : v4 = .int .i64 l4) (m4 : InI64 l4) :
    Calls Try.prog 11 #[v0, v1, v2, v3, v4] w fun e w' => e = .returned (.bool true) ∧ Below w.heap.size w w' := by
  subst i3 i4
  obtain ⟨b, cb, rfl, hlb, hcb⟩ := i2.form
  unfold maxLen at hcb
  clear m0 m1 m2 m3 m4
  have hB := Below.refl w.heap.size w
  have hf1 := run_rows
  have G := hide (good_small l0 l1)
  go_enter Try.func11, Try.ntmps11
  go_wp2_with fail
  refine (shown2_any _).mono ?_
  rintro e w101 ⟨rfl, hb⟩
  replace i0 := i0.below hb
  replace i1 := i1.below hb
  replace i2 := i2.below hb
  replace hB := below_then hB hb
  clear hb
  go_wp2_with fail
  refine (small_any i0 i1).mono ?_
  rintro e w102 ⟨u_r, rfl, r, hb⟩
  replace i2 := i2.below hb
  replace hB := below_then hB hb
  obtain ⟨a_r, c_r, b_r, d_r, e_r, _, _, _, _, _, _⟩ := r.form
  rw [e_r] at r ⊢
  clear e_r
  clear hb
  clear i0 i1
  generalize smallS l0 = s at *
  generalize smallR l0 l1 = ll at *
  have pb := (Below.refl _ w102).alloc (Nat.le_refl _) (.cells #[.slice a_r (s).length c_r, .slice b_r (ll).length d_r] 25)
  replace r := r.below pb
  replace i2 := i2.below pb
  have xr := Box.new w102 (.slice a_r (s).length c_r) (.slice b_r (ll).length d_r)
  replace hB := below_then hB pb
  clear pb
  have n0 : RelV _ (.agg #[.slice a_r s.length c_r, .slice none 0 0]) s [] := ⟨_, _, rfl, by obtain ⟨_, _, e, h, _⟩ := r; cases e; exact h, ⟨[], Seq.nil _ _, rfl, fun i h => by simp at h⟩⟩
  have pb := (Below.refl _ (w102.alloc (.cells #[.slice a_r (s).length c_r, .slice b_r (ll).length d_r] 25))).alloc (Nat.le_refl _) (.cells #[.slice a_r s.length c_r, .slice none 0 0] 25)
  replace r := r.below pb
  replace i2 := i2.below pb
  replace n0 := n0.below pb
  replace xr := xr.push (.cells #[.slice a_r s.length c_r, .slice none 0 0] 25)
  have xn := Box.new (w102.alloc (.cells #[.slice a_r (s).length c_r, .slice b_r (ll).length d_r] 25)) (.slice a_r s.length c_r) (.slice none 0 0)
  simp only [World.size_alloc] at xn
  replace hB := below_then hB pb
  clear pb
  have i2' := i2.cut 10
  have hcut := run_cut b l2.length cb (min (l2.length : Int) ((10 : Nat) : Int)) (min (l2.length : Int) ((10 : Nat) : Int)).toNat (by omega) (by omega)
  have hvl : (l2.take 10).length ≤ 10 := List.length_take_le _ _
  generalize l2.take 10 = vars at i2' hvl
  clear i2
  have c0_xr := xr.cell0
  have c1_xr := xr.cell1
  have c0_xn := xn.cell0
  have c1_xn := xn.cell1
  go_wp2_with fail
  refine (union_rel r n0 (unhide G) (unhide G).none).mono ?_
  rintro e w103 ⟨u_ua, rfl, ua, hb⟩
  replace r := r.below hb
  replace n0 := n0.below hb
  replace i2' := i2'.below hb
  replace xr := xr.belowH hb
  replace xn := xn.belowH hb
  replace hB := below_then hB hb
  obtain ⟨a_ua, c_ua, b_ua, d_ua, e_ua, _, _, _, _, _, _⟩ := ua.form
  rw [e_ua] at ua ⊢
  clear e_ua
  clear hb c0_xr c1_xr c0_xn c1_xn
  rw [union_nil (unhide G).asl] at ua ⊢
  have pb := (Below.refl _ w103).alloc (Nat.le_refl _) (.cells #[.slice a_ua (s).length c_ua, .slice b_ua (ll).length d_ua] 25)
  replace r := r.below pb
  replace n0 := n0.below pb
  replace i2' := i2'.below pb
  replace ua := ua.below pb
  replace xr := xr.push (.cells #[.slice a_ua (s).length c_ua, .slice b_ua (ll).length d_ua] 25)
  replace xn := xn.push (.cells #[.slice a_ua (s).length c_ua, .slice b_ua (ll).length d_ua] 25)
  have xa := Box.new w103 (.slice a_ua (s).length c_ua) (.slice b_ua (ll).length d_ua)
  replace hB := below_then hB pb
  clear pb
  have c0_xr := xr.cell0
  have c1_xr := xr.cell1
  have c0_xn := xn.cell0
  have c1_xn := xn.cell1
  have c0_xa := xa.cell0
  have c1_xa := xa.cell1
  go_wp2_with fail
  refine (union_rel n0 r (unhide G).none (unhide G)).mono ?_
  rintro e w104 ⟨u_ub, rfl, ub, hb⟩
  replace r := r.below hb
  replace n0 := n0.below hb
  replace i2' := i2'.below hb
  replace ua := ua.below hb
  replace xr := xr.belowH hb
  replace xn := xn.belowH hb
  replace xa := xa.belowH hb
  replace hB := below_then hB hb
  obtain ⟨a_ub, c_ub, b_ub, d_ub, e_ub, _, _, _, _, _, _⟩ := ub.form
  rw [e_ub] at ub ⊢
  clear e_ub
  clear hb c0_xr c1_xr c0_xn c1_xn c0_xa c1_xa
  rw [nil_union (unhide G).asl] at ub ⊢
  have pb := (Below.refl _ w104).alloc (Nat.le_refl _) (.cells #[.slice a_ub (s).length c_ub, .slice b_ub (ll).length d_ub] 25)
  replace r := r.below pb
  replace n0 := n0.below pb
  replace i2' := i2'.below pb
  replace ua := ua.below pb
  replace ub := ub.below pb
  replace xr := xr.push (.cells #[.slice a_ub (s).length c_ub, .slice b_ub (ll).length d_ub] 25)
  replace xn := xn.push (.cells #[.slice a_ub (s).length c_ub, .slice b_ub (ll).length d_ub] 25)
  replace xa := xa.push (.cells #[.slice a_ub (s).length c_ub, .slice b_ub (ll).length d_ub] 25)
  have xb := Box.new w104 (.slice a_ub (s).length c_ub) (.slice b_ub (ll).length d_ub)
  replace hB := below_then hB pb
  clear pb
  have c0_xr := xr.cell0
  have c1_xr := xr.cell1
  have c0_xn := xn.cell0
  have c1_xn := xn.cell1
  have c0_xa := xa.cell0
  have c1_xa := xa.cell1
  have c0_xb := xb.cell0
  have c1_xb := xb.cell1
  go_wp2_with fail
  refine (same_yes ua r rfl rfl).mono ?_
  rintro e w105 ⟨rfl, hb⟩
  replace r := r.below hb
  replace n0 := n0.below hb
  replace i2' := i2'.below hb
  replace ub := ub.below hb
  replace xr := xr.belowH hb
  replace xn := xn.belowH hb
  replace xa := xa.belowH hb
  replace xb := xb.belowH hb
  replace hB := below_then hB hb
  clear hb c0_xr c1_xr c0_xn c1_xn c0_xa c1_xa c0_xb c1_xb
  have c0_xn := xn.cell0
  have c1_xn := xn.cell1
  have c0_xb := xb.cell0
  have c1_xb := xb.cell1
  have c0_xr := xr.cell0
  have c1_xr := xr.cell1
  go_wp2_with fail
  refine (same_yes ub r rfl rfl).mono ?_
  rintro e w106 ⟨rfl, hb⟩
  replace n0 := n0.below hb
  replace i2' := i2'.below hb
  replace xn := xn.belowH hb
  replace xb := xb.belowH hb
  replace xr := xr.belowH hb
  replace hB := below_then hB hb
  clear hb c0_xn c1_xn c0_xb c1_xb c0_xr c1_xr
  have c0_xn := xn.cell0
  have c1_xn := xn.cell1
  go_wp2_with fail
  refine (right_yes n0 (unhide G).none.right).mono ?_
  rintro e w107 ⟨rfl, hb⟩
  replace n0 := n0.below hb
  replace i2' := i2'.below hb
  replace xn := xn.belowH hb
  replace hB := below_then hB hb
  clear hb c0_xn c1_xn
  have c0_xn := xn.cell0
  have c1_xn := xn.cell1
  go_wp2_with fail
  refine (project_rel n0 i2' (unhide G).none (by omega)).mono ?_
  rintro e w108 ⟨u_p, rfl, p, hb⟩
  replace n0 := n0.below hb
  replace i2' := i2'.below hb
  replace xn := xn.belowH hb
  replace hB := below_then hB hb
  obtain ⟨a_p, c_p, b_p, d_p, e_p, _, _, _, _, _, _⟩ := p.form
  rw [e_p] at p ⊢
  clear e_p
  clear hb c0_xn c1_xn
  rw [proj_nil] at p ⊢
  have c0_xn := xn.cell0
  have c1_xn := xn.cell1
  go_wp2_with fail
  refine (select_rel n0 (unhide G).none).mono ?_
  rintro e w109 ⟨u_q, rfl, q, hb⟩
  replace n0 := n0.below hb
  replace i2' := i2'.below hb
  replace xn := xn.belowH hb
  replace hB := below_then hB hb
  obtain ⟨a_q, c_q, b_q, d_q, e_q, _, _, _, _, _, _⟩ := q.form
  rw [e_q] at q ⊢
  clear e_q
  clear hb c0_xn c1_xn
  rw [sel_nil] at q ⊢
  have c0_xn := xn.cell0
  have c1_xn := xn.cell1
  go_wp2_with fail
  refine (values_rel n0 (unhide G).none).mono ?_
  rintro e w110 ⟨v_z, rfl, z, n_z, hb⟩
  replace n0 := n0.below hb
  replace i2' := i2'.below hb
  replace xn := xn.belowH hb
  replace hB := below_then hB hb
  obtain ⟨a_z, c_z, e_z, _, _⟩ := z.form
  rw [e_z] at z n_z ⊢
  clear e_z
  clear hb c0_xn c1_xn
  rw [val_nil] at z ⊢
  have c0_xn := xn.cell0
  have c1_xn := xn.cell1
  go_wp2_with fail
  refine (has_any n0 i2').mono ?_
  rintro e w111 ⟨rfl, hb⟩
  replace xn := xn.belowH hb
  replace hB := below_then hB hb
  clear hb c0_xn c1_xn
  rw [show hasL [] vars = false from rfl]
  go_wp2
  go_ret
  exact ⟨rfl, hB⟩

set_option maxRecDepth 100000 in
theorem lifted (os : Os) (started : os.Started) (H : Type) (enc : TypeId × Value → H) :
    ReturnsInHanded {} Try.checked os 11 .any (Rows.relNoneSpec.pre6 enc Try.prog Try.f11 Rows.relNoneRow.domain false) (Rows.relNoneSpec.post enc Try.prog Try.f11 false true false false) := by
  refine returnsInHanded_of_change (C := Try.checked) own started (by kernel_rfl) Try.func11
    (ChangeSpec.witness6 (enc := enc) (C := Try.checked) false ⟨#[], #[.slice none 0 0, .slice none 0 0, .slice none 0 0, .int .i64 0, .int .i64 0], []⟩ 8 (by kernel_rfl) (by kernel_rfl) (by kernel_rfl) (by kernel_rfl)) ?_
  intro W base args ds gs before hval0 hW hcnd _
  have hval : ∀ (j : Nat) t v, Try.f11.params[j]? = some t → args[j]? = some v → Value.okWide Try.prog W .any base t v := hval0
  have hW' := hW
  obtain ⟨p, q, hA0, hV, rfl, hfz, hnd⟩ := hW
  have hA : DataW.TrodAll enc Try.prog W 0 (fun _ => true) true Try.f11.params.toList args.toList ds p := hA0
  rw [Try.params11] at hA hval
  obtain ⟨v0, vs0, d0, ds0, p0, q0, hargs, rfl, rfl, h0, r0⟩ := trodAll_cons hA
  obtain ⟨v1, vs1, d1, ds1, p1, q1, rfl, rfl, rfl, h1, r1⟩ := trodAll_cons r0
  obtain ⟨v2, vs2, d2, ds2, p2, q2, rfl, rfl, rfl, h2, r2⟩ := trodAll_cons r1
  obtain ⟨v3, vs3, d3, ds3, p3, q3, rfl, rfl, rfl, h3, r3⟩ := trodAll_cons r2
  obtain ⟨v4, vs4, d4, ds4, p4, q4, rfl, rfl, rfl, h4, r4⟩ := trodAll_cons r3
  obtain ⟨rfl, rfl, rfl⟩ := trodAll_nil r4
  obtain rfl : args = #[v0, v1, v2, v3, v4] := by cases args; simp_all
  obtain ⟨rfl, rfl⟩ := trodVars_none hV
  obtain ⟨l0, i0, m0⟩ := read_ints h0 (okWide_slice Try.underlying22 (hval 0 22 v0 rfl rfl))
  have lt0 : ∀ x ∈ p0, x.block < W.heap.size := by obtain ⟨m, hm⟩ := h0; exact DataW.trod_lt m _ _ _ hm
  obtain ⟨l1, i1, m1⟩ := read_tups h1 (okWide_slice Try.underlying23 (hval 1 23 v1 rfl rfl))
  have lt1 : ∀ x ∈ p1, x.block < W.heap.size := by obtain ⟨m, hm⟩ := h1; exact DataW.trod_lt m _ _ _ hm
  obtain ⟨l2, i2, m2⟩ := read_ints h2 (okWide_slice Try.underlying22 (hval 2 22 v2 rfl rfl))
  have lt2 : ∀ x ∈ p2, x.block < W.heap.size := by obtain ⟨m, hm⟩ := h2; exact DataW.trod_lt m _ _ _ hm
  obtain ⟨l3, i3, m3⟩ := read_int h3 (hval 3 3 v3 rfl rfl)
  have lt3 : ∀ x ∈ p3, x.block < W.heap.size := by obtain ⟨m, hm⟩ := h3; exact DataW.trod_lt m _ _ _ hm
  obtain ⟨l4, i4, m4⟩ := read_int h4 (hval 4 3 v4 rfl rfl)
  have lt4 : ∀ x ∈ p4, x.block < W.heap.size := by obtain ⟨m, hm⟩ := h4; exact DataW.trod_lt m _ _ _ hm
  clear hA0 hval0
  refine (walk i0 m0 i1 m1 i2 m2 i3 m3 i4 m4).mono fun e W' ⟨he, bel⟩ => ?_
  subst he
  exact ⟨_, rfl, _, _, _, [], _, [], hW', trodAll_mk1 (shut_bool Try.underlying4 _), (trodAll_cons_mk (Below.trod laidOut (by kernel_rfl) (of_decide_eq_true (by kernel_rfl)) h0 bel lt0) (trodAll_cons_mk (Below.trod laidOut (by kernel_rfl) (of_decide_eq_true (by kernel_rfl)) h1 bel lt1) (trodAll_cons_mk (Below.trod laidOut (by kernel_rfl) (of_decide_eq_true (by kernel_rfl)) h2 bel lt2) (trodAll_cons_mk (Below.trod laidOut (by kernel_rfl) (of_decide_eq_true (by kernel_rfl)) h3 bel lt3) (trodAll_cons_mk (Below.trod laidOut (by kernel_rfl) (of_decide_eq_true (by kernel_rfl)) h4 bel lt4) trodAll_mk0))))), rfl, bel.frame _, fun h => by cases h⟩

theorem over : Rows.relNoneRow.holds Try.pinned (OpenSpec.ofChange Rows.relNoneSpec) :=
  OpenClaim.holds_of_wide 11 Try.f11 rfl rfl rfl rfl rfl rfl rfl ⟨rfl, rfl, rfl, rfl, rfl⟩ rfl rfl rfl rfl rfl (by kernel_rfl) Try.func11 (by kernel_rfl)
    (of_decide_eq_true (by kernel_rfl)) (by unfold Func.isWrapper; first | (rw [if_pos (by decide +kernel)]; kernel_rfl) | (rw [if_neg (by decide +kernel)]; exact ⟨rfl, rfl⟩))
    (fun os started H enc _ => lifted os started H enc)

/-- The statement. -/
theorem proved : Rows.RelNoneSaid := over
#print axioms proved
end Go.Proofs.Ytmppialileoimaa.relNone
