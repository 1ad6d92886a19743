/-
  Proved: RelPasses answers true for every scheme, rows, variable, value and variables, and leaves what was handed in as it was. No condition.
-/
import Derived.Test.YtmppialileoimaaRelRows
import Derived.Test.YtmppialileoimaaRefRight
namespace Go.Proofs.Ytmppialileoimaa.relPasses
open Go.RowKit Go.ChangeShapes Go.WideShapes Go.ChangeAt
set_option linter.unusedVariables false
set_option linter.unusedSimpArgs false
set_option maxRecDepth 20000

theorem refRight_yes {s : List Int} {ll : List (List Int)} {v : Value} {w : World} (h : RelV w v s ll) (e : rightL s ll = true) :
    Calls Try.prog 16 #[v] w fun e w' => e = .returned (.bool true) ∧ Below w.heap.size w w' := by
  have := refRight_any h
  rwa [e] at this

theorem below_app {W W1 : World} {o : Obj} {n : Nat} {v v' : Value} (hz : n = W.heap.size) (g : Grew n (W.alloc o) W1 v v') : Below W.heap.size W W1 := by
  subst hz
  exact ((Below.refl _ W).alloc (Nat.le_refl _) o).trans g.below

theorem own_lit1 {B : Nat} {w : World} (hB : B ≤ w.heap.size) (x : Int) : OwnI B (w.alloc (.cells #[.int .i64 x] 3)) (.slice (some ⟨w.heap.size, 0, none⟩) 1 1) [x] :=
  ⟨by simp, .inr ⟨w.heap.size, 1, #[.int .i64 x], rfl, hB, heap_alloc_new w _, by simp, by simp [maxLen], by simp, by simp⟩⟩

set_option maxHeartbeats 16000000 in
theorem walk {l0 : List Int} {l1 : List (List Int)} {l2 l3 : Int} {l4 : List Int} {v0 v1 v2 v3 v4 : Value} {w : World} (i0 : Ints w v0 l0) (m0 : ∀ n ∈ l0, InI64 n) (i1 : Tups w v1 l1) (m1 : ∀ l ∈ l1, ∀ n ∈ l, InI64 n) (i2 : v2 = .int .i64 l2) (m2 : InI64 l2) (i3 : v3 = .int .i64 l3) (m3 : InI64 l3) (i4 : Ints w v4 l4) (m4 : ∀ n ∈ l4, InI64 n) :
    Calls Try.prog 10 #[v0, v1, v2, v3, v4] w fun e w' => e = .returned (.bool true) ∧ Below w.heap.size w w' := by
  subst i2 i3
  obtain ⟨b, cb, rfl, hlb, hcb⟩ := i4.form
  unfold maxLen at hcb
  clear m0 m1 m2 m3 m4
  have hB := Below.refl w.heap.size w
  have G := hide (good_small l0 l1)
  go_enter Try.func10, Try.ntmps10
  go_wp2_with fail
  refine (shown2_any _).mono ?_
  rintro e w101 ⟨rfl, hb⟩
  replace i0 := i0.below hb
  replace i1 := i1.below hb
  replace i4 := i4.below hb
  replace hB := below_then hB hb
  clear hb
  go_wp2_with fail
  refine (small_any i0 i1).mono ?_
  rintro e w102 ⟨u_r, rfl, r, hb⟩
  replace i4 := i4.below hb
  replace hB := below_then hB hb
  obtain ⟨a_r, c_r, b_r, d_r, e_r, _, _, _, _, _, _⟩ := r.form
  rw [e_r] at r ⊢
  clear e_r
  clear hb
  clear i0 i1
  generalize smallS l0 = s at *
  generalize smallR l0 l1 = ll at *
  have pb := (Below.refl _ w102).alloc (Nat.le_refl _) (.cells #[.slice a_r (s).length c_r, .slice b_r (ll).length d_r] 25)
  replace r := r.below pb
  replace i4 := i4.below pb
  have xr := Box.new w102 (.slice a_r (s).length c_r) (.slice b_r (ll).length d_r)
  replace hB := below_then hB pb
  clear pb
  have j4 := i4.cut 10
  have hcut := run_cut b l4.length cb (min (l4.length : Int) ((10 : Nat) : Int)) (min (l4.length : Int) ((10 : Nat) : Int)).toNat (by omega) (by omega)
  have hv4 : (l4.take 10).length ≤ 10 := List.length_take_le _ _
  generalize l4.take 10 = vars at j4 hv4
  clear i4
  have HJ := hide (fun o => j4.below ((Below.refl _ _).alloc (Nat.le_refl _) o))
  have hzz : w102.heap.size + 1 = (w102.alloc (.cells #[.slice a_r s.length c_r, .slice b_r ll.length d_r] 25)).heap.size := by simp
  have HZ := hide hzz
  have hown1 := own_lit1 (B := w102.heap.size + 1) (Nat.le_of_eq (unhide HZ)) ((bits .and .i64 l2 65535).tmod 6)
  rw [← unhide HZ] at hown1
  have HOWN := hide hown1
  clear j4 hzz hown1
  go_wp2_with (at_builtin; refine wp_app_ints rfl (.tmp 27) (.tmp 32) rfl (unhide HOWN) rfl (by simp) (unhide HJ _) rfl (by simp; omega) ?_; intro vv W1 hown hgrew; have hb := below_app (unhide HZ) hgrew; have c0_xr := (xr.belowH hb).cell0; have c1_xr := (xr.belowH hb).cell1)
  replace r := r.below hb
  replace xr := xr.belowH hb
  replace hB := below_then hB hb
  have vs := Seq.of_own hown
  have hvm : ((bits .and .i64 l2 65535).tmod 6) ∈ [(bits .and .i64 l2 65535).tmod 6] ++ vars := by simp
  have hvl : ([(bits .and .i64 l2 65535).tmod 6] ++ vars).length ≤ 11 := by simp; omega
  have E1 := hide (proj_sel (unhide G) (x := (bits .and .i64 l3 65535).tmod 4) hvm)
  generalize [(bits .and .i64 l2 65535).tmod 6] ++ vars = V at *
  generalize (bits .and .i64 l2 65535).tmod 6 = x at *
  generalize (bits .and .i64 l3 65535).tmod 4 = y at *
  obtain ⟨va, vn, vc, hve⟩ : ∃ a n c, vv = .slice a n c := by obtain ⟨a, c, e, _, _⟩ := vs.form; exact ⟨_, _, _, e⟩
  rw [hve] at vs ⊢
  have E2 := hide (sel_twice (s := s) (ll := ll) (v := x) (x := y))
  have G1 := hide ((unhide G).sel x y)
  have G2 := hide ((unhide G).proj V)
  have G3 := hide ((unhide G1).proj V)
  clear hcut HOWN HJ HZ hown hgrew hb hve hvm c0_xr c1_xr
  
  have c0_xr := xr.cell0
  have c1_xr := xr.cell1
  go_wp2_with fail
  refine (select_rel r (unhide G)).mono ?_
  rintro e w103 ⟨u_t1, rfl, t1, hb⟩
  replace r := r.below hb
  replace vs := vs.below hb
  replace xr := xr.belowH hb
  replace hB := below_then hB hb
  obtain ⟨a_t1, c_t1, b_t1, d_t1, e_t1, _, _, _, _, _, _⟩ := t1.form
  rw [e_t1] at t1 ⊢
  clear e_t1
  clear hb c0_xr c1_xr
  have c0_xr := xr.cell0
  have c1_xr := xr.cell1
  go_wp2_with fail
  refine (project_rel t1 vs (unhide G1) (by omega)).mono ?_
  rintro e w104 ⟨u_p, rfl, p, hb⟩
  replace r := r.below hb
  replace vs := vs.below hb
  replace xr := xr.belowH hb
  replace hB := below_then hB hb
  obtain ⟨a_p, c_p, b_p, d_p, e_p, _, _, _, _, _, _⟩ := p.form
  rw [e_p] at p ⊢
  clear e_p
  clear hb c0_xr c1_xr
  generalize projL s (selL s ll x y) V = P at *
  have pb := (Below.refl _ w104).alloc (Nat.le_refl _) (.cells #[.slice a_p (meetL s V).length c_p, .slice b_p (P).length d_p] 25)
  replace r := r.below pb
  replace vs := vs.below pb
  replace p := p.below pb
  replace xr := xr.push (.cells #[.slice a_p (meetL s V).length c_p, .slice b_p (P).length d_p] 25)
  have xp := Box.new w104 (.slice a_p (meetL s V).length c_p) (.slice b_p (P).length d_p)
  replace hB := below_then hB pb
  clear pb
  have c0_xr := xr.cell0
  have c1_xr := xr.cell1
  have c0_xp := xp.cell0
  have c1_xp := xp.cell1
  go_wp2_with fail
  refine (project_rel r vs (unhide G) (by omega)).mono ?_
  rintro e w105 ⟨u_t2, rfl, t2, hb⟩
  replace r := r.below hb
  replace vs := vs.below hb
  replace p := p.below hb
  replace xr := xr.belowH hb
  replace xp := xp.belowH hb
  replace hB := below_then hB hb
  obtain ⟨a_t2, c_t2, b_t2, d_t2, e_t2, _, _, _, _, _, _⟩ := t2.form
  rw [e_t2] at t2 ⊢
  clear e_t2
  clear hb c0_xr c1_xr c0_xp c1_xp
  have c0_xr := xr.cell0
  have c1_xr := xr.cell1
  have c0_xp := xp.cell0
  have c1_xp := xp.cell1
  go_wp2_with fail
  refine (select_rel t2 (unhide G2)).mono ?_
  rintro e w106 ⟨u_q, rfl, q, hb⟩
  replace r := r.below hb
  replace vs := vs.below hb
  replace p := p.below hb
  replace xr := xr.belowH hb
  replace xp := xp.belowH hb
  replace hB := below_then hB hb
  obtain ⟨a_q, c_q, b_q, d_q, e_q, _, _, _, _, _, _⟩ := q.form
  rw [e_q] at q ⊢
  clear e_q
  clear hb c0_xr c1_xr c0_xp c1_xp
  generalize selL (meetL s V) (projL s ll V) x y = Q at *
  generalize meetL s V = s1 at *
  have pb := (Below.refl _ w106).alloc (Nat.le_refl _) (.cells #[.slice a_q (s1).length c_q, .slice b_q (Q).length d_q] 25)
  replace r := r.below pb
  replace vs := vs.below pb
  replace p := p.below pb
  replace q := q.below pb
  replace xr := xr.push (.cells #[.slice a_q (s1).length c_q, .slice b_q (Q).length d_q] 25)
  replace xp := xp.push (.cells #[.slice a_q (s1).length c_q, .slice b_q (Q).length d_q] 25)
  have xq := Box.new w106 (.slice a_q (s1).length c_q) (.slice b_q (Q).length d_q)
  replace hB := below_then hB pb
  clear pb
  have c0_xr := xr.cell0
  have c1_xr := xr.cell1
  have c0_xp := xp.cell0
  have c1_xp := xp.cell1
  have c0_xq := xq.cell0
  have c1_xq := xq.cell1
  go_wp2_with fail
  refine (select_rel r (unhide G)).mono ?_
  rintro e w107 ⟨u_t3, rfl, t3, hb⟩
  replace r := r.below hb
  replace vs := vs.below hb
  replace p := p.below hb
  replace q := q.below hb
  replace xr := xr.belowH hb
  replace xp := xp.belowH hb
  replace xq := xq.belowH hb
  replace hB := below_then hB hb
  obtain ⟨a_t3, c_t3, b_t3, d_t3, e_t3, _, _, _, _, _, _⟩ := t3.form
  rw [e_t3] at t3 ⊢
  clear e_t3
  clear hb c0_xr c1_xr c0_xp c1_xp c0_xq c1_xq
  have c0_xr := xr.cell0
  have c1_xr := xr.cell1
  have c0_xp := xp.cell0
  have c1_xp := xp.cell1
  have c0_xq := xq.cell0
  have c1_xq := xq.cell1
  go_wp2_with fail
  refine (select_rel t3 (unhide G1)).mono ?_
  rintro e w108 ⟨u_o, rfl, o, hb⟩
  replace r := r.below hb
  replace vs := vs.below hb
  replace p := p.below hb
  replace q := q.below hb
  replace xr := xr.belowH hb
  replace xp := xp.belowH hb
  replace xq := xq.belowH hb
  replace hB := below_then hB hb
  obtain ⟨a_o, c_o, b_o, d_o, e_o, _, _, _, _, _, _⟩ := o.form
  rw [e_o] at o ⊢
  clear e_o
  clear hb c0_xr c1_xr c0_xp c1_xp c0_xq c1_xq
  generalize selL s (selL s ll x y) x y = O at *
  have pb := (Below.refl _ w108).alloc (Nat.le_refl _) (.cells #[.slice a_o (s).length c_o, .slice b_o (O).length d_o] 25)
  replace r := r.below pb
  replace vs := vs.below pb
  replace p := p.below pb
  replace q := q.below pb
  replace o := o.below pb
  replace xr := xr.push (.cells #[.slice a_o (s).length c_o, .slice b_o (O).length d_o] 25)
  replace xp := xp.push (.cells #[.slice a_o (s).length c_o, .slice b_o (O).length d_o] 25)
  replace xq := xq.push (.cells #[.slice a_o (s).length c_o, .slice b_o (O).length d_o] 25)
  have xo := Box.new w108 (.slice a_o (s).length c_o) (.slice b_o (O).length d_o)
  replace hB := below_then hB pb
  clear pb
  go_wp2
  generalize (w108.alloc (.cells #[.slice a_o (s).length c_o, .slice b_o (O).length d_o] 25)) = W0 at *
  have HR := hide r
  have HP := hide p
  have HQ := hide q
  have HO := hide o
  clear r p q o vs
  
  have HK := hide (fun W (hb : Below W0.heap.size W0 W) => (And.intro (And.intro (xr.belowH hb).cell0 (xr.belowH hb).cell1) (And.intro (And.intro (xp.belowH hb).cell0 (xp.belowH hb).cell1) (And.intro (And.intro (xq.belowH hb).cell0 (xq.belowH hb).cell1) (And.intro (xo.belowH hb).cell0 (xo.belowH hb).cell1)))))
  have hbR := Below.refl W0.heap.size W0
  clear xr xp xq xo
  go_region_held3 (fun W => (W.cell? ⟨w102.heap.size, 0, none⟩ = some (.slice a_r (s).length c_r) ∧ W.cell? ⟨w102.heap.size, 1, none⟩ = some (.slice b_r (ll).length d_r)) ∧ (W.cell? ⟨w104.heap.size, 0, none⟩ = some (.slice a_p (s1).length c_p) ∧ W.cell? ⟨w104.heap.size, 1, none⟩ = some (.slice b_p (P).length d_p)) ∧ (W.cell? ⟨w106.heap.size, 0, none⟩ = some (.slice a_q (s1).length c_q) ∧ W.cell? ⟨w106.heap.size, 1, none⟩ = some (.slice b_q (Q).length d_q)) ∧ (W.cell? ⟨w108.heap.size, 0, none⟩ = some (.slice a_o (s).length c_o) ∧ W.cell? ⟨w108.heap.size, 1, none⟩ = some (.slice b_o (O).length d_o)))
    (first | exact unhide HK _ (by first | exact hR4 | exact hR3 | exact hR2 | exact hR1  | exact hbR | exact below_same rfl rfl rfl rfl))
    (first
      | (go_at_call 16; refine (refRight_yes ((unhide HP).below hR3) (unhide G3).right).mono ?_; rintro e w112 ⟨rfl, hq4⟩; have hR4 : Below W0.heap.size W0 w112 := below_then hR3 hq4)
      | (go_at_call 30; refine (same_yes ((unhide HO).below hR2) t4 rfl (unhide E2)).mono ?_; rintro e w111 ⟨rfl, hq3⟩; have hR3 : Below W0.heap.size W0 w111 := below_then hR2 hq3)
      | (go_at_call 21; refine (select_rel ((unhide HR).below hR1) (unhide G)).mono ?_; rintro e w110 ⟨u_t4, rfl, t4, hq2⟩; obtain ⟨a_t4, c_t4, b_t4, d_t4, e_t4, _, _, _, _, _, _⟩ := t4.form; rw [e_t4] at t4 ⊢; clear e_t4; have hR2 : Below W0.heap.size W0 w110 := below_then hR1 hq2)
      | (go_at_call 30; refine (same_yes ((unhide HP).below (by first | exact hbR | exact below_same rfl rfl rfl rfl)) ((unhide HQ).below (by first | exact hbR | exact below_same rfl rfl rfl rfl)) rfl (unhide E1)).mono ?_; rintro e w109 ⟨rfl, hq1⟩; have hR1 : Below W0.heap.size W0 w109 := below_then (by first | exact hbR | exact below_same rfl rfl rfl rfl) hq1))
  all_goals
    go_wp2
    go_ret
    exact ⟨rfl, below_then hB hR4⟩

set_option maxRecDepth 100000 in
theorem lifted (os : Os) (started : os.Started) (H : Type) (enc : TypeId × Value → H) :
    ReturnsInHanded {} Try.checked os 10 .any (Rows.relPassesSpec.pre6 enc Try.prog Try.f10 Rows.relPassesRow.domain false) (Rows.relPassesSpec.post enc Try.prog Try.f10 false true false false) := by
  refine returnsInHanded_of_change (C := Try.checked) own started (by kernel_rfl) Try.func10
    (ChangeSpec.witness6 (enc := enc) (C := Try.checked) false ⟨#[], #[.slice none 0 0, .slice none 0 0, .int .i64 0, .int .i64 0, .slice none 0 0], []⟩ 8 (by kernel_rfl) (by kernel_rfl) (by kernel_rfl) (by kernel_rfl)) ?_
  intro W base args ds gs before hval0 hW hcnd _
  have hval : ∀ (j : Nat) t v, Try.f10.params[j]? = some t → args[j]? = some v → Value.okWide Try.prog W .any base t v := hval0
  have hW' := hW
  obtain ⟨p, q, hA0, hV, rfl, hfz, hnd⟩ := hW
  have hA : DataW.TrodAll enc Try.prog W 0 (fun _ => true) true Try.f10.params.toList args.toList ds p := hA0
  rw [Try.params10] at hA hval
  obtain ⟨v0, vs0, d0, ds0, p0, q0, hargs, rfl, rfl, h0, r0⟩ := trodAll_cons hA
  obtain ⟨v1, vs1, d1, ds1, p1, q1, rfl, rfl, rfl, h1, r1⟩ := trodAll_cons r0
  obtain ⟨v2, vs2, d2, ds2, p2, q2, rfl, rfl, rfl, h2, r2⟩ := trodAll_cons r1
  obtain ⟨v3, vs3, d3, ds3, p3, q3, rfl, rfl, rfl, h3, r3⟩ := trodAll_cons r2
  obtain ⟨v4, vs4, d4, ds4, p4, q4, rfl, rfl, rfl, h4, r4⟩ := trodAll_cons r3
  obtain ⟨rfl, rfl, rfl⟩ := trodAll_nil r4
  obtain rfl : args = #[v0, v1, v2, v3, v4] := by cases args; simp_all
  obtain ⟨rfl, rfl⟩ := trodVars_none hV
  obtain ⟨l0, i0, m0⟩ := read_ints h0 (okWide_slice Try.underlying22 (hval 0 22 v0 rfl rfl))
  have lt0 : ∀ x ∈ p0, x.block < W.heap.size := by obtain ⟨m, hm⟩ := h0; exact DataW.trod_lt m _ _ _ hm
  obtain ⟨l1, i1, m1⟩ := read_tups h1 (okWide_slice Try.underlying23 (hval 1 23 v1 rfl rfl))
  have lt1 : ∀ x ∈ p1, x.block < W.heap.size := by obtain ⟨m, hm⟩ := h1; exact DataW.trod_lt m _ _ _ hm
  obtain ⟨l2, i2, m2⟩ := read_int h2 (hval 2 3 v2 rfl rfl)
  have lt2 : ∀ x ∈ p2, x.block < W.heap.size := by obtain ⟨m, hm⟩ := h2; exact DataW.trod_lt m _ _ _ hm
  obtain ⟨l3, i3, m3⟩ := read_int h3 (hval 3 3 v3 rfl rfl)
  have lt3 : ∀ x ∈ p3, x.block < W.heap.size := by obtain ⟨m, hm⟩ := h3; exact DataW.trod_lt m _ _ _ hm
  obtain ⟨l4, i4, m4⟩ := read_ints h4 (okWide_slice Try.underlying22 (hval 4 22 v4 rfl rfl))
  have lt4 : ∀ x ∈ p4, x.block < W.heap.size := by obtain ⟨m, hm⟩ := h4; exact DataW.trod_lt m _ _ _ hm
  clear hA0 hval0
  refine (walk i0 m0 i1 m1 i2 m2 i3 m3 i4 m4).mono fun e W' ⟨he, bel⟩ => ?_
  subst he
  exact ⟨_, rfl, _, _, _, [], _, [], hW', trodAll_mk1 (shut_bool Try.underlying4 _), (trodAll_cons_mk (Below.trod laidOut (by kernel_rfl) (of_decide_eq_true (by kernel_rfl)) h0 bel lt0) (trodAll_cons_mk (Below.trod laidOut (by kernel_rfl) (of_decide_eq_true (by kernel_rfl)) h1 bel lt1) (trodAll_cons_mk (Below.trod laidOut (by kernel_rfl) (of_decide_eq_true (by kernel_rfl)) h2 bel lt2) (trodAll_cons_mk (Below.trod laidOut (by kernel_rfl) (of_decide_eq_true (by kernel_rfl)) h3 bel lt3) (trodAll_cons_mk (Below.trod laidOut (by kernel_rfl) (of_decide_eq_true (by kernel_rfl)) h4 bel lt4) trodAll_mk0))))), rfl, bel.frame _, fun h => by cases h⟩

theorem over : Rows.relPassesRow.holds Try.pinned (OpenSpec.ofChange Rows.relPassesSpec) :=
  OpenClaim.holds_of_wide 10 Try.f10 rfl rfl rfl rfl rfl rfl rfl ⟨rfl, rfl, rfl, rfl, rfl⟩ rfl rfl rfl rfl rfl (by kernel_rfl) Try.func10 (by kernel_rfl)
    (of_decide_eq_true (by kernel_rfl)) (by unfold Func.isWrapper; first | (rw [if_pos (by decide +kernel)]; kernel_rfl) | (rw [if_neg (by decide +kernel)]; exact ⟨rfl, rfl⟩))
    (fun os started H enc _ => lifted os started H enc)

/-- The statement. -/
theorem proved : Rows.RelPassesSaid := over
#print axioms proved
end Go.Proofs.Ytmppialileoimaa.relPasses
