/-
  Proved: RelParts answers true for every scheme, rows, variables, variable and value, and leaves what was handed in as it was. No condition.
-/
import Derived.Test.YtmppialileoimaaRelRows
namespace Go.Proofs.Ytmppialileoimaa.relParts
open Go.RowKit Go.ChangeShapes Go.WideShapes Go.ChangeAt
set_option linter.unusedVariables false
set_option linter.unusedSimpArgs false
set_option maxRecDepth 20000

theorem find_has {ll : List (List Int)} (hs : AscL ll) (t : List Int) : isAt ll t (lowN ll t) = hasL ll t := by
  rw [Bool.eq_iff_iff]
  constructor
  · intro h
    unfold isAt at h
    split at h
    · rename_i hk
      have := cmpL_eq (of_decide_eq_true h)
      simp only [hasL, decide_eq_true_eq]
      rw [← this]; exact List.getElem_mem hk
    · cases h
  · intro h
    simp only [hasL, decide_eq_true_eq] at h
    obtain ⟨i, hi, rfl⟩ := List.getElem_of_mem h
    have e : lowN ll ll[i] = i := low_is hs (by omega) (fun k hk hki => asc_at hs hk hi hki) (fun k hk hik => by
      rcases Nat.lt_or_ge i k with h | h
      · have h1 := asc_at hs hi hk h
        have := cmpL_swap ll[k] ll[i]
        omega
      · have : i = k := by omega
        subst this
        rw [cmpL_refl]; omega)
    rw [e]
    unfold isAt
    rw [dif_pos hi]; simp [cmpL_refl]

theorem find_rel {ll : List (List Int)} {t : List Int} {v vt : Value} {w : World} (h : Tups w v ll) (ht : Ints w vt t) (hs : AscL ll) :
    Calls Try.prog 22 #[v, vt] w fun e w' => e = .returned (.tuple #[.int .i64 (lowN ll t), .bool (hasL ll t)]) ∧ Below w.heap.size w w' := by
  have := Calls.toBelow (refFind_any h ht)
  rwa [find_has hs] at this

theorem cmp_zero {l : List Int} {v v' : Value} {w : World} (h : Ints w v l) (h' : Ints w v' l) :
    Calls Try.prog 25 #[v, v'] w fun e w' => e = .returned (.int .i64 0) ∧ Below w.heap.size w w' := by
  have := Calls.toBelow (refCompare_any h h')
  rwa [cmpL_refl] at this

set_option maxHeartbeats 16000000 in
theorem walk {l0 : List Int} {l1 : List (List Int)} {l2 : List Int} {l3 l4 : Int} {v0 v1 v2 v3 v4 : Value} {w : World} (i0 : Ints w v0 l0) (m0 : ∀ n ∈ l0, InI64 n) (i1 : Tups w v1 l1) (m1 : ∀ l ∈ l1, ∀ n ∈ l, InI64 n) (i2 : Ints w v2 l2) (m2 : ∀ n ∈ l2, InI64 n) (i3 : v3 = .int .i64 l3) (m3 : InI64 l3) (i4 : v4 = .int .i64 l4) (m4 : InI64 l4) :
    Calls Try.prog 4 #[v0, v1, v2, v3, v4] w fun e w' => e = .returned (.bool true) ∧ Below w.heap.size w w' := by
  subst i3 i4
  obtain ⟨b, cb, rfl, hlb, hcb⟩ := i2.form
  unfold maxLen at hcb
  clear m0 m1 m2 m3 m4
  have hB := Below.refl w.heap.size w
  have G := hide (good_small l0 l1)
  go_enter Try.func4, Try.ntmps4
  go_wp2_with fail
  refine (shown2_any _).mono ?_
  rintro e w101 ⟨rfl, hb⟩
  replace i0 := i0.below hb
  replace i1 := i1.below hb
  replace i2 := i2.below hb
  replace hB := below_then hB hb
  clear hb
  go_wp2_with fail
  refine (small_any i0 i1).mono ?_
  rintro e w102 ⟨u_r, rfl, r, hb⟩
  replace i2 := i2.below hb
  replace hB := below_then hB hb
  obtain ⟨a_r, c_r, b_r, d_r, e_r, _, _, _, _, _, _⟩ := r.form
  rw [e_r] at r ⊢
  clear e_r
  clear hb
  clear i0 i1
  generalize smallS l0 = s at *
  generalize smallR l0 l1 = ll at *
  have pb := (Below.refl _ w102).alloc (Nat.le_refl _) (.cells #[.slice a_r (s).length c_r, .slice b_r (ll).length d_r] 25)
  replace r := r.below pb
  replace i2 := i2.below pb
  have xr := Box.new w102 (.slice a_r (s).length c_r) (.slice b_r (ll).length d_r)
  replace hB := below_then hB pb
  clear pb
  have j2 := i2.cut 10
  have hcut := run_cut b l2.length cb (min (l2.length : Int) ((10 : Nat) : Int)) (min (l2.length : Int) ((10 : Nat) : Int)).toNat (by omega) (by omega)
  have hv2 : (l2.take 10).length ≤ 10 := List.length_take_le _ _
  generalize l2.take 10 = vars at j2 hv2
  clear i2
  have GP := hide ((unhide G).proj vars)
  have GS := hide ((unhide G).sel l3 l4)
  have c0_xr := xr.cell0
  have c1_xr := xr.cell1
  go_wp2_with fail
  refine (project_rel r j2 (unhide G) (by omega)).mono ?_
  rintro e w103 ⟨u_p, rfl, p, hb⟩
  replace r := r.below hb
  replace j2 := j2.below hb
  replace xr := xr.belowH hb
  replace hB := below_then hB hb
  obtain ⟨a_p, c_p, b_p, d_p, e_p, _, _, _, _, _, _⟩ := p.form
  rw [e_p] at p ⊢
  clear e_p
  clear hb c0_xr c1_xr
  generalize he1 : meetL s vars = s1 at *
  generalize he2 : projL s ll vars = P at *
  have E1 := hide he1
  have E2 := hide he2
  clear he1 he2
  have pb := (Below.refl _ w103).alloc (Nat.le_refl _) (.cells #[.slice a_p (s1).length c_p, .slice b_p (P).length d_p] 25)
  replace r := r.below pb
  replace j2 := j2.below pb
  replace p := p.below pb
  replace xr := xr.push (.cells #[.slice a_p (s1).length c_p, .slice b_p (P).length d_p] 25)
  have xp := Box.new w103 (.slice a_p (s1).length c_p) (.slice b_p (P).length d_p)
  replace hB := below_then hB pb
  clear pb
  have c0_xr := xr.cell0
  have c1_xr := xr.cell1
  have c0_xp := xp.cell0
  have c1_xp := xp.cell1
  go_wp2_with fail
  refine (select_rel r (unhide G)).mono ?_
  rintro e w104 ⟨u_q, rfl, q, hb⟩
  replace r := r.below hb
  replace j2 := j2.below hb
  replace p := p.below hb
  replace xr := xr.belowH hb
  replace xp := xp.belowH hb
  replace hB := below_then hB hb
  obtain ⟨a_q, c_q, b_q, d_q, e_q, _, _, _, _, _, _⟩ := q.form
  rw [e_q] at q ⊢
  clear e_q
  clear hb c0_xr c1_xr c0_xp c1_xp
  generalize he3 : selL s ll l3 l4 = Q at *
  have E3 := hide he3
  clear he3
  have pb := (Below.refl _ w104).alloc (Nat.le_refl _) (.cells #[.slice a_q (s).length c_q, .slice b_q (Q).length d_q] 25)
  replace r := r.below pb
  replace j2 := j2.below pb
  replace p := p.below pb
  replace q := q.below pb
  replace xr := xr.push (.cells #[.slice a_q (s).length c_q, .slice b_q (Q).length d_q] 25)
  replace xp := xp.push (.cells #[.slice a_q (s).length c_q, .slice b_q (Q).length d_q] 25)
  have xq := Box.new w104 (.slice a_q (s).length c_q) (.slice b_q (Q).length d_q)
  replace hB := below_then hB pb
  clear pb
  have rt : Tups _ (.slice b_r ll.length d_r) ll := r.tups
  have c0_xr := xr.cell0
  have c1_xr := xr.cell1
  have c0_xp := xp.cell0
  have c1_xp := xp.cell1
  have c0_xq := xq.cell0
  have c1_xq := xq.cell1
  go_wp2_with fail
  refine (find_rel rt j2 (unhide G).asl).mono ?_
  rintro e w105 ⟨rfl, hb⟩
  replace r := r.below hb
  replace j2 := j2.below hb
  replace p := p.below hb
  replace q := q.below hb
  replace xr := xr.belowH hb
  replace xp := xp.belowH hb
  replace xq := xq.belowH hb
  replace hB := below_then hB hb
  clear hb c0_xr c1_xr c0_xp c1_xp c0_xq c1_xq
  clear rt hcut
  have HHAS := hide (fun W (hb : Below w105.heap.size w105 W) => has_any (r.below hb) (j2.below hb))
  have HVAL := hide (fun W (hb : Below w105.heap.size w105 W) => values_rel (x := l3) (r.below hb) (unhide G))
  have HRV := hide (fun W (hb : Below w105.heap.size w105 W) => refValues_any (x := l3) (r.below hb) (unhide G).wide (by have := (unhide G).llen; omega))
  generalize hasL ll vars = hh at *
  generalize lowN ll vars = lo at *
  generalize valL s ll l3 = V at *
  have hqq : (hh == hh) = true := by cases hh <;> rfl
  have HRP2 := hide (fun W (hb : Below w105.heap.size w105 W) => refProject_any (r.below hb) (j2.below hb) (by have := (unhide G).llen; omega) (by have := (unhide G).slen; omega))
  have HRS2 := hide (fun W (hb : Below w105.heap.size w105 W) => refSelect_any (x := l3) (y := l4) (r.below hb) (unhide G).wide (by have := (unhide G).llen; omega) (by have := (unhide G).slen; omega))
  rw [unhide E1, unhide E2] at HRP2
  rw [unhide E3] at HRS2
  have HP := hide p
  have HQ := hide q
  clear r p q j2
  go_wp2
  have HK := hide (fun W (hb : Below w105.heap.size w105 W) => (And.intro (And.intro (xr.belowH hb).cell0 (xr.belowH hb).cell1) (And.intro (And.intro (xp.belowH hb).cell0 (xp.belowH hb).cell1) (And.intro (xq.belowH hb).cell0 (xq.belowH hb).cell1))))
  have hbR := Below.refl w105.heap.size w105
  clear xr xp xq
  go_region_held3 (fun W => (W.cell? ⟨w102.heap.size, 0, none⟩ = some (.slice a_r (s).length c_r) ∧ W.cell? ⟨w102.heap.size, 1, none⟩ = some (.slice b_r (ll).length d_r)) ∧ (W.cell? ⟨w103.heap.size, 0, none⟩ = some (.slice a_p (s1).length c_p) ∧ W.cell? ⟨w103.heap.size, 1, none⟩ = some (.slice b_p (P).length d_p)) ∧ (W.cell? ⟨w104.heap.size, 0, none⟩ = some (.slice a_q (s).length c_q) ∧ W.cell? ⟨w104.heap.size, 1, none⟩ = some (.slice b_q (Q).length d_q)))
    (first | exact unhide HK _ (by first | exact hR10 | exact hR9 | exact hR8 | exact hR7 | exact hR6 | exact hR5 | exact hR4 | exact hR3 | exact hR2 | exact hR1  | exact hbR | exact below_same rfl rfl rfl rfl))
    (first
      | (go_at_call 17; refine (right_yes ((unhide HQ).below hR9) (unhide GS).right).mono ?_; rintro e w115 ⟨rfl, hq10⟩; have hR10 : Below w105.heap.size w105 w115 := below_then hR9 hq10)
      | (go_at_call 17; refine (right_yes ((unhide HP).below hR8) (unhide GP).right).mono ?_; rintro e w114 ⟨rfl, hq9⟩; have hR9 : Below w105.heap.size w105 w114 := below_then hR8 hq9)
      | (go_at_call 28; refine (unhide HHAS _ hR7).mono ?_; rintro e w113 ⟨rfl, hq8⟩; have hR8 : Below w105.heap.size w105 w113 := below_then hR7 hq8)
      | (go_at_call 25; refine (cmp_zero (y3.below hq6) y4).mono ?_; rintro e w112 ⟨rfl, hq7⟩; have hR7 : Below w105.heap.size w105 w112 := below_then hR6 hq7)
      | (go_at_call 27; refine (unhide HRV _ hR5).mono ?_; rintro e w111 ⟨u_y4, rfl, y4, n_y4, hq6⟩; obtain ⟨a_y4, c_y4, e_y4, _, _⟩ := y4.form; rw [e_y4] at y4 n_y4 ⊢; clear e_y4; have hR6 : Below w105.heap.size w105 w111 := below_then hR5 hq6)
      | (go_at_call 26; refine (unhide HVAL _ hR4).mono ?_; rintro e w110 ⟨u_y3, rfl, y3, n_y3, hq5⟩; obtain ⟨a_y3, c_y3, e_y3, _, _⟩ := y3.form; rw [e_y3] at y3 n_y3 ⊢; clear e_y3; have hR5 : Below w105.heap.size w105 w110 := below_then hR4 hq5)
      | (go_at_call 18; refine (refSame_yes ((unhide HQ).below hR3) y2 rfl rfl).mono ?_; rintro e w109 ⟨rfl, hq4⟩; have hR4 : Below w105.heap.size w105 w109 := below_then hR3 hq4)
      | (go_at_call 24; refine (unhide HRS2 _ hR2).mono ?_; rintro e w108 ⟨u_y2, rfl, y2, hq3⟩; obtain ⟨a_y2, c_y2, b_y2, d_y2, e_y2, _, _, _, _, _, _⟩ := y2.form; rw [e_y2] at y2 ⊢; clear e_y2; have hR3 : Below w105.heap.size w105 w108 := below_then hR2 hq3)
      | (go_at_call 18; refine (refSame_yes ((unhide HP).below hR1) y1 rfl rfl).mono ?_; rintro e w107 ⟨rfl, hq2⟩; have hR2 : Below w105.heap.size w105 w107 := below_then hR1 hq2)
      | (go_at_call 23; refine (unhide HRP2 _ (by first | exact hbR | exact below_same rfl rfl rfl rfl)).mono ?_; rintro e w106 ⟨u_y1, rfl, y1, hq1⟩; obtain ⟨a_y1, c_y1, b_y1, d_y1, e_y1, _, _, _, _, _, _⟩ := y1.form; rw [e_y1] at y1 ⊢; clear e_y1; have hR1 : Below w105.heap.size w105 w106 := below_then (by first | exact hbR | exact below_same rfl rfl rfl rfl) hq1))
  all_goals
    go_wp2
    go_ret
    exact ⟨rfl, below_then hB hR10⟩

set_option maxRecDepth 100000 in
theorem lifted (os : Os) (started : os.Started) (H : Type) (enc : TypeId × Value → H) :
    ReturnsInHanded {} Try.checked os 4 .any (Rows.relPartsSpec.pre6 enc Try.prog Try.f4 Rows.relPartsRow.domain false) (Rows.relPartsSpec.post enc Try.prog Try.f4 false true false false) := by
  refine returnsInHanded_of_change (C := Try.checked) own started (by kernel_rfl) Try.func4
    (ChangeSpec.witness6 (enc := enc) (C := Try.checked) false ⟨#[], #[.slice none 0 0, .slice none 0 0, .slice none 0 0, .int .i64 0, .int .i64 0], []⟩ 8 (by kernel_rfl) (by kernel_rfl) (by kernel_rfl) (by kernel_rfl)) ?_
  intro W base args ds gs before hval0 hW hcnd _
  have hval : ∀ (j : Nat) t v, Try.f4.params[j]? = some t → args[j]? = some v → Value.okWide Try.prog W .any base t v := hval0
  have hW' := hW
  obtain ⟨p, q, hA0, hV, rfl, hfz, hnd⟩ := hW
  have hA : DataW.TrodAll enc Try.prog W 0 (fun _ => true) true Try.f4.params.toList args.toList ds p := hA0
  rw [Try.params4] at hA hval
  obtain ⟨v0, vs0, d0, ds0, p0, q0, hargs, rfl, rfl, h0, r0⟩ := trodAll_cons hA
  obtain ⟨v1, vs1, d1, ds1, p1, q1, rfl, rfl, rfl, h1, r1⟩ := trodAll_cons r0
  obtain ⟨v2, vs2, d2, ds2, p2, q2, rfl, rfl, rfl, h2, r2⟩ := trodAll_cons r1
  obtain ⟨v3, vs3, d3, ds3, p3, q3, rfl, rfl, rfl, h3, r3⟩ := trodAll_cons r2
  obtain ⟨v4, vs4, d4, ds4, p4, q4, rfl, rfl, rfl, h4, r4⟩ := trodAll_cons r3
  obtain ⟨rfl, rfl, rfl⟩ := trodAll_nil r4
  obtain rfl : args = #[v0, v1, v2, v3, v4] := by cases args; simp_all
  obtain ⟨rfl, rfl⟩ := trodVars_none hV
  obtain ⟨l0, i0, m0⟩ := read_ints h0 (okWide_slice Try.underlying22 (hval 0 22 v0 rfl rfl))
  have lt0 : ∀ x ∈ p0, x.block < W.heap.size := by obtain ⟨m, hm⟩ := h0; exact DataW.trod_lt m _ _ _ hm
  obtain ⟨l1, i1, m1⟩ := read_tups h1 (okWide_slice Try.underlying23 (hval 1 23 v1 rfl rfl))
  have lt1 : ∀ x ∈ p1, x.block < W.heap.size := by obtain ⟨m, hm⟩ := h1; exact DataW.trod_lt m _ _ _ hm
  obtain ⟨l2, i2, m2⟩ := read_ints h2 (okWide_slice Try.underlying22 (hval 2 22 v2 rfl rfl))
  have lt2 : ∀ x ∈ p2, x.block < W.heap.size := by obtain ⟨m, hm⟩ := h2; exact DataW.trod_lt m _ _ _ hm
  obtain ⟨l3, i3, m3⟩ := read_int h3 (hval 3 3 v3 rfl rfl)
  have lt3 : ∀ x ∈ p3, x.block < W.heap.size := by obtain ⟨m, hm⟩ := h3; exact DataW.trod_lt m _ _ _ hm
  obtain ⟨l4, i4, m4⟩ := read_int h4 (hval 4 3 v4 rfl rfl)
  have lt4 : ∀ x ∈ p4, x.block < W.heap.size := by obtain ⟨m, hm⟩ := h4; exact DataW.trod_lt m _ _ _ hm
  clear hA0 hval0
  refine (walk i0 m0 i1 m1 i2 m2 i3 m3 i4 m4).mono fun e W' ⟨he, bel⟩ => ?_
  subst he
  exact ⟨_, rfl, _, _, _, [], _, [], hW', trodAll_mk1 (shut_bool Try.underlying4 _), (trodAll_cons_mk (Below.trod laidOut (by kernel_rfl) (of_decide_eq_true (by kernel_rfl)) h0 bel lt0) (trodAll_cons_mk (Below.trod laidOut (by kernel_rfl) (of_decide_eq_true (by kernel_rfl)) h1 bel lt1) (trodAll_cons_mk (Below.trod laidOut (by kernel_rfl) (of_decide_eq_true (by kernel_rfl)) h2 bel lt2) (trodAll_cons_mk (Below.trod laidOut (by kernel_rfl) (of_decide_eq_true (by kernel_rfl)) h3 bel lt3) (trodAll_cons_mk (Below.trod laidOut (by kernel_rfl) (of_decide_eq_true (by kernel_rfl)) h4 bel lt4) trodAll_mk0))))), rfl, bel.frame _, fun h => by cases h⟩

theorem over : Rows.relPartsRow.holds Try.pinned (OpenSpec.ofChange Rows.relPartsSpec) :=
  OpenClaim.holds_of_wide 4 Try.f4 rfl rfl rfl rfl rfl rfl rfl ⟨rfl, rfl, rfl, rfl, rfl⟩ rfl rfl rfl rfl rfl (by kernel_rfl) Try.func4 (by kernel_rfl)
    (of_decide_eq_true (by kernel_rfl)) (by unfold Func.isWrapper; first | (rw [if_pos (by decide +kernel)]; kernel_rfl) | (rw [if_neg (by decide +kernel)]; exact ⟨rfl, rfl⟩))
    (fun os started H enc _ => lifted os started H enc)

/-- The statement. -/
theorem proved : Rows.RelPartsSaid := over
#print axioms proved
end Go.Proofs.Ytmppialileoimaa.relParts
