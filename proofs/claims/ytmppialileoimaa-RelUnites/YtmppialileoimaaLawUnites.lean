/-
  Proved: RelUnites answers true for every scheme and three rows of rows, and leaves what was handed in as it was. No condition.
-/
import Derived.Test.YtmppialileoimaaRelRows
namespace Go.Proofs.Ytmppialileoimaa.relUnites
open Go.RowKit Go.ChangeShapes Go.WideShapes Go.ChangeAt
set_option linter.unusedVariables false
set_option linter.unusedSimpArgs false
set_option maxRecDepth 20000

theorem unite_same (x y z : List (List Int)) : unionL (unionL x y) z = unionL (unionL z y) x :=
  AscL.ext (asc_union _ _) (asc_union _ _) fun t => by
    simp only [mem_union]
    constructor
    · rintro ((h | h) | h)
      · exact .inr h
      · exact .inl (.inr h)
      · exact .inl (.inl h)
    · rintro ((h | h) | h)
      · exact .inr h
      · exact .inl (.inr h)
      · exact .inl (.inl h)

theorem union_len (x y : List (List Int)) : (unionL x y).length ≤ x.length + y.length := by
  have := sortL_le (x ++ y); simpa [unionL] using this

theorem has_yes {s : List Int} {ll : List (List Int)} {t : List Int} {v vt : Value} {w : World} (h : RelV w v s ll) (ht : Ints w vt t) (hm : t ∈ ll) :
    Calls Try.prog 28 #[v, vt] w fun e w' => e = .returned (.bool true) ∧ Below w.heap.size w w' := by
  have := has_any h ht
  rwa [show hasL ll t = true by simpa [hasL] using hm] at this

set_option maxHeartbeats 16000000 in
theorem walk {l0 : List Int} {l1 l2 l3 : List (List Int)} {v0 v1 v2 v3 : Value} {w : World} (i0 : Ints w v0 l0) (m0 : ∀ n ∈ l0, InI64 n) (i1 : Tups w v1 l1) (m1 : ∀ l ∈ l1, ∀ n ∈ l, InI64 n) (i2 : Tups w v2 l2) (m2 : ∀ l ∈ l2, ∀ n ∈ l, InI64 n) (i3 : Tups w v3 l3) (m3 : ∀ l ∈ l3, ∀ n ∈ l, InI64 n) :
    Calls Try.prog 8 #[v0, v1, v2, v3] w fun e w' => e = .returned (.bool true) ∧ Below w.heap.size w w' := by
  clear m0 m1 m2 m3
  have hB := Below.refl w.heap.size w
  have G1 := hide (good_small l0 l1)
  have G2 := hide (good_small l0 l2)
  have G3 := hide (good_small l0 l3)
  have e1 := smallR_len l0 l1
  have e2 := smallR_len l0 l2
  have e3 := smallR_len l0 l3
  go_enter Try.func8, Try.ntmps8
  go_wp2_with fail
  refine (shown2_any _).mono ?_
  rintro e w101 ⟨rfl, hb⟩
  replace i0 := i0.below hb
  replace i1 := i1.below hb
  replace i2 := i2.below hb
  replace i3 := i3.below hb
  replace hB := below_then hB hb
  clear hb
  go_wp2_with fail
  refine (small_any i0 i1).mono ?_
  rintro e w102 ⟨u_x, rfl, x, hb⟩
  replace i0 := i0.below hb
  replace i2 := i2.below hb
  replace i3 := i3.below hb
  replace hB := below_then hB hb
  obtain ⟨a_x, c_x, b_x, d_x, e_x, _, _, _, _, _, _⟩ := x.form
  rw [e_x] at x ⊢
  clear e_x
  clear hb
  clear i1
  generalize smallR l0 l1 = X at *
  generalize hsS : smallS l0 = s at G1 G2 G3 x ⊢
  have pb := (Below.refl _ w102).alloc (Nat.le_refl _) (.cells #[.slice a_x (s).length c_x, .slice b_x (X).length d_x] 25)
  replace x := x.below pb
  replace i0 := i0.below pb
  replace i2 := i2.below pb
  replace i3 := i3.below pb
  have bx := Box.new w102 (.slice a_x (s).length c_x) (.slice b_x (X).length d_x)
  replace hB := below_then hB pb
  clear pb
  have c0_bx := bx.cell0
  have c1_bx := bx.cell1
  go_wp2_with fail
  refine (small_any i0 i2).mono ?_
  rintro e w103 ⟨u_y, rfl, y, hb⟩
  replace x := x.below hb
  replace i0 := i0.below hb
  replace i3 := i3.below hb
  replace bx := bx.belowH hb
  replace hB := below_then hB hb
  obtain ⟨a_y, c_y, b_y, d_y, e_y, _, _, _, _, _, _⟩ := y.form
  rw [e_y] at y ⊢
  clear e_y
  clear hb c0_bx c1_bx
  clear i2
  generalize smallR l0 l2 = Y at *
  rw [hsS] at y ⊢
  have pb := (Below.refl _ w103).alloc (Nat.le_refl _) (.cells #[.slice a_y (s).length c_y, .slice b_y (Y).length d_y] 25)
  replace x := x.below pb
  replace y := y.below pb
  replace i0 := i0.below pb
  replace i3 := i3.below pb
  replace bx := bx.push (.cells #[.slice a_y (s).length c_y, .slice b_y (Y).length d_y] 25)
  have bY := Box.new w103 (.slice a_y (s).length c_y) (.slice b_y (Y).length d_y)
  replace hB := below_then hB pb
  clear pb
  have c0_bx := bx.cell0
  have c1_bx := bx.cell1
  have c0_bY := bY.cell0
  have c1_bY := bY.cell1
  go_wp2_with fail
  refine (small_any i0 i3).mono ?_
  rintro e w104 ⟨u_z, rfl, z, hb⟩
  replace x := x.below hb
  replace y := y.below hb
  replace bx := bx.belowH hb
  replace bY := bY.belowH hb
  replace hB := below_then hB hb
  obtain ⟨a_z, c_z, b_z, d_z, e_z, _, _, _, _, _, _⟩ := z.form
  rw [e_z] at z ⊢
  clear e_z
  clear hb c0_bx c1_bx c0_bY c1_bY
  clear i3 i0
  generalize smallR l0 l3 = Z at *
  rw [hsS] at z ⊢
  clear hsS
  have pb := (Below.refl _ w104).alloc (Nat.le_refl _) (.cells #[.slice a_z (s).length c_z, .slice b_z (Z).length d_z] 25)
  replace x := x.below pb
  replace y := y.below pb
  replace z := z.below pb
  replace bx := bx.push (.cells #[.slice a_z (s).length c_z, .slice b_z (Z).length d_z] 25)
  replace bY := bY.push (.cells #[.slice a_z (s).length c_z, .slice b_z (Z).length d_z] 25)
  have bz := Box.new w104 (.slice a_z (s).length c_z) (.slice b_z (Z).length d_z)
  replace hB := below_then hB pb
  clear pb
  have G12 := hide (union_good (unhide G1) (unhide G2) (by omega))
  have G32 := hide (union_good (unhide G3) (unhide G2) (by omega))
  have e12 := union_len X Y
  have e32 := union_len Z Y
  have EQ := hide (unite_same X Y Z)
  have HM := hide (show ∀ t ∈ X, t ∈ unionL (unionL X Y) Z from fun t ht => mem_union.2 (.inl (mem_union.2 (.inl ht))))
  have GQ := hide (union_good (unhide G12) (unhide G3) (by omega))
  have c0_bx := bx.cell0
  have c1_bx := bx.cell1
  have c0_bY := bY.cell0
  have c1_bY := bY.cell1
  have c0_bz := bz.cell0
  have c1_bz := bz.cell1
  go_wp2_with fail
  refine (union_rel x y (unhide G1) (unhide G2)).mono ?_
  rintro e w105 ⟨u_p, rfl, p, hb⟩
  replace x := x.below hb
  replace y := y.below hb
  replace z := z.below hb
  replace bx := bx.belowH hb
  replace bY := bY.belowH hb
  replace bz := bz.belowH hb
  replace hB := below_then hB hb
  obtain ⟨a_p, c_p, b_p, d_p, e_p, _, _, _, _, _, _⟩ := p.form
  rw [e_p] at p ⊢
  clear e_p
  clear hb c0_bx c1_bx c0_bY c1_bY c0_bz c1_bz
  generalize unionL X Y = P at *
  have pb := (Below.refl _ w105).alloc (Nat.le_refl _) (.cells #[.slice a_p (s).length c_p, .slice b_p (P).length d_p] 25)
  replace x := x.below pb
  replace y := y.below pb
  replace z := z.below pb
  replace p := p.below pb
  replace bx := bx.push (.cells #[.slice a_p (s).length c_p, .slice b_p (P).length d_p] 25)
  replace bY := bY.push (.cells #[.slice a_p (s).length c_p, .slice b_p (P).length d_p] 25)
  replace bz := bz.push (.cells #[.slice a_p (s).length c_p, .slice b_p (P).length d_p] 25)
  have bp := Box.new w105 (.slice a_p (s).length c_p) (.slice b_p (P).length d_p)
  replace hB := below_then hB pb
  clear pb
  have c0_bx := bx.cell0
  have c1_bx := bx.cell1
  have c0_bY := bY.cell0
  have c1_bY := bY.cell1
  have c0_bz := bz.cell0
  have c1_bz := bz.cell1
  have c0_bp := bp.cell0
  have c1_bp := bp.cell1
  go_wp2_with fail
  refine (union_rel p z (unhide G12) (unhide G3)).mono ?_
  rintro e w106 ⟨u_q, rfl, q, hb⟩
  replace x := x.below hb
  replace y := y.below hb
  replace z := z.below hb
  replace bx := bx.belowH hb
  replace bY := bY.belowH hb
  replace bz := bz.belowH hb
  replace bp := bp.belowH hb
  replace hB := below_then hB hb
  obtain ⟨a_q, c_q, b_q, d_q, e_q, _, _, _, _, _, _⟩ := q.form
  rw [e_q] at q ⊢
  clear e_q
  clear hb c0_bx c1_bx c0_bY c1_bY c0_bz c1_bz c0_bp c1_bp
  generalize unionL P Z = Q at *
  have pb := (Below.refl _ w106).alloc (Nat.le_refl _) (.cells #[.slice a_q (s).length c_q, .slice b_q (Q).length d_q] 25)
  replace x := x.below pb
  replace y := y.below pb
  replace z := z.below pb
  replace q := q.below pb
  replace bx := bx.push (.cells #[.slice a_q (s).length c_q, .slice b_q (Q).length d_q] 25)
  replace bY := bY.push (.cells #[.slice a_q (s).length c_q, .slice b_q (Q).length d_q] 25)
  replace bz := bz.push (.cells #[.slice a_q (s).length c_q, .slice b_q (Q).length d_q] 25)
  have bq := Box.new w106 (.slice a_q (s).length c_q) (.slice b_q (Q).length d_q)
  replace hB := below_then hB pb
  clear pb
  have c0_bx := bx.cell0
  have c1_bx := bx.cell1
  have c0_bY := bY.cell0
  have c1_bY := bY.cell1
  have c0_bz := bz.cell0
  have c1_bz := bz.cell1
  have c0_bq := bq.cell0
  have c1_bq := bq.cell1
  go_wp2_with fail
  refine (union_rel z y (unhide G3) (unhide G2)).mono ?_
  rintro e w107 ⟨u_o, rfl, o, hb⟩
  replace x := x.below hb
  replace q := q.below hb
  replace bx := bx.belowH hb
  replace bY := bY.belowH hb
  replace bz := bz.belowH hb
  replace bq := bq.belowH hb
  replace hB := below_then hB hb
  obtain ⟨a_o, c_o, b_o, d_o, e_o, _, _, _, _, _, _⟩ := o.form
  rw [e_o] at o ⊢
  clear e_o
  clear hb c0_bx c1_bx c0_bY c1_bY c0_bz c1_bz c0_bq c1_bq
  generalize unionL Z Y = O at *
  have pb := (Below.refl _ w107).alloc (Nat.le_refl _) (.cells #[.slice a_o (s).length c_o, .slice b_o (O).length d_o] 25)
  replace x := x.below pb
  replace q := q.below pb
  replace o := o.below pb
  replace bx := bx.push (.cells #[.slice a_o (s).length c_o, .slice b_o (O).length d_o] 25)
  replace bq := bq.push (.cells #[.slice a_o (s).length c_o, .slice b_o (O).length d_o] 25)
  have bo := Box.new w107 (.slice a_o (s).length c_o) (.slice b_o (O).length d_o)
  replace hB := below_then hB pb
  clear pb
  have c0_bx := bx.cell0
  have c1_bx := bx.cell1
  have c0_bq := bq.cell0
  have c1_bq := bq.cell1
  have c0_bo := bo.cell0
  have c1_bo := bo.cell1
  go_wp2_with fail
  refine (union_rel o x (unhide G32) (unhide G1)).mono ?_
  rintro e w108 ⟨u_t, rfl, t, hb⟩
  replace x := x.below hb
  replace q := q.below hb
  replace bx := bx.belowH hb
  replace bq := bq.belowH hb
  replace bo := bo.belowH hb
  replace hB := below_then hB hb
  obtain ⟨a_t, c_t, b_t, d_t, e_t, _, _, _, _, _, _⟩ := t.form
  rw [e_t] at t ⊢
  clear e_t
  clear hb c0_bx c1_bx c0_bq c1_bq c0_bo c1_bo
  generalize unionL O X = T at *
  have pb := (Below.refl _ w108).alloc (Nat.le_refl _) (.cells #[.slice a_t (s).length c_t, .slice b_t (T).length d_t] 25)
  replace x := x.below pb
  replace q := q.below pb
  replace t := t.below pb
  replace bx := bx.push (.cells #[.slice a_t (s).length c_t, .slice b_t (T).length d_t] 25)
  replace bq := bq.push (.cells #[.slice a_t (s).length c_t, .slice b_t (T).length d_t] 25)
  have bt := Box.new w108 (.slice a_t (s).length c_t) (.slice b_t (T).length d_t)
  replace hB := below_then hB pb
  clear pb
  have c0_bx := bx.cell1
  go_wp2
  generalize (w108.alloc (.cells #[.slice a_t (s).length c_t, .slice b_t (T).length d_t] 25)) = W0 at *
  have hx : Tups W0 (.slice b_x X.length d_x) X := by obtain ⟨_, _, e, _, h⟩ := x; cases e; exact h
  have HB := hide hB
  clear hB c0_bx x
  go_loopw [21] (fun i wr => ∃ k : Nat, k ≤ X.length ∧ i = .int .i64 k ∧ Below W0.heap.size W0 wr) (fun i _ => X.length - (intOf i).toNat)
  case atStart => exact ⟨0, by omega, rfl, Below.refl _ _⟩
  case round =>
    obtain ⟨k, hk, rfl, hbel⟩ := hrel
    rename World => W1
    have ybx := bx.belowH hbel
    have ybq := bq.belowH hbel
    have ybt := bt.belowH hbel
    have hq := q.below hbel
    have ht := t.below hbel
    by_cases hkl : k < X.length
    · obtain ⟨bl, ol, ul, rfl, hcl, hiL⟩ := (hx.below hbel).at hkl
      obtain ⟨ia, ic, rfl, _, _⟩ := hiL.form
      have hmk := unhide HM _ (List.getElem_mem hkl)
      have HH := hide (fun W (hb : Below W1.heap.size W1 W) => has_yes (hq.below hb) (hiL.below hb) hmk)
      have c1_bx := ybx.cell1
      clear bx bq bt q t hx hmk hiL ht ybt hq
      go_wp2
      
      
      have HK := hide (fun W (hb : Below W1.heap.size W1 W) => (And.intro (And.intro (ybx.belowH hb).cell0 (ybx.belowH hb).cell1) (And.intro (And.intro (ybq.belowH hb).cell0 (ybq.belowH hb).cell1) (Below.cell_of hb hcl))))
      have hbR := Below.refl W1.heap.size W1
      clear ybx ybq
      go_region_held3 (fun W => (W.cell? ⟨w102.heap.size, 0, none⟩ = some (.slice a_x (s).length c_x) ∧ W.cell? ⟨w102.heap.size, 1, none⟩ = some (.slice (some ⟨bl, ol, none⟩) (X).length d_x)) ∧ (W.cell? ⟨w106.heap.size, 0, none⟩ = some (.slice a_q (s).length c_q) ∧ W.cell? ⟨w106.heap.size, 1, none⟩ = some (.slice b_q (Q).length d_q)) ∧ W.cell? ⟨bl, ol + k, none⟩ = some (.slice ia X[k].length ic))
        (first | exact unhide HK _ (by first | exact hR1  | exact hbR | exact below_same rfl rfl rfl rfl))
        (first
          | (go_at_call 28; refine (unhide HH _ (by first | exact hbR | exact below_same rfl rfl rfl rfl)).mono ?_; rintro e w109 ⟨rfl, hq1⟩; have hR1 : Below W1.heap.size W1 w109 := below_then (by first | exact hbR | exact below_same rfl rfl rfl rfl) hq1))
      all_goals
        go_wp2
        go_roundw
        case rel => exact ⟨k + 1, by omega, by go_num, below_then hbel hR1⟩
        case measure => simp [intOf]; omega
    · have hB := below_then (unhide HB) hbel
      have c1_bx := ybx.cell1
      clear bx bq bt q t hx HB hbel
      
      have c0_ybq := ybq.cell0
      have c1_ybq := ybq.cell1
      have c0_ybt := ybt.cell0
      have c1_ybt := ybt.cell1
      go_wp2_with fail
      refine (same_yes hq ht rfl (unhide EQ)).mono ?_
      rintro e w110 ⟨rfl, hb⟩
      replace hq := hq.below hb
      replace ybq := ybq.belowH hb
      replace ybt := ybt.belowH hb
      replace hB := below_then hB hb
      clear hb c0_ybq c1_ybq c0_ybt c1_ybt
      have c0_ybq := ybq.cell0
      have c1_ybq := ybq.cell1
      go_wp2_with fail
      refine (right_yes hq (unhide GQ).right).mono ?_
      rintro e w111 ⟨rfl, hb⟩
      replace hq := hq.below hb
      replace ybq := ybq.belowH hb
      replace hB := below_then hB hb
      clear hb c0_ybq c1_ybq
      go_wp2
      go_ret
      exact ⟨rfl, hB⟩

set_option maxRecDepth 100000 in
theorem lifted (os : Os) (started : os.Started) (H : Type) (enc : TypeId × Value → H) :
    ReturnsInHanded {} Try.checked os 8 .any (Rows.relUnitesSpec.pre6 enc Try.prog Try.f8 Rows.relUnitesRow.domain false) (Rows.relUnitesSpec.post enc Try.prog Try.f8 false true false false) := by
  refine returnsInHanded_of_change (C := Try.checked) own started (by kernel_rfl) Try.func8
    (ChangeSpec.witness6 (enc := enc) (C := Try.checked) false ⟨#[], #[.slice none 0 0, .slice none 0 0, .slice none 0 0, .slice none 0 0], []⟩ 8 (by kernel_rfl) (by kernel_rfl) (by kernel_rfl) (by kernel_rfl)) ?_
  intro W base args ds gs before hval0 hW hcnd _
  have hval : ∀ (j : Nat) t v, Try.f8.params[j]? = some t → args[j]? = some v → Value.okWide Try.prog W .any base t v := hval0
  have hW' := hW
  obtain ⟨p, q, hA0, hV, rfl, hfz, hnd⟩ := hW
  have hA : DataW.TrodAll enc Try.prog W 0 (fun _ => true) true Try.f8.params.toList args.toList ds p := hA0
  rw [Try.params8] at hA hval
  obtain ⟨v0, vs0, d0, ds0, p0, q0, hargs, rfl, rfl, h0, r0⟩ := trodAll_cons hA
  obtain ⟨v1, vs1, d1, ds1, p1, q1, rfl, rfl, rfl, h1, r1⟩ := trodAll_cons r0
  obtain ⟨v2, vs2, d2, ds2, p2, q2, rfl, rfl, rfl, h2, r2⟩ := trodAll_cons r1
  obtain ⟨v3, vs3, d3, ds3, p3, q3, rfl, rfl, rfl, h3, r3⟩ := trodAll_cons r2
  obtain ⟨rfl, rfl, rfl⟩ := trodAll_nil r3
  obtain rfl : args = #[v0, v1, v2, v3] := by cases args; simp_all
  obtain ⟨rfl, rfl⟩ := trodVars_none hV
  obtain ⟨l0, i0, m0⟩ := read_ints h0 (okWide_slice Try.underlying22 (hval 0 22 v0 rfl rfl))
  have lt0 : ∀ x ∈ p0, x.block < W.heap.size := by obtain ⟨m, hm⟩ := h0; exact DataW.trod_lt m _ _ _ hm
  obtain ⟨l1, i1, m1⟩ := read_tups h1 (okWide_slice Try.underlying23 (hval 1 23 v1 rfl rfl))
  have lt1 : ∀ x ∈ p1, x.block < W.heap.size := by obtain ⟨m, hm⟩ := h1; exact DataW.trod_lt m _ _ _ hm
  obtain ⟨l2, i2, m2⟩ := read_tups h2 (okWide_slice Try.underlying23 (hval 2 23 v2 rfl rfl))
  have lt2 : ∀ x ∈ p2, x.block < W.heap.size := by obtain ⟨m, hm⟩ := h2; exact DataW.trod_lt m _ _ _ hm
  obtain ⟨l3, i3, m3⟩ := read_tups h3 (okWide_slice Try.underlying23 (hval 3 23 v3 rfl rfl))
  have lt3 : ∀ x ∈ p3, x.block < W.heap.size := by obtain ⟨m, hm⟩ := h3; exact DataW.trod_lt m _ _ _ hm
  clear hA0 hval0
  refine (walk i0 m0 i1 m1 i2 m2 i3 m3).mono fun e W' ⟨he, bel⟩ => ?_
  subst he
  exact ⟨_, rfl, _, _, _, [], _, [], hW', trodAll_mk1 (shut_bool Try.underlying4 _), (trodAll_cons_mk (Below.trod laidOut (by kernel_rfl) (of_decide_eq_true (by kernel_rfl)) h0 bel lt0) (trodAll_cons_mk (Below.trod laidOut (by kernel_rfl) (of_decide_eq_true (by kernel_rfl)) h1 bel lt1) (trodAll_cons_mk (Below.trod laidOut (by kernel_rfl) (of_decide_eq_true (by kernel_rfl)) h2 bel lt2) (trodAll_cons_mk (Below.trod laidOut (by kernel_rfl) (of_decide_eq_true (by kernel_rfl)) h3 bel lt3) trodAll_mk0)))), rfl, bel.frame _, fun h => by cases h⟩

theorem over : Rows.relUnitesRow.holds Try.pinned (OpenSpec.ofChange Rows.relUnitesSpec) :=
  OpenClaim.holds_of_wide 8 Try.f8 rfl rfl rfl rfl rfl rfl rfl ⟨rfl, rfl, rfl, rfl, rfl⟩ rfl rfl rfl rfl rfl (by kernel_rfl) Try.func8 (by kernel_rfl)
    (of_decide_eq_true (by kernel_rfl)) (by unfold Func.isWrapper; first | (rw [if_pos (by decide +kernel)]; kernel_rfl) | (rw [if_neg (by decide +kernel)]; exact ⟨rfl, rfl⟩))
    (fun os started H enc _ => lifted os started H enc)

/-- The statement. -/
theorem proved : Rows.RelUnitesSaid := over
#print axioms proved
end Go.Proofs.Ytmppialileoimaa.relUnites
