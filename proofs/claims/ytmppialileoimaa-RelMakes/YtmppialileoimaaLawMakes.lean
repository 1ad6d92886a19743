/-
  Proved: RelMakes answers true for every relation, and leaves what was handed in as it was. No condition.
-/
import Derived.Test.YtmppialileoimaaRelRows
import Derived.Test.YtmppialileoimaaRefRight
import Derived.Test.YtmppialileoimaaLawCut2
namespace Go.Proofs.Ytmppialileoimaa.relMakes
open Go.RowKit Go.ChangeShapes Go.WideShapes Go.ChangeAt
set_option linter.unusedVariables false
set_option linter.unusedSimpArgs false
set_option maxRecDepth 20000

theorem Box.set0 {w : World} {b : Nat} {x y : Value} (h : Box w b x y) (z : Value) : Box (w.setCell ⟨b, 0, none⟩ z) b z y := by
  unfold Box at *
  rw [heap_setCell_same w b 0 _ _ z h]; simp

theorem cut_cut (ll : List (List Int)) : cutR (cutR ll) = cutR ll := by
  unfold cutR
  rw [← List.map_take, List.take_take, List.map_map]
  simp [Function.comp_def, List.take_take]

theorem cut_len (ll : List (List Int)) : (cutR ll).length ≤ 40 := by
  unfold cutR
  rw [List.length_map]; exact List.length_take_le _ _

theorem cut_same {s : List Int} {ll : List (List Int)} {v : Value} {w : World} (h : RelV w v s ll) (hs : s.take 10 = s) (hl : cutR ll = ll) :
    Calls Try.prog 13 #[v] w fun e w' => ∃ u, e = .returned u ∧ RelV w' u s ll ∧ Below w.heap.size w w' :=
  (lawCut_any h).mono fun e w' ⟨x, y, he, hr, _, hb⟩ => ⟨_, he, by rwa [hs, hl] at hr, hb⟩

theorem make_yes {s s1 : List Int} {ll M : List (List Int)} {vs v : Value} {w : World} (hs : Ints w vs s) (h : Tups w v ll) (hl : ll.length < 100000) (hsl : s.length < 100000000) (hok : makeOk s ll = true) (e1 : riseL s = s1) (e2 : makeL s ll = M) :
    Calls Try.prog 14 #[vs, v] w fun e w' => ∃ u, e = .returned (.tuple #[u, .int .i64 0]) ∧ RelV w' u s1 M ∧ Below w.heap.size w w' := by
  subst e1 e2
  exact make_ok hs h hl hsl hok

theorem refMake_yes {s s1 : List Int} {ll M : List (List Int)} {vs v : Value} {w : World} (hs : Ints w vs s) (h : Tups w v ll) (hl : ll.length < 100000) (hsl : s.length < 100000000) (hok : makeOk s ll = true) (e1 : riseL s = s1) (e2 : makeL s ll = M) :
    Calls Try.prog 15 #[vs, v] w fun e w' => ∃ u, e = .returned (.tuple #[u, .bool true]) ∧ RelV w' u s1 M ∧ Below w.heap.size w w' := by
  subst e1 e2
  obtain ⟨h1, h2⟩ : schemeOk s = true ∧ wideB ll s.length = true := by simpa [makeOk] using hok
  have := refMake_good hs h hl hsl h1
  rw [h2] at this
  simp only [↓reduceIte] at this
  exact this

theorem refMake_no {s : List Int} {ll : List (List Int)} {vs v : Value} {w : World} (hs : Ints w vs s) (h : Tups w v ll) (hl : ll.length < 100000) (hsl : s.length < 100000000) (hok : makeOk s ll = false) :
    Calls Try.prog 15 #[vs, v] w fun e w' => ∃ u, e = .returned (.tuple #[u, .bool false]) ∧ RelV w' u [] [] ∧ Below w.heap.size w w' := by
  unfold makeOk at hok
  by_cases hk : schemeOk s = true
  · rw [hk, Bool.true_and] at hok
    have := refMake_good hs h hl hsl hk
    rw [hok] at this
    simp only [Bool.false_eq_true, ↓reduceIte] at this
    exact this
  · exact (refMake_bad hs h hsl (by simpa using hk)).mono fun e w' ⟨he, hb⟩ => ⟨_, he, rel_none _, hb⟩

theorem right_eq {s : List Int} {ll : List (List Int)} {v : Value} {w : World} {q : Bool} (h : RelV w v s ll) (e : rightL s ll = q) :
    Calls Try.prog 17 #[v] w fun e w' => e = .returned (.bool q) ∧ Below w.heap.size w w' := by
  subst e
  exact right_any h

theorem refRight_eq {s : List Int} {ll : List (List Int)} {v : Value} {w : World} {q : Bool} (h : RelV w v s ll) (e : rightL s ll = q) :
    Calls Try.prog 16 #[v] w fun e w' => e = .returned (.bool q) ∧ Below w.heap.size w w' := by
  subst e
  exact refRight_any h

theorem make_right {s : List Int} {ll : List (List Int)} (hok : makeOk s ll = true) : rightL (riseL s) (makeL s ll) = true := by
  obtain ⟨h1, h2⟩ : schemeOk s = true ∧ wideB ll s.length = true := by simpa [makeOk] using hok
  obtain ⟨h3, h4⟩ : (riseL s).length = s.length ∧ headB (riseL s) = true := by simpa [schemeOk] using h1
  have hw : ∀ t ∈ ll, t.length = s.length := fun t ht => by
    unfold wideB at h2
    rw [List.all_eq_true] at h2
    have := h2 t ht
    simp only [decide_eq_true_eq] at this
    omega
  have hr := riseL_spec s
  unfold rightL rightS
  rw [(risB_iff _).2 hr.1, h4]
  simp only [Bool.true_and, Bool.and_eq_true]
  refine ⟨?_, (ascB_iff _).2 (sortL_spec _).1⟩
  unfold wideB
  rw [List.all_eq_true]
  intro t ht
  obtain ⟨t', ht', rfl⟩ := List.mem_map.1 (((sortL_spec _).2 t).1 ht)
  simp only [decide_eq_true_eq]
  rw [pick_map (fun x hx => (hr.2 x).1 hx) (hw t' ht'), List.length_map]

set_option maxHeartbeats 16000000 in
theorem walk {l0 : List Int} {k0 : List (List Int)} {v0 : Value} {w : World} (i0 : RelV w v0 l0 k0) (m0 : ∀ n ∈ l0, InI64 n) (n0 : ∀ l ∈ k0, ∀ n ∈ l, InI64 n) :
    Calls Try.prog 3 #[v0] w fun e w' => e = .returned (.bool true) ∧ Below w.heap.size w w' := by
  clear m0 n0
  obtain ⟨a, ca, b, cb, rfl, k1, k2, k3, k4, hs, ht⟩ := i0.form
  unfold maxLen at k2 k4
  have hB := (Below.refl w.heap.size w).alloc (Nat.le_refl _) (.cells #[.slice a l0.length ca, .slice b k0.length cb] 25)
  have x0 := Box.new w (.slice a l0.length ca) (.slice b k0.length cb)
  have i1 := i0.below hB
  clear i0 hs ht
  go_enter Try.func3, Try.ntmps3
  have c0_x0 := x0.cell0
  have c1_x0 := x0.cell1
  go_wp2_with fail
  refine (shown2_any _).mono ?_
  rintro e w101 ⟨rfl, hb⟩
  replace i1 := i1.below hb
  replace x0 := x0.belowH hb
  replace hB := below_then hB hb
  clear hb c0_x0 c1_x0
  have hlt := x0.lt
  have c0 := x0.cell0
  have c1 := x0.cell1
  go_wp2_with fail
  refine (lawCut_any i1).mono ?_
  rintro e w2 ⟨ux, uy, rfl, r, rne, hb⟩
  replace x0 := x0.belowH hb
  replace hB := below_then hB hb
  obtain ⟨a_r, c_r, b_r, d_r, e_r, _, _, _, _, _, _⟩ := r.form
  have e5 : ux = .slice a_r (l0.take 10).length c_r ∧ uy = .slice b_r (cutR k0).length d_r := by injection e_r with e4; injection e4 with e4; injection e4 with e6 e4; injection e4 with e7 _; exact ⟨e6, e7⟩
  obtain ⟨e6, e7⟩ := e5
  subst e6 e7
  have hsl : (l0.take 10).length ≤ 10 := List.length_take_le _ _
  have hll := cut_len k0
  have HS : Hid ((l0.take 10).take 10 = l0.take 10) := hide (by rw [List.take_take]; rfl)
  have HC := hide (cut_cut k0)
  clear e_r hb c0 c1 i1
  generalize l0.take 10 = s at *
  generalize cutR k0 = ll at *
  have hd0 := x0.cell0
  have hd1 := x0.cell1
  have hg0 := x0.frozen 0
  have hg1 := x0.frozen 1
  replace r := rel_store x0.boxS hd0 r.ints r.tups (rne _ hlt)
  have xr := Box.set1 (Box.set0 x0 (.slice a_r s.length c_r)) (.slice b_r ll.length d_r)
  replace hB := below_store hB (Nat.le_refl _) (.slice a_r s.length c_r) (.slice b_r ll.length d_r)
  clear rne x0 hlt
  have c0_xr := xr.cell0
  have c1_xr := xr.cell1
  go_wp2_with fail
  refine (cut_same r (unhide HS) (unhide HC)).mono ?_
  rintro e w102 ⟨u_t, rfl, t, hb⟩
  replace r := r.below hb
  replace xr := xr.belowH hb
  replace hB := below_then hB hb
  obtain ⟨a_t, c_t, b_t, d_t, e_t, _, _, _, _, _, _⟩ := t.form
  rw [e_t] at t ⊢
  clear e_t
  clear hb c0_xr c1_xr
  clear hd0 hd1 hg0 hg1 HS HC
  have pb := (Below.refl _ w102).alloc (Nat.le_refl _) (.cells #[.slice a_t (s).length c_t, .slice b_t (ll).length d_t] 25)
  replace r := r.below pb
  replace t := t.below pb
  replace xr := xr.push (.cells #[.slice a_t (s).length c_t, .slice b_t (ll).length d_t] 25)
  have xt := Box.new w102 (.slice a_t (s).length c_t) (.slice b_t (ll).length d_t)
  replace hB := below_then hB pb
  clear pb
  have hqq : ∀ q : Bool, (q != q) = false := by decide
  obtain ⟨q0, HQ⟩ : ∃ q, Hid (rightL s ll = q) := ⟨_, hide rfl⟩
  by_cases hok : makeOk s ll = true
  · have HOK := hide hok
    have HRT := hide (make_right hok)
    clear hok
    obtain ⟨s1, E1⟩ : ∃ q, Hid (riseL s = q) := ⟨_, hide rfl⟩
    obtain ⟨M, E2⟩ : ∃ q, Hid (makeL s ll = q) := ⟨_, hide rfl⟩
    rw [unhide E1, unhide E2] at HRT
    have c0_xr := xr.cell0
    have c1_xr := xr.cell1
    have c0_xt := xt.cell0
    have c1_xt := xt.cell1
    go_wp2_with fail
    refine (make_yes r.ints r.tups (by omega) (by omega) (unhide HOK) (unhide E1) (unhide E2)).mono ?_
    rintro e w103 ⟨u_u, rfl, u, hb⟩
    replace r := r.below hb
    replace t := t.below hb
    replace xr := xr.belowH hb
    replace xt := xt.belowH hb
    replace hB := below_then hB hb
    obtain ⟨a_u, c_u, b_u, d_u, e_u, _, _, _, _, _, _⟩ := u.form
    rw [e_u] at u ⊢
    clear e_u
    clear hb c0_xr c1_xr c0_xt c1_xt
    have pb := (Below.refl _ w103).alloc (Nat.le_refl _) (.cells #[.slice a_u (s1).length c_u, .slice b_u (M).length d_u] 25)
    replace r := r.below pb
    replace t := t.below pb
    replace u := u.below pb
    replace xr := xr.push (.cells #[.slice a_u (s1).length c_u, .slice b_u (M).length d_u] 25)
    replace xt := xt.push (.cells #[.slice a_u (s1).length c_u, .slice b_u (M).length d_u] 25)
    have xu := Box.new w103 (.slice a_u (s1).length c_u) (.slice b_u (M).length d_u)
    replace hB := below_then hB pb
    clear pb
    have c0_xr := xr.cell0
    have c1_xr := xr.cell1
    have c0_xt := xt.cell0
    have c1_xt := xt.cell1
    have c0_xu := xu.cell0
    have c1_xu := xu.cell1
    go_wp2_with fail
    refine (refMake_yes r.ints r.tups (by omega) (by omega) (unhide HOK) (unhide E1) (unhide E2)).mono ?_
    rintro e w104 ⟨u_v, rfl, v, hb⟩
    replace r := r.below hb
    replace t := t.below hb
    replace u := u.below hb
    replace xr := xr.belowH hb
    replace xt := xt.belowH hb
    replace xu := xu.belowH hb
    replace hB := below_then hB hb
    obtain ⟨a_v, c_v, b_v, d_v, e_v, _, _, _, _, _, _⟩ := v.form
    rw [e_v] at v ⊢
    clear e_v
    clear hb c0_xr c1_xr c0_xt c1_xt c0_xu c1_xu
    have pb := (Below.refl _ w104).alloc (Nat.le_refl _) (.cells #[.slice a_v (s1).length c_v, .slice b_v (M).length d_v] 25)
    replace r := r.below pb
    replace t := t.below pb
    replace u := u.below pb
    replace v := v.below pb
    replace xr := xr.push (.cells #[.slice a_v (s1).length c_v, .slice b_v (M).length d_v] 25)
    replace xt := xt.push (.cells #[.slice a_v (s1).length c_v, .slice b_v (M).length d_v] 25)
    replace xu := xu.push (.cells #[.slice a_v (s1).length c_v, .slice b_v (M).length d_v] 25)
    have xv := Box.new w104 (.slice a_v (s1).length c_v) (.slice b_v (M).length d_v)
    replace hB := below_then hB pb
    clear pb
    have c0_xr := xr.cell0
    have c1_xr := xr.cell1
    have c0_xt := xt.cell0
    have c1_xt := xt.cell1
    have c0_xu := xu.cell0
    have c1_xu := xu.cell1
    have c0_xv := xv.cell0
    have c1_xv := xv.cell1
    go_wp2_with fail
    refine (refRight_eq r (unhide HQ)).mono ?_
    rintro e w105 ⟨rfl, hb⟩
    replace r := r.below hb
    replace t := t.below hb
    replace u := u.below hb
    replace v := v.below hb
    replace xr := xr.belowH hb
    replace xt := xt.belowH hb
    replace xu := xu.belowH hb
    replace xv := xv.belowH hb
    replace hB := below_then hB hb
    clear hb c0_xr c1_xr c0_xt c1_xt c0_xu c1_xu c0_xv c1_xv
    have c0_xr := xr.cell0
    have c1_xr := xr.cell1
    have c0_xt := xt.cell0
    have c1_xt := xt.cell1
    have c0_xu := xu.cell0
    have c1_xu := xu.cell1
    have c0_xv := xv.cell0
    have c1_xv := xv.cell1
    go_wp2_with fail
    refine (right_eq r (unhide HQ)).mono ?_
    rintro e w106 ⟨rfl, hb⟩
    replace r := r.below hb
    replace t := t.below hb
    replace u := u.below hb
    replace v := v.below hb
    replace xr := xr.belowH hb
    replace xt := xt.belowH hb
    replace xu := xu.belowH hb
    replace xv := xv.belowH hb
    replace hB := below_then hB hb
    clear hb c0_xr c1_xr c0_xt c1_xt c0_xu c1_xu c0_xv c1_xv
    have c0_xr := xr.cell0
    have c1_xr := xr.cell1
    have c0_xt := xt.cell0
    have c1_xt := xt.cell1
    have c0_xu := xu.cell0
    have c1_xu := xu.cell1
    have c0_xv := xv.cell0
    have c1_xv := xv.cell1
    go_wp2_with fail
    refine (refSame_yes r t rfl rfl).mono ?_
    rintro e w107 ⟨rfl, hb⟩
    replace r := r.below hb
    replace t := t.below hb
    replace u := u.below hb
    replace v := v.below hb
    replace xr := xr.belowH hb
    replace xt := xt.belowH hb
    replace xu := xu.belowH hb
    replace xv := xv.belowH hb
    replace hB := below_then hB hb
    clear hb c0_xr c1_xr c0_xt c1_xt c0_xu c1_xu c0_xv c1_xv
    have c0_xr := xr.cell0
    have c1_xr := xr.cell1
    have c0_xt := xt.cell0
    have c1_xt := xt.cell1
    have c0_xu := xu.cell0
    have c1_xu := xu.cell1
    have c0_xv := xv.cell0
    have c1_xv := xv.cell1
    go_wp2_with fail
    refine (refSame_yes u v rfl rfl).mono ?_
    rintro e w108 ⟨rfl, hb⟩
    replace r := r.below hb
    replace t := t.below hb
    replace u := u.below hb
    replace v := v.below hb
    replace xr := xr.belowH hb
    replace xt := xt.belowH hb
    replace xu := xu.belowH hb
    replace xv := xv.belowH hb
    replace hB := below_then hB hb
    clear hb c0_xr c1_xr c0_xt c1_xt c0_xu c1_xu c0_xv c1_xv
    have c0_xr := xr.cell0
    have c1_xr := xr.cell1
    have c0_xt := xt.cell0
    have c1_xt := xt.cell1
    have c0_xu := xu.cell0
    have c1_xu := xu.cell1
    have c0_xv := xv.cell0
    have c1_xv := xv.cell1
    go_wp2_with fail
    refine (right_yes u (unhide HRT)).mono ?_
    rintro e w109 ⟨rfl, hb⟩
    replace r := r.below hb
    replace t := t.below hb
    replace u := u.below hb
    replace v := v.below hb
    replace xr := xr.belowH hb
    replace xt := xt.belowH hb
    replace xu := xu.belowH hb
    replace xv := xv.belowH hb
    replace hB := below_then hB hb
    clear hb c0_xr c1_xr c0_xt c1_xt c0_xu c1_xu c0_xv c1_xv
    go_wp2
    go_ret
    exact ⟨rfl, hB⟩
  · have HOK := hide (show makeOk s ll = false by simpa using hok)
    clear hok
    have c0_xr := xr.cell0
    have c1_xr := xr.cell1
    have c0_xt := xt.cell0
    have c1_xt := xt.cell1
    go_wp2_with fail
    refine (make_no r.ints r.tups (by omega) (unhide HOK)).mono ?_
    rintro e w110 ⟨rfl, hb⟩
    replace r := r.below hb
    replace t := t.below hb
    replace xr := xr.belowH hb
    replace xt := xt.belowH hb
    replace hB := below_then hB hb
    clear hb c0_xr c1_xr c0_xt c1_xt
    have pb := (Below.refl _ w110).alloc (Nat.le_refl _) (.cells #[.slice none 0 0, .slice none 0 0] 25)
    replace r := r.below pb
    replace t := t.below pb
    replace xr := xr.push (.cells #[.slice none 0 0, .slice none 0 0] 25)
    replace xt := xt.push (.cells #[.slice none 0 0, .slice none 0 0] 25)
    have xu := Box.new w110 (.slice none 0 0) (.slice none 0 0)
    replace hB := below_then hB pb
    clear pb
    have c0_xr := xr.cell0
    have c1_xr := xr.cell1
    have c0_xt := xt.cell0
    have c1_xt := xt.cell1
    have c0_xu := xu.cell0
    have c1_xu := xu.cell1
    go_wp2_with fail
    refine (refMake_no r.ints r.tups (by omega) (by omega) (unhide HOK)).mono ?_
    rintro e w111 ⟨u_v, rfl, v, hb⟩
    replace r := r.below hb
    replace t := t.below hb
    replace xr := xr.belowH hb
    replace xt := xt.belowH hb
    replace xu := xu.belowH hb
    replace hB := below_then hB hb
    obtain ⟨a_v, c_v, b_v, d_v, e_v, _, _, _, _, _, _⟩ := v.form
    rw [e_v] at v ⊢
    clear e_v
    clear hb c0_xr c1_xr c0_xt c1_xt c0_xu c1_xu
    simp only [List.length_nil] at v ⊢
    have pb := (Below.refl _ w111).alloc (Nat.le_refl _) (.cells #[.slice a_v 0 c_v, .slice b_v 0 d_v] 25)
    replace r := r.below pb
    replace t := t.below pb
    replace v := v.below pb
    replace xr := xr.push (.cells #[.slice a_v 0 c_v, .slice b_v 0 d_v] 25)
    replace xt := xt.push (.cells #[.slice a_v 0 c_v, .slice b_v 0 d_v] 25)
    replace xu := xu.push (.cells #[.slice a_v 0 c_v, .slice b_v 0 d_v] 25)
    have xv := Box.new w111 (.slice a_v 0 c_v) (.slice b_v 0 d_v)
    replace hB := below_then hB pb
    clear pb
    have c0_xr := xr.cell0
    have c1_xr := xr.cell1
    have c0_xt := xt.cell0
    have c1_xt := xt.cell1
    have c0_xu := xu.cell0
    have c1_xu := xu.cell1
    have c0_xv := xv.cell0
    have c1_xv := xv.cell1
    go_wp2_with fail
    refine (refRight_eq r (unhide HQ)).mono ?_
    rintro e w112 ⟨rfl, hb⟩
    replace r := r.below hb
    replace t := t.below hb
    replace xr := xr.belowH hb
    replace xt := xt.belowH hb
    replace xu := xu.belowH hb
    replace xv := xv.belowH hb
    replace hB := below_then hB hb
    clear hb c0_xr c1_xr c0_xt c1_xt c0_xu c1_xu c0_xv c1_xv
    have c0_xr := xr.cell0
    have c1_xr := xr.cell1
    have c0_xt := xt.cell0
    have c1_xt := xt.cell1
    have c0_xu := xu.cell0
    have c1_xu := xu.cell1
    have c0_xv := xv.cell0
    have c1_xv := xv.cell1
    go_wp2_with fail
    refine (right_eq r (unhide HQ)).mono ?_
    rintro e w113 ⟨rfl, hb⟩
    replace r := r.below hb
    replace t := t.below hb
    replace xr := xr.belowH hb
    replace xt := xt.belowH hb
    replace xu := xu.belowH hb
    replace xv := xv.belowH hb
    replace hB := below_then hB hb
    clear hb c0_xr c1_xr c0_xt c1_xt c0_xu c1_xu c0_xv c1_xv
    have c0_xr := xr.cell0
    have c1_xr := xr.cell1
    have c0_xt := xt.cell0
    have c1_xt := xt.cell1
    have c0_xu := xu.cell0
    have c1_xu := xu.cell1
    have c0_xv := xv.cell0
    have c1_xv := xv.cell1
    go_wp2_with fail
    refine (refSame_yes r t rfl rfl).mono ?_
    rintro e w114 ⟨rfl, hb⟩
    replace r := r.below hb
    replace t := t.below hb
    replace xr := xr.belowH hb
    replace xt := xt.belowH hb
    replace xu := xu.belowH hb
    replace xv := xv.belowH hb
    replace hB := below_then hB hb
    clear hb c0_xr c1_xr c0_xt c1_xt c0_xu c1_xu c0_xv c1_xv
    have f0 := xu.cell0
    have f1 := xu.cell1
    go_wp2
    go_ret
    exact ⟨rfl, hB⟩

set_option maxRecDepth 100000 in
theorem lifted (os : Os) (started : os.Started) (H : Type) (enc : TypeId × Value → H) :
    ReturnsInHanded {} Try.checked os 3 .any (Rows.relMakesSpec.pre6 enc Try.prog Try.f3 Rows.relMakesRow.domain false) (Rows.relMakesSpec.post enc Try.prog Try.f3 false true false false) := by
  refine returnsInHanded_of_change (C := Try.checked) own started (by kernel_rfl) Try.func3
    (ChangeSpec.witness6 (enc := enc) (C := Try.checked) false ⟨#[], #[.agg #[.slice none 0 0, .slice none 0 0]], []⟩ 8 (by kernel_rfl) (by kernel_rfl) (by kernel_rfl) (by kernel_rfl)) ?_
  intro W base args ds gs before hval0 hW hcnd _
  have hval : ∀ (j : Nat) t v, Try.f3.params[j]? = some t → args[j]? = some v → Value.okWide Try.prog W .any base t v := hval0
  have hW' := hW
  obtain ⟨p, q, hA0, hV, rfl, hfz, hnd⟩ := hW
  have hA : DataW.TrodAll enc Try.prog W 0 (fun _ => true) true Try.f3.params.toList args.toList ds p := hA0
  rw [Try.params3] at hA hval
  obtain ⟨v0, vs0, d0, ds0, p0, q0, hargs, rfl, rfl, h0, r0⟩ := trodAll_cons hA
  obtain ⟨rfl, rfl, rfl⟩ := trodAll_nil r0
  obtain rfl : args = #[v0] := by cases args; simp_all
  obtain ⟨rfl, rfl⟩ := trodVars_none hV
  obtain ⟨l0, k0, i0, m0, n0⟩ := read_rel h0 (hval 0 25 v0 rfl rfl)
  have lt0 : ∀ x ∈ p0, x.block < W.heap.size := by obtain ⟨m, hm⟩ := h0; exact DataW.trod_lt m _ _ _ hm
  clear hA0 hval0
  refine (walk i0 m0 n0).mono fun e W' ⟨he, bel⟩ => ?_
  subst he
  exact ⟨_, rfl, _, _, _, [], _, [], hW', trodAll_mk1 (shut_bool Try.underlying4 _), (trodAll_cons_mk (Below.trod laidOut (by kernel_rfl) (of_decide_eq_true (by kernel_rfl)) h0 bel lt0) trodAll_mk0), rfl, bel.frame _, fun h => by cases h⟩

theorem over : Rows.relMakesRow.holds Try.pinned (OpenSpec.ofChange Rows.relMakesSpec) :=
  OpenClaim.holds_of_wide 3 Try.f3 rfl rfl rfl rfl rfl rfl rfl ⟨rfl, rfl, rfl, rfl, rfl⟩ rfl rfl rfl rfl rfl (by kernel_rfl) Try.func3 (by kernel_rfl)
    (of_decide_eq_true (by kernel_rfl)) (by unfold Func.isWrapper; first | (rw [if_pos (by decide +kernel)]; kernel_rfl) | (rw [if_neg (by decide +kernel)]; exact ⟨rfl, rfl⟩))
    (fun os started H enc _ => lifted os started H enc)

/-- The statement. -/
theorem proved : Rows.RelMakesSaid := over
#print axioms proved
end Go.Proofs.Ytmppialileoimaa.relMakes
