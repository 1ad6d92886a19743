/-
  Proved: RelSelects answers true for every scheme, rows and variable, and leaves what was handed in as it was. No condition.
-/
import Derived.Test.YtmppialileoimaaRelRows
import Derived.Test.YtmppialileoimaaRelUnionN
namespace Go.Proofs.Ytmppialileoimaa.relSelects
open Go.RowKit Go.ChangeShapes Go.WideShapes Go.ChangeAt
set_option linter.unusedVariables false
set_option linter.unusedSimpArgs false
set_option maxRecDepth 20000

theorem mem_val {s : List Int} {ll : List (List Int)} (g : Good s ll) {x y : Int} (hx : x ∈ s) : y ∈ valL s ll x ↔ ∃ t ∈ ll, y = getR s t x := by
  unfold valL colL
  rw [(riseL_spec _).2]
  simp only [List.mem_flatMap]
  obtain ⟨k, hk, h1, h2⟩ := place_mem hx
  refine exists_congr fun t => and_congr_right fun ht => ?_
  have hkt : k < t.length := by rw [g.wide t ht]; exact hk
  rw [h1, pick_one_at hkt]
  unfold getR
  rw [h1]
  simp [hkt]

theorem val_out {s : List Int} {ll : List (List Int)} {x : Int} (hx : x ∉ s) : valL s ll x = [] := by
  unfold valL; rw [placeL_none hx, colL_neg]; rfl

theorem asc_val (s : List Int) (ll : List (List Int)) (x : Int) : Asc (valL s ll x) := (riseL_spec _).1

theorem filt_add {α : Type} (p q r : α → Bool) : ∀ (l : List α), (∀ x ∈ l, r x = (p x || q x)) → (∀ x ∈ l, ¬ (p x = true ∧ q x = true)) → (l.filter r).length = (l.filter p).length + (l.filter q).length
  | [], _, _ => rfl
  | x :: l, h, hd => by
    have ih := filt_add p q r l (fun y hy => h y (by simp [hy])) (fun y hy => hd y (by simp [hy]))
    have h0 := h x (by simp)
    have d0 := hd x (by simp)
    simp only [List.filter_cons, h0]
    cases hp : p x <;> cases hq : q x
    · simp [ih]
    · simp [ih]; omega
    · simp [ih]; omega
    · exact absurd ⟨hp, hq⟩ d0

/-- The rows whose value is among these. -/
def accL (s : List Int) (ll : List (List Int)) (x : Int) (vs : List Int) : List (List Int) := ll.filter fun t => decide (getR s t x ∈ vs)

theorem Good.acc {s : List Int} {ll : List (List Int)} (g : Good s ll) (x : Int) (vs : List Int) : Good s (accL s ll x vs) :=
  ⟨g.asc, g.pos, List.Pairwise.filter _ g.asl, fun t ht => g.wide t (List.mem_filter.1 ht).1, g.slen, Nat.le_trans (List.length_filter_le _ _) g.llen⟩

theorem acc_nil (s : List Int) (ll : List (List Int)) (x : Int) : accL s ll x [] = [] := by simp [accL]

theorem acc_step {s : List Int} {ll : List (List Int)} (g : Good s ll) {x : Int} (hx : x ∈ s) {vs : List Int} {k : Nat} (hk : k < vs.length) :
    unionL (accL s ll x (vs.take k)) (selL s ll x vs[k]) = accL s ll x (vs.take (k + 1)) := by
  refine AscL.ext (asc_union _ _) (List.Pairwise.filter _ g.asl) fun t => ?_
  rw [mem_union, mem_sel g.wide]
  simp only [accL, List.mem_filter, decide_eq_true_eq, List.take_succ_eq_append_getElem hk, List.mem_append, List.mem_singleton]
  constructor
  · rintro (⟨h1, h2⟩ | ⟨h1, h2⟩)
    · exact ⟨h1, .inl h2⟩
    · exact ⟨h1, .inr (h2 hx)⟩
  · rintro ⟨h1, h2 | h2⟩
    · exact .inl ⟨h1, h2⟩
    · exact .inr ⟨h1, fun _ => h2⟩

theorem acc_len {s : List Int} {ll : List (List Int)} (g : Good s ll) {x : Int} (hx : x ∈ s) {vs : List Int} (hv : vs.Nodup) {k : Nat} (hk : k < vs.length) :
    (accL s ll x (vs.take (k + 1))).length = (accL s ll x (vs.take k)).length + (selL s ll x vs[k]).length := by
  refine filt_add _ _ _ ll (fun t ht => ?_) (fun t ht => ?_)
  · rw [sel_in hx (g.wide t ht), Bool.eq_iff_iff]
    simp only [decide_eq_true_eq, Bool.or_eq_true]
    rw [List.take_succ_eq_append_getElem hk, List.mem_append, List.mem_singleton]
  · rw [sel_in hx (g.wide t ht)]
    simp only [decide_eq_true_eq]
    rintro ⟨h1, h2⟩
    rw [h2] at h1
    obtain ⟨i, hi, hie⟩ := List.getElem_of_mem h1
    simp at hi
    rw [List.getElem_take] at hie
    exact (List.pairwise_iff_getElem.1 hv) i k (by omega) hk (by omega) hie

theorem acc_all {s : List Int} {ll : List (List Int)} (g : Good s ll) {x : Int} (hx : x ∈ s) : accL s ll x (valL s ll x) = ll := by
  unfold accL
  rw [List.filter_eq_self]
  exact fun t ht => by simp only [decide_eq_true_eq]; exact (mem_val g hx).2 ⟨t, ht, rfl⟩

theorem sel_pos {s : List Int} {ll : List (List Int)} (g : Good s ll) {x : Int} (hx : x ∈ s) {k : Nat} (hk : k < (valL s ll x).length) : 0 < (selL s ll x (valL s ll x)[k]).length := by
  obtain ⟨t, ht, he⟩ := (mem_val g hx).1 (List.getElem_mem hk)
  exact List.length_pos_of_mem ((mem_sel g.wide).2 ⟨ht, fun _ => he.symm⟩)

theorem Box.set0 {w : World} {b : Nat} {x y : Value} (h : Box w b x y) (z : Value) : Box (w.setCell ⟨b, 0, none⟩ z) b z y := by
  unfold Box at *
  rw [heap_setCell_same w b 0 _ _ z h]; simp

theorem union_nw {s : List Int} {ll ll' : List (List Int)} {v v' : Value} {w : World} (h : RelV w v s ll) (h' : RelV w v' s ll') (g : Good s ll) (g' : Good s ll') :
    Calls Try.prog 29 #[v, v'] w fun e w' => ∃ x y, e = .returned (.tuple #[.agg #[x, y], .int .i64 0]) ∧ RelV w' (.agg #[x, y]) s (unionL ll ll') ∧ New w.heap.size w' y ∧ Below w.heap.size w w' :=
  union_new h h' rfl (by have := g.llen; omega) (by have := g'.llen; omega) (by have := g.slen; omega) (fun t ht => by
    have hs := g.slen
    rcases List.mem_append.1 ht with h1 | h1
    · have := g.wide t h1; omega
    · have := g'.wide t h1; omega)

theorem rows_not_box {w : World} {b : Nat} {v : Value} {ll : List (List Int)} (h : Tups w v ll) (hb : Box w b (.slice none 0 0) (.slice none 0 0)) (hl : 0 < ll.length) (hr : ∀ t ∈ ll, 0 < t.length) : v.ownBlock ≠ some b := by
  intro e
  obtain ⟨vs, h1, h2, h3⟩ := h
  obtain ⟨a, cap, rfl, _, _, _, k5, k6⟩ := h1
  have hv : 0 < vs.length := by omega
  obtain ⟨y, rfl, hc⟩ := k6 0 vs[0] (by simp [hv])
  have e' : y.block = b := by simpa [Value.ownBlock] using e
  subst e'
  unfold Box at hb
  simp only [World.cell?, hb] at hc
  have hv0 : vs[0] = .slice none 0 0 := by
    generalize y.off + 0 = o at hc
    match o, hc with
    | 0, hc => simpa using hc.symm
    | 1, hc => simpa using hc.symm
    | o + 2, hc => simp at hc
  have hi := h3 0 hv hl
  rw [hv0] at hi
  obtain ⟨_, _, e2, _, _⟩ := hi.form
  have := hr _ (List.getElem_mem hl)
  injection e2 with _ e3 _
  omega

set_option maxHeartbeats 16000000 in
theorem walk {l0 : List Int} {l1 : List (List Int)} {l2 : Int} {v0 v1 v2 : Value} {w : World} (i0 : Ints w v0 l0) (m0 : ∀ n ∈ l0, InI64 n) (i1 : Tups w v1 l1) (m1 : ∀ l ∈ l1, ∀ n ∈ l, InI64 n) (i2 : v2 = .int .i64 l2) (m2 : InI64 l2) :
    Calls Try.prog 7 #[v0, v1, v2] w fun e w' => e = .returned (.bool true) ∧ Below w.heap.size w w' := by
  subst i2
  clear m0 m1 m2
  have hB := Below.refl w.heap.size w
  have G := hide (good_small l0 l1)
  go_enter Try.func7, Try.ntmps7
  go_wp2_with fail
  refine (shown2_any _).mono ?_
  rintro e w101 ⟨rfl, hb⟩
  replace i0 := i0.below hb
  replace i1 := i1.below hb
  replace hB := below_then hB hb
  clear hb
  go_wp2_with fail
  refine (small_any i0 i1).mono ?_
  rintro e w102 ⟨u_r, rfl, r, hb⟩
  replace hB := below_then hB hb
  obtain ⟨a_r, c_r, b_r, d_r, e_r, _, _, _, _, _, _⟩ := r.form
  rw [e_r] at r ⊢
  clear e_r
  clear hb
  clear i0 i1
  generalize smallS l0 = s at *
  generalize smallR l0 l1 = ll at *
  have pb := (Below.refl _ w102).alloc (Nat.le_refl _) (.cells #[.slice a_r (s).length c_r, .slice b_r (ll).length d_r] 25)
  replace r := r.below pb
  have xr := Box.new w102 (.slice a_r (s).length c_r) (.slice b_r (ll).length d_r)
  replace hB := below_then hB pb
  clear pb
  have c0_xr := xr.cell0
  have c1_xr := xr.cell1
  go_wp2_with fail
  refine (values_rel (x := (bits .and .i64 l2 65535).tmod 6) r (unhide G)).mono ?_
  rintro e w103 ⟨v_z, rfl, z, n_z, hb⟩
  replace r := r.below hb
  replace xr := xr.belowH hb
  replace hB := below_then hB hb
  obtain ⟨a_z, c_z, e_z, _, _⟩ := z.form
  rw [e_z] at z n_z ⊢
  clear e_z
  clear hb c0_xr c1_xr
  generalize (bits .and .i64 l2 65535).tmod 6 = x at *
  have HV := hide (show valL s ll x = valL s ll x from rfl)
  obtain ⟨V, hVe⟩ : ∃ V, V = valL s ll x := ⟨_, rfl⟩
  rw [← hVe] at z ⊢
  have HVE := hide hVe
  have hVl : V.length ≤ 5000 := by rw [hVe]; exact Nat.le_trans (riseL_le _) (Nat.le_trans (colL_le _ _) (unhide G).llen)
  have hsl := (unhide G).slen
  have hll := (unhide G).llen
  clear hVe HV n_z
  have c0_xr := xr.cell0
  have c1_xr := xr.cell1
  have hc9 := cell_push c0_xr
  go_wp2
  have r1 := r
  have HR := hide r
  have HZ := hide z
  have HXR := hide xr
  have HBW := hide hB
  obtain ⟨za, zc, hze, _, hzc⟩ := z.form
  clear r r1 z hB c0_xr c1_xr hc9
  go_loopw [10, 12, 13, 14, 15] (fun n i _ _ _ wr => ∃ (k : Nat) (av : Option Addr) (an ac : Nat) (bv : Option Addr) (bn bc : Nat), k ≤ V.length ∧ i = .int .i64 k ∧ n = .int .i64 (accL s ll x (V.take k)).length ∧ Box wr w103.heap.size (.slice av an ac) (.slice bv bn bc) ∧ RelV wr (.agg #[.slice av an ac, .slice bv bn bc]) s (accL s ll x (V.take k)) ∧ Below w103.heap.size w103 wr) (fun _ i _ _ _ _ => V.length - (intOf i).toNat)
  case atStart => exact ⟨0, _, _, _, _, _, _, by omega, rfl, by rw [List.take_zero, acc_nil]; rfl, Box.new w103 _ _, ⟨_, _, rfl, (unhide HR).ints.below ((Below.refl _ _).alloc (Nat.le_refl _) _), by rw [List.take_zero, acc_nil]; exact ⟨[], Seq.nil _ _, rfl, fun i h => by simp at h⟩⟩, (Below.refl _ _).alloc (Nat.le_refl _) _⟩
  case round =>
    obtain ⟨k, av, an, ac, bv, bn, bc, hk, rfl, rfl, hbox, hrel0, hbel⟩ := hrel
    rename World => W1
    have yr := (unhide HXR).belowH hbel
    have r := (unhide HR).below hbel
    have z := (unhide HZ).below hbel
    have hz1 := hbel.size
    have hbz := hbox.lt
    by_cases hkl : k < V.length
    · have hx : x ∈ s := Decidable.byContradiction fun h => by have := unhide HVE; rw [val_out h] at this; subst this; simp at hkl
      have GA := hide (Good.acc (unhide G) x (V.take k))
      have GS := hide ((unhide G).sel x V[k])
      have HST := hide (acc_step (unhide G) hx hkl)
      have HLN := hide (acc_len (unhide G) hx (by rw [unhide HVE]; exact Asc.nodup (asc_val s ll x)) hkl)
      have HPO : Hid (0 < (selL s ll x V[k]).length) := hide (by have := sel_pos (k := k) (unhide G) hx (by rw [← unhide HVE]; exact hkl); simpa [← unhide HVE] using this)
      have hacc := (unhide GA).llen
      have hsel := (unhide GS).llen
      obtain ⟨bs, os, e1, hcs⟩ := z.at hkl
      subst e1
      have HSEL := hide (fun W (hb : Below W1.heap.size W1 W) => select_rel (x := x) (y := V[k]) (r.below hb) (unhide G))
      generalize accL s ll x (V.take k) = A at *
      generalize hA2 : accL s ll x (V.take (k + 1)) = A2 at *
      have HA2 := hide hA2
      clear hA2
      have hyx := yr.cell0
      have hyy := yr.cell1
      generalize selL s ll x V[k] = Sx at *
      have hpo : ((Sx.length : Int) == 0) = false := by have := unhide HPO; simp; intro h; subst h; simp at this
      have HK := hide (fun W (hb : Below W1.heap.size W1 W) => And.intro (And.intro (yr.belowH hb).cell0 (yr.belowH hb).cell1) (Below.cell_of hb hcs))
      have HX := hide yr
      have HX2 := hide hx
      clear hx
      have HC := hide hcs
      have HBX := hide hbox
      have HRL := hide hrel0
      clear yr hyx hyy hcs hbox hrel0 r z
      go_wp2
      go_region_held3 (fun W => (W.cell? ⟨w102.heap.size, 0, none⟩ = some (.slice a_r s.length c_r) ∧ W.cell? ⟨w102.heap.size, 1, none⟩ = some (.slice b_r ll.length d_r)) ∧ W.cell? ⟨bs, os + k, none⟩ = some (.int .i64 V[k]))
        (first | exact unhide HK _ (by first | exact below_store hR1 (Nat.le_refl _) _ _ | exact hR1 | exact below_then hR1 (below_push rfl rfl rfl rfl) | exact below_push rfl rfl rfl rfl | exact below_same rfl rfl rfl rfl))
        (first
          | (go_at_call 21; refine (unhide HSEL _ (by first | exact below_same rfl rfl rfl rfl | exact below_push rfl rfl rfl rfl)).mono ?_; rintro e w3 ⟨u3, rfl, q, hb3⟩; obtain ⟨qa, qc, qb, qd, e3, _, _, _, _, _, _⟩ := q.form; rw [e3] at q ⊢; clear e3; have hR1 : Below W1.heap.size W1 w3 := Below.trans (by first | exact below_same rfl rfl rfl rfl | exact below_push rfl rfl rfl rfl) (hb3.mono (by first | exact Nat.le_refl _ | simp)); (first | (have hnb : Box w3 W1.heap.size (.slice none 0 0) (.slice none 0 0) := Box.belowH (by exact Box.new W1 _ _) hb3; have hd0 := hnb.cell0; have hd1 := hnb.cell1; have hg0 := hnb.frozen 0; have hg1 := hnb.frozen 1) | skip)))
      all_goals
        first
        | (have nb := Box.set1 (Box.set0 hnb (.slice qa s.length qc)) (.slice qb Sx.length qd); have nr := rel_store hnb.boxS hnb.cell0 q.ints q.tups (rows_not_box q.tups hnb (unhide HPO) (fun t ht => by rw [(unhide GS).wide t ht]; exact List.length_pos_of_mem (unhide HX2))); have hb2 := below_store hR1 (Nat.le_refl _) (.slice qa s.length qc) (.slice qb Sx.length qd); clear hnb hd0 hd1 hg0 hg1)
        | (have nb := Box.new w3 (.slice qa s.length qc) (.slice qb Sx.length qd); have nr := q.below ((Below.refl _ w3).alloc (Nat.le_refl _) (.cells #[.slice qa s.length qc, .slice qb Sx.length qd] 25)); have hb2 := below_then hR1 ((Below.refl _ w3).alloc (Nat.le_refl _) (.cells #[.slice qa s.length qc, .slice qb Sx.length qd] 25)))
        have n11 := (unhide HBX).belowH hb2
        have rl2 := (unhide HRL).below hb2
        have hbel2 := hbel.trans (hb2.mono hz1)
        have UN := hide (union_nw rl2 nr (unhide GA) (unhide GS))
        have c1 := nb.cell0
        have c2 := nb.cell1
        have c3 := n11.cell0
        have c4 := n11.cell1
        have hzA := hb2.size
        clear hR1 q rl2 nr HK HC HX HRL HBX
        go_wp2_with fail
        refine (unhide UN).mono ?_
        rintro e w4 ⟨ux, uy, rfl, ru, run, hb4⟩
        obtain ⟨ua, uc, ub, ud, e4, _, _, _, _, _, _⟩ := ru.form
        have e5 : ux = .slice ua s.length uc ∧ uy = .slice ub (unionL A Sx).length ud := by injection e4 with e4; injection e4 with e4; injection e4 with e6 e4; injection e4 with e7 _; exact ⟨e6, e7⟩
        rw [e5.1, e5.2] at ru ⊢
        rw [e5.2] at run
        clear e5
        rw [unhide HST] at ru run ⊢
        replace n11 := n11.belowH hb4
        replace nb := nb.belowH hb4
        clear c1 c2 c3 c4 e4 UN
        have pb := (Below.refl _ w4).alloc (Nat.le_refl _) (.cells #[.slice ua s.length uc, .slice ub A2.length ud] 25)
        have d1 := (nb.push (.cells #[.slice ua s.length uc, .slice ub A2.length ud] 25)).cell1
        have n5 := n11.push (.cells #[.slice ua s.length uc, .slice ub A2.length ud] 25)
        have d2 := n5.cell0
        have d3 := n5.cell1
        have d4 := n5.frozen 0
        have d5 := n5.frozen 1
        have ru2 := ru.below pb
        have hbel4 := (hbel2.trans (hb4.mono (by omega))).trans (pb.mono (by have := hb4.size; omega))
        have hlt := n11.lt
        have f0 := n11.cell0
        have f1 := n11.cell1
        have f2 := n11.frozen 0
        have f3 := n11.frozen 1
        have hneW : (Value.slice ub A2.length ud).ownBlock ≠ some w103.heap.size := run.ne (by omega)
        have hfin := (rel_store n11.boxS f0 ru.ints ru.tups hneW).below ((Below.refl _ _).alloc (Nat.le_refl _) (.cells #[.slice ua s.length uc, .slice ub A2.length ud] 25))
        have hbf := ((Box.set0 n11 (.slice ua s.length uc)).set1 (.slice ub A2.length ud)).push (.cells #[.slice ua s.length uc, .slice ub A2.length ud] 25)
        have hbl5 := (below_store (hbel2.trans (hb4.mono (by omega))) (Nat.le_refl w103.heap.size) (.slice ua s.length uc) (.slice ub A2.length ud)).alloc (by simp only [World.size_setCell]; omega) (.cells #[.slice ua s.length uc, .slice ub A2.length ud] 25)
        have HF := hide hfin
        have HBF := hide hbf
        have HBL := hide hbl5
        clear hfin hbf hbl5 ru ru2 n5 n11 nb
        go_wp2
        go_roundw
        case rel => exact ⟨k + 1, ua, s.length, uc, ub, A2.length, ud, by omega, by go_num, by rw [unhide HA2, unhide HLN]; go_num, unhide HBF, by rw [unhide HA2]; exact unhide HF, unhide HBL⟩
        case measure => simp [intOf]; omega
    · have hkk : k = V.length := by omega
      subst hkk
      rw [List.take_length] at hrel0 ⊢
      have hB := below_then (unhide HBW) hbel
      have c1 := yr.cell0
      have c2 := yr.cell1
      by_cases hx : x ∈ s
      · have IN := hide (refIn_any x r.ints)
        rw [show decide (x ∈ s) = true by simpa using hx] at IN
        rw [show accL s ll x V = ll by rw [unhide HVE]; exact acc_all (unhide G) hx] at hrel0 ⊢
        clear hx HR HZ HXR HBW hbel z c1 c2
        have d1 := yr.cell0
        have d2 := yr.cell1
        have d3 := hbox.cell0
        have d4 := hbox.cell1
        
        go_wp2_with (go_at_call 32; refine (unhide IN).mono ?_; rintro e w' ⟨rfl, rfl⟩)
        refine (same_yes hrel0 r rfl rfl).mono ?_
        rintro e W2 ⟨rfl, hb⟩
        replace yr := yr.belowH hb
        replace hB := below_then hB hb
        have e1 := yr.cell0
        have e2 := yr.cell1
        clear hb d1 d2 d3 d4 r hrel0 hbox
        go_wp2
        go_ret
        exact ⟨rfl, hB⟩
      · have IN := hide (refIn_any x r.ints)
        rw [show decide (x ∈ s) = false by simpa using hx] at IN
        have hV0 : V = [] := by rw [unhide HVE]; exact val_out hx
        have ES := hide (sel_none (ll := ll) (x := 5) hx)
        subst hV0
        clear hx HR HZ HXR HBW hbel hrel0 hbox c1 c2
        have HRR := hide r
        have d1 := yr.cell0
        have d2 := yr.cell1
        go_wp2_with (go_at_call 32; refine (unhide IN).mono ?_; rintro e w' ⟨rfl, rfl⟩)
        rename World => W1
        clear d1 d2 r z
        
        
        have HK := hide (fun W (hb : Below W1.heap.size W1 W) => (And.intro (yr.belowH hb).cell0 (yr.belowH hb).cell1))
        have hbR := Below.refl W1.heap.size W1
        clear yr
        go_region_held3 (fun W => (W.cell? ⟨w102.heap.size, 0, none⟩ = some (.slice a_r (s).length c_r) ∧ W.cell? ⟨w102.heap.size, 1, none⟩ = some (.slice b_r (ll).length d_r)))
          (first | exact unhide HK _ (by first | exact hR2 | exact hR1  | exact hbR | exact below_same rfl rfl rfl rfl))
          (first
            | (go_at_call 30; refine (same_yes q ((unhide HRR).below hR1) rfl (unhide ES)).mono ?_; rintro e w105 ⟨rfl, hq2⟩; have hR2 : Below W1.heap.size W1 w105 := below_then hR1 hq2)
            | (go_at_call 21; refine (select_rel (x := x) (y := 5) ((unhide HRR).below (by first | exact hbR | exact below_same rfl rfl rfl rfl)) (unhide G)).mono ?_; rintro e w104 ⟨u_q, rfl, q, hq1⟩; obtain ⟨a_q, c_q, b_q, d_q, e_q, _, _, _, _, _, _⟩ := q.form; rw [e_q] at q ⊢; clear e_q; have hR1 : Below W1.heap.size W1 w104 := below_then (by first | exact hbR | exact below_same rfl rfl rfl rfl) hq1))
        all_goals
          go_wp2
          go_ret
          exact ⟨rfl, below_then hB hR2⟩

set_option maxRecDepth 100000 in
theorem lifted (os : Os) (started : os.Started) (H : Type) (enc : TypeId × Value → H) :
    ReturnsInHanded {} Try.checked os 7 .any (Rows.relSelectsSpec.pre6 enc Try.prog Try.f7 Rows.relSelectsRow.domain false) (Rows.relSelectsSpec.post enc Try.prog Try.f7 false true false false) := by
  refine returnsInHanded_of_change (C := Try.checked) own started (by kernel_rfl) Try.func7
    (ChangeSpec.witness6 (enc := enc) (C := Try.checked) false ⟨#[], #[.slice none 0 0, .slice none 0 0, .int .i64 0], []⟩ 8 (by kernel_rfl) (by kernel_rfl) (by kernel_rfl) (by kernel_rfl)) ?_
  intro W base args ds gs before hval0 hW hcnd _
  have hval : ∀ (j : Nat) t v, Try.f7.params[j]? = some t → args[j]? = some v → Value.okWide Try.prog W .any base t v := hval0
  have hW' := hW
  obtain ⟨p, q, hA0, hV, rfl, hfz, hnd⟩ := hW
  have hA : DataW.TrodAll enc Try.prog W 0 (fun _ => true) true Try.f7.params.toList args.toList ds p := hA0
  rw [Try.params7] at hA hval
  obtain ⟨v0, vs0, d0, ds0, p0, q0, hargs, rfl, rfl, h0, r0⟩ := trodAll_cons hA
  obtain ⟨v1, vs1, d1, ds1, p1, q1, rfl, rfl, rfl, h1, r1⟩ := trodAll_cons r0
  obtain ⟨v2, vs2, d2, ds2, p2, q2, rfl, rfl, rfl, h2, r2⟩ := trodAll_cons r1
  obtain ⟨rfl, rfl, rfl⟩ := trodAll_nil r2
  obtain rfl : args = #[v0, v1, v2] := by cases args; simp_all
  obtain ⟨rfl, rfl⟩ := trodVars_none hV
  obtain ⟨l0, i0, m0⟩ := read_ints h0 (okWide_slice Try.underlying22 (hval 0 22 v0 rfl rfl))
  have lt0 : ∀ x ∈ p0, x.block < W.heap.size := by obtain ⟨m, hm⟩ := h0; exact DataW.trod_lt m _ _ _ hm
  obtain ⟨l1, i1, m1⟩ := read_tups h1 (okWide_slice Try.underlying23 (hval 1 23 v1 rfl rfl))
  have lt1 : ∀ x ∈ p1, x.block < W.heap.size := by obtain ⟨m, hm⟩ := h1; exact DataW.trod_lt m _ _ _ hm
  obtain ⟨l2, i2, m2⟩ := read_int h2 (hval 2 3 v2 rfl rfl)
  have lt2 : ∀ x ∈ p2, x.block < W.heap.size := by obtain ⟨m, hm⟩ := h2; exact DataW.trod_lt m _ _ _ hm
  clear hA0 hval0
  refine (walk i0 m0 i1 m1 i2 m2).mono fun e W' ⟨he, bel⟩ => ?_
  subst he
  exact ⟨_, rfl, _, _, _, [], _, [], hW', trodAll_mk1 (shut_bool Try.underlying4 _), (trodAll_cons_mk (Below.trod laidOut (by kernel_rfl) (of_decide_eq_true (by kernel_rfl)) h0 bel lt0) (trodAll_cons_mk (Below.trod laidOut (by kernel_rfl) (of_decide_eq_true (by kernel_rfl)) h1 bel lt1) (trodAll_cons_mk (Below.trod laidOut (by kernel_rfl) (of_decide_eq_true (by kernel_rfl)) h2 bel lt2) trodAll_mk0))), rfl, bel.frame _, fun h => by cases h⟩

theorem over : Rows.relSelectsRow.holds Try.pinned (OpenSpec.ofChange Rows.relSelectsSpec) :=
  OpenClaim.holds_of_wide 7 Try.f7 rfl rfl rfl rfl rfl rfl rfl ⟨rfl, rfl, rfl, rfl, rfl⟩ rfl rfl rfl rfl rfl (by kernel_rfl) Try.func7 (by kernel_rfl)
    (of_decide_eq_true (by kernel_rfl)) (by unfold Func.isWrapper; first | (rw [if_pos (by decide +kernel)]; kernel_rfl) | (rw [if_neg (by decide +kernel)]; exact ⟨rfl, rfl⟩))
    (fun os started H enc _ => lifted os started H enc)

/-- The statement. -/
theorem proved : Rows.RelSelectsSaid := over
#print axioms proved
end Go.Proofs.Ytmppialileoimaa.relSelects
