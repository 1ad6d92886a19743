/-
  The contract of shown: it answers true.
-/
import Derived.Test.YtgmbflpngedhnaaGreatWghThree
import Derived.Test.YtgmbflpngedhnaaGreatWghFour
import Derived.Test.YtgmbflpngedhnaaGreatWghOne
import Derived.Test.YtgmbflpngedhnaaGreatRelUnit
namespace Go.Proofs.YtgmbflpngedhnaaGreat
open Go.RowKit
set_option linter.unusedVariables false
set_option linter.unusedSimpArgs false
set_option maxRecDepth 20000

theorem lit_rel4 {W : World} {h1 h2 : Nat} {s : List Int} {ll : List (List Int)} {vs : List Value} (hs : Ints W (.slice (some ⟨h1, 0, none⟩) s.length s.length) s) (hr : W.heap[h2]? = some (.cells vs.toArray 22 (0, 0))) (hl : vs.length = ll.length) (h10 : vs.length ≤ 1000) (hi : ∀ i (h : i < vs.length) (h' : i < ll.length), Ints W vs[i] ll[i]) :
    RelV W (.agg #[.slice (some ⟨h1, 0, none⟩) s.length s.length, .slice (some ⟨h2, 0, none⟩) vs.length vs.length]) s ll :=
  ⟨_, _, rfl, hs, vs, litT_at hr (by simp) rfl (by omega), hl, hi⟩

theorem WVI.lens {w : World} {v : Value} {s : List Int} {ll : List (List Int)} {ws : List Int} (h : WVI w v s ll ws) {n1 n2 n3 : Nat} (e1 : s.length = n1) (e2 : ll.length = n2) (e3 : ws.length = n3) : ∃ a ca b cb d cd, v = .agg #[.slice a n1 ca, .slice b n2 cb, .slice d n3 cd] := by
  subst e1 e2 e3
  obtain ⟨a, ca, b, cb, d, cd, e, _⟩ := h.form
  exact ⟨_, _, _, _, _, _, e⟩
theorem WVC.lens {w : World} {v : Value} {s : List Int} {ll : List (List Int)} {ws : List (Nat × Nat)} (h : WVC w v s ll ws) {n1 n2 n3 : Nat} (e1 : s.length = n1) (e2 : ll.length = n2) (e3 : ws.length = n3) : ∃ a ca b cb d cd, v = .agg #[.slice a n1 ca, .slice b n2 cb, .slice d n3 cd] := by
  subst e1 e2 e3
  obtain ⟨a, ca, b, cb, d, cd, e, _⟩ := h.form
  exact ⟨_, _, _, _, _, _, e⟩
theorem WVI.wts {w : World} {x y z : Value} {s : List Int} {ll : List (List Int)} {ws : List Int} (h : WVI w (.agg #[x, y, z]) s ll ws) : WtsI w z ws := by
  obtain ⟨_, _, _, e, _, _, h3⟩ := h; cases e; exact h3
theorem WVC.wts {w : World} {x y z : Value} {s : List Int} {ll : List (List Int)} {ws : List (Nat × Nat)} (h : WVC w (.agg #[x, y, z]) s ll ws) : WtsC w z ws := by
  obtain ⟨_, _, _, e, _, _, h3⟩ := h; cases e; exact h3

theorem sh_fineU : Fine [] [[]] 1 := fine_unit
theorem sh_joinU : joinL [] [] = [] := joinS_nil List.Pairwise.nil
theorem sh_joinRU : joinR [] [[]] [] [[]] = [[]] := join_unit fine_unit
theorem sh_pairU : (pairR [] [[]] [] [[]]).length = 1 := by decide
theorem sh_wU (t : List Int) : wOfC [[]] [(0, 4611686018427387904)] t = (0, 0) ∨ wOfC [[]] [(0, 4611686018427387904)] t = (0, 4611686018427387904) := by
  unfold wOfC
  rcases Nat.eq_zero_or_pos (lowN [[]] t) with h | h
  · rw [h]; exact .inr rfl
  · rw [List.getD_eq_getElem?_getD, List.getElem?_eq_none (show [((0 : Nat), 4611686018427387904)].length ≤ lowN [[]] t from h)]; exact .inl rfl
theorem sh_mulU : combLC mulC2 [] [[]] [(0, 4611686018427387904)] [] [[]] [(0, 4611686018427387904)] = [((13839561654909534208, 0), true)] := by unfold combLC; rw [sh_joinU, sh_joinRU]; decide

theorem timesC_sh {v v' : Value} {w : World} (h : WVC w v [] [[]] [(0, 4611686018427387904)]) (h' : WVC w v' [] [[]] [(0, 4611686018427387904)]) :
    Calls Tryz.prog 17 #[v, v', .int .i64 1] w fun e w' => ∃ x, e = .returned (.tuple #[x, .int .i64 0]) ∧ WVC w' x [] [[]] [(13839561654909534208, 0)] ∧ Below w.heap.size w w' := by
  refine (timesC_any (mulC := mulC2) h h' fine_unit fine_unit (by omega) (by omega) (by omega) (fun t t' W => product2_any (sh_wU t) (sh_wU t'))).mono ?_
  rw [sh_joinU, sh_joinRU, sh_pairU, sh_mulU]
  rintro e w' ⟨h1 | h1 | h1, hb⟩
  · have := h1.1; omega
  · obtain ⟨_, ⟨x, hx, hx2⟩, _⟩ := h1
    simp at hx
    rw [hx] at hx2; cases hx2
  · obtain ⟨_, _, x, y, z, he, hr, _⟩ := h1
    exact ⟨_, he, hr, hb⟩
theorem ofC_sh {v : Value} {w : World} (h : RelV w v [] [[]]) :
    Calls Tryz.prog 28 #[v, .complex .f64 0 4611686018427387904] w fun e w' => ∃ x, e = .returned x ∧ WVC w' x [] [[]] [(0, 4611686018427387904)] ∧ Below w.heap.size w w' := by
  refine (ofC_any (q := (0, 4611686018427387904)) h (by decide) (by decide) (by decide)).mono ?_
  rintro e w' ⟨x, y, z, he, hr, _, hb⟩
  exact ⟨_, he, hr, hb⟩
theorem of_sh {v : Value} {w : World} (h : RelV w v [0] [[1], [2]]) :
    Calls Tryz.prog 27 #[v, .int .i64 3] w fun e w' => ∃ x, e = .returned x ∧ WVI w' x [0] [[1], [2]] [3, 3] ∧ Below w.heap.size w w' := of_ok h (by decide) (by decide) (by decide)
theorem sum_sh {v : Value} {w : World} (h : WVI w v [0] [[1], [2]] [3, 3]) :
    Calls Tryz.prog 22 #[v, .slice none 0 0] w fun e w' => ∃ x, e = .returned (.tuple #[x, .int .i64 0]) ∧ WVI w' x [] [[]] [6] ∧ Below w.heap.size w w' := by
  have := sums_ok (vars := []) h (Seq.nil _ _) (by decide) (by decide) (by decide) (by decide) sh_fits sh_src (by decide)
  rw [sh_meet, sh_proj] at this
  exact this
theorem min_sh {v : Value} {w : World} (h : WVI w v [0] [[1], [2]] [3, 3]) :
    Calls Tryz.prog 23 #[v, .slice none 0 0] w fun e w' => ∃ x, e = .returned x ∧ WVI w' x [] [[]] [3] ∧ Below w.heap.size w w' := by
  have := mins_ok (vars := []) h (Seq.nil _ _) (by decide) (by decide) (by decide) (by decide) sh_src
  rw [sh_meet, sh_proj] at this
  exact this
theorem times_sh {v : Value} {w : World} (h : WVI w v [0] [[1], [2]] [3, 3]) :
    Calls Tryz.prog 12 #[v, v, .int .i64 10] w fun e w' => ∃ x, e = .returned (.tuple #[x, .int .i64 0]) ∧ WVI w' x [0] [[1], [2]] [9, 9] ∧ Below w.heap.size w w' := by
  have := times_ok (most := 10) h h sh_fine sh_fine (by omega) (by omega) (by omega) sh_fits sh_fits sh_mul (by decide) (by rw [sh_pair]; decide)
  rw [sh_joinS, sh_join] at this
  exact this
theorem plus_sh {v : Value} {w : World} (h : WVI w v [0] [[1], [2]] [3, 3]) :
    Calls Tryz.prog 14 #[v, v, .int .i64 10] w fun e w' => ∃ x, e = .returned (.tuple #[x, .int .i64 0]) ∧ WVI w' x [0] [[1], [2]] [6, 6] ∧ Below w.heap.size w w' := by
  have := plus_ok (most := 10) h h sh_fine sh_fine (by omega) (by omega) (by omega) sh_fits sh_fits sh_add (by decide) (by rw [sh_pair]; decide)
  rw [sh_joinS, sh_join] at this
  exact this
theorem timesN_sh {v : Value} {w : World} (h : WVI w v [0] [[1], [2]] [3, 3]) :
    Calls Tryz.prog 12 #[v, v, .int .i64 1] w fun e w' => e = .returned (.tuple #[.agg #[.slice none 0 0, .slice none 0 0, .slice none 0 0], .int .i64 9]) ∧ Below w.heap.size w w' :=
  times_no (most := 1) h h sh_fine sh_fine (by omega) (by omega) (by omega) sh_fits sh_fits (by rw [sh_pair]; decide)

set_option maxHeartbeats 16000000 in
theorem shown4_any (w : World) : Calls Tryz.prog 9 #[] w fun e w' => e = .returned (.bool true) ∧ Below w.heap.size w w' := by
  obtain ⟨W1, hW1⟩ : ∃ W, W = (((w.alloc (.cells #[.int .i64 0] 3)).alloc (.cells #[.int .i64 1] 3)).alloc (.cells #[.int .i64 2] 3)).alloc (.cells #[.slice (some ⟨w.heap.size + 1, 0, none⟩) 1 1, .slice (some ⟨w.heap.size + 1 + 1, 0, none⟩) 1 1] 22) := ⟨_, rfl⟩
  have hB : Below w.heap.size w W1 := by rw [hW1]; exact ((((Below.refl _ w).alloc (Nat.le_refl _) _).alloc (by simp) _).alloc (by simp; omega) _).alloc (by simp; omega) _
  have at0 : W1.heap[w.heap.size]? = some (.cells #[.int .i64 0] 3 (0, 0)) := by rw [hW1]; simp only [alloc_at, World.size_alloc]; repeat (first | rw [if_pos True.intro] | rw [if_pos rfl] | rw [if_neg (by omega)])
  have at1 : W1.heap[w.heap.size + 1]? = some (.cells #[.int .i64 1] 3 (0, 0)) := by rw [hW1]; simp only [alloc_at, World.size_alloc]; repeat (first | rw [if_pos True.intro] | rw [if_pos rfl] | rw [if_neg (by omega)])
  have at2 : W1.heap[w.heap.size + 1 + 1]? = some (.cells #[.int .i64 2] 3 (0, 0)) := by rw [hW1]; simp only [alloc_at, World.size_alloc]; repeat (first | rw [if_pos True.intro] | rw [if_pos rfl] | rw [if_neg (by omega)])
  have at3 : W1.heap[w.heap.size + 1 + 1 + 1]? = some (.cells #[.slice (some ⟨w.heap.size + 1, 0, none⟩) 1 1, .slice (some ⟨w.heap.size + 1 + 1, 0, none⟩) 1 1] 22 (0, 0)) := by rw [hW1]; simp only [alloc_at, World.size_alloc]; repeat (first | rw [if_pos True.intro] | rw [if_pos rfl] | rw [if_neg (by omega)])
  have RA : RelV W1 (.agg #[.slice (some ⟨w.heap.size, 0, none⟩) 1 1, .slice (some ⟨w.heap.size + 1 + 1 + 1, 0, none⟩) 2 2]) [0] [[1], [2]] :=
    lit_rel4 (s := [0]) (vs := [.slice (some ⟨w.heap.size + 1, 0, none⟩) 1 1, .slice (some ⟨w.heap.size + 1 + 1, 0, none⟩) 1 1]) (litI_at at0 rfl rfl (by simp)) at3 rfl (by simp) (fun i hi hi' => by
      match i, hi, hi' with
      | 0, _, _ => exact litI_at (l := [1]) at1 rfl rfl (by simp)
      | 1, _, _ => exact litI_at (l := [2]) at2 rfl rfl (by simp))
  have HW1 := hide hW1
  have HO := hide (of_sh RA)
  clear hW1 at0 at1 at2 at3 RA
  go_enter Tryz.func9, Tryz.ntmps9
  go_wp2_with fail
  rw [← unhide HW1]
  refine (unhide HO).mono ?_
  rintro e w1 ⟨u, rfl, ra, hb⟩
  obtain ⟨aa, ac, ab, ad, ae, af, rfl⟩ := ra.lens (n1 := 1) (n2 := 2) (n3 := 2) rfl rfl rfl
  replace hB := below_then hB hb
  clear HO hb HW1
  have pb := (Below.refl _ w1).alloc (Nat.le_refl _) (.cells #[.slice aa 1 ac, .slice ab 2 ad, .slice ae 2 af] 37)
  replace ra := ra.below pb
  have xa := BoxWI.new w1 (.slice aa 1 ac) (.slice ab 2 ad) (.slice ae 2 af)
  replace hB := below_then hB pb
  clear pb
  have HC := hide (sum_sh ra)
  have c0_xa := xa.cell0
  have c1_xa := xa.cell1
  have c2_xa := xa.cell2
  go_wp2_with fail
  refine (unhide HC).mono ?_
  rintro e w2 ⟨u, rfl, rs, hb⟩
  replace ra := ra.below hb
  replace xa := xa.belowH hb
  replace hB := below_then hB hb
  clear HC hb c0_xa c1_xa c2_xa
  obtain ⟨sa, sc, sb, sd, se, sf, rfl⟩ := rs.lens (n1 := 0) (n2 := 1) (n3 := 1) rfl rfl rfl
  have pb := (Below.refl _ w2).alloc (Nat.le_refl _) (.cells #[.slice sa 0 sc, .slice sb 1 sd, .slice se 1 sf] 37)
  replace ra := ra.below pb
  replace rs := rs.below pb
  replace xa := xa.push (.cells #[.slice sa 0 sc, .slice sb 1 sd, .slice se 1 sf] 37)
  have xs := BoxWI.new w2 (.slice sa 0 sc) (.slice sb 1 sd) (.slice se 1 sf)
  replace hB := below_then hB pb
  clear pb
  have HC := hide (min_sh ra)
  have c0_xa := xa.cell0
  have c1_xa := xa.cell1
  have c2_xa := xa.cell2
  go_wp2_with fail
  refine (unhide HC).mono ?_
  rintro e w3 ⟨u, rfl, rm, hb⟩
  replace ra := ra.below hb
  replace rs := rs.below hb
  replace xa := xa.belowH hb
  replace xs := xs.belowH hb
  replace hB := below_then hB hb
  clear HC hb c0_xa c1_xa c2_xa
  obtain ⟨ma, mc, mb, md, me, mf, rfl⟩ := rm.lens (n1 := 0) (n2 := 1) (n3 := 1) rfl rfl rfl
  have pb := (Below.refl _ w3).alloc (Nat.le_refl _) (.cells #[.slice ma 0 mc, .slice mb 1 md, .slice me 1 mf] 37)
  replace ra := ra.below pb
  replace rs := rs.below pb
  replace rm := rm.below pb
  replace xa := xa.push (.cells #[.slice ma 0 mc, .slice mb 1 md, .slice me 1 mf] 37)
  replace xs := xs.push (.cells #[.slice ma 0 mc, .slice mb 1 md, .slice me 1 mf] 37)
  have xm := BoxWI.new w3 (.slice ma 0 mc) (.slice mb 1 md) (.slice me 1 mf)
  replace hB := below_then hB pb
  clear pb
  have HC := hide (times_sh ra)
  have c0_xa := xa.cell0
  have c1_xa := xa.cell1
  have c2_xa := xa.cell2
  go_wp2_with fail
  refine (unhide HC).mono ?_
  rintro e w4 ⟨u, rfl, rt, hb⟩
  replace ra := ra.below hb
  replace rs := rs.below hb
  replace rm := rm.below hb
  replace xa := xa.belowH hb
  replace xs := xs.belowH hb
  replace xm := xm.belowH hb
  replace hB := below_then hB hb
  clear HC hb c0_xa c1_xa c2_xa
  obtain ⟨ta, tc, tb, td, te, tf, rfl⟩ := rt.lens (n1 := 1) (n2 := 2) (n3 := 2) rfl rfl rfl
  have pb := (Below.refl _ w4).alloc (Nat.le_refl _) (.cells #[.slice ta 1 tc, .slice tb 2 td, .slice te 2 tf] 37)
  replace ra := ra.below pb
  replace rs := rs.below pb
  replace rm := rm.below pb
  replace rt := rt.below pb
  replace xa := xa.push (.cells #[.slice ta 1 tc, .slice tb 2 td, .slice te 2 tf] 37)
  replace xs := xs.push (.cells #[.slice ta 1 tc, .slice tb 2 td, .slice te 2 tf] 37)
  replace xm := xm.push (.cells #[.slice ta 1 tc, .slice tb 2 td, .slice te 2 tf] 37)
  have xt := BoxWI.new w4 (.slice ta 1 tc) (.slice tb 2 td) (.slice te 2 tf)
  replace hB := below_then hB pb
  clear pb
  have HC := hide (plus_sh ra)
  have c0_xa := xa.cell0
  have c1_xa := xa.cell1
  have c2_xa := xa.cell2
  go_wp2_with fail
  refine (unhide HC).mono ?_
  rintro e w5 ⟨u, rfl, rp, hb⟩
  replace ra := ra.below hb
  replace rs := rs.below hb
  replace rm := rm.below hb
  replace rt := rt.below hb
  replace xa := xa.belowH hb
  replace xs := xs.belowH hb
  replace xm := xm.belowH hb
  replace xt := xt.belowH hb
  replace hB := below_then hB hb
  clear HC hb c0_xa c1_xa c2_xa
  obtain ⟨ka, kc, kb, kd, ke, kf, rfl⟩ := rp.lens (n1 := 1) (n2 := 2) (n3 := 2) rfl rfl rfl
  have pb := (Below.refl _ w5).alloc (Nat.le_refl _) (.cells #[.slice ka 1 kc, .slice kb 2 kd, .slice ke 2 kf] 37)
  replace ra := ra.below pb
  replace rs := rs.below pb
  replace rm := rm.below pb
  replace rt := rt.below pb
  replace rp := rp.below pb
  replace xa := xa.push (.cells #[.slice ka 1 kc, .slice kb 2 kd, .slice ke 2 kf] 37)
  replace xs := xs.push (.cells #[.slice ka 1 kc, .slice kb 2 kd, .slice ke 2 kf] 37)
  replace xm := xm.push (.cells #[.slice ka 1 kc, .slice kb 2 kd, .slice ke 2 kf] 37)
  replace xt := xt.push (.cells #[.slice ka 1 kc, .slice kb 2 kd, .slice ke 2 kf] 37)
  have xp := BoxWI.new w5 (.slice ka 1 kc) (.slice kb 2 kd) (.slice ke 2 kf)
  replace hB := below_then hB pb
  clear pb
  have HC := hide (timesN_sh ra)
  have c0_xa := xa.cell0
  have c1_xa := xa.cell1
  have c2_xa := xa.cell2
  go_wp2_with fail
  refine (unhide HC).mono ?_
  rintro e w6 ⟨rfl, hb⟩
  replace ra := ra.below hb
  replace rs := rs.below hb
  replace rm := rm.below hb
  replace rt := rt.below hb
  replace rp := rp.below hb
  replace xa := xa.belowH hb
  replace xs := xs.belowH hb
  replace xm := xm.belowH hb
  replace xt := xt.belowH hb
  replace xp := xp.belowH hb
  replace hB := below_then hB hb
  clear HC hb c0_xa c1_xa c2_xa
  have pb := (Below.refl _ w6).alloc (Nat.le_refl _) (.cells #[.slice none 0 0, .slice none 0 0, .slice none 0 0] 37)
  replace ra := ra.below pb
  replace rs := rs.below pb
  replace rm := rm.below pb
  replace rt := rt.below pb
  replace rp := rp.below pb
  replace xa := xa.push (.cells #[.slice none 0 0, .slice none 0 0, .slice none 0 0] 37)
  replace xs := xs.push (.cells #[.slice none 0 0, .slice none 0 0, .slice none 0 0] 37)
  replace xm := xm.push (.cells #[.slice none 0 0, .slice none 0 0, .slice none 0 0] 37)
  replace xt := xt.push (.cells #[.slice none 0 0, .slice none 0 0, .slice none 0 0] 37)
  replace xp := xp.push (.cells #[.slice none 0 0, .slice none 0 0, .slice none 0 0] 37)
  have xn := BoxWI.new w6 (.slice none 0 0) (.slice none 0 0) (.slice none 0 0)
  replace hB := below_then hB pb
  clear pb
  clear xn
  obtain ⟨W7, hW7⟩ : ∃ W, W = w6.alloc (.cells #[.slice none 0 0, .slice none 0 0, .slice none 0 0] 37) := ⟨_, rfl⟩
  have hz7 : W7.heap.size = w6.heap.size + 1 := by rw [hW7]; simp
  rw [← hW7] at hB ra rs rm rt rp xa xs xm xt xp
  obtain ⟨W8, hW8⟩ : ∃ W, W = (W7.alloc (.cells #[] 3)).alloc (.cells #[.slice (some ⟨W7.heap.size, 0, none⟩) 0 0] 22) := ⟨_, rfl⟩
  have hb8 : Below W7.heap.size W7 W8 := by rw [hW8]; exact ((Below.refl _ W7).alloc (Nat.le_refl _) _).alloc (by simp) _
  have q0 : W8.heap[W7.heap.size]? = some (.cells #[] 3 (0, 0)) := by rw [hW8]; simp only [alloc_at, World.size_alloc]; repeat (first | rw [if_pos True.intro] | rw [if_pos rfl] | rw [if_neg (by omega)])
  have q1 : W8.heap[W7.heap.size + 1]? = some (.cells #[.slice (some ⟨W7.heap.size, 0, none⟩) 0 0] 22 (0, 0)) := by rw [hW8]; simp only [alloc_at, World.size_alloc]; repeat (first | rw [if_pos True.intro] | rw [if_pos rfl] | rw [if_neg (by omega)])
  have RZ : RelV W8 (.agg #[.slice none 0 0, .slice (some ⟨W7.heap.size + 1, 0, none⟩) 1 1]) [] [[]] :=
    ⟨_, _, rfl, Seq.nil _ _, [.slice (some ⟨W7.heap.size, 0, none⟩) 0 0], litT_at (n := 1) q1 rfl rfl (by simp), rfl, fun i hi hi' => by
      match i, hi, hi' with
      | 0, _, _ => exact litI_at (l := []) q0 rfl rfl (by simp)⟩
  replace ra := ra.below hb8
  replace rs := rs.below hb8
  replace rm := rm.below hb8
  replace rt := rt.below hb8
  replace rp := rp.below hb8
  replace xa := xa.belowH hb8
  replace xs := xs.belowH hb8
  replace xm := xm.belowH hb8
  replace xt := xt.belowH hb8
  replace xp := xp.belowH hb8
  replace hB := below_then hB hb8
  rw [hz7] at RZ
  have HW8 := hide (show W8 = ((w6.alloc (.cells #[.slice none 0 0, .slice none 0 0, .slice none 0 0] 37)).alloc (.cells #[] 3)).alloc (.cells #[.slice (some ⟨w6.heap.size + 1, 0, none⟩) 0 0] 22) by rw [hW8, hz7, hW7])
  clear hb8 q0 q1 hW8 hW7 hz7
  have HC := hide (ofC_sh RZ)
  clear RZ
  go_wp2_with fail
  rw [← unhide HW8]
  refine (unhide HC).mono ?_
  rintro e w9 ⟨u, rfl, rz, hb⟩
  replace ra := ra.below hb
  replace rs := rs.below hb
  replace rm := rm.below hb
  replace rt := rt.below hb
  replace rp := rp.below hb
  replace xa := xa.belowH hb
  replace xs := xs.belowH hb
  replace xm := xm.belowH hb
  replace xt := xt.belowH hb
  replace xp := xp.belowH hb
  replace hB := below_then hB hb
  clear HC hb HW8
  obtain ⟨za, zc, zb, zd, ze, zf, rfl⟩ := rz.lens (n1 := 0) (n2 := 1) (n3 := 1) rfl rfl rfl
  have pb := (Below.refl _ w9).alloc (Nat.le_refl _) (.cells #[.slice za 0 zc, .slice zb 1 zd, .slice ze 1 zf] 48)
  replace ra := ra.below pb
  replace rs := rs.below pb
  replace rm := rm.below pb
  replace rt := rt.below pb
  replace rp := rp.below pb
  replace rz := rz.below pb
  replace xa := xa.push (.cells #[.slice za 0 zc, .slice zb 1 zd, .slice ze 1 zf] 48)
  replace xs := xs.push (.cells #[.slice za 0 zc, .slice zb 1 zd, .slice ze 1 zf] 48)
  replace xm := xm.push (.cells #[.slice za 0 zc, .slice zb 1 zd, .slice ze 1 zf] 48)
  replace xt := xt.push (.cells #[.slice za 0 zc, .slice zb 1 zd, .slice ze 1 zf] 48)
  replace xp := xp.push (.cells #[.slice za 0 zc, .slice zb 1 zd, .slice ze 1 zf] 48)
  have xz := BoxWC.new w9 (.slice za 0 zc) (.slice zb 1 zd) (.slice ze 1 zf)
  replace hB := below_then hB pb
  clear pb
  have HC := hide (timesC_sh rz rz)
  have c0_xz := xz.cell0
  have c1_xz := xz.cell1
  have c2_xz := xz.cell2
  go_wp2_with fail
  refine (unhide HC).mono ?_
  rintro e w10 ⟨u, rfl, ry, hb⟩
  replace ra := ra.below hb
  replace rs := rs.below hb
  replace rm := rm.below hb
  replace rt := rt.below hb
  replace rp := rp.below hb
  replace rz := rz.below hb
  replace xa := xa.belowH hb
  replace xs := xs.belowH hb
  replace xm := xm.belowH hb
  replace xt := xt.belowH hb
  replace xp := xp.belowH hb
  replace xz := xz.belowH hb
  replace hB := below_then hB hb
  clear HC hb c0_xz c1_xz c2_xz
  obtain ⟨ja, jc, jb, jd, je, jf, rfl⟩ := ry.lens (n1 := 0) (n2 := 1) (n3 := 1) rfl rfl rfl
  have pb := (Below.refl _ w10).alloc (Nat.le_refl _) (.cells #[.slice ja 0 jc, .slice jb 1 jd, .slice je 1 jf] 48)
  replace ra := ra.below pb
  replace rs := rs.below pb
  replace rm := rm.below pb
  replace rt := rt.below pb
  replace rp := rp.below pb
  replace rz := rz.below pb
  replace ry := ry.below pb
  replace xa := xa.push (.cells #[.slice ja 0 jc, .slice jb 1 jd, .slice je 1 jf] 48)
  replace xs := xs.push (.cells #[.slice ja 0 jc, .slice jb 1 jd, .slice je 1 jf] 48)
  replace xm := xm.push (.cells #[.slice ja 0 jc, .slice jb 1 jd, .slice je 1 jf] 48)
  replace xt := xt.push (.cells #[.slice ja 0 jc, .slice jb 1 jd, .slice je 1 jf] 48)
  replace xp := xp.push (.cells #[.slice ja 0 jc, .slice jb 1 jd, .slice je 1 jf] 48)
  replace xz := xz.push (.cells #[.slice ja 0 jc, .slice jb 1 jd, .slice je 1 jf] 48)
  have xy := BoxWC.new w10 (.slice ja 0 jc) (.slice jb 1 jd) (.slice je 1 jf)
  replace hB := below_then hB pb
  clear pb
  obtain ⟨bb_s, oo_s, rfl, hs⟩ := rs.wts.at (k := 0) (by decide)
  obtain ⟨bb_m, oo_m, rfl, hm⟩ := rm.wts.at (k := 0) (by decide)
  obtain ⟨bb_t, oo_t, rfl, ht⟩ := rt.wts.at (k := 1) (by decide)
  obtain ⟨bb_p, oo_p, rfl, hp⟩ := rp.wts.at (k := 0) (by decide)
  obtain ⟨bb_y, oo_y, rfl, hy⟩ := ry.wts.at (k := 0) (by decide)
  simp only [List.getElem_cons_zero, List.getElem_cons_succ, Nat.add_zero, encC] at hs hm ht hp hy
  have d_xa := xa.cell2
  have d_xs := xs.cell2
  have d_xm := xm.cell2
  have d_xt := xt.cell2
  have d_xp := xp.cell2
  have d_xy := xy.cell2
  have HB := hide hB
  clear hB ra rs rm rt rp rz ry xa xs xm xt xp xz xy
  go_wp2
  go_ret
  exact ⟨rfl, unhide HB⟩

end Go.Proofs.YtgmbflpngedhnaaGreat
