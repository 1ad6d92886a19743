/-
  Proved: WeighOf answers true for every Part and weight, and leaves what was handed in as it was. No condition.
-/
import Derived.Test.YtocggffdfpgmnaaGreatWghEnds
import Derived.Test.YtocggffdfpgmnaaGreatWghThree
import Derived.Test.YtocggffdfpgmnaaGreatWghShown
import Derived.Deep.QuietTactic
import Derived.BigQuiet
import Derived.Deep.CutRange
namespace Go.Proofs.YtocggffdfpgmnaaGreat.weighOf
open Go.RowKit Go.ChangeShapes Go.WideShapes Go.ChangeAt
set_option linter.unusedVariables false
set_option linter.unusedSimpArgs false
set_option maxRecDepth 20000

theorem refSame4 {s : List Int} {ll : List (List Int)} {v v' : Value} {w : World} (h : RelV w v s ll) (h' : RelV w v' s ll) :
    Calls Tryz.prog 31 #[v, v'] w fun e w' => e = .returned (.bool true) ∧ Below w.heap.size w w' := by
  have := refSame_rel h h'
  rwa [sameR_iff.2 ⟨rfl, rfl⟩] at this

theorem run_rel34 (a a' a'' : Option Addr) (n n' n'' c c' c'' : Nat) (w : World) : (Instr.field 34 (.agg #[.slice a n c, .slice a' n' c', .slice a'' n'' c'']) 0).run Tryz.prog w = .ok (.agg #[.slice a n c, .slice a' n' c']) w := by kernel_rfl

theorem least_rep (n : Nat) (q : Int) : leastV (List.replicate (n + 1) q) = q := least_eq (by simp) fun x hx => by rw [List.eq_of_mem_replicate hx]; exact Int.le_refl _
theorem sum_rep : ∀ n : Nat, (List.replicate n (2 : Int)).sum = 2 * n
  | 0 => rfl
  | n + 1 => by rw [List.replicate_succ, List.sum_cons, sum_rep n]; omega

set_option maxHeartbeats 16000000 in
theorem walk {l0 a0 b0 : List Int} {k0 : List (List Int)} {l1 : Int} {v0 v1 : Value} {w : World} (i0 : PartV w v0 l0 k0 a0 b0) (i1 : v1 = .int .i64 l1) (m1 : InI64 l1) :
    Calls Tryz.prog 8 #[v0, v1] w fun e w' => e = .returned (.bool true) ∧ Below w.heap.size w w' := by
  subst i1
  obtain ⟨xa, ca, xb, cb, xd, cd, xe, ce, rfl, _, _, _, _, _, _, _, _, _, _, _⟩ := i0.form
  obtain ⟨W0, hW0⟩ : ∃ W, W = w.alloc (.cells #[.slice xa l0.length ca, .slice xb k0.length cb, .slice xd a0.length cd, .slice xe b0.length ce] 26) := ⟨_, rfl⟩
  have hB : Below w.heap.size w W0 := by rw [hW0]; exact (Below.refl _ _).alloc (Nat.le_refl _) _
  have bx : BoxQ W0 w.heap.size (.slice xa l0.length ca) (.slice xb k0.length cb) (.slice xd a0.length cd) (.slice xe b0.length ce) := by rw [hW0]; exact BoxQ.new w _ _ _ _
  replace i0 := i0.below hB
  have HW0 := hide hW0
  clear hW0
  obtain ⟨q, hq⟩ : ∃ q, q = decide (l1 < -4611686018427387904 ∨ 4611686018427387904 < l1) := ⟨_, rfl⟩
  obtain ⟨z, hz⟩ : ∃ z, z = if l1 < -4611686018427387904 ∨ 4611686018427387904 < l1 then l1.tmod 1000 else l1 := ⟨_, rfl⟩
  have HZ := hide (show (l1 < -4611686018427387904 ∧ q = true) ∨ (¬ l1 < -4611686018427387904 ∧ 4611686018427387904 < l1 ∧ q = true) ∨ (¬ l1 < -4611686018427387904 ∧ ¬ 4611686018427387904 < l1 ∧ q = false) by
    rw [hq]
    by_cases h1 : l1 < -4611686018427387904
    · exact .inl ⟨h1, by simp [h1]⟩
    · by_cases h2 : 4611686018427387904 < l1
      · exact .inr (.inl ⟨h1, h2, by simp [h2]⟩)
      · exact .inr (.inr ⟨h1, h2, by simp [h1, h2]⟩))
  have HZ2 := hide (show (q = true ∧ z = l1.tmod 1000) ∨ (q = false ∧ z = l1) by
    rw [hq, hz]
    by_cases h1 : l1 < -4611686018427387904 ∨ 4611686018427387904 < l1
    · exact .inl ⟨by simp [h1], if_pos h1⟩
    · exact .inr ⟨by simp [h1], if_neg h1⟩)
  have HFZ := hide (show Fits z by
    rw [hz]
    split
    · have h1 := Int.tmod_lt_of_pos l1 (show (0 : Int) < 1000 by omega)
      have h2 := Int.lt_tmod_of_pos l1 (show (0 : Int) < 1000 by omega)
      unfold Fits; omega
    · unfold Fits; omega)
  clear hq hz m1
  go_enter Tryz.func8, Tryz.ntmps8
  have HC := hide (shown4_any W0)
  go_wp2_with fail
  rw [← unhide HW0]
  refine (unhide HC).mono ?_
  rintro e w1 ⟨rfl, hb⟩
  replace i0 := i0.below hb
  replace bx := bx.belowH hb
  replace hB := below_then hB hb
  clear HC hb
  clear HW0
  go_upto_region 2 with fail
  go_cut [18] from 13 (fun s18 wx => s18 = .bool q ∧ wx = w1)
  case first =>
    clear i0 bx
    rcases unhide HZ with ⟨h1, hz1⟩ | ⟨h1, h2, hz1⟩ | ⟨h1, h2, hz1⟩
    all_goals
      subst hz1
      go_wp2
      go_meet
      case rel => first | exact ⟨rfl, rfl⟩ | exact ⟨by rw [decide_eq_false (by omega), decide_eq_false (by omega)]; rfl, rfl⟩ | exact ⟨by simp; omega, rfl⟩
  case rest =>
  obtain ⟨rfl, rfl⟩ := hcut
  go_upto_if 18 with fail
  go_cut [1] from 13 (fun s1 wx => s1 = .int .i64 z ∧ wx = wc)
  case first =>
    clear i0 bx
    rcases unhide HZ2 with ⟨h1, hz1⟩ | ⟨h1, hz1⟩
    all_goals
      subst h1
      subst hz1
      go_wp2
      go_meet
      case rel => exact ⟨rfl, rfl⟩
  case rest =>
  obtain ⟨rfl, hwc⟩ := hcut
  subst hwc
  have HC := hide (ref_ok i0 (most := 5) (by omega) (by omega))
  have c0_bx := bx.cell0
  have c1_bx := bx.cell1
  have c2_bx := bx.cell2
  have c3_bx := bx.cell3
  go_wp2_with fail
  refine (unhide HC).mono ?_
  rintro e w2 ⟨u, rfl, rf, hb⟩
  replace i0 := i0.below hb
  replace bx := bx.belowH hb
  replace hB := below_then hB hb
  clear HC hb c0_bx c1_bx c2_bx c3_bx
  clear i0 bx
  have GF := hide (fine_small l0 k0)
  generalize smallS3 l0 = s at *
  generalize smallR3 l0 k0 = ll at *
  generalize refW a0 5 ll.length = rw0 at *
  obtain ⟨fa, fb, fc, fd, fe, ff, rfl, _, _, _, _, _, _⟩ := rf.form
  replace rf := rf.rel
  have hfld := run_rel34
  have pb := (Below.refl _ w2).alloc (Nat.le_refl _) (.cells #[.slice fa s.length fb, .slice fc ll.length fd] 31)
  replace rf := rf.below pb
  replace hB := below_then hB pb
  have xR := Box.new w2 (.slice fa s.length fb) (.slice fc ll.length fd)
  clear pb
  have hsl := (unhide GF).slen
  have hll := (unhide GF).llen
  have HRW := hide (show ∀ t ∈ ll, t.length < 100000000 from fun t ht => by have := (unhide GF).wide t ht; omega)
  have HC := hide (of_ok (q := z) rf (by omega) (by omega) (unhide HRW))
  have c0_xR := xR.cell0
  have c1_xR := xR.cell1
  go_wp2_with fail
  refine (unhide HC).mono ?_
  rintro e w3 ⟨u, rfl, ra, hb⟩
  replace rf := rf.below hb
  replace xR := xR.belowH hb
  replace hB := below_then hB hb
  clear HC hb c0_xR c1_xR
  clear hfld
  obtain ⟨ws, hws⟩ : ∃ W, W = List.replicate ll.length z := ⟨_, rfl⟩
  rw [← hws] at ra
  have HWL := hide (show ws.length = ll.length by rw [hws]; simp)
  have hwl1 : ws.length ≤ ll.length := by rw [unhide HWL]; exact Nat.le_refl _
  have HWS := hide hws
  clear hws
  obtain ⟨aa, ab, ac, ad, ae, af, rfl, _, _, _, _, _, _, _⟩ := ra.form
  rw [unhide HWL] at ra ⊢
  have pb := (Below.refl _ w3).alloc (Nat.le_refl _) (.cells #[.slice aa s.length ab, .slice ac ll.length ad, .slice ae ll.length af] 37)
  replace rf := rf.below pb
  replace ra := ra.below pb
  replace xR := xR.belowH pb
  replace hB := below_then hB pb
  have xA := BoxWI.new w3 (.slice aa s.length ab) (.slice ac ll.length ad) (.slice ae ll.length af)
  clear pb
  have HC := hide (mins_ok ra (Seq.nil _ _) (unhide GF).asc (by omega) (by omega) (by simp) rfl)
  have c0_xA := xA.cell0
  have c1_xA := xA.cell1
  have c2_xA := xA.cell2
  go_wp2_with fail
  refine (unhide HC).mono ?_
  rintro e w4 ⟨u, rfl, rm, hb⟩
  replace rf := rf.below hb
  replace ra := ra.below hb
  replace xR := xR.belowH hb
  replace xA := xA.belowH hb
  replace hB := below_then hB hb
  clear HC hb c0_xA c1_xA c2_xA
  obtain ⟨S2, hS2⟩ : ∃ S, S = meetL s [] := ⟨_, rfl⟩
  obtain ⟨L2, hL2⟩ : ∃ S, S = projL s ll [] := ⟨_, rfl⟩
  obtain ⟨M2, hM2⟩ : ∃ S, S = (wsrcL s ll ws []).map leastV := ⟨_, rfl⟩
  rw [← hS2, ← hL2, ← hM2] at rm
  have HM2 := hide hM2
  have HS2 := hide hS2
  have HL2 := hide hL2
  clear hM2 hS2 hL2
  obtain ⟨ma, mb, mc, md, me, mf, rfl, _, _, _, _, _, _, _⟩ := rm.form
  have pb := (Below.refl _ w4).alloc (Nat.le_refl _) (.cells #[.slice ma S2.length mb, .slice mc L2.length md, .slice me M2.length mf] 37)
  replace rf := rf.below pb
  replace ra := ra.below pb
  replace rm := rm.below pb
  replace xR := xR.belowH pb
  replace xA := xA.belowH pb
  replace hB := below_then hB pb
  have xM := BoxWI.new w4 (.slice ma S2.length mb) (.slice mc L2.length md) (.slice me M2.length mf)
  clear pb
  have HC := hide (of_ok (q := 2) rf (by omega) (by omega) (unhide HRW))
  have c0_xR := xR.cell0
  have c1_xR := xR.cell1
  go_wp2_with fail
  refine (unhide HC).mono ?_
  rintro e w5 ⟨u, rfl, rb, hb⟩
  replace rf := rf.below hb
  replace ra := ra.below hb
  replace rm := rm.below hb
  replace xR := xR.belowH hb
  replace xA := xA.belowH hb
  replace xM := xM.belowH hb
  replace hB := below_then hB hb
  clear HC hb c0_xR c1_xR
  obtain ⟨wt, hwt⟩ : ∃ W, W = List.replicate ll.length (2 : Int) := ⟨_, rfl⟩
  rw [← hwt] at rb
  have HWTL := hide (show wt.length = ll.length by rw [hwt]; simp)
  have hwtl1 : wt.length ≤ ll.length := by rw [unhide HWTL]; exact Nat.le_refl _
  have HWT := hide hwt
  clear hwt
  have hSO := hide (show (∀ l ∈ wsrcL s ll wt [], sumOk l = true) ∧ (wsrcL s ll wt []).map sumV = (if ll = [] then [] else [2 * (ll.length : Int)]) by
    by_cases hl : ll = []
    · subst hl; exact ⟨(fun l h => by cases h), rfl⟩
    · rw [wsrc_none hl (unhide HWTL), if_neg hl]
      have h1 : ∀ x ∈ wt, x.natAbs ≤ 2 := fun x hx => by rw [unhide HWT] at hx; rw [List.eq_of_mem_replicate hx]; decide
      have h2 := sum_ok_of h1 (by omega)
      refine ⟨fun l h => by rw [List.mem_singleton.1 h]; exact h2.1, ?_⟩
      simp only [List.map_cons, List.map_nil]
      rw [h2.2, unhide HWT, sum_rep])
  have hFT := hide (show ∀ x ∈ wt, Fits x from fun x hx => by rw [unhide HWT] at hx; rw [List.eq_of_mem_replicate hx]; unfold Fits; omega)
  obtain ⟨ba, bb, bc, bd, be, bf, rfl, _, _, _, _, _, _, _⟩ := rb.form
  have HC := hide (sums_ok rb (Seq.nil _ _) (unhide GF).asc (by omega) (by omega) (by simp) (unhide hFT) rfl (unhide hSO).1)
  go_wp2_with fail
  refine (unhide HC).mono ?_
  rintro e w6 ⟨u, rfl, ru, hb⟩
  replace rf := rf.below hb
  replace ra := ra.below hb
  replace rm := rm.below hb
  replace rb := rb.below hb
  replace xR := xR.belowH hb
  replace xA := xA.belowH hb
  replace xM := xM.belowH hb
  replace hB := below_then hB hb
  clear HC hb
  clear rb
  obtain ⟨U2, hU2⟩ : ∃ S, S = (wsrcL s ll wt []).map sumV := ⟨_, rfl⟩
  rw [← unhide HS2, ← unhide HL2, ← hU2] at ru
  have HU2 := hide (hU2.trans (unhide hSO).2)
  clear hU2
  obtain ⟨ua, ub, uc, ud, ue, uf, rfl, _, _, _, _, _, _, _⟩ := ru.form
  have pb := (Below.refl _ w6).alloc (Nat.le_refl _) (.cells #[.slice ua S2.length ub, .slice uc L2.length ud, .slice ue U2.length uf] 37)
  replace rf := rf.below pb
  replace ra := ra.below pb
  replace rm := rm.below pb
  replace ru := ru.below pb
  replace xR := xR.belowH pb
  replace xA := xA.belowH pb
  replace xM := xM.belowH pb
  replace hB := below_then hB pb
  have xU := BoxWI.new w6 (.slice ua S2.length ub) (.slice uc L2.length ud) (.slice ue U2.length uf)
  clear pb
  have HSM := hide (refSame4 (ra.rel) rf)
  have CELLS := hide (And.intro xR (And.intro xA (And.intro xM xU)))
  have hc1 := xR.cell1
  have hc0 := xR.cell0
  have ha2 := xA.cell2
  have ha0 := xA.cell0
  have ha1 := xA.cell1
  by_cases hl : ll.length = 0
  · have hln : ll = [] := List.length_eq_zero_iff.1 hl
    have hM0 : M2.length = 0 := by rw [unhide HM2, hln]; rfl
    have hU0 : U2.length = 0 := by rw [unhide HU2, if_pos hln]; rfl
    have e1 : ((ll.length : Int) == 0) = true := by simp [hl]
    have e2 : ((U2.length : Int) == 0) = true := by simp [hU0]
    have e3 : decide ((0 : Int) < (ll.length : Int)) = false := by simp [hl]
    have e5 : ¬ ((0 : Int) < (ll.length : Int)) := by omega
    clear hl hln hM0 hU0 xR xA xM xU rm ru
    go_wp2_with fail
    refine (unhide HSM).mono ?_
    rintro e w8 ⟨rfl, hb⟩
    obtain ⟨yR, yA, yM, yU⟩ := unhide CELLS
    replace yR := yR.belowH hb
    replace yA := yA.belowH hb
    replace yU := yU.belowH hb
    replace hB := below_then hB hb
    have d1 := yR.cell1
    have d2 := yA.cell2
    have d3 := yU.cell2
    clear hc1 hc0 ha2 ha0 ha1 yM yR yA yU HSM hb
    go_wp2
    go_loopw [11] (fun i wr => i = .int .i64 0 ∧ wr = w8) (fun i _ => 0)
    case atStart => exact ⟨rfl, rfl⟩
    case round =>
      obtain ⟨rfl, rfl⟩ := hrel
      go_wp2
      go_quiet (fail)
      go_wp2
      go_ret
      exact ⟨rfl, Below.drewN1 hB _⟩
  · have hln : ll ≠ [] := by rintro rfl; exact hl rfl
    have hM1 : M2 = [z] := by
      rw [unhide HM2, wsrc_none hln (unhide HWL)]
      simp only [List.map_cons, List.map_nil]
      rw [unhide HWS, show ll.length = (ll.length - 1) + 1 by omega, least_rep]
    have hU1 : U2 = [2 * (ll.length : Int)] := by rw [unhide HU2, if_neg hln]
    have hMl : 0 < M2.length := by rw [hM1]; simp
    have hUl : 0 < U2.length := by rw [hU1]; simp
    obtain ⟨bm, om, rfl, hcm⟩ := rm.wts.at hMl
    obtain ⟨bu, ou, rfl, hcu⟩ := ru.wts.at hUl
    rw [Nat.add_zero] at hcm hcu
    have hm0 : M2[0] = z := by simp only [hM1, List.getElem_cons_zero]
    have hu0 : U2[0] = 2 * (ll.length : Int) := by simp only [hU1, List.getElem_cons_zero]
    rw [hm0] at hcm
    rw [hu0] at hcu
    have e1 : ((ll.length : Int) == 0) = false := by rw [beq_eq_false_iff_ne]; omega
    have HUL := hide (show U2.length = 1 by rw [hU1]; rfl)
    have e3 : ((0 : Int) < (ll.length : Int)) := by omega
    have HML := hide (show M2.length = 1 by rw [hM1]; rfl)
    have e8 : (2 * (ll.length : Int) == 2 * (ll.length : Int)) = true := by simp
    have e9 : (z == z) = true := by simp
    have HR := hide ra.wts
    have HWK := hide (show ∀ k (hk : k < ws.length), ws[k] = z from fun k hk => by have := unhide HWS; subst this; simp)
    clear hl hln hM1 hU1 hMl hUl hm0 hu0 xR xA xM xU rm ru ra
    go_wp2_with fail
    refine (unhide HSM).mono ?_
    rintro e w8 ⟨rfl, hb⟩
    obtain ⟨yR, yA, yM, yU⟩ := unhide CELLS
    replace yR := yR.belowH hb
    replace yA := yA.belowH hb
    replace yM := yM.belowH hb
    replace yU := yU.belowH hb
    replace hB := below_then hB hb
    have d1 := yR.cell1
    have d2 := yA.cell2
    have d3 := yU.cell2
    have d4 := yM.cell2
    rw [unhide HUL] at d3
    rw [unhide HML] at d4
    have gm := Below.cell_of hb hcm
    have gu := Below.cell_of hb hcu
    have HR8 := hide ((unhide HR).below hb)
    clear hc1 hc0 ha2 ha0 ha1 yM yR yA yU HSM hb hcm hcu HR
    go_wp2
    go_loopw [11] (fun i wr => ∃ k : Nat, k ≤ ll.length ∧ i = .int .i64 k ∧ wr = w8) (fun i _ => ll.length - (intOf i).toNat)
    case atStart => exact ⟨0, by omega, rfl, rfl⟩
    case round =>
      obtain ⟨k, hk, rfl, rfl⟩ := hrel
      by_cases hkl : k < ll.length
      · obtain ⟨ba, oa, rfl, hca⟩ := (unhide HR8).at (show k < ws.length by rw [unhide HWL]; exact hkl)
        rw [unhide HWK k _] at hca
        go_wp2
        go_roundw
        case rel => exact ⟨k + 1, by omega, by go_num, by first | trivial | rfl⟩
        case measure => simp [intOf]; omega
      · go_wp2
        go_quiet (fail)
        go_wp2
        go_ret
        exact ⟨rfl, Below.drewN1 hB _⟩

set_option maxRecDepth 100000 in
theorem lifted (os : Os) (started : os.Started) (H : Type) (enc : TypeId × Value → H) :
    ReturnsInHanded {} Tryz.checked os 8 .any (Rows.weighOfSpec.pre6 enc Tryz.prog Tryz.f8 Rows.weighOfRow.domain false) (Rows.weighOfSpec.post enc Tryz.prog Tryz.f8 false true false false) := by
  refine returnsInHanded_of_change (C := Tryz.checked) own started (by kernel_rfl) Tryz.func8
    (ChangeSpec.witness6 (enc := enc) (C := Tryz.checked) false ⟨#[], #[.agg #[.slice none 0 0, .slice none 0 0, .slice none 0 0, .slice none 0 0], .int .i64 0], []⟩ 8 (by kernel_rfl) (by kernel_rfl) (by kernel_rfl) (by kernel_rfl)) ?_
  intro W base args ds gs before hval0 hW hcnd _
  have hval : ∀ (j : Nat) t v, Tryz.f8.params[j]? = some t → args[j]? = some v → Value.okWide Tryz.prog W .any base t v := hval0
  have hW' := hW
  obtain ⟨p, q, hA0, hV, rfl, hfz, hnd⟩ := hW
  have hA : DataW.TrodAll enc Tryz.prog W 0 (fun _ => true) true Tryz.f8.params.toList args.toList ds p := hA0
  rw [Tryz.params8] at hA hval
  obtain ⟨v0, vs0, d0, ds0, p0, q0, hargs, rfl, rfl, h0, r0⟩ := trodAll_cons hA
  obtain ⟨v1, vs1, d1, ds1, p1, q1, rfl, rfl, rfl, h1, r1⟩ := trodAll_cons r0
  obtain ⟨rfl, rfl, rfl⟩ := trodAll_nil r1
  obtain rfl : args = #[v0, v1] := by cases args; simp_all
  obtain ⟨rfl, rfl⟩ := trodVars_none hV
  obtain ⟨l0, k0, a0, b0, i0⟩ := read_part4 h0 (hval 0 26 v0 rfl rfl)
  have lt0 : ∀ x ∈ p0, x.block < W.heap.size := by obtain ⟨m, hm⟩ := h0; exact DataW.trod_lt m _ _ _ hm
  obtain ⟨l1, i1, m1⟩ := read_int64 h1 (hval 1 2 v1 rfl rfl)
  have lt1 : ∀ x ∈ p1, x.block < W.heap.size := by obtain ⟨m, hm⟩ := h1; exact DataW.trod_lt m _ _ _ hm
  clear hA0 hval0
  refine (walk i0 i1 m1).mono fun e W' ⟨he, bel⟩ => ?_
  subst he
  exact ⟨_, rfl, _, _, _, [], _, [], hW', trodAll_mk1 (shut_bool Tryz.underlying4 _), (trodAll_cons_mk (Below.trod laidOut (by kernel_rfl) (of_decide_eq_true (by kernel_rfl)) h0 bel lt0) (trodAll_cons_mk (Below.trod laidOut (by kernel_rfl) (of_decide_eq_true (by kernel_rfl)) h1 bel lt1) trodAll_mk0)), rfl, bel.frame _, fun h => by cases h⟩

theorem over : Rows.weighOfRow.holds Tryz.pinned (OpenSpec.ofChange Rows.weighOfSpec) :=
  OpenClaim.holds_of_wide 8 Tryz.f8 rfl rfl rfl rfl rfl rfl rfl ⟨rfl, rfl, rfl, rfl, rfl⟩ rfl rfl rfl rfl rfl (by kernel_rfl) Tryz.func8 (by kernel_rfl)
    (of_decide_eq_true (by kernel_rfl)) (by unfold Func.isWrapper; first | (rw [if_pos (by decide +kernel)]; kernel_rfl) | (rw [if_neg (by decide +kernel)]; exact ⟨rfl, rfl⟩))
    (fun os started H enc _ => lifted os started H enc)

/-- The statement. -/
theorem proved : Rows.WeighOfSaid := over
#print axioms proved
end Go.Proofs.YtocggffdfpgmnaaGreat.weighOf
