/-
  Proved: WeighSteps answers true for every Part and row of variables, and leaves what was handed in as it was. No condition.
-/
import Derived.Test.YtocggffdfpgmnaaGreatWghEnds
import Derived.Test.YtocggffdfpgmnaaGreatWghThree
import Derived.Test.YtocggffdfpgmnaaGreatWghShown
import Derived.Test.YtocggffdfpgmnaaGreatWghDocs
import Derived.Deep.QuietTactic
import Derived.BigQuiet
namespace Go.Proofs.YtocggffdfpgmnaaGreat.weighSteps
open Go.RowKit Go.ChangeShapes Go.WideShapes Go.ChangeAt
set_option linter.unusedVariables false
set_option linter.unusedSimpArgs false
set_option maxRecDepth 20000

theorem steps_math {s one : List Int} {ll : List (List Int)} {ws : List Int} (g : Fine s ll 12) (hw : ws.length = ll.length) (hf : Few ws) : ∃ P Q : List Int, P.length = Q.length ∧ P.length < 2 ∧
    (∀ l ∈ wsrcL s ll ws one, sumOk l = true) ∧ (∀ x ∈ (wsrcL s ll ws one).map sumV, Fits x) ∧ (∀ l ∈ wsrcL (meetL s one) (projL s ll one) ((wsrcL s ll ws one).map sumV) [], sumOk l = true) ∧ (wsrcL (meetL s one) (projL s ll one) ((wsrcL s ll ws one).map sumV) []).map sumV = P ∧
    (∀ l ∈ wsrcL s ll ws [], sumOk l = true) ∧ (wsrcL s ll ws []).map sumV = P ∧ (wsrcL (meetL s one) (projL s ll one) ((wsrcL s ll ws one).map leastV) []).map leastV = Q ∧ (wsrcL s ll ws []).map leastV = Q := by
  by_cases hl : ll = []
  · subst hl
    exact ⟨[], [], rfl, by simp, (fun l h => by cases h), (fun l h => by cases h), (fun l h => by cases h), rfl, (fun l h => by cases h), rfl, rfl, rfl⟩
  · have h12 := g.llen
    have hsm : ∀ l ∈ wsrcL s ll ws one, sumOk l = true ∧ sumV l = l.sum ∧ l.sum.natAbs ≤ 12000 := fun l hlm => by
      have hx : ∀ x ∈ l, x.natAbs ≤ 1000 := fun x hx => by have := hf x ((mem_wsrc hw).1 ⟨l, hlm, hx⟩); omega
      have hlen := wsrc_len hlm
      have h1 := sum_ok_of hx (by omega)
      have h2 := sizes_le hx
      have h3 := sum_le_sizes l
      exact ⟨h1.1, h1.2, by omega⟩
    have hK1 : (wsrcL s ll ws one).length = (projL s ll one).length := by unfold wsrcL srcL; simp
    have hpl := proj_le s one ll
    have hpn : projL s ll one ≠ [] := by
      intro e
      have := (proj_empty (vars := one) (g.good (by omega))).1 (by rw [e]; rfl)
      exact hl (List.length_eq_zero_iff.1 this)
    have hm1 : ∀ x ∈ (wsrcL s ll ws one).map sumV, x.natAbs ≤ 12000 := fun x hx => by
      obtain ⟨l, hlm, rfl⟩ := List.mem_map.1 hx
      rw [(hsm l hlm).2.1]; exact (hsm l hlm).2.2
    have hs2 := sum_ok_of hm1 (by rw [List.length_map]; omega)
    have hw0 : ∀ x ∈ ws, x.natAbs ≤ 1000 := fun x hx => by have := hf x hx; omega
    have hs3 := sum_ok_of hw0 (by omega)
    have e2 := wsrc_none (s := meetL s one) hpn (ws := (wsrcL s ll ws one).map sumV) (by rw [List.length_map]; exact hK1)
    have e2' := wsrc_none (s := meetL s one) hpn (ws := (wsrcL s ll ws one).map leastV) (by rw [List.length_map]; exact hK1)
    have e3 := wsrc_none (s := s) hl hw
    refine ⟨[ws.sum], [leastV ws], rfl, by simp, fun l h => (hsm l h).1, fun x hx => by have := hm1 x hx; unfold Fits; omega, ?_, ?_, ?_, ?_, ?_, ?_⟩
    · rw [e2]; intro l h; rw [List.mem_singleton.1 h]; exact hs2.1
    · rw [e2]; simp only [List.map_cons, List.map_nil]
      rw [hs2.2, map_sumV (fun l h => (hsm l h).2.1), sum_parts hw]
    · rw [e3]; intro l h; rw [List.mem_singleton.1 h]; exact hs3.1
    · rw [e3]; simp only [List.map_cons, List.map_nil]; rw [hs3.2]
    · rw [e2']; simp only [List.map_cons, List.map_nil]; rw [least_parts hl hw]
    · rw [e3]; rfl

set_option maxHeartbeats 32000000 in
theorem walk {l0 l1 a0 b0 : List Int} {k0 : List (List Int)} {v0 v1 : Value} {w : World} (i0 : PartV w v0 l0 k0 a0 b0) (i1 : Ints w v1 l1) (m1 : ∀ n ∈ l1, InI64 n) :
    Calls Tryz.prog 9 #[v0, v1] w fun e w' => e = .returned (.bool true) ∧ Below w.heap.size w w' := by
  obtain ⟨xa, ca, xb, cb, xd, cd, xe, ce, rfl, _, _, _, _, _, _, _, _, _, _, _⟩ := i0.form
  obtain ⟨da, dc, rfl, hld, hcd⟩ := i1.form
  unfold maxLen at hcd
  obtain ⟨W0, hW0⟩ : ∃ W, W = w.alloc (.cells #[.slice xa l0.length ca, .slice xb k0.length cb, .slice xd a0.length cd, .slice xe b0.length ce] 26) := ⟨_, rfl⟩
  have hB : Below w.heap.size w W0 := by rw [hW0]; exact (Below.refl _ _).alloc (Nat.le_refl _) _
  have bx : BoxQ W0 w.heap.size (.slice xa l0.length ca) (.slice xb k0.length cb) (.slice xd a0.length cd) (.slice xe b0.length ce) := by rw [hW0]; exact BoxQ.new w _ _ _ _
  replace i0 := i0.below hB
  replace i1 := i1.below hB
  have HW0 := hide hW0
  clear hW0 m1
  have j1 := i1.cut 6
  have hv1 : (l1.take 6).length ≤ 6 := List.length_take_le _ _
  have hcut := run_cut da l1.length dc (min (l1.length : Int) ((6 : Nat) : Int)) (min (l1.length : Int) ((6 : Nat) : Int)).toNat (by omega) (by omega)
  generalize l1.take 6 = one at j1 hv1
  clear i1
  go_enter Tryz.func9, Tryz.ntmps9
  have HC := hide (shown4_any W0)
  go_wp2_with fail
  rw [← unhide HW0]
  refine (unhide HC).mono ?_
  rintro e w1 ⟨rfl, hb⟩
  replace i0 := i0.below hb
  replace j1 := j1.below hb
  replace bx := bx.belowH hb
  replace hB := below_then hB hb
  clear HC hb
  clear HW0
  have HC := hide (ref_ok i0 (most := 999) (by omega) (by omega))
  have c0_bx := bx.cell0
  have c1_bx := bx.cell1
  have c2_bx := bx.cell2
  have c3_bx := bx.cell3
  go_wp2_with fail
  refine (unhide HC).mono ?_
  rintro e w2 ⟨u, rfl, rf, hb⟩
  replace i0 := i0.below hb
  replace j1 := j1.below hb
  replace bx := bx.belowH hb
  replace hB := below_then hB hb
  clear HC hb c0_bx c1_bx c2_bx c3_bx
  clear i0 bx
  have GF := hide (fine_small l0 k0)
  have hwl : ((refW a0 999 (smallR3 l0 k0).length).map Prod.fst).length = (smallR3 l0 k0).length := by rw [List.length_map, refW_len]
  have FW := hide (few_ref a0 (smallR3 l0 k0).length)
  have hrl : (refW a0 999 (smallR3 l0 k0).length).length ≤ 12 := by rw [refW_len]; exact smallR3_len l0 k0
  generalize smallS3 l0 = s at *
  generalize smallR3 l0 k0 = ll at *
  generalize refW a0 999 ll.length = rw0 at *
  obtain ⟨fa, fb, fc, fd, fe, ff, rfl, _, _, _, _, _, _⟩ := rf.form
  have HC := hide (number_any rf (by omega))
  go_wp2_with fail
  refine (unhide HC).mono ?_
  rintro e w3 ⟨u, rfl, ra, hb⟩
  replace j1 := j1.below hb
  replace rf := rf.below hb
  replace hB := below_then hB hb
  clear HC hb
  clear rf
  generalize rw0.map Prod.fst = ws at *
  obtain ⟨P, Q, hPQ, hP2, hK1, hF1, hK2, hE2, hK3, hE3, hE4, hE5⟩ := steps_math (one := one) (unhide GF) hwl (unhide FW)
  have hsl := (unhide GF).slen
  have hll := (unhide GF).llen
  have hml := meetL_le s one
  have hpl := proj_le s one ll
  have HK1 := hide hK1
  have HF1 := hide hF1
  have HK2 := hide hK2
  have HK3 := hide hK3
  have HE2 := hide hE2
  have HE3 := hide hE3
  have HE4 := hide hE4
  have HE5 := hide hE5
  have HPQ := hide hPQ
  clear hK1 hF1 hK2 hK3 hE2 hE3 hE4 hE5 hwl hPQ
  obtain ⟨aa, ab, ac, ad, ae, af, rfl, _, _, _, _, _, _, _⟩ := ra.form
  have pb := (Below.refl _ w3).alloc (Nat.le_refl _) (.cells #[.slice aa s.length ab, .slice ac ll.length ad, .slice ae ws.length af] 37)
  replace j1 := j1.below pb
  replace ra := ra.below pb
  replace hB := below_then hB pb
  have xA := BoxWI.new w3 (.slice aa s.length ab) (.slice ac ll.length ad) (.slice ae ws.length af)
  clear pb
  have E1 := hide (show wsrcL s ll ws one = wsrcL s ll ws one from rfl)
  have HC := hide (sums_ok ra j1 (unhide GF).asc (by omega) (by omega) (by omega) (unhide FW).fits rfl (unhide HK1))
  have c0_xA := xA.cell0
  have c1_xA := xA.cell1
  have c2_xA := xA.cell2
  go_wp2_with fail
  refine (unhide HC).mono ?_
  rintro e w4 ⟨u, rfl, rs, hb⟩
  replace j1 := j1.below hb
  replace ra := ra.below hb
  replace xA := xA.belowH hb
  replace hB := below_then hB hb
  clear HC hb c0_xA c1_xA c2_xA
  have HM := hide (asc_meetL (b := one) (unhide GF).asc)
  obtain ⟨S1, hS1⟩ : ∃ S, S = meetL s one := ⟨_, rfl⟩
  obtain ⟨L1, hL1⟩ : ∃ S, S = projL s ll one := ⟨_, rfl⟩
  obtain ⟨V1, hV1⟩ : ∃ S, S = (wsrcL s ll ws one).map sumV := ⟨_, rfl⟩
  obtain ⟨V2, hV2⟩ : ∃ S, S = (wsrcL s ll ws one).map leastV := ⟨_, rfl⟩
  rw [← hS1, ← hL1, ← hV1] at rs HK2 HE2
  rw [← hS1, ← hL1, ← hV2] at HE4
  rw [← hV1] at HF1
  rw [← hS1] at HM hml
  rw [← hL1] at hpl
  have HS1 := hide hS1
  have HL1 := hide hL1
  have HV2 := hide hV2
  clear hS1 hL1 hV1 hV2 E1
  obtain ⟨sa, sb, sc, sd, se, sf, rfl, _, _, _, _, _, _, _⟩ := rs.form
  have pb := (Below.refl _ w4).alloc (Nat.le_refl _) (.cells #[.slice sa S1.length sb, .slice sc L1.length sd, .slice se V1.length sf] 37)
  replace j1 := j1.below pb
  replace ra := ra.below pb
  replace rs := rs.below pb
  replace xA := xA.belowH pb
  replace hB := below_then hB pb
  have xS := BoxWI.new w4 (.slice sa S1.length sb) (.slice sc L1.length sd) (.slice se V1.length sf)
  clear pb
  have HC := hide (sums_ok rs (Seq.nil _ _) (unhide HM) (by omega) (by omega) (by simp) (unhide HF1) rfl (unhide HK2))
  have c0_xS := xS.cell0
  have c1_xS := xS.cell1
  have c2_xS := xS.cell2
  go_wp2_with fail
  refine (unhide HC).mono ?_
  rintro e w5 ⟨u, rfl, rt, hb⟩
  replace j1 := j1.below hb
  replace ra := ra.below hb
  replace rs := rs.below hb
  replace xA := xA.belowH hb
  replace xS := xS.belowH hb
  replace hB := below_then hB hb
  clear HC hb c0_xS c1_xS c2_xS
  rw [unhide HE2] at rt
  obtain ⟨S2, hS2⟩ : ∃ S, S = meetL S1 [] := ⟨_, rfl⟩
  obtain ⟨L2, hL2⟩ : ∃ S, S = projL S1 L1 [] := ⟨_, rfl⟩
  rw [← hS2, ← hL2] at rt
  clear hS2 hL2
  obtain ⟨ta, tb, tc, td, te, tf, rfl, _, _, _, _, _, _, _⟩ := rt.form
  have pb := (Below.refl _ w5).alloc (Nat.le_refl _) (.cells #[.slice ta S2.length tb, .slice tc L2.length td, .slice te P.length tf] 37)
  replace j1 := j1.below pb
  replace ra := ra.below pb
  replace rs := rs.below pb
  replace rt := rt.below pb
  replace xA := xA.belowH pb
  replace xS := xS.belowH pb
  replace hB := below_then hB pb
  have xT := BoxWI.new w5 (.slice ta S2.length tb) (.slice tc L2.length td) (.slice te P.length tf)
  clear pb
  clear rs xS HE2 HK2 HF1
  have HC := hide (sums_ok ra (Seq.nil _ _) (unhide GF).asc (by omega) (by omega) (by simp) (unhide FW).fits rfl (unhide HK3))
  have c0_xA := xA.cell0
  have c1_xA := xA.cell1
  have c2_xA := xA.cell2
  go_wp2_with fail
  refine (unhide HC).mono ?_
  rintro e w6 ⟨u, rfl, ru, hb⟩
  replace j1 := j1.below hb
  replace ra := ra.below hb
  replace rt := rt.below hb
  replace xA := xA.belowH hb
  replace xT := xT.belowH hb
  replace hB := below_then hB hb
  clear HC hb c0_xA c1_xA c2_xA
  rw [unhide HE3] at ru
  obtain ⟨S3, hS3⟩ : ∃ S, S = meetL s [] := ⟨_, rfl⟩
  obtain ⟨L3, hL3⟩ : ∃ S, S = projL s ll [] := ⟨_, rfl⟩
  rw [← hS3, ← hL3] at ru
  have HS3 := hide hS3
  have HL3 := hide hL3
  clear hS3 hL3 HE3 HK3
  obtain ⟨ua, ub, uc, ud, ue, uf, rfl, _, _, _, _, _, _, _⟩ := ru.form
  have pb := (Below.refl _ w6).alloc (Nat.le_refl _) (.cells #[.slice ua S3.length ub, .slice uc L3.length ud, .slice ue P.length uf] 37)
  replace j1 := j1.below pb
  replace ra := ra.below pb
  replace rt := rt.below pb
  replace ru := ru.below pb
  replace xA := xA.belowH pb
  replace xT := xT.belowH pb
  replace hB := below_then hB pb
  have xU := BoxWI.new w6 (.slice ua S3.length ub) (.slice uc L3.length ud) (.slice ue P.length uf)
  clear pb
  have HC := hide (mins_ok ra j1 (unhide GF).asc (by omega) (by omega) (by omega) rfl)
  have c0_xA := xA.cell0
  have c1_xA := xA.cell1
  have c2_xA := xA.cell2
  go_wp2_with fail
  refine (unhide HC).mono ?_
  rintro e w7 ⟨u, rfl, rm, hb⟩
  replace j1 := j1.below hb
  replace ra := ra.below hb
  replace rt := rt.below hb
  replace ru := ru.below hb
  replace xA := xA.belowH hb
  replace xT := xT.belowH hb
  replace xU := xU.belowH hb
  replace hB := below_then hB hb
  clear HC hb c0_xA c1_xA c2_xA
  rw [← unhide HS1, ← unhide HL1, ← unhide HV2] at rm
  obtain ⟨ma, mb, mc, md, me, mf, rfl, _, _, _, _, _, _, _⟩ := rm.form
  have HC := hide (mins_ok rm (Seq.nil _ _) (unhide HM) (by omega) (by omega) (by simp) rfl)
  go_wp2_with fail
  refine (unhide HC).mono ?_
  rintro e w8 ⟨u, rfl, rn, hb⟩
  replace j1 := j1.below hb
  replace ra := ra.below hb
  replace rt := rt.below hb
  replace ru := ru.below hb
  replace rm := rm.below hb
  replace xA := xA.belowH hb
  replace xT := xT.belowH hb
  replace xU := xU.belowH hb
  replace hB := below_then hB hb
  clear HC hb
  clear rm
  rw [unhide HE4] at rn
  obtain ⟨S4, hS4⟩ : ∃ S, S = meetL S1 [] := ⟨_, rfl⟩
  obtain ⟨L4, hL4⟩ : ∃ S, S = projL S1 L1 [] := ⟨_, rfl⟩
  rw [← hS4, ← hL4] at rn
  clear hS4 hL4 HE4
  obtain ⟨na, nb, nc, nd, ne, nf, rfl, _, _, _, _, _, _, _⟩ := rn.form
  have pb := (Below.refl _ w8).alloc (Nat.le_refl _) (.cells #[.slice na S4.length nb, .slice nc L4.length nd, .slice ne Q.length nf] 37)
  replace j1 := j1.below pb
  replace ra := ra.below pb
  replace rt := rt.below pb
  replace ru := ru.below pb
  replace rn := rn.below pb
  replace xA := xA.belowH pb
  replace xT := xT.belowH pb
  replace xU := xU.belowH pb
  replace hB := below_then hB pb
  have xM := BoxWI.new w8 (.slice na S4.length nb) (.slice nc L4.length nd) (.slice ne Q.length nf)
  clear pb
  have HC := hide (mins_ok ra (Seq.nil _ _) (unhide GF).asc (by omega) (by omega) (by simp) rfl)
  have c0_xA := xA.cell0
  have c1_xA := xA.cell1
  have c2_xA := xA.cell2
  go_wp2_with fail
  refine (unhide HC).mono ?_
  rintro e w9 ⟨u, rfl, ro, hb⟩
  replace j1 := j1.below hb
  replace ra := ra.below hb
  replace rt := rt.below hb
  replace ru := ru.below hb
  replace rn := rn.below hb
  replace xA := xA.belowH hb
  replace xT := xT.belowH hb
  replace xU := xU.belowH hb
  replace xM := xM.belowH hb
  replace hB := below_then hB hb
  clear HC hb c0_xA c1_xA c2_xA
  rw [unhide HE5, ← unhide HS3, ← unhide HL3] at ro
  obtain ⟨oa, ob, oc, od, oe, of, rfl, _, _, _, _, _, _, _⟩ := ro.form
  have pb := (Below.refl _ w9).alloc (Nat.le_refl _) (.cells #[.slice oa S3.length ob, .slice oc L3.length od, .slice oe Q.length of] 37)
  replace j1 := j1.below pb
  replace ra := ra.below pb
  replace rt := rt.below pb
  replace ru := ru.below pb
  replace rn := rn.below pb
  replace ro := ro.below pb
  replace xA := xA.belowH pb
  replace xT := xT.belowH pb
  replace xU := xU.belowH pb
  replace xM := xM.belowH pb
  replace hB := below_then hB pb
  have xO := BoxWI.new w9 (.slice oa S3.length ob) (.slice oc L3.length od) (.slice oe Q.length of)
  clear pb
  obtain ⟨WE, hWE⟩ : ∃ W, W = w9.alloc (.cells #[.slice oa S3.length ob, .slice oc L3.length od, .slice oe Q.length of] 37) := ⟨_, rfl⟩
  rw [← hWE] at hB rt ru rn ro xT xU xM xO
  have HWE := hide hWE
  have dT := xT.cell2
  have dU := xU.cell2
  have dM := xM.cell2
  have dO := xO.cell2
  have dT' : (w9.alloc (.cells #[.slice oa S3.length ob, .slice oc L3.length od, .slice oe Q.length of] 37)).cell? ⟨w5.heap.size, 2, none⟩ = some (.slice te P.length tf) := by rw [← hWE]; exact dT
  have dU' : (w9.alloc (.cells #[.slice oa S3.length ob, .slice oc L3.length od, .slice oe Q.length of] 37)).cell? ⟨w6.heap.size, 2, none⟩ = some (.slice ue P.length uf) := by rw [← hWE]; exact dU
  have dM' : (w9.alloc (.cells #[.slice oa S3.length ob, .slice oc L3.length od, .slice oe Q.length of] 37)).cell? ⟨w8.heap.size, 2, none⟩ = some (.slice ne Q.length nf) := by rw [← hWE]; exact dM
  have dO' : (w9.alloc (.cells #[.slice oa S3.length ob, .slice oc L3.length od, .slice oe Q.length of] 37)).cell? ⟨w9.heap.size, 2, none⟩ = some (.slice oe Q.length of) := by rw [← hWE]; exact dO
  have wt := rt.wts
  have wu := ru.wts
  have wn := rn.wts
  have wo := ro.wts
  have hq1 : ((P.length : Int) == (Q.length : Int)) = true := by rw [unhide HPQ]; simp
  have hq2 : ((P.length : Int) < 2) := by omega
  clear hWE ra j1 rt ru rn ro xA xT xU xM xO HS1 HL1 HV2 HS3 HL3 hcut
  go_wp2
  rw [← unhide HWE]
  clear dT' dU' dM' dO'
  go_loopw [15] (fun i wr => ∃ k n : Nat, k ≤ P.length ∧ i = .int .i64 k ∧ wr = WE.drewN n) (fun i _ => P.length - (intOf i).toNat)
  case atStart => exact ⟨0, 0, by omega, rfl, rfl⟩
  case round =>
    obtain ⟨k, n, hk, rfl, rfl⟩ := hrel
    by_cases hkl : k < P.length
    · have hkq : k < Q.length := by have := unhide HPQ; omega
      obtain ⟨bt, ot, rfl, ht⟩ := wt.at hkl
      obtain ⟨bu, ou, rfl, hu⟩ := wu.at hkl
      obtain ⟨bn, on, rfl, hn⟩ := wn.at hkq
      obtain ⟨bo, oo, rfl, ho⟩ := wo.at hkq
      have hp1 : (P[k] == P[k]) = true := by simp
      have hp2 : (Q[k] == Q[k]) = true := by simp
      have hkq1 : ((k : Int) < (Q.length : Int)) := by omega
      generalize P[k] = p at *
      generalize Q[k] = q at *
      clear wt wu wn wo
      go_wp2
      go_quiet (fail)
      go_wp2
      go_roundw
      case rel => exact ⟨k + 1, _, by omega, by go_num, by first | rfl | (simp only [World.drewN_drewN]; rfl)⟩
      case measure => simp [intOf]; omega
    · clear wt wu wn wo
      go_wp2
      go_ret
      exact ⟨rfl, Below.drewN1 hB _⟩

set_option maxRecDepth 100000 in
theorem lifted (os : Os) (started : os.Started) (H : Type) (enc : TypeId × Value → H) :
    ReturnsInHanded {} Tryz.checked os 9 .any (Rows.weighStepsSpec.pre6 enc Tryz.prog Tryz.f9 Rows.weighStepsRow.domain false) (Rows.weighStepsSpec.post enc Tryz.prog Tryz.f9 false true false false) := by
  refine returnsInHanded_of_change (C := Tryz.checked) own started (by kernel_rfl) Tryz.func9
    (ChangeSpec.witness6 (enc := enc) (C := Tryz.checked) false ⟨#[], #[.agg #[.slice none 0 0, .slice none 0 0, .slice none 0 0, .slice none 0 0], .slice none 0 0], []⟩ 8 (by kernel_rfl) (by kernel_rfl) (by kernel_rfl) (by kernel_rfl)) ?_
  intro W base args ds gs before hval0 hW hcnd _
  have hval : ∀ (j : Nat) t v, Tryz.f9.params[j]? = some t → args[j]? = some v → Value.okWide Tryz.prog W .any base t v := hval0
  have hW' := hW
  obtain ⟨p, q, hA0, hV, rfl, hfz, hnd⟩ := hW
  have hA : DataW.TrodAll enc Tryz.prog W 0 (fun _ => true) true Tryz.f9.params.toList args.toList ds p := hA0
  rw [Tryz.params9] at hA hval
  obtain ⟨v0, vs0, d0, ds0, p0, q0, hargs, rfl, rfl, h0, r0⟩ := trodAll_cons hA
  obtain ⟨v1, vs1, d1, ds1, p1, q1, rfl, rfl, rfl, h1, r1⟩ := trodAll_cons r0
  obtain ⟨rfl, rfl, rfl⟩ := trodAll_nil r1
  obtain rfl : args = #[v0, v1] := by cases args; simp_all
  obtain ⟨rfl, rfl⟩ := trodVars_none hV
  obtain ⟨l0, k0, a0, b0, i0⟩ := read_part4 h0 (hval 0 26 v0 rfl rfl)
  have lt0 : ∀ x ∈ p0, x.block < W.heap.size := by obtain ⟨m, hm⟩ := h0; exact DataW.trod_lt m _ _ _ hm
  obtain ⟨l1, i1, m1⟩ := read_ints h1 (okWide_slice Tryz.underlying22 (hval 1 22 v1 rfl rfl))
  have lt1 : ∀ x ∈ p1, x.block < W.heap.size := by obtain ⟨m, hm⟩ := h1; exact DataW.trod_lt m _ _ _ hm
  clear hA0 hval0
  refine (walk i0 i1 m1).mono fun e W' ⟨he, bel⟩ => ?_
  subst he
  exact ⟨_, rfl, _, _, _, [], _, [], hW', trodAll_mk1 (shut_bool Tryz.underlying4 _), (trodAll_cons_mk (Below.trod laidOut (by kernel_rfl) (of_decide_eq_true (by kernel_rfl)) h0 bel lt0) (trodAll_cons_mk (Below.trod laidOut (by kernel_rfl) (of_decide_eq_true (by kernel_rfl)) h1 bel lt1) trodAll_mk0)), rfl, bel.frame _, fun h => by cases h⟩

theorem over : Rows.weighStepsRow.holds Tryz.pinned (OpenSpec.ofChange Rows.weighStepsSpec) :=
  OpenClaim.holds_of_wide 9 Tryz.f9 rfl rfl rfl rfl rfl rfl rfl ⟨rfl, rfl, rfl, rfl, rfl⟩ rfl rfl rfl rfl rfl (by kernel_rfl) Tryz.func9 (by kernel_rfl)
    (of_decide_eq_true (by kernel_rfl)) (by unfold Func.isWrapper; first | (rw [if_pos (by decide +kernel)]; kernel_rfl) | (rw [if_neg (by decide +kernel)]; exact ⟨rfl, rfl⟩))
    (fun os started H enc _ => lifted os started H enc)

/-- The statement. -/
theorem proved : Rows.WeighStepsSaid := over
#print axioms proved
end Go.Proofs.YtocggffdfpgmnaaGreat.weighSteps
