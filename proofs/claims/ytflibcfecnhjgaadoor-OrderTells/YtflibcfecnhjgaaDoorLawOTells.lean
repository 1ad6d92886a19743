/-
  OrderTells: orders are found as the document says.
-/
import Derived.Test.YtflibcfecnhjgaaDoorFrameT
import Derived.Test.YtflibcfecnhjgaaDoorFrameN
import Derived.Test.YtflibcfecnhjgaaDoorOShown
import Derived.Test.YtflibcfecnhjgaaDoorOMade
import Derived.Test.YtflibcfecnhjgaaDoorORefOf2
import Derived.Test.YtflibcfecnhjgaaDoorTupCmp
namespace Go.Proofs.YtflibcfecnhjgaaDoor.orderTells
open Go.RowKit Go.ChangeShapes Go.WideShapes Go.ChangeAt
set_option linter.unusedVariables false
set_option linter.unusedSimpArgs false
set_option maxRecDepth 20000

theorem in_wf {n : Int} (h : InI64 n) : (Lit.int .i64 n).wf = true := by
  unfold InI64 at h
  simp [Lit.wf, IntKind.min, IntKind.max, IntKind.signed, IntKind.bits]
  omega

set_option maxHeartbeats 4000000 in
theorem walk {l0 : Int} {v0 : Value} {l1 : List (List Int)} {v1 : Value} {l2 : Int} {v2 : Value} {w : World} (hT : TabD w) (i0 : v0 = .int .i64 l0) (m0 : InI64 l0) (i1 : Tups w v1 l1) (m1 : ∀ l ∈ l1, ∀ n ∈ l, InI64 n) (i2 : v2 = .int .i64 l2) (m2 : InI64 l2) :
    Calls Tryd.prog 4 #[v0, v1, v2] w fun e w' => e = .returned (.bool true) ∧ Below w.heap.size w w' := by
  subst i0 i2
  have hwf := in_wf m2
  clear m0 m1 m2
  have HT := hide (fun W (hb : Below w.heap.size w W) => hT.below hb)
  have HI := hide (fun W (hb : Below w.heap.size w W) => i1.below hb)
  have HSH := hide (shown9_any hT)
  obtain ⟨a0, c0, rfl, hl0, hc0⟩ := i1.form
  clear hT i1
  go_enter Tryd.func4, Tryd.ntmps4
  go_wp2_with fail
  refine (unhide HSH).mono ?_
  rintro e w1 ⟨rfl, hb1⟩
  have HB1 := hide hb1
  have HMD := hide (made9_any (n := l0) (unhide HI w1 hb1))
  have hz1 := hb1.size
  clear hb1 HSH HI
  go_wp2_with fail
  refine (unhide HMD).mono ?_
  rintro e w2 ⟨u, M, bs, rfl, hM2, hok, hMl, hb2⟩
  have hN := rndN_lt (x := l0) (n := 10) (by decide)
  rw [← hMl] at hN
  have HRG := hide (refGraph_any hM2 (by omega))
  have HG := hide (graphR_right hok (by omega))
  have hGl := graphR_len M
  have HMM := hide (fun W (hb : Below w2.heap.size w2 W) => MatC.of (hM2.below hb))
  have HOK := hide hok
  obtain ⟨au, cu, rfl, hul, hum⟩ := hM2.form
  unfold maxLen at hum
  have HB2 := hide ((unhide HB1).trans (hb2.mono hz1))
  have hz2 := (unhide HB2).size
  clear hM2 hok hMl hb2 HMD HB1
  go_wp2_with fail
  refine (unhide HRG).mono ?_
  rintro e w3 ⟨x, rfl, hown3, hb3⟩
  have HG3 := hide (Seq.of_own hown3)
  have HB3 := hide hb3
  have hB3 := (unhide HB2).trans (hb3.mono hz2)
  have HT3 := hide (unhide HT w3 hB3)
  have HBW3 := hide hB3
  have hzw3 := hB3.size
  have hz3 := hb3.size
  clear hown3 hb3 hB3 HRG HT HB2
  by_cases h1 : l2 < 1
  · have HOF := hide (of_none (unhide HG3) (unhide HG) (unhide HT3) hwf (by omega) (by omega) (by omega))
    go_wp2_with fail
    refine (unhide HOF).mono ?_
    rintro e w4 ⟨rfl, hb4⟩
    have HB4 := hide ((unhide HBW3).trans (hb4.mono hzw3))
    clear hb4 HOF
    go_wp2
    go_ret
    exact ⟨rfl, unhide HB4⟩
  · by_cases h2 : l2 > 3
    · have HOF := hide (of_none (unhide HG3) (unhide HG) (unhide HT3) hwf (by omega) (by omega) (by omega))
      have h2' : (3 : Int) < l2 := h2
      go_wp2_with fail
      refine (unhide HOF).mono ?_
      rintro e w4 ⟨rfl, hb4⟩
      have HB4 := hide ((unhide HBW3).trans (hb4.mono hzw3))
      clear hb4 HOF
      go_wp2
      go_ret
      exact ⟨rfl, unhide HB4⟩
    · have h123 : l2 = 1 ∨ l2 = 2 ∨ l2 = 3 := by omega
      have h2' : ¬ (3 : Int) < l2 := h2
      have HOF := hide (of_any (unhide HG3) (unhide HG) (unhide HT3) hwf h123)
      have HRO := hide (fun W (hb : Below w2.heap.size w2 W) => refOf_any (how := l2) (unhide HMM W hb) (unhide HOK) (by omega) h123)
      have hor := ofL_ord (how := l2) (unhide HG)
      rw [hGl] at hor
      generalize ofL l2 (graphR M) = o at *
      have hol : o.length = M.length := by have := (ordB_iff.1 hor).1; omega
      have HOR := hide hor
      have HOL := hide hol
      clear hor hol h123 hGl
      go_wp2_with fail
      refine (unhide HOF).mono ?_
      rintro e w4 ⟨v4, rfl, ho4, hb4⟩
      obtain ⟨a4, c4, rfl, _, _⟩ := (Seq.of_own ho4).form
      have HO4 := hide (fun W (hb : Below w4.heap.size w4 W) => (Seq.of_own ho4).below hb)
      have HB4 := hide ((unhide HBW3).trans (hb4.mono hzw3))
      have HRO4 := hide (unhide HRO w4 ((unhide HB3).trans (hb4.mono hz3)))
      have hz4 := (unhide HB4).size
      clear ho4 hb4 HOF HRO HMM
      go_wp2_with fail
      refine (unhide HRO4).mono ?_
      rintro e w5 ⟨v5, rfl, ho5, hb5⟩
      have HCM := hide (Calls.toBelow (refCompare_any (unhide HO4 w5 hb5) (Seq.of_own ho5)))
      rw [cmpL_refl] at HCM
      obtain ⟨a5, c5, rfl, _, _⟩ := (Seq.of_own ho5).form
      have HB5 := hide hb5
      have HBW5 := hide ((unhide HB4).trans (hb5.mono hz4))
      have hz5 := hb5.size
      have hzw5 := (unhide HBW5).size
      clear ho5 hb5 HRO4
      go_wp2_with fail
      refine (unhide HCM).mono ?_
      rintro e w6 ⟨rfl, hb6⟩
      have HV := hide (valid_any (n := (M.length : Int)) (unhide HO4 w6 ((unhide HB5).trans (hb6.mono hz5))) (by rw [unhide HOL]; omega))
      rw [unhide HOR] at HV
      have HB6 := hide ((unhide HBW5).trans (hb6.mono hzw5))
      have hz6 := (unhide HB6).size
      clear hb6 HCM
      go_wp2_with fail
      refine (unhide HV).mono ?_
      rintro e w7 ⟨rfl, hb7⟩
      have HB7 := hide ((unhide HB6).trans (hb7.mono hz6))
      clear hb7 HV
      go_wp2
      go_ret
      exact ⟨rfl, unhide HB7⟩

set_option maxRecDepth 100000 in
theorem lifted (os : Os) (started : os.Started) (H : Type) (enc : TypeId × Value → H) :
    ReturnsInHanded {} Tryd.checked os 4 .any (fun w args => (Rows.orderTellsSpec.pre enc Tryd.prog Tryd.f4 [] false w args ∧ laidMetH Tryd.prog laidIn w) ∧ sizedMet enc Tryd.prog Tryd.f4 (OpenSpec.ofChange Rows.orderTellsSpec) false w args)
      (Rows.orderTellsSpec.post enc Tryd.prog Tryd.f4 false true false false) := by
  refine returnsInHanded_of_change_and (C := Tryd.checked) (X := fun w _ => laidMetH Tryd.prog laidIn w) (fun _ _ _ hh h => h.of_heap hh) own started (by kernel_rfl) Tryd.func4
    (ChangeSpec.witness_shaped (enc := enc) (C := Tryd.checked) (os := os) (X := fun w _ => laidMetH Tryd.prog laidIn w) false (World.doorLaid Tryd.prog doorN os) #[.int .i64 0, .slice none 0 0, .int .i64 0] 8 rfl (World.shaped_of_RefB (by kernel_rfl) (by kernel_rfl)) (by kernel_rfl) (by kernel_rfl) (by kernel_rfl) (door_met os _)) ?_
  intro W base args ds gs before hval0 hW _ _ hL _
  have hval : ∀ (j : Nat) t v, Tryd.f4.params[j]? = some t → args[j]? = some v → Value.okWide Tryd.prog W .any base t v := hval0
  have hW' := hW
  obtain ⟨p, q, hA0, hV, rfl, hfz, hnd⟩ := hW
  have hA : DataW.TrodAll enc Tryd.prog W 0 (fun _ => true) true Tryd.f4.params.toList args.toList ds p := hA0
  rw [Tryd.params4] at hA hval
  obtain ⟨v0, vs0, d0, ds0, p0, q0, hargs, rfl, rfl, h0, r0⟩ := trodAll_cons hA
  obtain ⟨v1, vs1, d1, ds1, p1, q1, rfl, rfl, rfl, h1, r1⟩ := trodAll_cons r0
  obtain ⟨v2, vs2, d2, ds2, p2, q2, rfl, rfl, rfl, h2, r2⟩ := trodAll_cons r1
  obtain ⟨rfl, rfl, rfl⟩ := trodAll_nil r2
  obtain rfl : args = #[v0, v1, v2] := by cases args; simp_all
  obtain ⟨rfl, rfl⟩ := trodVars_none hV
  obtain ⟨l0, i0, m0⟩ := read_int h0 (hval 0 3 v0 rfl rfl)
  have lt0 : ∀ x ∈ p0, x.block < W.heap.size := by obtain ⟨m, hm⟩ := h0; exact DataW.trod_lt m _ _ _ hm
  obtain ⟨l1, i1, m1⟩ := read_tups h1 (okWide_slice Tryd.underlying22 (hval 1 22 v1 rfl rfl))
  have lt1 : ∀ x ∈ p1, x.block < W.heap.size := by obtain ⟨m, hm⟩ := h1; exact DataW.trod_lt m _ _ _ hm
  obtain ⟨l2, i2, m2⟩ := read_int h2 (hval 2 3 v2 rfl rfl)
  have lt2 : ∀ x ∈ p2, x.block < W.heap.size := by obtain ⟨m, hm⟩ := h2; exact DataW.trod_lt m _ _ _ hm
  clear hA0 hval0
  refine (walk (tabs_of hL) i0 m0 i1 m1 i2 m2).mono fun e W' ⟨he, bel⟩ => ?_
  subst he
  exact ⟨_, rfl, _, _, _, [], _, [], hW', trodAll_mk1 (shut_bool Tryd.underlying4 _), (trodAll_cons_mk (Below.trod laidOut (by kernel_rfl) (of_decide_eq_true (by kernel_rfl)) h0 bel lt0) (trodAll_cons_mk (Below.trod laidOut (by kernel_rfl) (of_decide_eq_true (by kernel_rfl)) h1 bel lt1) (trodAll_cons_mk (Below.trod laidOut (by kernel_rfl) (of_decide_eq_true (by kernel_rfl)) h2 bel lt2) trodAll_mk0))), rfl, bel.frame _, fun h => by cases h⟩

theorem over : Rows.orderTellsRow.holds Tryd.pinned (OpenSpec.ofChange Rows.orderTellsSpec) :=
  OpenClaim.holds_of_wide 4 Tryd.f4 rfl rfl rfl rfl rfl rfl rfl ⟨rfl, rfl, rfl, rfl, rfl⟩ rfl rfl rfl rfl rfl (by kernel_rfl) Tryd.func4 (by kernel_rfl)
    (of_decide_eq_true (by kernel_rfl)) (by unfold Func.isWrapper; first | (rw [if_pos (by decide +kernel)]; kernel_rfl) | (rw [if_neg (by decide +kernel)]; exact ⟨rfl, rfl⟩))
    (fun os started H enc _ => lifted os started H enc)

/-- The statement: the tied card. -/
theorem proved : Rows.OrderTellsCardSaid :=
  Claim7.holds_tied_plain_at .later [] [.data] true (true, "8f2d994e21dbfdcf108bf958dff57fcf320e77d1f440c1e17c51dcce542cbe3a") false
    over (fun _ h => by cases h) (by kernel_rfl) (fun _ h => by cases h) orderTells_row_tie rfl ⟨rfl, rfl⟩ (by kernel_rfl) rfl
    (fun f fn hf hfn => by
      obtain rfl : f = 4 := Option.some.inj ((show Tryd.prog.funcNamed "arborist/arboristlaw09.OrderTells" = some 4 by kernel_rfl).symm.trans hf) |>.symm
      obtain rfl : fn = Tryd.f4 := (Option.some.inj (Tryd.func4.symm.trans hfn)).symm
      exact ⟨by kernel_rfl, fun j t ht => by
        rw [Tryd.params4] at ht
        have hm : t ∈ [3, 22, 3] := by simpa using Array.mem_of_getElem? ht
        have hall : ([3, 22, 3].all fun u => !Tryd.prog.wantsStandIn u) = true := by kernel_rfl
        exact (show Tryd.prog.wantsStandIn t = false by simpa using List.all_eq_true.1 hall t hm)⟩)
    (by kernel_rfl)

#print axioms proved
end Go.Proofs.YtflibcfecnhjgaaDoor.orderTells
