/-
  OrderValid: what an order is, is what the document says.
-/
import Derived.Test.YtflibcfecnhjgaaDoorFrameT
import Derived.Test.YtflibcfecnhjgaaDoorFrameN
import Derived.Test.YtflibcfecnhjgaaDoorOShown
import Derived.Test.YtflibcfecnhjgaaDoorORefV
import Derived.Test.YtflibcfecnhjgaaDoorOGiven
namespace Go.Proofs.YtflibcfecnhjgaaDoor.orderValid
open Go.RowKit Go.ChangeShapes Go.WideShapes Go.ChangeAt
set_option linter.unusedVariables false
set_option linter.unusedSimpArgs false
set_option maxRecDepth 20000

set_option maxHeartbeats 4000000 in
theorem walk {l0 : Int} {v0 : Value} {l1 : List Int} {v1 : Value} {w : World} (hT : TabD w) (i0 : v0 = .int .i64 l0) (m0 : InI64 l0) (i1 : Ints w v1 l1) (m1 : ∀ n ∈ l1, InI64 n) :
    Calls Tryd.prog 5 #[v0, v1] w fun e w' => e = .returned (.bool true) ∧ Below w.heap.size w w' := by
  subst i0
  clear m1
  have HSH := hide (shown9_any hT)
  obtain ⟨a1, c1, rfl, hl1, hc1⟩ := i1.form
  have hc1' := hc1
  unfold maxLen at hc1'
  have HI := hide (fun W (hb : Below w.heap.size w W) => i1.below hb)
  obtain ⟨m, hm⟩ : ∃ m : Nat, m = min l1.length 50 := ⟨_, rfl⟩
  have hm50 : m ≤ 50 := by omega
  have hml : m ≤ l1.length := by omega
  have hmc : (m : Int) ≤ (c1 : Int) := by omega
  have hmin : ∀ W ts t, (Builtin.min_ ts t #[.int .i64 (l1.length : Int), .int .i64 50]).run Tryd.prog W = .ok (.int .i64 (m : Int)) W := fun W ts t => by rw [run_min_int2]; split <;> (congr 2; omega)
  clear hT i1 hm m0
  go_enter Tryd.func5, Tryd.ntmps5
  go_wp2_with fail
  refine (unhide HSH).mono ?_
  rintro e w1 ⟨rfl, hb1⟩
  have hi1 := unhide HI w1 hb1
  have hi2 : Ints w1 (.slice a1 m c1) (l1.take m) := hi1.take hml
  have hll : (l1.take m).length = m := by rw [List.length_take]; omega
  have HB1 := hide hb1
  have hz1 := hb1.size
  generalize l1.take m = L at *
  clear hb1 HSH hi1
  by_cases hn : l0 > 60
  · have hn1 : (60 : Int) < l0 := hn
    have hk := rndN_lt (x := l0 % 60) (n := 20) (by decide)
    have hke := rndN_eq (x := l0 % 60) (n := 20) (by decide)
    generalize rndN (l0 % 60) 20 = k at *
    have hq : (bits .and .i64 (l0 % 60) 65535).tmod 20 = (k : Int) := hke
    clear hke
    have HV := hide (valid_any (n := l0 % 60) hi2 (by omega))
    have HRV := hide (fun W (hb : Below w1.heap.size w1 W) => refValid_any (n := l0 % 60) (hi2.below hb) (by omega))
    have HGV := hide (fun W (hb : Below w1.heap.size w1 W) => given_any (n := k) (by omega) (hi2.below hb))
    clear hi2 hll
    go_wp2_with fail
    refine (unhide HV).mono ?_
    rintro e w2 ⟨rfl, hb2⟩
    have HB2 := hide hb2
    have hz2 := hb2.size
    clear hb2 HV
    go_wp2_with fail
    refine (unhide HRV _ (unhide HB2)).mono ?_
    rintro e w3 ⟨rfl, hb3⟩
    have HB3 := hide ((unhide HB2).trans (hb3.mono hz2))
    have hz3 := (unhide HB3).size
    clear hb3 HRV
    generalize ordB (l0 % 60) L = q at *
    go_wp2_with fail
    refine (unhide HGV _ (unhide HB3)).mono ?_
    rintro e w4 ⟨u, o, rfl, ho, hor, hb4⟩
    have hol : o.length = k := by have := (ordB_iff.1 hor).1; omega
    have HV4 := hide (valid_any (n := (k : Int)) (Seq.of_own ho) (by omega))
    rw [hor] at HV4
    have HB4 := hide ((unhide HB3).trans (hb4.mono hz3))
    have hz4 := (unhide HB4).size
    clear hb4 ho hor hol HGV
    cases q
    all_goals
      go_wp2_with fail
      refine (unhide HV4).mono ?_
      rintro e w5 ⟨rfl, hb5⟩
      have HB5 := hide ((unhide HB1).trans (((unhide HB4).trans (hb5.mono hz4)).mono hz1))
      clear hb5
      go_wp2
      go_ret
      exact ⟨rfl, unhide HB5⟩
  · have hn1 : ¬ (60 : Int) < l0 := hn
    have hk := rndN_lt (x := l0) (n := 20) (by decide)
    have hke := rndN_eq (x := l0) (n := 20) (by decide)
    generalize rndN l0 20 = k at *
    have hq : (bits .and .i64 l0 65535).tmod 20 = (k : Int) := hke
    clear hke
    have HV := hide (valid_any (n := l0) hi2 (by omega))
    have HRV := hide (fun W (hb : Below w1.heap.size w1 W) => refValid_any (n := l0) (hi2.below hb) (by omega))
    have HGV := hide (fun W (hb : Below w1.heap.size w1 W) => given_any (n := k) (by omega) (hi2.below hb))
    clear hi2 hll
    go_wp2_with fail
    refine (unhide HV).mono ?_
    rintro e w2 ⟨rfl, hb2⟩
    have HB2 := hide hb2
    have hz2 := hb2.size
    clear hb2 HV
    go_wp2_with fail
    refine (unhide HRV _ (unhide HB2)).mono ?_
    rintro e w3 ⟨rfl, hb3⟩
    have HB3 := hide ((unhide HB2).trans (hb3.mono hz2))
    have hz3 := (unhide HB3).size
    clear hb3 HRV
    generalize ordB l0 L = q at *
    go_wp2_with fail
    refine (unhide HGV _ (unhide HB3)).mono ?_
    rintro e w4 ⟨u, o, rfl, ho, hor, hb4⟩
    have hol : o.length = k := by have := (ordB_iff.1 hor).1; omega
    have HV4 := hide (valid_any (n := (k : Int)) (Seq.of_own ho) (by omega))
    rw [hor] at HV4
    have HB4 := hide ((unhide HB3).trans (hb4.mono hz3))
    have hz4 := (unhide HB4).size
    clear hb4 ho hor hol HGV
    cases q
    all_goals
      go_wp2_with fail
      refine (unhide HV4).mono ?_
      rintro e w5 ⟨rfl, hb5⟩
      have HB5 := hide ((unhide HB1).trans (((unhide HB4).trans (hb5.mono hz4)).mono hz1))
      clear hb5
      go_wp2
      go_ret
      exact ⟨rfl, unhide HB5⟩

set_option maxRecDepth 100000 in
theorem lifted (os : Os) (started : os.Started) (H : Type) (enc : TypeId × Value → H) :
    ReturnsInHanded {} Tryd.checked os 5 .any (fun w args => (Rows.orderValidSpec.pre enc Tryd.prog Tryd.f5 [] false w args ∧ laidMetH Tryd.prog laidIn w) ∧ sizedMet enc Tryd.prog Tryd.f5 (OpenSpec.ofChange Rows.orderValidSpec) false w args)
      (Rows.orderValidSpec.post enc Tryd.prog Tryd.f5 false true false false) := by
  refine returnsInHanded_of_change_and (C := Tryd.checked) (X := fun w _ => laidMetH Tryd.prog laidIn w) (fun _ _ _ hh h => h.of_heap hh) own started (by kernel_rfl) Tryd.func5
    (ChangeSpec.witness_shaped (enc := enc) (C := Tryd.checked) (os := os) (X := fun w _ => laidMetH Tryd.prog laidIn w) false (World.doorLaid Tryd.prog doorN os) #[.int .i64 0, .slice none 0 0] 8 rfl (World.shaped_of_RefB (by kernel_rfl) (by kernel_rfl)) (by kernel_rfl) (by kernel_rfl) (by kernel_rfl) (door_met os _)) ?_
  intro W base args ds gs before hval0 hW _ _ hL _
  have hval : ∀ (j : Nat) t v, Tryd.f5.params[j]? = some t → args[j]? = some v → Value.okWide Tryd.prog W .any base t v := hval0
  have hW' := hW
  obtain ⟨p, q, hA0, hV, rfl, hfz, hnd⟩ := hW
  have hA : DataW.TrodAll enc Tryd.prog W 0 (fun _ => true) true Tryd.f5.params.toList args.toList ds p := hA0
  rw [Tryd.params5] at hA hval
  obtain ⟨v0, vs0, d0, ds0, p0, q0, hargs, rfl, rfl, h0, r0⟩ := trodAll_cons hA
  obtain ⟨v1, vs1, d1, ds1, p1, q1, rfl, rfl, rfl, h1, r1⟩ := trodAll_cons r0
  obtain ⟨rfl, rfl, rfl⟩ := trodAll_nil r1
  obtain rfl : args = #[v0, v1] := by cases args; simp_all
  obtain ⟨rfl, rfl⟩ := trodVars_none hV
  obtain ⟨l0, i0, m0⟩ := read_int h0 (hval 0 3 v0 rfl rfl)
  have lt0 : ∀ x ∈ p0, x.block < W.heap.size := by obtain ⟨m, hm⟩ := h0; exact DataW.trod_lt m _ _ _ hm
  obtain ⟨l1, i1, m1⟩ := read_ints h1 (okWide_slice Tryd.underlying39 (hval 1 39 v1 rfl rfl))
  have lt1 : ∀ x ∈ p1, x.block < W.heap.size := by obtain ⟨m, hm⟩ := h1; exact DataW.trod_lt m _ _ _ hm
  clear hA0 hval0
  refine (walk (tabs_of hL) i0 m0 i1 m1).mono fun e W' ⟨he, bel⟩ => ?_
  subst he
  exact ⟨_, rfl, _, _, _, [], _, [], hW', trodAll_mk1 (shut_bool Tryd.underlying4 _), (trodAll_cons_mk (Below.trod laidOut (by kernel_rfl) (of_decide_eq_true (by kernel_rfl)) h0 bel lt0) (trodAll_cons_mk (Below.trod laidOut (by kernel_rfl) (of_decide_eq_true (by kernel_rfl)) h1 bel lt1) trodAll_mk0)), rfl, bel.frame _, fun h => by cases h⟩

theorem over : Rows.orderValidRow.holds Tryd.pinned (OpenSpec.ofChange Rows.orderValidSpec) :=
  OpenClaim.holds_of_wide 5 Tryd.f5 rfl rfl rfl rfl rfl rfl rfl ⟨rfl, rfl, rfl, rfl, rfl⟩ rfl rfl rfl rfl rfl (by kernel_rfl) Tryd.func5 (by kernel_rfl)
    (of_decide_eq_true (by kernel_rfl)) (by unfold Func.isWrapper; first | (rw [if_pos (by decide +kernel)]; kernel_rfl) | (rw [if_neg (by decide +kernel)]; exact ⟨rfl, rfl⟩))
    (fun os started H enc _ => lifted os started H enc)

/-- The statement: the tied card. -/
theorem proved : Rows.OrderValidCardSaid :=
  Claim7.holds_tied_plain_at .later [] [.data] true (true, "8f2d994e21dbfdcf108bf958dff57fcf320e77d1f440c1e17c51dcce542cbe3a") false
    over (fun _ h => by cases h) (by kernel_rfl) (fun _ h => by cases h) orderValid_row_tie rfl ⟨rfl, rfl⟩ (by kernel_rfl) rfl
    (fun f fn hf hfn => by
      obtain rfl : f = 5 := Option.some.inj ((show Tryd.prog.funcNamed "arborist/arboristlaw09.OrderValid" = some 5 by kernel_rfl).symm.trans hf) |>.symm
      obtain rfl : fn = Tryd.f5 := (Option.some.inj (Tryd.func5.symm.trans hfn)).symm
      exact ⟨by kernel_rfl, fun j t ht => by
        rw [Tryd.params5] at ht
        have hm : t ∈ [3, 39] := by simpa using Array.mem_of_getElem? ht
        have hall : ([3, 39].all fun u => !Tryd.prog.wantsStandIn u) = true := by kernel_rfl
        exact (show Tryd.prog.wantsStandIn t = false by simpa using List.all_eq_true.1 hall t hm)⟩)
    (by kernel_rfl)

#print axioms proved
end Go.Proofs.YtflibcfecnhjgaaDoor.orderValid
