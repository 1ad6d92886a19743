/-
  Proved: TupleTurned answers true for every three tuples, and leaves what was handed in as it was. No condition.
-/
import Derived.Test.YtdpcfjnflpgeiaaFrame
import Derived.Test.YtdpcfjnflpgeiaaLawShown
namespace Go.Proofs.Ytdpcfjnflpgeiaa.tupleTurned
open Go.RowKit Go.ChangeShapes Go.WideShapes Go.ChangeAt
set_option linter.unusedVariables false
set_option linter.unusedSimpArgs false
set_option maxRecDepth 20000

theorem bounds (a b : List Int) : -1 ≤ cmpL a b ∧ cmpL a b ≤ 1 := by have := cmpL_cases a b; omega

set_option maxHeartbeats 4000000 in
theorem walk {l0 l1 l2 : List Int} {v0 v1 v2 : Value} {w : World} (i0 : Ints w v0 l0) (m0 : ∀ n ∈ l0, InI64 n) (i1 : Ints w v1 l1) (m1 : ∀ n ∈ l1, InI64 n) (i2 : Ints w v2 l2) (m2 : ∀ n ∈ l2, InI64 n) :
    Calls Try.prog 7 #[v0, v1, v2] w fun e w' => e = .returned (.bool true) ∧ Below w.heap.size w w' := by
  obtain ⟨a, ca, rfl, hla, hca⟩ := i0.form
  obtain ⟨b, cb, rfl, hlb, hcb⟩ := i1.form
  obtain ⟨c, cc, rfl, hlc, hcc⟩ := i2.form
  unfold maxLen at hca hcb hcc
  clear m0 m1 m2
  go_enter Try.func7, Try.ntmps7
  go_wp2_with fail
  refine (shown_any _).mono ?_
  rintro e w1 ⟨rfl, hb1⟩
  have j0 := (i0.below hb1).cut 60
  have j1 := (i1.below hb1).cut 60
  have j2 := (i2.below hb1).cut 60
  clear i0 i1 i2
  obtain ⟨q0, hq0⟩ : ∃ q, q = l0.take 60 := ⟨_, rfl⟩
  obtain ⟨q1, hq1⟩ : ∃ q, q = l1.take 60 := ⟨_, rfl⟩
  obtain ⟨q2, hq2⟩ : ∃ q, q = l2.take 60 := ⟨_, rfl⟩
  rw [← hq0] at j0
  rw [← hq1] at j1
  rw [← hq2] at j2
  clear hq0 hq1 hq2
  have H01 := hide (fun W (hb : Below w1.heap.size w1 W) => Calls.toBelow (compare_any (j0.below hb) (j1.below hb)))
  have H12 := hide (fun W (hb : Below w1.heap.size w1 W) => Calls.toBelow (compare_any (j1.below hb) (j2.below hb)))
  have H02 := hide (fun W (hb : Below w1.heap.size w1 W) => Calls.toBelow (compare_any (j0.below hb) (j2.below hb)))
  have H10 := hide (fun W (hb : Below w1.heap.size w1 W) => Calls.toBelow (compare_any (j1.below hb) (j0.below hb)))
  have H00 := hide (fun W (hb : Below w1.heap.size w1 W) => Calls.toBelow (compare_any (j0.below hb) (j0.below hb)))
  have hsw := cmpL_swap q0 q1
  have htr := @cmpL_trans q0 q1 q2
  rw [cmpL_refl] at H00
  have b01 := bounds q0 q1
  have b12 := bounds q1 q2
  have b02 := bounds q0 q2
  have b10 := bounds q1 q0
  generalize cmpL q0 q1 = x at *
  generalize cmpL q1 q2 = y at *
  generalize cmpL q0 q2 = z at *
  generalize cmpL q1 q0 = x' at *
  clear j0 j1 j2
  have hx' : (x == -x') = true := by simp [hsw]
  have HSW := hide hsw
  have hxx : x' ≠ -9223372036854775808 := by omega
  clear hsw
  go_wp2_with fail
  refine (unhide H01 _ (Below.refl _ _)).mono ?_
  rintro e w2 ⟨rfl, hb2⟩
  go_wp2_with fail
  refine (unhide H12 _ hb2).mono ?_
  rintro e w3 ⟨rfl, hb3'⟩
  have hb3 := below_then hb2 hb3'
  clear hb2 hb3'
  by_cases hxy : x < 0 ∧ y < 0
  · obtain ⟨hx, hy⟩ := hxy
    have hz : ¬ 0 ≤ z := by have := htr hx hy; omega
    clear htr
    go_wp2_with fail
    refine (unhide H02 _ hb3).mono ?_
    rintro e w4 ⟨rfl, hb4'⟩
    have hb4 := below_then hb3 hb4'
    clear hb3 hb4'
    go_wp2_with fail
    refine (unhide H10 _ hb4).mono ?_
    rintro e w5 ⟨rfl, hb5'⟩
    have hb5 := below_then hb4 hb5'
    clear hb4 hb5'
    go_wp2_with fail
    refine (unhide H00 _ hb5).mono ?_
    rintro e w6 ⟨rfl, hb6'⟩
    have hb6 := below_then hb5 hb6'
    clear hb5 hb6'
    go_wp2
    go_ret
    exact ⟨rfl, below_then hb1 hb6⟩
  · clear htr
    by_cases hx : x < 0
    all_goals
      (try have hy : ¬ y < 0 := by omega)
      clear hxy
      go_wp2_with fail
      refine (unhide H10 _ hb3).mono ?_
      rintro e w5 ⟨rfl, hb5'⟩
      have hb5 := below_then hb3 hb5'
      clear hb3 hb5'
      go_wp2_with fail
      refine (unhide H00 _ hb5).mono ?_
      rintro e w6 ⟨rfl, hb6'⟩
      have hb6 := below_then hb5 hb6'
      clear hb5 hb6'
      go_wp2
      go_ret
      exact ⟨rfl, below_then hb1 hb6⟩

set_option maxRecDepth 100000 in
theorem lifted (os : Os) (started : os.Started) (H : Type) (enc : TypeId × Value → H) :
    ReturnsInHanded {} Try.checked os 7 .any (Rows.tupleTurnedSpec.pre6 enc Try.prog Try.f7 Rows.tupleTurnedRow.domain false) (Rows.tupleTurnedSpec.post enc Try.prog Try.f7 false true false false) := by
  refine returnsInHanded_of_change (C := Try.checked) own started (by kernel_rfl) Try.func7
    (ChangeSpec.witness6 (enc := enc) (C := Try.checked) false ⟨#[], #[.slice none 0 0, .slice none 0 0, .slice none 0 0], []⟩ 8 (by kernel_rfl) (by kernel_rfl) (by kernel_rfl) (by kernel_rfl)) ?_
  intro W base args ds gs before hval0 hW hcnd _
  have hval : ∀ (j : Nat) t v, Try.f7.params[j]? = some t → args[j]? = some v → Value.okWide Try.prog W .any base t v := hval0
  have hW' := hW
  obtain ⟨p, q, hA0, hV, rfl, hfz, hnd⟩ := hW
  have hA : DataW.TrodAll enc Try.prog W 0 (fun _ => true) true Try.f7.params.toList args.toList ds p := hA0
  rw [Try.params7] at hA hval
  obtain ⟨v0, vs0, d0, ds0, p0, q0, hargs, rfl, rfl, h0, r0⟩ := trodAll_cons hA
  obtain ⟨v1, vs1, d1, ds1, p1, q1, rfl, rfl, rfl, h1, r1⟩ := trodAll_cons r0
  obtain ⟨v2, vs2, d2, ds2, p2, q2, rfl, rfl, rfl, h2, r2⟩ := trodAll_cons r1
  obtain ⟨rfl, rfl, rfl⟩ := trodAll_nil r2
  obtain rfl : args = #[v0, v1, v2] := by cases args; simp_all
  obtain ⟨rfl, rfl⟩ := trodVars_none hV
  obtain ⟨l0, i0, m0⟩ := read_ints h0 (okWide_slice Try.underlying23 (hval 0 23 v0 rfl rfl))
  have lt0 : ∀ x ∈ p0, x.block < W.heap.size := by obtain ⟨m, hm⟩ := h0; exact DataW.trod_lt m _ _ _ hm
  obtain ⟨l1, i1, m1⟩ := read_ints h1 (okWide_slice Try.underlying23 (hval 1 23 v1 rfl rfl))
  have lt1 : ∀ x ∈ p1, x.block < W.heap.size := by obtain ⟨m, hm⟩ := h1; exact DataW.trod_lt m _ _ _ hm
  obtain ⟨l2, i2, m2⟩ := read_ints h2 (okWide_slice Try.underlying23 (hval 2 23 v2 rfl rfl))
  have lt2 : ∀ x ∈ p2, x.block < W.heap.size := by obtain ⟨m, hm⟩ := h2; exact DataW.trod_lt m _ _ _ hm
  clear hA0 hval0
  refine (walk i0 m0 i1 m1 i2 m2).mono fun e W' ⟨he, bel⟩ => ?_
  subst he
  exact ⟨_, rfl, _, _, _, [], _, [], hW', trodAll_mk1 (shut_bool Try.underlying4 _), (trodAll_cons_mk (Below.trod laidOut (by kernel_rfl) (of_decide_eq_true (by kernel_rfl)) h0 bel lt0) (trodAll_cons_mk (Below.trod laidOut (by kernel_rfl) (of_decide_eq_true (by kernel_rfl)) h1 bel lt1) (trodAll_cons_mk (Below.trod laidOut (by kernel_rfl) (of_decide_eq_true (by kernel_rfl)) h2 bel lt2) trodAll_mk0))), rfl, bel.frame _, fun h => by cases h⟩

theorem over : Rows.tupleTurnedRow.holds Try.pinned (OpenSpec.ofChange Rows.tupleTurnedSpec) :=
  OpenClaim.holds_of_wide 7 Try.f7 rfl rfl rfl rfl rfl rfl rfl ⟨rfl, rfl, rfl, rfl, rfl⟩ rfl rfl rfl rfl rfl (by kernel_rfl) Try.func7 (by kernel_rfl)
    (of_decide_eq_true (by kernel_rfl)) (by unfold Func.isWrapper; first | (rw [if_pos (by decide +kernel)]; kernel_rfl) | (rw [if_neg (by decide +kernel)]; exact ⟨rfl, rfl⟩))
    (fun os started H enc _ => lifted os started H enc)

/-- The statement. -/
theorem proved : Rows.TupleTurnedSaid := over
#print axioms proved
end Go.Proofs.Ytdpcfjnflpgeiaa.tupleTurned
