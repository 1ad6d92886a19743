/-
  Proved: TupleSets answers true for every two rows of numbers, and leaves what was handed in as it was. No condition.
-/
import Derived.Test.YtdpcfjnflpgeiaaFrame
import Derived.Test.YtdpcfjnflpgeiaaLawShown
import Derived.Test.YtdpcfjnflpgeiaaRefJoin
namespace Go.Proofs.Ytdpcfjnflpgeiaa.tupleSets
open Go.RowKit Go.ChangeShapes Go.WideShapes Go.ChangeAt
set_option linter.unusedVariables false
set_option linter.unusedSimpArgs false
set_option maxRecDepth 20000

theorem rise_facts (l : List Int) : Asc (riseL (l.take 60)) ∧ (riseL (l.take 60)).length ≤ 60 := by
  refine ⟨asc_riseL _, ?_⟩
  have h1 := riseL_le (l.take 60)
  have h2 := List.length_take_le 60 l
  omega

set_option maxHeartbeats 4000000 in
theorem walk {l0 l1 : List Int} {v0 v1 : Value} {w : World} (i0 : Ints w v0 l0) (m0 : ∀ n ∈ l0, InI64 n) (i1 : Ints w v1 l1) (m1 : ∀ n ∈ l1, InI64 n) :
    Calls Try.prog 5 #[v0, v1] w fun e w' => e = .returned (.bool true) ∧ Below w.heap.size w w' := by
  obtain ⟨a, ca, rfl, hla, hca⟩ := i0.form
  unfold maxLen at hca
  clear m0 m1
  have hB := Below.refl w.heap.size w
  obtain ⟨rf0, rl0⟩ := rise_facts l0
  obtain ⟨rf1, rl1⟩ := rise_facts l1
  obtain ⟨x, hx⟩ : ∃ x, x = riseL (l0.take 60) := ⟨_, rfl⟩
  obtain ⟨y, hy⟩ : ∃ y, y = riseL (l1.take 60) := ⟨_, rfl⟩
  rw [← hx] at rf0 rl0
  rw [← hy] at rf1 rl1
  have HX := hide hx
  have HY := hide hy
  have hrs : risB x = true := (risB_iff x).2 rf0
  have R0 := hide rf0
  have R1 := hide rf1
  clear hx hy rf0 rf1
  have hxy : x.length + y.length < 100000000000 := by omega
  have hx1 : x.length < 100000000000 := by omega
  go_enter Try.func5, Try.ntmps5
  go_wp2_with fail
  refine (shown_any _).mono ?_
  rintro e w101 ⟨rfl, hb⟩
  replace i0 := i0.below hb
  replace i1 := i1.below hb
  replace hB := below_then hB hb
  clear hb
  go_wp2_with fail
  refine (rise_any i0).mono ?_
  rintro e w102 ⟨v_rx, rfl, rx, n_rx, hb⟩
  replace i0 := i0.below hb
  replace i1 := i1.below hb
  replace hB := below_then hB hb
  clear hb n_rx
  rw [← unhide HX] at rx
  go_wp2_with fail
  refine (rise_any i1).mono ?_
  rintro e w103 ⟨v_ry, rfl, ry, n_ry, hb⟩
  replace i0 := i0.below hb
  replace i1 := i1.below hb
  replace rx := rx.below hb
  replace hB := below_then hB hb
  clear hb n_ry
  rw [← unhide HY] at ry
  have j0 := i0.cut 60
  clear i0 i1
  go_wp2_with fail
  refine (unite_any rx ry hxy).mono ?_
  rintro e w104 ⟨v_u1, rfl, u1, n_u1, hb⟩
  replace rx := rx.below hb
  replace ry := ry.below hb
  replace j0 := j0.below hb
  replace hB := below_then hB hb
  clear hb n_u1
  rw [mrg_or (unhide R0) (unhide R1)] at u1
  go_wp2_with fail
  refine (refJoin_any rx ry hxy).mono ?_
  rintro e w105 ⟨v_u2, rfl, u2, n_u2, hb⟩
  replace rx := rx.below hb
  replace ry := ry.below hb
  replace j0 := j0.below hb
  replace u1 := u1.below hb
  replace hB := below_then hB hb
  clear hb n_u2
  go_wp2_with fail
  refine (Calls.toBelow (refCompare_any u1 u2)).mono ?_
  rintro e w106 ⟨rfl, hb⟩
  replace rx := rx.below hb
  replace ry := ry.below hb
  replace j0 := j0.below hb
  replace hB := below_then hB hb
  clear hb
  rw [cmpL_refl]
  clear u1 u2
  go_wp2_with fail
  refine (meet_any rx ry hxy).mono ?_
  rintro e w107 ⟨v_u1, rfl, u1, n_u1, hb⟩
  replace rx := rx.below hb
  replace ry := ry.below hb
  replace j0 := j0.below hb
  replace hB := below_then hB hb
  clear hb n_u1
  rw [mrg_and (unhide R0) (unhide R1)] at u1
  go_wp2_with fail
  refine (refMeet_any rx ry hx1).mono ?_
  rintro e w108 ⟨v_u2, rfl, u2, n_u2, hb⟩
  replace rx := rx.below hb
  replace ry := ry.below hb
  replace j0 := j0.below hb
  replace u1 := u1.below hb
  replace hB := below_then hB hb
  clear hb n_u2
  go_wp2_with fail
  refine (Calls.toBelow (refCompare_any u1 u2)).mono ?_
  rintro e w109 ⟨rfl, hb⟩
  replace rx := rx.below hb
  replace ry := ry.below hb
  replace j0 := j0.below hb
  replace hB := below_then hB hb
  clear hb
  rw [cmpL_refl]
  clear u1 u2
  go_wp2_with fail
  refine (without_any rx ry hxy).mono ?_
  rintro e w110 ⟨v_u1, rfl, u1, n_u1, hb⟩
  replace rx := rx.below hb
  replace ry := ry.below hb
  replace j0 := j0.below hb
  replace hB := below_then hB hb
  clear hb n_u1
  rw [mrg_not (unhide R0) (unhide R1)] at u1
  go_wp2_with fail
  refine (refLess_any rx ry hx1).mono ?_
  rintro e w111 ⟨v_u2, rfl, u2, n_u2, hb⟩
  replace rx := rx.below hb
  replace ry := ry.below hb
  replace j0 := j0.below hb
  replace u1 := u1.below hb
  replace hB := below_then hB hb
  clear hb n_u2
  go_wp2_with fail
  refine (Calls.toBelow (refCompare_any u1 u2)).mono ?_
  rintro e w112 ⟨rfl, hb⟩
  replace rx := rx.below hb
  replace ry := ry.below hb
  replace j0 := j0.below hb
  replace hB := below_then hB hb
  clear hb
  rw [cmpL_refl]
  clear u1 u2
  obtain ⟨p, hp⟩ : ∃ p, p = (lessL x y).isEmpty := ⟨_, rfl⟩
  have HP := hide hp
  clear hp
  go_wp2_with fail
  refine (within_any rx ry hxy).mono ?_
  rintro e w113 ⟨rfl, hb⟩
  replace rx := rx.below hb
  replace ry := ry.below hb
  replace j0 := j0.below hb
  replace hB := below_then hB hb
  clear hb
  rw [mrg_not (unhide R0) (unhide R1), ← unhide HP]
  go_wp2_with fail
  refine (refWithin_any rx ry hx1).mono ?_
  rintro e w114 ⟨rfl, hb⟩
  replace rx := rx.below hb
  replace ry := ry.below hb
  replace j0 := j0.below hb
  replace hB := below_then hB hb
  clear hb
  rw [← unhide HP]
  have hpp : (p == p) = true := by simp
  clear HP
  obtain ⟨r, hr⟩ : ∃ r, r = risB (l0.take 60) := ⟨_, rfl⟩
  have HR := hide hr
  clear hr
  go_wp2_with fail
  refine (Calls.toBelow (rising_any j0)).mono ?_
  rintro e w115 ⟨rfl, hb⟩
  replace rx := rx.below hb
  replace j0 := j0.below hb
  replace hB := below_then hB hb
  clear hb
  rw [← unhide HR]
  go_wp2_with fail
  refine (Calls.toBelow (refRising_any j0)).mono ?_
  rintro e w116 ⟨rfl, hb⟩
  replace rx := rx.below hb
  replace hB := below_then hB hb
  clear hb
  rw [← unhide HR]
  have hrr : (r == r) = true := by simp
  clear HR
  go_wp2_with fail
  refine (Calls.toBelow (rising_any rx)).mono ?_
  rintro e w117 ⟨rfl, hb⟩
  replace hB := below_then hB hb
  clear hb
  rw [hrs]
  go_wp2
  go_ret
  exact ⟨rfl, hB⟩

set_option maxRecDepth 100000 in
theorem lifted (os : Os) (started : os.Started) (H : Type) (enc : TypeId × Value → H) :
    ReturnsInHanded {} Try.checked os 5 .any (Rows.tupleSetsSpec.pre6 enc Try.prog Try.f5 Rows.tupleSetsRow.domain false) (Rows.tupleSetsSpec.post enc Try.prog Try.f5 false true false false) := by
  refine returnsInHanded_of_change (C := Try.checked) own started (by kernel_rfl) Try.func5
    (ChangeSpec.witness6 (enc := enc) (C := Try.checked) false ⟨#[], #[.slice none 0 0, .slice none 0 0], []⟩ 8 (by kernel_rfl) (by kernel_rfl) (by kernel_rfl) (by kernel_rfl)) ?_
  intro W base args ds gs before hval0 hW hcnd _
  have hval : ∀ (j : Nat) t v, Try.f5.params[j]? = some t → args[j]? = some v → Value.okWide Try.prog W .any base t v := hval0
  have hW' := hW
  obtain ⟨p, q, hA0, hV, rfl, hfz, hnd⟩ := hW
  have hA : DataW.TrodAll enc Try.prog W 0 (fun _ => true) true Try.f5.params.toList args.toList ds p := hA0
  rw [Try.params5] at hA hval
  obtain ⟨v0, vs0, d0, ds0, p0, q0, hargs, rfl, rfl, h0, r0⟩ := trodAll_cons hA
  obtain ⟨v1, vs1, d1, ds1, p1, q1, rfl, rfl, rfl, h1, r1⟩ := trodAll_cons r0
  obtain ⟨rfl, rfl, rfl⟩ := trodAll_nil r1
  obtain rfl : args = #[v0, v1] := by cases args; simp_all
  obtain ⟨rfl, rfl⟩ := trodVars_none hV
  obtain ⟨l0, i0, m0⟩ := read_ints h0 (okWide_slice Try.underlying23 (hval 0 23 v0 rfl rfl))
  have lt0 : ∀ x ∈ p0, x.block < W.heap.size := by obtain ⟨m, hm⟩ := h0; exact DataW.trod_lt m _ _ _ hm
  obtain ⟨l1, i1, m1⟩ := read_ints h1 (okWide_slice Try.underlying23 (hval 1 23 v1 rfl rfl))
  have lt1 : ∀ x ∈ p1, x.block < W.heap.size := by obtain ⟨m, hm⟩ := h1; exact DataW.trod_lt m _ _ _ hm
  clear hA0 hval0
  refine (walk i0 m0 i1 m1).mono fun e W' ⟨he, bel⟩ => ?_
  subst he
  exact ⟨_, rfl, _, _, _, [], _, [], hW', trodAll_mk1 (shut_bool Try.underlying4 _), (trodAll_cons_mk (Below.trod laidOut (by kernel_rfl) (of_decide_eq_true (by kernel_rfl)) h0 bel lt0) (trodAll_cons_mk (Below.trod laidOut (by kernel_rfl) (of_decide_eq_true (by kernel_rfl)) h1 bel lt1) trodAll_mk0)), rfl, bel.frame _, fun h => by cases h⟩

theorem over : Rows.tupleSetsRow.holds Try.pinned (OpenSpec.ofChange Rows.tupleSetsSpec) :=
  OpenClaim.holds_of_wide 5 Try.f5 rfl rfl rfl rfl rfl rfl rfl ⟨rfl, rfl, rfl, rfl, rfl⟩ rfl rfl rfl rfl rfl (by kernel_rfl) Try.func5 (by kernel_rfl)
    (of_decide_eq_true (by kernel_rfl)) (by unfold Func.isWrapper; first | (rw [if_pos (by decide +kernel)]; kernel_rfl) | (rw [if_neg (by decide +kernel)]; exact ⟨rfl, rfl⟩))
    (fun os started H enc _ => lifted os started H enc)

/-- The statement. -/
theorem proved : Rows.TupleSetsSaid := over
#print axioms proved
end Go.Proofs.Ytdpcfjnflpgeiaa.tupleSets
