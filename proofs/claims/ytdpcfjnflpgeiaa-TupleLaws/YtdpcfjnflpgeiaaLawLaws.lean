/-
  Proved: TupleLaws answers true for every three rows of numbers, and leaves what was handed in as it was. No condition.
-/
import Derived.Test.YtdpcfjnflpgeiaaFrame
import Derived.Test.YtdpcfjnflpgeiaaLawShown
import Derived.Test.YtdpcfjnflpgeiaaRefJoin
namespace Go.Proofs.Ytdpcfjnflpgeiaa.tupleLaws
open Go.RowKit Go.ChangeShapes Go.WideShapes Go.ChangeAt
set_option linter.unusedVariables false
set_option linter.unusedSimpArgs false
set_option maxRecDepth 20000

theorem rise_facts (l : List Int) : Asc (riseL (l.take 60)) ∧ (riseL (l.take 60)).length ≤ 60 := by
  refine ⟨asc_riseL _, ?_⟩
  have h1 := riseL_le (l.take 60)
  have h2 := List.length_take_le 60 l
  omega

theorem law1 {x y z : List Int} (hx : Asc x) (hy : Asc y) (hz : Asc z) : mrg kAnd x (mrg kOr y z) = mrg kOr (mrg kAnd x y) (mrg kAnd x z) := by
  rw [mrg_or hy hz, mrg_and hx hy, mrg_and hx hz, mrg_and hx (asc_joinL hy hz), mrg_or (asc_meetL hx) (asc_meetL hx)]
  refine Asc.ext (asc_meetL hx) (asc_joinL (asc_meetL hx) (asc_meetL hx)) fun t => ?_
  simp only [mem_meetL, mem_joinL]
  constructor
  · rintro ⟨h, h1 | h1⟩
    · exact .inl ⟨h, h1⟩
    · exact .inr ⟨h, h1⟩
  · rintro (⟨h, h1⟩ | ⟨h, h1⟩)
    · exact ⟨h, .inl h1⟩
    · exact ⟨h, .inr h1⟩

theorem law2 {x y z : List Int} (hx : Asc x) (hy : Asc y) (hz : Asc z) : mrg kNot (mrg kNot x y) z = mrg kNot x (mrg kOr y z) := by
  rw [mrg_or hy hz, mrg_not hx hy, mrg_not (asc_lessL hx) hz, mrg_not hx (asc_joinL hy hz)]
  refine Asc.ext (asc_lessL (asc_lessL hx)) (asc_lessL hx) fun t => ?_
  simp only [mem_lessL, mem_joinL]
  constructor
  · rintro ⟨⟨h, h1⟩, h2⟩
    exact ⟨h, fun h => h.elim h1 h2⟩
  · rintro ⟨h, h1⟩
    exact ⟨⟨h, fun k => h1 (.inl k)⟩, fun k => h1 (.inr k)⟩

theorem law3 {x y z : List Int} (hx : Asc x) (hy : Asc y) (hz : Asc z) : mrg kOr (mrg kOr x y) z = mrg kOr x (mrg kOr y z) := by
  rw [mrg_or hy hz, mrg_or hx hy, mrg_or (asc_joinL hx hy) hz, mrg_or hx (asc_joinL hy hz)]
  refine Asc.ext (asc_joinL (asc_joinL hx hy) hz) (asc_joinL hx (asc_joinL hy hz)) fun t => ?_
  simp only [mem_joinL]
  exact or_assoc

set_option maxHeartbeats 8000000 in
theorem walk {l0 l1 l2 : List Int} {v0 v1 v2 : Value} {w : World} (i0 : Ints w v0 l0) (m0 : ∀ n ∈ l0, InI64 n) (i1 : Ints w v1 l1) (m1 : ∀ n ∈ l1, InI64 n) (i2 : Ints w v2 l2) (m2 : ∀ n ∈ l2, InI64 n) :
    Calls Try.prog 11 #[v0, v1, v2] w fun e w' => e = .returned (.bool true) ∧ Below w.heap.size w w' := by
  clear m0 m1 m2
  have hB := Below.refl w.heap.size w
  obtain ⟨rf0, rl0⟩ := rise_facts l0
  obtain ⟨rf1, rl1⟩ := rise_facts l1
  obtain ⟨rf2, rl2⟩ := rise_facts l2
  obtain ⟨x, hx⟩ : ∃ x, x = riseL (l0.take 60) := ⟨_, rfl⟩
  obtain ⟨y, hy⟩ : ∃ y, y = riseL (l1.take 60) := ⟨_, rfl⟩
  obtain ⟨z, hz⟩ : ∃ z, z = riseL (l2.take 60) := ⟨_, rfl⟩
  rw [← hx] at rf0 rl0
  rw [← hy] at rf1 rl1
  rw [← hz] at rf2 rl2
  have HX := hide hx
  have HY := hide hy
  have HZ := hide hz
  have H1 := hide (law1 rf0 rf1 rf2)
  have H2 := hide (law2 rf0 rf1 rf2)
  have H3 := hide (law3 rf0 rf1 rf2)
  have n1 := mrg_le kOr y z
  have n2 := mrg_le kAnd x y
  have n3 := mrg_le kAnd x z
  have n4 := mrg_le kNot x y
  have n5 := mrg_le kOr x y
  clear hx hy hz rf0 rf1 rf2
  have hxy : x.length + y.length < 100000000000 := by omega
  have hxz : x.length + z.length < 100000000000 := by omega
  have hyz : y.length + z.length < 100000000000 := by omega
  have k1 : x.length + (mrg kOr y z).length < 100000000000 := by omega
  have k2 : (mrg kAnd x y).length + (mrg kAnd x z).length < 100000000000 := by omega
  have k3 : (mrg kNot x y).length + z.length < 100000000000 := by omega
  have k4 : (mrg kOr x y).length + z.length < 100000000000 := by omega
  clear n1 n2 n3 n4 n5
  go_enter Try.func11, Try.ntmps11
  go_wp2_with fail
  refine (shown_any _).mono ?_
  rintro e w133 ⟨rfl, hb⟩
  replace i0 := i0.below hb
  replace i1 := i1.below hb
  replace i2 := i2.below hb
  replace hB := below_then hB hb
  clear hb
  go_wp2_with fail
  refine (rise_any i0).mono ?_
  rintro e w134 ⟨v_rx, rfl, rx, n_rx, hb⟩
  replace i0 := i0.below hb
  replace i1 := i1.below hb
  replace i2 := i2.below hb
  replace hB := below_then hB hb
  clear hb n_rx
  rw [← unhide HX] at rx
  go_wp2_with fail
  refine (rise_any i1).mono ?_
  rintro e w135 ⟨v_ry, rfl, ry, n_ry, hb⟩
  replace i0 := i0.below hb
  replace i1 := i1.below hb
  replace i2 := i2.below hb
  replace rx := rx.below hb
  replace hB := below_then hB hb
  clear hb n_ry
  rw [← unhide HY] at ry
  go_wp2_with fail
  refine (rise_any i2).mono ?_
  rintro e w136 ⟨v_rz, rfl, rz, n_rz, hb⟩
  replace rx := rx.below hb
  replace ry := ry.below hb
  replace hB := below_then hB hb
  clear hb n_rz
  rw [← unhide HZ] at rz
  clear i0 i1 i2
  go_wp2_with fail
  refine (unite_any ry rz hyz).mono ?_
  rintro e w137 ⟨v_u1, rfl, u1, n_u1, hb⟩
  replace rx := rx.below hb
  replace ry := ry.below hb
  replace rz := rz.below hb
  replace hB := below_then hB hb
  clear hb n_u1
  go_wp2_with fail
  refine (meet_any rx u1 k1).mono ?_
  rintro e w138 ⟨v_u2, rfl, u2, n_u2, hb⟩
  replace rx := rx.below hb
  replace ry := ry.below hb
  replace rz := rz.below hb
  replace hB := below_then hB hb
  clear hb n_u2
  go_wp2_with fail
  refine (meet_any rx ry hxy).mono ?_
  rintro e w139 ⟨v_u3, rfl, u3, n_u3, hb⟩
  replace rx := rx.below hb
  replace ry := ry.below hb
  replace rz := rz.below hb
  replace u2 := u2.below hb
  replace hB := below_then hB hb
  clear hb n_u3
  go_wp2_with fail
  refine (meet_any rx rz hxz).mono ?_
  rintro e w140 ⟨v_u4, rfl, u4, n_u4, hb⟩
  replace rx := rx.below hb
  replace ry := ry.below hb
  replace rz := rz.below hb
  replace u2 := u2.below hb
  replace u3 := u3.below hb
  replace hB := below_then hB hb
  clear hb n_u4
  go_wp2_with fail
  refine (unite_any u3 u4 k2).mono ?_
  rintro e w141 ⟨v_u5, rfl, u5, n_u5, hb⟩
  replace rx := rx.below hb
  replace ry := ry.below hb
  replace rz := rz.below hb
  replace u2 := u2.below hb
  replace hB := below_then hB hb
  clear hb n_u5
  go_wp2_with fail
  refine (Calls.toBelow (compare_any u2 u5)).mono ?_
  rintro e w142 ⟨rfl, hb⟩
  replace rx := rx.below hb
  replace ry := ry.below hb
  replace rz := rz.below hb
  replace hB := below_then hB hb
  clear hb
  rw [unhide H1, cmpL_refl]
  clear u1 u2 u3 u4 u5
  go_wp2_with fail
  refine (without_any rx ry hxy).mono ?_
  rintro e w143 ⟨v_u1, rfl, u1, n_u1, hb⟩
  replace rx := rx.below hb
  replace ry := ry.below hb
  replace rz := rz.below hb
  replace hB := below_then hB hb
  clear hb n_u1
  go_wp2_with fail
  refine (without_any u1 rz k3).mono ?_
  rintro e w144 ⟨v_u2, rfl, u2, n_u2, hb⟩
  replace rx := rx.below hb
  replace ry := ry.below hb
  replace rz := rz.below hb
  replace hB := below_then hB hb
  clear hb n_u2
  go_wp2_with fail
  refine (unite_any ry rz hyz).mono ?_
  rintro e w145 ⟨v_u3, rfl, u3, n_u3, hb⟩
  replace rx := rx.below hb
  replace ry := ry.below hb
  replace rz := rz.below hb
  replace u2 := u2.below hb
  replace hB := below_then hB hb
  clear hb n_u3
  go_wp2_with fail
  refine (without_any rx u3 k1).mono ?_
  rintro e w146 ⟨v_u4, rfl, u4, n_u4, hb⟩
  replace rx := rx.below hb
  replace ry := ry.below hb
  replace rz := rz.below hb
  replace u2 := u2.below hb
  replace hB := below_then hB hb
  clear hb n_u4
  go_wp2_with fail
  refine (Calls.toBelow (compare_any u2 u4)).mono ?_
  rintro e w147 ⟨rfl, hb⟩
  replace rx := rx.below hb
  replace ry := ry.below hb
  replace rz := rz.below hb
  replace hB := below_then hB hb
  clear hb
  rw [unhide H2, cmpL_refl]
  clear u1 u2 u3 u4
  go_wp2_with fail
  refine (unite_any rx ry hxy).mono ?_
  rintro e w148 ⟨v_u1, rfl, u1, n_u1, hb⟩
  replace rx := rx.below hb
  replace ry := ry.below hb
  replace rz := rz.below hb
  replace hB := below_then hB hb
  clear hb n_u1
  go_wp2_with fail
  refine (unite_any u1 rz k4).mono ?_
  rintro e w149 ⟨v_u2, rfl, u2, n_u2, hb⟩
  replace rx := rx.below hb
  replace ry := ry.below hb
  replace rz := rz.below hb
  replace hB := below_then hB hb
  clear hb n_u2
  go_wp2_with fail
  refine (unite_any ry rz hyz).mono ?_
  rintro e w150 ⟨v_u3, rfl, u3, n_u3, hb⟩
  replace rx := rx.below hb
  replace ry := ry.below hb
  replace rz := rz.below hb
  replace u2 := u2.below hb
  replace hB := below_then hB hb
  clear hb n_u3
  go_wp2_with fail
  refine (unite_any rx u3 k1).mono ?_
  rintro e w151 ⟨v_u4, rfl, u4, n_u4, hb⟩
  replace rx := rx.below hb
  replace ry := ry.below hb
  replace rz := rz.below hb
  replace u2 := u2.below hb
  replace hB := below_then hB hb
  clear hb n_u4
  go_wp2_with fail
  refine (Calls.toBelow (compare_any u2 u4)).mono ?_
  rintro e w152 ⟨rfl, hb⟩
  replace hB := below_then hB hb
  clear hb
  rw [unhide H3, cmpL_refl]
  clear u1 u2 u3 u4
  go_wp2
  go_ret
  exact ⟨rfl, hB⟩

set_option maxRecDepth 100000 in
theorem lifted (os : Os) (started : os.Started) (H : Type) (enc : TypeId × Value → H) :
    ReturnsInHanded {} Try.checked os 11 .any (Rows.tupleLawsSpec.pre6 enc Try.prog Try.f11 Rows.tupleLawsRow.domain false) (Rows.tupleLawsSpec.post enc Try.prog Try.f11 false true false false) := by
  refine returnsInHanded_of_change (C := Try.checked) own started (by kernel_rfl) Try.func11
    (ChangeSpec.witness6 (enc := enc) (C := Try.checked) false ⟨#[], #[.slice none 0 0, .slice none 0 0, .slice none 0 0], []⟩ 8 (by kernel_rfl) (by kernel_rfl) (by kernel_rfl) (by kernel_rfl)) ?_
  intro W base args ds gs before hval0 hW hcnd _
  have hval : ∀ (j : Nat) t v, Try.f11.params[j]? = some t → args[j]? = some v → Value.okWide Try.prog W .any base t v := hval0
  have hW' := hW
  obtain ⟨p, q, hA0, hV, rfl, hfz, hnd⟩ := hW
  have hA : DataW.TrodAll enc Try.prog W 0 (fun _ => true) true Try.f11.params.toList args.toList ds p := hA0
  rw [Try.params11] at hA hval
  obtain ⟨v0, vs0, d0, ds0, p0, q0, hargs, rfl, rfl, h0, r0⟩ := trodAll_cons hA
  obtain ⟨v1, vs1, d1, ds1, p1, q1, rfl, rfl, rfl, h1, r1⟩ := trodAll_cons r0
  obtain ⟨v2, vs2, d2, ds2, p2, q2, rfl, rfl, rfl, h2, r2⟩ := trodAll_cons r1
  obtain ⟨rfl, rfl, rfl⟩ := trodAll_nil r2
  obtain rfl : args = #[v0, v1, v2] := by cases args; simp_all
  obtain ⟨rfl, rfl⟩ := trodVars_none hV
  obtain ⟨l0, i0, m0⟩ := read_ints h0 (okWide_slice Try.underlying23 (hval 0 23 v0 rfl rfl))
  have lt0 : ∀ x ∈ p0, x.block < W.heap.size := by obtain ⟨m, hm⟩ := h0; exact DataW.trod_lt m _ _ _ hm
  obtain ⟨l1, i1, m1⟩ := read_ints h1 (okWide_slice Try.underlying23 (hval 1 23 v1 rfl rfl))
  have lt1 : ∀ x ∈ p1, x.block < W.heap.size := by obtain ⟨m, hm⟩ := h1; exact DataW.trod_lt m _ _ _ hm
  obtain ⟨l2, i2, m2⟩ := read_ints h2 (okWide_slice Try.underlying23 (hval 2 23 v2 rfl rfl))
  have lt2 : ∀ x ∈ p2, x.block < W.heap.size := by obtain ⟨m, hm⟩ := h2; exact DataW.trod_lt m _ _ _ hm
  clear hA0 hval0
  refine (walk i0 m0 i1 m1 i2 m2).mono fun e W' ⟨he, bel⟩ => ?_
  subst he
  exact ⟨_, rfl, _, _, _, [], _, [], hW', trodAll_mk1 (shut_bool Try.underlying4 _), (trodAll_cons_mk (Below.trod laidOut (by kernel_rfl) (of_decide_eq_true (by kernel_rfl)) h0 bel lt0) (trodAll_cons_mk (Below.trod laidOut (by kernel_rfl) (of_decide_eq_true (by kernel_rfl)) h1 bel lt1) (trodAll_cons_mk (Below.trod laidOut (by kernel_rfl) (of_decide_eq_true (by kernel_rfl)) h2 bel lt2) trodAll_mk0))), rfl, bel.frame _, fun h => by cases h⟩

theorem over : Rows.tupleLawsRow.holds Try.pinned (OpenSpec.ofChange Rows.tupleLawsSpec) :=
  OpenClaim.holds_of_wide 11 Try.f11 rfl rfl rfl rfl rfl rfl rfl ⟨rfl, rfl, rfl, rfl, rfl⟩ rfl rfl rfl rfl rfl (by kernel_rfl) Try.func11 (by kernel_rfl)
    (of_decide_eq_true (by kernel_rfl)) (by unfold Func.isWrapper; first | (rw [if_pos (by decide +kernel)]; kernel_rfl) | (rw [if_neg (by decide +kernel)]; exact ⟨rfl, rfl⟩))
    (fun os started H enc _ => lifted os started H enc)

/-- The statement. -/
theorem proved : Rows.TupleLawsSaid := over
#print axioms proved
end Go.Proofs.Ytdpcfjnflpgeiaa.tupleLaws
