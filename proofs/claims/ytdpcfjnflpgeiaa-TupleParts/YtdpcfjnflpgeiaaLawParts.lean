/-
  Proved: TupleParts answers true for every two rows of numbers, and leaves what was handed in as it was. No condition.
-/
import Derived.Test.YtdpcfjnflpgeiaaFrame
import Derived.Test.YtdpcfjnflpgeiaaLawShown
import Derived.Test.YtdpcfjnflpgeiaaRefJoin
namespace Go.Proofs.Ytdpcfjnflpgeiaa.tupleParts
open Go.RowKit Go.ChangeShapes Go.WideShapes Go.ChangeAt
set_option linter.unusedVariables false
set_option linter.unusedSimpArgs false
set_option maxRecDepth 20000

theorem rise_facts (l : List Int) : Asc (riseL (l.take 60)) ∧ (riseL (l.take 60)).length ≤ 60 := by
  refine ⟨asc_riseL _, ?_⟩
  have h1 := riseL_le (l.take 60)
  have h2 := List.length_take_le 60 l
  omega

theorem len_parts (x y : List Int) : x.length = (meetL x y).length + (lessL x y).length := by
  induction x with
  | nil => rfl
  | cons a r ih =>
    unfold meetL lessL at *
    by_cases h : a ∈ y <;> simp [List.filter_cons, h] at * <;> omega

theorem len_all (x y : List Int) : (joinL x y).length = (meetL x y).length + (lessL x y).length + (lessL y x).length := by
  unfold joinL
  rw [List.length_merge, len_parts x y]

theorem none_left (x y : List Int) (h : ∀ z ∈ x, z ∈ y) : lessL x y = [] := by
  unfold lessL
  rw [List.filter_eq_nil_iff]
  intro z hz; simpa using h z hz

set_option maxHeartbeats 8000000 in
theorem walk {l0 l1 : List Int} {v0 v1 : Value} {w : World} (i0 : Ints w v0 l0) (m0 : ∀ n ∈ l0, InI64 n) (i1 : Ints w v1 l1) (m1 : ∀ n ∈ l1, InI64 n) :
    Calls Try.prog 8 #[v0, v1] w fun e w' => e = .returned (.bool true) ∧ Below w.heap.size w w' := by
  clear m0 m1
  have hB := Below.refl w.heap.size w
  obtain ⟨rf0, rl0⟩ := rise_facts l0
  obtain ⟨rf1, rl1⟩ := rise_facts l1
  obtain ⟨x, hx⟩ : ∃ x, x = riseL (l0.take 60) := ⟨_, rfl⟩
  obtain ⟨y, hy⟩ : ∃ y, y = riseL (l1.take 60) := ⟨_, rfl⟩
  rw [← hx] at rf0 rl0
  rw [← hy] at rf1 rl1
  have HX := hide hx
  have HY := hide hy
  clear hx hy
  have hla := len_all x y
  have hlp := len_parts x y
  have hle := len_parts y x
  have AJ := asc_joinL rf0 rf1
  have AM := asc_meetL (b := y) rf0
  have AL := asc_lessL (b := y) rf0
  have hE1 : mrg kNot x (joinL x y) = [] := by rw [mrg_not rf0 AJ]; exact none_left _ _ fun z hz => mem_joinL.2 (.inl hz)
  have hE2 : mrg kNot (meetL x y) y = [] := by rw [mrg_not AM rf1]; exact none_left _ _ fun z hz => (mem_meetL.1 hz).2
  have hE3 : mrg kAnd (lessL x y) y = [] := by
    rw [mrg_and AL rf1]; unfold meetL; rw [List.filter_eq_nil_iff]; intro z hz; simpa using (mem_lessL.1 hz).2
  have hE4 : mrg kOr y x = joinL x y := by
    rw [mrg_or rf1 rf0]; exact Asc.ext (asc_joinL rf1 rf0) AJ fun z => by rw [mem_joinL, mem_joinL]; exact Or.comm
  have hR1 : risB (joinL x y) = true := (risB_iff _).2 AJ
  have hR2 : risB (meetL x y) = true := (risB_iff _).2 AM
  have hO := mrg_or rf0 rf1
  have hM := mrg_and rf0 rf1
  have hN := mrg_not rf0 rf1
  have hN' := mrg_not rf1 rf0
  generalize joinL x y = al at *
  generalize meetL x y = bo at *
  generalize lessL x y = le at *
  generalize lessL y x = ri at *
  have HE1 := hide hE1
  have HE2 := hide hE2
  have HE3 := hide hE3
  have HE4 := hide hE4
  have HR1 := hide hR1
  have HR2 := hide hR2
  have HO := hide hO
  have HM := hide hM
  have HN := hide hN
  have HN' := hide hN'
  have hi1 : ((al.length : Int) != (bo.length : Int) + (le.length : Int) + (ri.length : Int)) = false := by simp; omega
  have hi2 : ((x.length : Int) != (bo.length : Int) + (le.length : Int)) = false := by simp; omega
  have hxy : x.length + y.length < 100000000000 := by omega
  have hyx : y.length + x.length < 100000000000 := by omega
  have hxa : x.length + al.length < 100000000000 := by omega
  have hby : bo.length + y.length < 100000000000 := by omega
  have hly : le.length + y.length < 100000000000 := by omega
  have b1 : al.length ≤ 120 := by omega
  have b2 : bo.length ≤ 120 := by omega
  have b3 : le.length ≤ 120 := by omega
  have b4 : ri.length ≤ 120 := by omega
  clear hE1 hE2 hE3 hE4 hR1 hR2 hO hM hN hN' AJ AM AL rf0 rf1 hla hlp hle
  go_enter Try.func8, Try.ntmps8
  go_wp2_with fail
  refine (shown_any _).mono ?_
  rintro e w118 ⟨rfl, hb⟩
  replace i0 := i0.below hb
  replace i1 := i1.below hb
  replace hB := below_then hB hb
  clear hb
  go_wp2_with fail
  refine (rise_any i0).mono ?_
  rintro e w119 ⟨v_rx, rfl, rx, n_rx, hb⟩
  replace i0 := i0.below hb
  replace i1 := i1.below hb
  replace hB := below_then hB hb
  clear hb n_rx
  rw [← unhide HX] at rx
  obtain ⟨a_rx, c_rx, e_rx, f_rx, g_rx⟩ := rx.form
  rw [e_rx] at rx ⊢
  clear e_rx
  go_wp2_with fail
  refine (rise_any i1).mono ?_
  rintro e w120 ⟨v_ry, rfl, ry, n_ry, hb⟩
  replace i0 := i0.below hb
  replace i1 := i1.below hb
  replace rx := rx.below hb
  replace hB := below_then hB hb
  clear hb n_ry
  rw [← unhide HY] at ry
  clear i0 i1
  go_wp2_with fail
  refine (unite_any rx ry hxy).mono ?_
  rintro e w121 ⟨v_ua, rfl, ua, n_ua, hb⟩
  replace rx := rx.below hb
  replace ry := ry.below hb
  replace hB := below_then hB hb
  clear hb n_ua
  rw [unhide HO] at ua
  obtain ⟨a_ua, c_ua, e_ua, f_ua, g_ua⟩ := ua.form
  rw [e_ua] at ua ⊢
  clear e_ua
  go_wp2_with fail
  refine (meet_any rx ry hxy).mono ?_
  rintro e w122 ⟨v_ub, rfl, ub, n_ub, hb⟩
  replace rx := rx.below hb
  replace ry := ry.below hb
  replace ua := ua.below hb
  replace hB := below_then hB hb
  clear hb n_ub
  rw [unhide HM] at ub
  obtain ⟨a_ub, c_ub, e_ub, f_ub, g_ub⟩ := ub.form
  rw [e_ub] at ub ⊢
  clear e_ub
  go_wp2_with fail
  refine (without_any rx ry hxy).mono ?_
  rintro e w123 ⟨v_ul, rfl, ul, n_ul, hb⟩
  replace rx := rx.below hb
  replace ry := ry.below hb
  replace ua := ua.below hb
  replace ub := ub.below hb
  replace hB := below_then hB hb
  clear hb n_ul
  rw [unhide HN] at ul
  obtain ⟨a_ul, c_ul, e_ul, f_ul, g_ul⟩ := ul.form
  rw [e_ul] at ul ⊢
  clear e_ul
  go_wp2_with fail
  refine (without_any ry rx hyx).mono ?_
  rintro e w124 ⟨v_ur, rfl, ur, n_ur, hb⟩
  replace rx := rx.below hb
  replace ry := ry.below hb
  replace ua := ua.below hb
  replace ub := ub.below hb
  replace ul := ul.below hb
  replace hB := below_then hB hb
  clear hb n_ur
  rw [unhide HN'] at ur
  obtain ⟨a_ur, c_ur, e_ur, f_ur, g_ur⟩ := ur.form
  rw [e_ur] at ur ⊢
  clear e_ur
  go_wp2_with fail
  refine (Calls.toBelow (rising_any ua)).mono ?_
  rintro e w125 ⟨rfl, hb⟩
  replace rx := rx.below hb
  replace ry := ry.below hb
  replace ua := ua.below hb
  replace ub := ub.below hb
  replace ul := ul.below hb
  replace hB := below_then hB hb
  clear hb
  rw [unhide HR1]
  go_wp2_with fail
  refine (Calls.toBelow (rising_any ub)).mono ?_
  rintro e w126 ⟨rfl, hb⟩
  replace rx := rx.below hb
  replace ry := ry.below hb
  replace ua := ua.below hb
  replace ub := ub.below hb
  replace ul := ul.below hb
  replace hB := below_then hB hb
  clear hb
  rw [unhide HR2]
  go_wp2_with fail
  refine (within_any rx ua hxa).mono ?_
  rintro e w127 ⟨rfl, hb⟩
  replace rx := rx.below hb
  replace ry := ry.below hb
  replace ua := ua.below hb
  replace ub := ub.below hb
  replace ul := ul.below hb
  replace hB := below_then hB hb
  clear hb
  rw [unhide HE1]
  go_wp2_with fail
  refine (within_any ub ry hby).mono ?_
  rintro e w128 ⟨rfl, hb⟩
  replace rx := rx.below hb
  replace ry := ry.below hb
  replace ua := ua.below hb
  replace ub := ub.below hb
  replace ul := ul.below hb
  replace hB := below_then hB hb
  clear hb
  rw [unhide HE2]
  go_wp2_with fail
  refine (meet_any ul ry hly).mono ?_
  rintro e w129 ⟨v_um, rfl, um, n_um, hb⟩
  replace rx := rx.below hb
  replace ry := ry.below hb
  replace ua := ua.below hb
  replace ul := ul.below hb
  replace hB := below_then hB hb
  clear hb n_um
  rw [unhide HE3] at um
  obtain ⟨a_um, c_um, e_um, f_um, g_um⟩ := um.form
  rw [e_um]
  clear e_um um
  go_wp2_with fail
  refine (within_any rx ry hxy).mono ?_
  rintro e w130 ⟨rfl, hb⟩
  replace rx := rx.below hb
  replace ry := ry.below hb
  replace ua := ua.below hb
  replace hB := below_then hB hb
  clear hb
  rw [unhide HN]
  have hle0 : (le.isEmpty == ((le.length : Int) == 0)) = true := by cases le <;> simp; omega
  go_wp2_with fail
  refine (unite_any ry rx hyx).mono ?_
  rintro e w131 ⟨v_uu, rfl, uu, n_uu, hb⟩
  replace ua := ua.below hb
  replace hB := below_then hB hb
  clear hb n_uu
  rw [unhide HE4] at uu
  go_wp2_with fail
  refine (Calls.toBelow (compare_any ua uu)).mono ?_
  rintro e w132 ⟨rfl, hb⟩
  replace hB := below_then hB hb
  clear hb
  rw [cmpL_refl]
  go_wp2
  go_ret
  exact ⟨rfl, hB⟩

set_option maxRecDepth 100000 in
theorem lifted (os : Os) (started : os.Started) (H : Type) (enc : TypeId × Value → H) :
    ReturnsInHanded {} Try.checked os 8 .any (Rows.tuplePartsSpec.pre6 enc Try.prog Try.f8 Rows.tuplePartsRow.domain false) (Rows.tuplePartsSpec.post enc Try.prog Try.f8 false true false false) := by
  refine returnsInHanded_of_change (C := Try.checked) own started (by kernel_rfl) Try.func8
    (ChangeSpec.witness6 (enc := enc) (C := Try.checked) false ⟨#[], #[.slice none 0 0, .slice none 0 0], []⟩ 8 (by kernel_rfl) (by kernel_rfl) (by kernel_rfl) (by kernel_rfl)) ?_
  intro W base args ds gs before hval0 hW hcnd _
  have hval : ∀ (j : Nat) t v, Try.f8.params[j]? = some t → args[j]? = some v → Value.okWide Try.prog W .any base t v := hval0
  have hW' := hW
  obtain ⟨p, q, hA0, hV, rfl, hfz, hnd⟩ := hW
  have hA : DataW.TrodAll enc Try.prog W 0 (fun _ => true) true Try.f8.params.toList args.toList ds p := hA0
  rw [Try.params8] at hA hval
  obtain ⟨v0, vs0, d0, ds0, p0, q0, hargs, rfl, rfl, h0, r0⟩ := trodAll_cons hA
  obtain ⟨v1, vs1, d1, ds1, p1, q1, rfl, rfl, rfl, h1, r1⟩ := trodAll_cons r0
  obtain ⟨rfl, rfl, rfl⟩ := trodAll_nil r1
  obtain rfl : args = #[v0, v1] := by cases args; simp_all
  obtain ⟨rfl, rfl⟩ := trodVars_none hV
  obtain ⟨l0, i0, m0⟩ := read_ints h0 (okWide_slice Try.underlying23 (hval 0 23 v0 rfl rfl))
  have lt0 : ∀ x ∈ p0, x.block < W.heap.size := by obtain ⟨m, hm⟩ := h0; exact DataW.trod_lt m _ _ _ hm
  obtain ⟨l1, i1, m1⟩ := read_ints h1 (okWide_slice Try.underlying23 (hval 1 23 v1 rfl rfl))
  have lt1 : ∀ x ∈ p1, x.block < W.heap.size := by obtain ⟨m, hm⟩ := h1; exact DataW.trod_lt m _ _ _ hm
  clear hA0 hval0
  refine (walk i0 m0 i1 m1).mono fun e W' ⟨he, bel⟩ => ?_
  subst he
  exact ⟨_, rfl, _, _, _, [], _, [], hW', trodAll_mk1 (shut_bool Try.underlying4 _), (trodAll_cons_mk (Below.trod laidOut (by kernel_rfl) (of_decide_eq_true (by kernel_rfl)) h0 bel lt0) (trodAll_cons_mk (Below.trod laidOut (by kernel_rfl) (of_decide_eq_true (by kernel_rfl)) h1 bel lt1) trodAll_mk0)), rfl, bel.frame _, fun h => by cases h⟩

theorem over : Rows.tuplePartsRow.holds Try.pinned (OpenSpec.ofChange Rows.tuplePartsSpec) :=
  OpenClaim.holds_of_wide 8 Try.f8 rfl rfl rfl rfl rfl rfl rfl ⟨rfl, rfl, rfl, rfl, rfl⟩ rfl rfl rfl rfl rfl (by kernel_rfl) Try.func8 (by kernel_rfl)
    (of_decide_eq_true (by kernel_rfl)) (by unfold Func.isWrapper; first | (rw [if_pos (by decide +kernel)]; kernel_rfl) | (rw [if_neg (by decide +kernel)]; exact ⟨rfl, rfl⟩))
    (fun os started H enc _ => lifted os started H enc)

/-- The statement. -/
theorem proved : Rows.TuplePartsSaid := over
#print axioms proved
end Go.Proofs.Ytdpcfjnflpgeiaa.tupleParts
