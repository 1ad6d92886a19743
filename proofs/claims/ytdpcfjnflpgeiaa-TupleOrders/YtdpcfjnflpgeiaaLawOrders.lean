/-
  Proved: TupleOrders answers true for every list of tuples and every tuple, and leaves what was handed in as it was. No condition.
-/
import Derived.Test.YtdpcfjnflpgeiaaFrame
import Derived.Test.YtdpcfjnflpgeiaaLawShown
import Derived.Test.YtdpcfjnflpgeiaaTupFew
namespace Go.Proofs.Ytdpcfjnflpgeiaa.tupleOrders
open Go.RowKit Go.ChangeShapes Go.WideShapes Go.ChangeAt
set_option linter.unusedVariables false
set_option linter.unusedSimpArgs false
set_option maxRecDepth 20000

theorem few_len (ll : List (List Int)) : (fewL ll).length ≤ 60 := by unfold fewL; simp; omega
theorem few_row {ll : List (List Int)} {t : List Int} (h : t ∈ fewL ll) : t.length ≤ 6 := by
  unfold fewL at h
  obtain ⟨x, _, rfl⟩ := List.mem_map.1 h
  exact List.length_take_le _ _
theorem few_few (ll : List (List Int)) : fewL (fewL ll) = fewL ll := by
  unfold fewL
  rw [← List.map_take, List.take_take, List.map_map]
  simp [Function.comp_def, List.take_take]

set_option maxHeartbeats 8000000 in
theorem walk {l0 : List (List Int)} {l1 : List Int} {v0 v1 : Value} {w : World} (i0 : Tups w v0 l0) (m0 : ∀ l ∈ l0, ∀ n ∈ l, InI64 n) (i1 : Ints w v1 l1) (m1 : ∀ n ∈ l1, InI64 n) :
    Calls Try.prog 3 #[v0, v1] w fun e w' => e = .returned (.bool true) ∧ Below w.heap.size w w' := by
  obtain ⟨b, cb, rfl, hlb, hcb⟩ := i1.form
  unfold maxLen at hcb
  clear m0 m1
  have hB := Below.refl w.heap.size w
  obtain ⟨ll, hll⟩ : ∃ ll, ll = fewL l0 := ⟨_, rfl⟩
  have hf1 := few_len l0
  have hf2 : ∀ t ∈ ll, t.length ≤ 6 := fun t ht => few_row (hll ▸ ht)
  have hf3 := few_few l0
  rw [← hll] at hf1 hf3
  have HLL := hide hll
  have HF3 := hide hf3
  have HRW := hide (show ∀ t ∈ ll, t.length < 100000000 from fun t ht => by have := hf2 t ht; omega)
  have hsl := sortL_le ll
  have HAS := hide (sortL_spec ll).1
  clear hll hf2 hf3
  go_enter Try.func3, Try.ntmps3
  go_wp2_with fail
  refine (shown_any _).mono ?_
  rintro e w153 ⟨rfl, hb⟩
  replace i0 := i0.below hb
  replace i1 := i1.below hb
  replace hB := below_then hB hb
  clear hb
  go_wp2_with fail
  refine (few_any i0).mono ?_
  rintro e w154 ⟨v_l, rfl, l, n_l, hb⟩
  replace i1 := i1.below hb
  replace hB := below_then hB hb
  obtain ⟨a_l, c_l, e_l, f_l, g_l⟩ := l.form
  rw [e_l] at l ⊢
  clear e_l
  clear hb n_l
  clear i0
  rw [← unhide HLL] at l ⊢
  go_wp2_with fail
  refine (few_any l).mono ?_
  rintro e w155 ⟨v_was, rfl, was, n_was, hb⟩
  replace i1 := i1.below hb
  replace l := l.below hb
  replace hB := below_then hB hb
  clear hb n_was
  rw [unhide HF3] at was
  have t := i1.cut 6
  clear i1
  go_wp2_with fail
  refine (sort_any l (by omega) (unhide HRW)).mono ?_
  rintro e w156 ⟨v_a, rfl, a, n_a, hb⟩
  replace t := t.below hb
  replace l := l.below hb
  replace was := was.below hb
  replace hB := below_then hB hb
  clear hb n_a
  go_wp2_with fail
  refine (refSort_any l (by omega) (unhide HRW)).mono ?_
  rintro e w157 ⟨v_s, rfl, s, n_s, hb⟩
  replace t := t.below hb
  replace l := l.below hb
  replace was := was.below hb
  replace a := a.below hb
  replace hB := below_then hB hb
  clear hb n_s
  go_wp2_with fail
  refine (Calls.toBelow (find_any s t (unhide HAS) (by omega))).mono ?_
  rintro e w158 ⟨rfl, hb⟩
  replace t := t.below hb
  replace l := l.below hb
  replace was := was.below hb
  replace a := a.below hb
  replace s := s.below hb
  replace hB := below_then hB hb
  clear hb
  go_wp2_with fail
  refine (Calls.toBelow (refFind_any s t)).mono ?_
  rintro e W ⟨rfl, hb⟩
  replace t := t.below hb
  replace l := l.below hb
  replace was := was.below hb
  replace a := a.below hb
  replace s := s.below hb
  replace hB := below_then hB hb
  clear hb
  obtain ⟨k1, hk1⟩ : ∃ k, k = lowN (sortL ll) (l1.take 6) := ⟨_, rfl⟩
  obtain ⟨p1, hp1⟩ : ∃ p, p = isAt (sortL ll) (l1.take 6) (lowN (sortL ll) (l1.take 6)) := ⟨_, rfl⟩
  rw [← hp1, ← hk1]
  have hpp : (p1 == p1) = true := by simp
  have hkk : ((k1 : Int) == (k1 : Int)) = true := by simp
  clear hp1 hk1
  have T := hide t
  have A := hide a
  have S := hide s
  have WAS := hide was
  have HB := hide hB
  clear t a s was hB
  go_wp2
  go_loopw [13] (fun si wr => ∃ k n : Nat, k ≤ ll.length ∧ si = .int .i64 k ∧ wr = W.drewN n) (fun si _ => ll.length - (intOf si).toNat)
  case atStart => exact ⟨0, 0, by omega, rfl, rfl⟩
  case round =>
    obtain ⟨k, n, hk, rfl, rfl⟩ := hrel
    by_cases hkl : k < ll.length
    · obtain ⟨bl, ol, ul, rfl, hcl, hil⟩ := l.at hkl
      have HC1 := hide (fun n => compare_any (Seq.drewN hil n) (Seq.drewN (unhide T) n))
      have HC2 := hide (fun n => refCompare_any (Seq.drewN hil n) (Seq.drewN (unhide T) n))
      generalize cmpL ll[k] (l1.take 6) = q at HC1 HC2
      have hqq : (q != q) = false := by simp
      clear l hil
      go_wp2
      go_quiet ((first | (go_at_call 18; exact Calls.quiet_add (unhide HC1 _)) | (go_at_call 19; exact Calls.quiet_add (unhide HC2 _))))
      go_wp2
      go_roundw
      case rel => exact ⟨k + 1, _, by omega, by go_num, by first | rfl | (simp only [World.drewN_drewN]; rfl)⟩
      case measure => simp [intOf]; omega
    · have hB := Below.drewN1 (unhide HB) n
      have a := (unhide A).drewN n
      have s := (unhide S).drewN n
      have was := (unhide WAS).drewN n
      replace l := l.drewN n
      clear T A S WAS HB
      generalize W.drewN n = W2 at *
      go_wp2_with fail
      refine (Calls.toBelow (same_any a s)).mono ?_
      rintro e w9 ⟨rfl, hb⟩
      rw [decide_eq_true rfl]
      replace l := l.below hb
      replace was := was.below hb
      replace hB := below_then hB hb
      clear hb a s
      go_wp2_with fail
      refine (Calls.toBelow (same_any l was)).mono ?_
      rintro e w10 ⟨rfl, hb⟩
      rw [decide_eq_true rfl]
      replace hB := below_then hB hb
      clear hb l was
      go_wp2
      go_ret
      exact ⟨rfl, hB⟩

set_option maxRecDepth 100000 in
theorem lifted (os : Os) (started : os.Started) (H : Type) (enc : TypeId × Value → H) :
    ReturnsInHanded {} Try.checked os 3 .any (Rows.tupleOrdersSpec.pre6 enc Try.prog Try.f3 Rows.tupleOrdersRow.domain false) (Rows.tupleOrdersSpec.post enc Try.prog Try.f3 false true false false) := by
  refine returnsInHanded_of_change (C := Try.checked) own started (by kernel_rfl) Try.func3
    (ChangeSpec.witness6 (enc := enc) (C := Try.checked) false ⟨#[], #[.slice none 0 0, .slice none 0 0], []⟩ 8 (by kernel_rfl) (by kernel_rfl) (by kernel_rfl) (by kernel_rfl)) ?_
  intro W base args ds gs before hval0 hW hcnd _
  have hval : ∀ (j : Nat) t v, Try.f3.params[j]? = some t → args[j]? = some v → Value.okWide Try.prog W .any base t v := hval0
  have hW' := hW
  obtain ⟨p, q, hA0, hV, rfl, hfz, hnd⟩ := hW
  have hA : DataW.TrodAll enc Try.prog W 0 (fun _ => true) true Try.f3.params.toList args.toList ds p := hA0
  rw [Try.params3] at hA hval
  obtain ⟨v0, vs0, d0, ds0, p0, q0, hargs, rfl, rfl, h0, r0⟩ := trodAll_cons hA
  obtain ⟨v1, vs1, d1, ds1, p1, q1, rfl, rfl, rfl, h1, r1⟩ := trodAll_cons r0
  obtain ⟨rfl, rfl, rfl⟩ := trodAll_nil r1
  obtain rfl : args = #[v0, v1] := by cases args; simp_all
  obtain ⟨rfl, rfl⟩ := trodVars_none hV
  obtain ⟨l0, i0, m0⟩ := read_tups h0 (okWide_slice Try.underlying22 (hval 0 22 v0 rfl rfl))
  have lt0 : ∀ x ∈ p0, x.block < W.heap.size := by obtain ⟨m, hm⟩ := h0; exact DataW.trod_lt m _ _ _ hm
  obtain ⟨l1, i1, m1⟩ := read_ints h1 (okWide_slice Try.underlying23 (hval 1 23 v1 rfl rfl))
  have lt1 : ∀ x ∈ p1, x.block < W.heap.size := by obtain ⟨m, hm⟩ := h1; exact DataW.trod_lt m _ _ _ hm
  clear hA0 hval0
  refine (walk i0 m0 i1 m1).mono fun e W' ⟨he, bel⟩ => ?_
  subst he
  exact ⟨_, rfl, _, _, _, [], _, [], hW', trodAll_mk1 (shut_bool Try.underlying4 _), (trodAll_cons_mk (Below.trod laidOut (by kernel_rfl) (of_decide_eq_true (by kernel_rfl)) h0 bel lt0) (trodAll_cons_mk (Below.trod laidOut (by kernel_rfl) (of_decide_eq_true (by kernel_rfl)) h1 bel lt1) trodAll_mk0)), rfl, bel.frame _, fun h => by cases h⟩

theorem over : Rows.tupleOrdersRow.holds Try.pinned (OpenSpec.ofChange Rows.tupleOrdersSpec) :=
  OpenClaim.holds_of_wide 3 Try.f3 rfl rfl rfl rfl rfl rfl rfl ⟨rfl, rfl, rfl, rfl, rfl⟩ rfl rfl rfl rfl rfl (by kernel_rfl) Try.func3 (by kernel_rfl)
    (of_decide_eq_true (by kernel_rfl)) (by unfold Func.isWrapper; first | (rw [if_pos (by decide +kernel)]; kernel_rfl) | (rw [if_neg (by decide +kernel)]; exact ⟨rfl, rfl⟩))
    (fun os started H enc _ => lifted os started H enc)

/-- The statement. -/
theorem proved : Rows.TupleOrdersSaid := over
#print axioms proved
end Go.Proofs.Ytdpcfjnflpgeiaa.tupleOrders
