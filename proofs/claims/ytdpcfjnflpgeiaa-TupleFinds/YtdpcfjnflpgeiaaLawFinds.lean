/-
  Proved: TupleFinds answers true for every list of tuples and every tuple, and leaves what was handed in as it was. No condition.
-/
import Derived.Test.YtdpcfjnflpgeiaaFrame
import Derived.Test.YtdpcfjnflpgeiaaLawShown
import Derived.Test.YtdpcfjnflpgeiaaTupFew
namespace Go.Proofs.Ytdpcfjnflpgeiaa.tupleFinds
open Go.RowKit Go.ChangeShapes Go.WideShapes Go.ChangeAt
set_option linter.unusedVariables false
set_option linter.unusedSimpArgs false
set_option maxRecDepth 20000

theorem few_len (ll : List (List Int)) : (fewL ll).length ≤ 60 := by unfold fewL; simp; omega
theorem few_row {ll : List (List Int)} {t : List Int} (h : t ∈ fewL ll) : t.length ≤ 6 := by
  unfold fewL at h
  obtain ⟨x, _, rfl⟩ := List.mem_map.1 h
  exact List.length_take_le _ _

theorem neg_one {a b : List Int} (h : cmpL a b < 0) : cmpL a b = -1 := by have := cmpL_cases a b; omega

theorem low_self {s : List (List Int)} (hs : AscL s) {i : Nat} (hi : i < s.length) : lowN s s[i] = i ∧ isAt s s[i] i = true := by
  refine ⟨low_is hs (by omega) (fun k hk hki => asc_at hs hk hi hki) (fun k hk hik => ?_), ?_⟩
  · rcases Nat.lt_or_ge i k with h | h
    · have h1 := asc_at hs hi hk h
      have := cmpL_swap s[k] s[i]
      omega
    · have : i = k := by omega
      subst this
      rw [cmpL_refl]; omega
  · unfold isAt; rw [dif_pos hi]; simp [cmpL_refl]

theorem low_mem {s : List (List Int)} (hs : AscL s) {x : List Int} (hx : x ∈ s) : isAt s x (lowN s x) = true := by
  obtain ⟨i, hi, rfl⟩ := List.getElem_of_mem hx
  have := low_self hs hi
  rw [this.1]; exact this.2

set_option maxHeartbeats 16000000 in
theorem walk {l0 : List (List Int)} {l1 : List Int} {v0 v1 : Value} {w : World} (i0 : Tups w v0 l0) (m0 : ∀ l ∈ l0, ∀ n ∈ l, InI64 n) (i1 : Ints w v1 l1) (m1 : ∀ n ∈ l1, InI64 n) :
    Calls Try.prog 6 #[v0, v1] w fun e w' => e = .returned (.bool true) ∧ Below w.heap.size w w' := by
  obtain ⟨b, cb, rfl, hlb, hcb⟩ := i1.form
  unfold maxLen at hcb
  clear m0 m1
  have hB := Below.refl w.heap.size w
  obtain ⟨ll, hll⟩ : ∃ ll, ll = fewL l0 := ⟨_, rfl⟩
  have hf1 := few_len l0
  have hf2 : ∀ t ∈ ll, t.length ≤ 6 := fun t ht => few_row (hll ▸ ht)
  rw [← hll] at hf1
  have HLL := hide hll
  have HRW := hide (show ∀ t ∈ ll, t.length < 100000000 from fun t ht => by have := hf2 t ht; omega)
  have hsl := sortL_le ll
  obtain ⟨has, hmem⟩ := sortL_spec ll
  obtain ⟨so, hso⟩ : ∃ so, so = sortL ll := ⟨_, rfl⟩
  rw [← hso] at has hmem hsl
  have HSO := hide hso
  have HAS := hide has
  have HMEM := hide hmem
  clear hll hf2 hso has hmem
  go_enter Try.func6, Try.ntmps6
  go_wp2_with fail
  refine (shown_any _).mono ?_
  rintro e w160 ⟨rfl, hb⟩
  replace i0 := i0.below hb
  replace i1 := i1.below hb
  replace hB := below_then hB hb
  clear hb
  go_wp2_with fail
  refine (few_any i0).mono ?_
  rintro e w161 ⟨v_l, rfl, l, n_l, hb⟩
  replace i1 := i1.below hb
  replace hB := below_then hB hb
  obtain ⟨a_l, c_l, e_l, f_l, g_l⟩ := l.form
  rw [e_l] at l ⊢
  clear e_l
  clear hb n_l
  clear i0
  rw [← unhide HLL] at l ⊢
  have t := i1.cut 6
  clear i1
  go_wp2_with fail
  refine (sort_any l (by omega) (unhide HRW)).mono ?_
  rintro e W ⟨v_s, rfl, s, n_s, hb⟩
  replace t := t.below hb
  replace l := l.below hb
  replace hB := below_then hB hb
  obtain ⟨a_s, c_s, e_s, f_s, g_s⟩ := s.form
  rw [e_s] at s ⊢
  clear e_s
  clear hb n_s
  rw [← unhide HSO] at s ⊢
  obtain ⟨tt, htt⟩ : ∃ tt, tt = l1.take 6 := ⟨_, rfl⟩
  rw [← htt] at t
  have HL := hide l
  have HT := hide t
  have HS := hide s
  have HB := hide hB
  clear htt l t s hB HLL HSO HRW
  have hsm : so.length ≤ 60 := by omega
  go_wp2
  go_loopw [7] (fun si wr => ∃ k n : Nat, k ≤ so.length ∧ si = .int .i64 k ∧ wr = W.drewN n) (fun si _ => so.length - (intOf si).toNat)
  case atStart => exact ⟨0, 0, by omega, rfl, rfl⟩
  case round =>
    obtain ⟨k, n, hk, rfl, rfl⟩ := hrel
    by_cases hkl : k < so.length
    · obtain ⟨bs, os, us, e1, hcs, his⟩ := (unhide HS).at hkl
      have HF := hide (fun n => find_any ((unhide HS).drewN n) (Seq.drewN his n) (unhide HAS) (by omega))
      have hlow := low_self (unhide HAS) hkl
      rw [hlow.1, hlow.2] at HF
      have hkk : ((k : Int) != (k : Int)) = false := by simp
      subst e1
      by_cases hk0 : 0 < k
      · have hk1 : k - 1 < so.length := by omega
        obtain ⟨bs', os', up, e2, hcp, hip⟩ := (unhide HS).at hk1
        cases e2
        have HC := hide (fun n => compare_any (Seq.drewN hip n) (Seq.drewN his n))
        rw [neg_one (asc_at (unhide HAS) hk1 hkl (by omega))] at HC
        have hkp : (1 : Int) ≤ (k : Int) := by omega
        clear hlow his hip
        go_wp2_with (go_at_call 16; refine (unhide HF _).mono ?_; rintro e w' ⟨rfl, m1, rfl⟩)
        go_quiet ((go_at_call 18; exact Calls.quiet_add (unhide HC _)))
        go_wp2
        go_roundw
        case rel => exact ⟨k + 1, _, by omega, by go_num, by first | rfl | (simp only [World.drewN_drewN]; rfl)⟩
        case measure => simp [intOf]; omega
      · have hk0' : decide (0 < k) = false := by simpa using hk0
        clear hlow his
        go_wp2_with (go_at_call 16; refine (unhide HF _).mono ?_; rintro e w' ⟨rfl, m1, rfl⟩)
        go_quiet (fail)
        go_wp2
        go_roundw
        case rel => exact ⟨k + 1, _, by omega, by go_num, by first | rfl | (simp only [World.drewN_drewN]; rfl)⟩
        case measure => simp [intOf]; omega
    · go_wp2
      go_loopw [10] (fun si wr => ∃ k n : Nat, k ≤ ll.length ∧ si = .int .i64 k ∧ wr = W.drewN n) (fun si _ => ll.length - (intOf si).toNat)
      case atStart => exact ⟨0, n, by omega, rfl, rfl⟩
      case round =>
        obtain ⟨i, n2, hi, rfl, rfl⟩ := hrel
        by_cases hil : i < ll.length
        · obtain ⟨bl, ol, ul, e1, hcl, hiL⟩ := (unhide HL).at hil
          subst e1
          have HF := hide (fun n => find_any ((unhide HS).drewN n) (Seq.drewN hiL n) (unhide HAS) (by omega))
          have hm := low_mem (unhide HAS) (((unhide HMEM) _).2 (List.getElem_mem hil))
          rw [hm] at HF
          generalize lowN so ll[i] = q at HF
          clear hm hiL
          go_wp2_with (go_at_call 16; refine (unhide HF _).mono ?_; rintro e w' ⟨rfl, m1, rfl⟩)
          go_roundw
          case rel => exact ⟨i + 1, _, by omega, by go_num, by first | rfl | (simp only [World.drewN_drewN]; rfl)⟩
          case measure => simp [intOf]; omega
        · have hB := Below.drewN1 (unhide HB) n2
          have t := (unhide HT).drewN n2
          have s := (unhide HS).drewN n2
          clear HT HS HB HL HMEM
          generalize W.drewN n2 = W2 at hB t s ⊢
          have hle := lowN_le so tt
          obtain ⟨sp1, sp2⟩ := lowN_spec so tt
          have HF := hide (Calls.toBelow (find_any s t (unhide HAS) (by omega)))
          have hat : isAt so tt (lowN so tt) = if h : lowN so tt < so.length then decide (cmpL so[lowN so tt] tt = 0) else false := rfl
          generalize lowN so tt = q at *
          generalize isAt so tt q = p at *
          go_wp2_with fail
          refine (unhide HF).mono ?_
          rintro e w3 ⟨rfl, hb⟩
          replace s := s.below hb
          replace t := t.below hb
          replace hB := below_then hB hb
          clear hb HF
          have hqi : ¬ (q : Int) < 0 := by omega
          have hqj : ¬ so.length < q := by omega
          by_cases hq0 : 0 < q
          · have hq1 : q - 1 < so.length := by omega
            obtain ⟨bs, os, up, e1, hcp, hip⟩ := s.at hq1
            cases e1
            have HC1 := hide (fun W (hb : Below w3.heap.size w3 W) => Calls.toBelow (compare_any (hip.below hb) (t.below hb)))
            rw [neg_one (sp1 (q - 1) hq1 (by omega))] at HC1
            have hqp : (1 : Int) ≤ (q : Int) := by omega
            by_cases hql : q < so.length
            · obtain ⟨bs', os', uq, e2, hcq, hiq⟩ := s.at hql
              cases e2
              have HC2 := hide (fun W (hb : Below w3.heap.size w3 W) => Calls.toBelow (compare_any (t.below hb) (hiq.below hb)))
              have HCQ := hide (fun W (hb : Below w3.heap.size w3 W) => Below.cell_of hb hcq)
              have hz := sp2 hql
              rw [dif_pos hql] at hat
              have hsw := cmpL_swap tt so[q]
              generalize cmpL so[q] tt = z at *
              generalize cmpL tt so[q] = z' at *
              have hz1 : z' < 1 := by omega
              have hqe : ((q : Int) == (so.length : Int)) = false := by simp; omega
              have hpz : (p == (z' == 0)) = true := by rw [hat]; by_cases h0 : z = 0 <;> simp [h0, hsw] 
              clear hat sp1 sp2 hz hsw hip hiq s t
              go_wp2_with fail
              refine (unhide HC1 _ (Below.refl _ _)).mono ?_
              rintro e w4 ⟨rfl, hb⟩
              have hb4 := hb
              replace hcq := unhide HCQ _ hb4
              clear hb
              go_wp2_with fail
              refine (unhide HC2 _ hb4).mono ?_
              rintro e w5 ⟨rfl, hb⟩
              have hb5 := below_then hb4 hb
              replace hcq := unhide HCQ _ hb5
              clear hb hb4
              go_wp2_with fail
              refine (unhide HC2 _ hb5).mono ?_
              rintro e w6 ⟨rfl, hb⟩
              have hb6 := below_then hb5 hb
              clear hb hb5
              go_wp2
              go_ret
              exact ⟨rfl, below_then hB hb6⟩
            · have hqe : ((q : Int) == (so.length : Int)) = true := by simp; omega
              have hqd : decide (q < so.length) = false := by simpa using hql
              rw [dif_neg hql] at hat
              have hp0 := hat
              clear hat sp1 sp2 hip s t
              subst hp0
              go_wp2_with fail
              refine (unhide HC1 _ (Below.refl _ _)).mono ?_
              rintro e w4 ⟨rfl, hb⟩
              have hb4 := hb
              clear hb
              have hb6 := hb4
              clear hb4
              go_wp2
              go_ret
              exact ⟨rfl, below_then hB hb6⟩
          · have hq0' : decide (0 < q) = false := by simpa using hq0
            by_cases hql : q < so.length
            · obtain ⟨bs', os', uq, e2, hcq, hiq⟩ := s.at hql
              cases e2
              have HC2 := hide (fun W (hb : Below w3.heap.size w3 W) => Calls.toBelow (compare_any (t.below hb) (hiq.below hb)))
              have HCQ := hide (fun W (hb : Below w3.heap.size w3 W) => Below.cell_of hb hcq)
              have hz := sp2 hql
              rw [dif_pos hql] at hat
              have hsw := cmpL_swap tt so[q]
              generalize cmpL so[q] tt = z at *
              generalize cmpL tt so[q] = z' at *
              have hz1 : z' < 1 := by omega
              have hqe : ((q : Int) == (so.length : Int)) = false := by simp; omega
              have hpz : (p == (z' == 0)) = true := by rw [hat]; by_cases h0 : z = 0 <;> simp [h0, hsw]
              clear hat sp1 sp2 hz hsw hiq s t
              have hb4 := Below.refl w3.heap.size w3
              go_wp2_with fail
              refine (unhide HC2 _ hb4).mono ?_
              rintro e w5 ⟨rfl, hb⟩
              have hb5 := below_then hb4 hb
              replace hcq := unhide HCQ _ hb5
              clear hb hb4
              go_wp2_with fail
              refine (unhide HC2 _ hb5).mono ?_
              rintro e w6 ⟨rfl, hb⟩
              have hb6 := below_then hb5 hb
              clear hb hb5
              go_wp2
              go_ret
              exact ⟨rfl, below_then hB hb6⟩
            · have hqe : ((q : Int) == (so.length : Int)) = true := by simp; omega
              have hqd : decide (q < so.length) = false := by simpa using hql
              rw [dif_neg hql] at hat
              have hp0 := hat
              clear hat sp1 sp2 s t
              subst hp0
              have hb4 := Below.refl w3.heap.size w3
              have hb6 := hb4
              clear hb4
              go_wp2
              go_ret
              exact ⟨rfl, below_then hB hb6⟩


set_option maxRecDepth 100000 in
theorem lifted (os : Os) (started : os.Started) (H : Type) (enc : TypeId × Value → H) :
    ReturnsInHanded {} Try.checked os 6 .any (Rows.tupleFindsSpec.pre6 enc Try.prog Try.f6 Rows.tupleFindsRow.domain false) (Rows.tupleFindsSpec.post enc Try.prog Try.f6 false true false false) := by
  refine returnsInHanded_of_change (C := Try.checked) own started (by kernel_rfl) Try.func6
    (ChangeSpec.witness6 (enc := enc) (C := Try.checked) false ⟨#[], #[.slice none 0 0, .slice none 0 0], []⟩ 8 (by kernel_rfl) (by kernel_rfl) (by kernel_rfl) (by kernel_rfl)) ?_
  intro W base args ds gs before hval0 hW hcnd _
  have hval : ∀ (j : Nat) t v, Try.f6.params[j]? = some t → args[j]? = some v → Value.okWide Try.prog W .any base t v := hval0
  have hW' := hW
  obtain ⟨p, q, hA0, hV, rfl, hfz, hnd⟩ := hW
  have hA : DataW.TrodAll enc Try.prog W 0 (fun _ => true) true Try.f6.params.toList args.toList ds p := hA0
  rw [Try.params6] at hA hval
  obtain ⟨v0, vs0, d0, ds0, p0, q0, hargs, rfl, rfl, h0, r0⟩ := trodAll_cons hA
  obtain ⟨v1, vs1, d1, ds1, p1, q1, rfl, rfl, rfl, h1, r1⟩ := trodAll_cons r0
  obtain ⟨rfl, rfl, rfl⟩ := trodAll_nil r1
  obtain rfl : args = #[v0, v1] := by cases args; simp_all
  obtain ⟨rfl, rfl⟩ := trodVars_none hV
  obtain ⟨l0, i0, m0⟩ := read_tups h0 (okWide_slice Try.underlying22 (hval 0 22 v0 rfl rfl))
  have lt0 : ∀ x ∈ p0, x.block < W.heap.size := by obtain ⟨m, hm⟩ := h0; exact DataW.trod_lt m _ _ _ hm
  obtain ⟨l1, i1, m1⟩ := read_ints h1 (okWide_slice Try.underlying23 (hval 1 23 v1 rfl rfl))
  have lt1 : ∀ x ∈ p1, x.block < W.heap.size := by obtain ⟨m, hm⟩ := h1; exact DataW.trod_lt m _ _ _ hm
  clear hA0 hval0
  refine (walk i0 m0 i1 m1).mono fun e W' ⟨he, bel⟩ => ?_
  subst he
  exact ⟨_, rfl, _, _, _, [], _, [], hW', trodAll_mk1 (shut_bool Try.underlying4 _), (trodAll_cons_mk (Below.trod laidOut (by kernel_rfl) (of_decide_eq_true (by kernel_rfl)) h0 bel lt0) (trodAll_cons_mk (Below.trod laidOut (by kernel_rfl) (of_decide_eq_true (by kernel_rfl)) h1 bel lt1) trodAll_mk0)), rfl, bel.frame _, fun h => by cases h⟩

theorem over : Rows.tupleFindsRow.holds Try.pinned (OpenSpec.ofChange Rows.tupleFindsSpec) :=
  OpenClaim.holds_of_wide 6 Try.f6 rfl rfl rfl rfl rfl rfl rfl ⟨rfl, rfl, rfl, rfl, rfl⟩ rfl rfl rfl rfl rfl (by kernel_rfl) Try.func6 (by kernel_rfl)
    (of_decide_eq_true (by kernel_rfl)) (by unfold Func.isWrapper; first | (rw [if_pos (by decide +kernel)]; kernel_rfl) | (rw [if_neg (by decide +kernel)]; exact ⟨rfl, rfl⟩))
    (fun os started H enc _ => lifted os started H enc)

/-- The statement. -/
theorem proved : Rows.TupleFindsSaid := over
#print axioms proved
end Go.Proofs.Ytdpcfjnflpgeiaa.tupleFinds
