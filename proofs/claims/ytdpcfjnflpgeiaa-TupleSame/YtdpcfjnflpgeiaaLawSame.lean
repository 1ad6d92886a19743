/-
  Proved: TupleSame answers true for every list of tuples, and leaves what was handed in as it was. No condition.
-/
import Derived.Test.YtdpcfjnflpgeiaaFrame
import Derived.Test.YtdpcfjnflpgeiaaLawShown
import Derived.Test.YtdpcfjnflpgeiaaTupFew
namespace Go.Proofs.Ytdpcfjnflpgeiaa.tupleSame
open Go.RowKit Go.ChangeShapes Go.WideShapes Go.ChangeAt
set_option linter.unusedVariables false
set_option linter.unusedSimpArgs false
set_option maxRecDepth 20000

theorem few_len (ll : List (List Int)) : (fewL ll).length ≤ 60 := by unfold fewL; simp; omega
theorem few_row {ll : List (List Int)} {t : List Int} (h : t ∈ fewL ll) : t.length ≤ 6 := by
  unfold fewL at h
  obtain ⟨x, _, rfl⟩ := List.mem_map.1 h
  exact List.length_take_le _ _

theorem sort_eq {a b : List (List Int)} (h : ∀ x, x ∈ a ↔ x ∈ b) : sortL a = sortL b := by
  obtain ⟨h1, h2⟩ := sortL_spec a
  obtain ⟨k1, k2⟩ := sortL_spec b
  exact AscL.ext h1 k1 fun x => by rw [h2, k2, h x]

theorem rev_step {ll : List (List Int)} {k : Nat} (hk : k < ll.length) : (ll.drop k).reverse = (ll.drop (k + 1)).reverse ++ [ll[k]] := by
  rw [List.drop_eq_getElem_cons hk, List.reverse_cons]

/-- 'Below' from one world on, so that it is carried as the readings are. -/
structure BelW (W w' : World) : Prop where
  bel : Below W.heap.size W w'
theorem BelW.below {W w w' : World} (h : BelW W w) (hb : Below w.heap.size w w') : BelW W w' := ⟨below_then h.bel hb⟩

set_option maxHeartbeats 16000000 in
theorem walk {l0 : List (List Int)} {v0 : Value} {w : World} (i0 : Tups w v0 l0) (m0 : ∀ l ∈ l0, ∀ n ∈ l, InI64 n) :
    Calls Try.prog 9 #[v0] w fun e w' => e = .returned (.bool true) ∧ Below w.heap.size w w' := by
  clear m0
  have hB := Below.refl w.heap.size w
  obtain ⟨ll, hll⟩ : ∃ ll, ll = fewL l0 := ⟨_, rfl⟩
  have hf1 := few_len l0
  have hf2 : ∀ t ∈ ll, t.length ≤ 6 := fun t ht => few_row (hll ▸ ht)
  rw [← hll] at hf1
  have HLL := hide hll
  have hrw : ∀ t ∈ ll, t.length < 100000000 := fun t ht => by have := hf2 t ht; omega
  have HRW := hide hrw
  have HRW2 := hide (show ∀ t ∈ sortL ll, t.length < 100000000 from fun t ht => hrw t (((sortL_spec ll).2 t).1 ht))
  have HRW3 := hide (show ∀ t ∈ ll.reverse, t.length < 100000000 from fun t ht => hrw t (List.mem_reverse.1 ht))
  have HRW4 := hide (show ∀ t ∈ ll.reverse ++ ll, t.length < 100000000 from fun t ht => by
    rcases List.mem_append.1 ht with h | h
    · exact hrw t (List.mem_reverse.1 h)
    · exact hrw t h)
  have E1 := hide (show sortL (sortL ll) = sortL ll from sort_eq (sortL_spec ll).2)
  have E2 := hide (show sortL ll.reverse = sortL ll from sort_eq fun x => List.mem_reverse)
  have E3 := hide (show sortL (ll.reverse ++ ll) = sortL ll from sort_eq fun x => by simp)
  have hsl := sortL_le ll
  clear hll hf2 hrw
  go_enter Try.func9, Try.ntmps9
  go_wp2_with fail
  refine (shown_any _).mono ?_
  rintro e w163 ⟨rfl, hb⟩
  replace i0 := i0.below hb
  replace hB := below_then hB hb
  clear hb
  go_wp2_with fail
  refine (few_any i0).mono ?_
  rintro e W ⟨v_l, rfl, l, n_l, hb⟩
  replace hB := below_then hB hb
  obtain ⟨a_l, c_l, e_l, f_l, g_l⟩ := l.form
  rw [e_l] at l ⊢
  clear e_l
  clear hb n_l
  clear i0
  rw [← unhide HLL] at l ⊢
  have hW := hB.size
  have L := hide l
  go_wp2
  go_loopw [4, 5] (fun vb si wr => ∃ k : Nat, k ≤ ll.length ∧ si = .int .i64 k ∧ OwnT W.heap.size wr vb (ll.drop k).reverse ∧ Below W.heap.size W wr) (fun _ si _ => (intOf si).toNat)
  case atStart => exact ⟨ll.length, Nat.le_refl _, rfl, by simpa using OwnT.nil W.heap.size W, Below.refl _ _⟩
  case round =>
    obtain ⟨k, hk, rfl, hown, hbel⟩ := hrel
    have hz := hbel.size
    by_cases hk0 : 0 < k
    · have hk1 : k - 1 < ll.length := by omega
      obtain ⟨bl, ol, ul, e1, hcl, hil⟩ := l.at hk1
      subst e1
      obtain ⟨ia, ic, hie, _, _⟩ := hil.form
      rw [hie] at hil hcl
      have HR := hide (rev_step hk1)
      rw [show k - 1 + 1 = k by omega] at HR
      have hcw := Below.cell_of hbel hcl
      have hap := hil.apart hown.new (Nat.le_refl _)
      have hiw := hil.below hbel
      have hkp : (1 : Int) ≤ (k : Int) := by omega
      have hln : (ll.drop k).reverse.length < 100000000000 := by simp; omega
      clear hil hcl l hie
      go_wp2_with (at_builtin; refine wp_app_tup rfl (.tmp 16) (.tmp 22) rfl hown hiw hap rfl hz rfl hln ?_; intro v' w1 hown1 hgrew)
      go_roundw
      case rel => exact ⟨k - 1, by omega, by go_num, by rw [unhide HR]; exact hown1, hbel.trans hgrew.below⟩
      case measure => simp [intOf]; omega
    · have hk0' : k = 0 := by omega
      subst hk0'
      rw [List.drop_zero] at hown
      replace hB := hB.trans (hbel.mono hW)
      replace l := l.below hbel
      go_wp2_with fail
      refine (sort_anyN l (by omega) (unhide HRW)).mono ?_
      rintro e w2 ⟨va, rfl, a, hb⟩
      have hnb : ∀ g, u4.ownBlock = some g → g < wr.heap.size := fun g hg => (hown.new g hg).2
      have hb2 : Below W.heap.size W w2 := hbel.trans (hb.mono hz)
      have hz2 := hb2.size
      replace hb2 : BelW W w2 := ⟨hb2⟩
      replace hown := hown.below hb
      replace hB := below_then hB hb
      clear hb hbel l
      go_wp2_with fail
      refine (sort_any a.tups (by omega) (unhide HRW2)).mono ?_
      rintro e w165 ⟨v_s1, rfl, s1, n_s1, hb⟩
      replace a := a.below hb
      replace hown := hown.below hb
      replace hb2 := hb2.below hb
      replace hB := below_then hB hb
      clear hb n_s1
      rw [unhide E1] at s1
      go_wp2_with fail
      refine (Calls.toBelow (same_any s1 a.tups)).mono ?_
      rintro e w166 ⟨rfl, hb⟩
      replace a := a.below hb
      replace hown := hown.below hb
      replace hb2 := hb2.below hb
      replace hB := below_then hB hb
      clear hb
      rw [decide_eq_true rfl]
      clear s1
      go_wp2_with fail
      refine (sort_any hown.tups (by simp; omega) (unhide HRW3)).mono ?_
      rintro e w167 ⟨v_s2, rfl, s2, n_s2, hb⟩
      replace a := a.below hb
      replace hown := hown.below hb
      replace hb2 := hb2.below hb
      replace hB := below_then hB hb
      clear hb n_s2
      rw [unhide E2] at s2
      go_wp2_with fail
      refine (Calls.toBelow (same_any s2 a.tups)).mono ?_
      rintro e W3 ⟨rfl, hb⟩
      replace a := a.below hb
      replace hown := hown.below hb
      replace hb2 := hb2.below hb
      replace hB := below_then hB hb
      clear hb
      rw [decide_eq_true rfl]
      clear s2
      obtain ⟨vsb, ob, hbl, hbr⟩ := hown
      obtain ⟨vsl, sl, hll, hlr⟩ := unhide L
      have sl3 := sl.below hb2.bel
      have hz3 := hb2.bel.size
      have HONE := hide (show ∀ y, y ∈ vsl → y.oneCell' = true from fun y hy => by obtain ⟨i, hi, rfl⟩ := List.getElem_of_mem hy; exact (hlr i hi (by omega)).one)
      have hlen4 : vsb.length + vsl.length < 100000000000 := by simp at hbl; omega
      have HBR := hide hbr
      have HLR := hide hlr
      have HBL := hide hbl
      have HLL2 := hide hll
      clear hbr hlr hbl hll sl L
      go_wp2_with (at_builtin; refine wp_app_rowsG (by rfl) (.tmp 40) (.tmp 41) rfl ob rfl hz3 sl3 rfl (unhide HONE) hlen4 ?_; intro v' w5 hown5 hgrew)
      have ta := a.grew hgrew hnb
      have hbl := unhide HBL
      have hll := unhide HLL2
      have hW5 : Below W.heap.size W w5 := hb2.bel.trans hgrew.below
      have tv : Tups w5 v' (ll.reverse ++ ll) := by
        refine ⟨vsb ++ vsl, Seq.of_own (enc := id) (B := W.heap.size) (e := 23) (by simpa [OwnV] using hown5), by simp [hll] at *; omega, fun i hi hi' => ?_⟩
        by_cases hiv : i < vsb.length
        · have hil : i < ll.reverse.length := by omega
          rw [List.getElem_append_left hiv, List.getElem_append_left hil]
          have := unhide HBR i hiv hil
          exact this.1.grew hgrew this.2
        · have hvl : i - vsb.length < vsl.length := by simp at hi; omega
          have hll' : i - ll.reverse.length < ll.length := by omega
          rw [List.getElem_append_right (by omega), List.getElem_append_right (by omega)]
          have := (unhide HLR (i - vsb.length) hvl (by omega)).below hW5
          have e : ll[i - ll.reverse.length]'hll' = ll[i - vsb.length]'(by omega) := by congr 1; omega
          rw [e]; exact this
      replace hB := hB.trans (hgrew.below.mono hW)
      clear a hbl hll hb2 hown5 ob sl3 hgrew HBR HLR
      go_wp2_with fail
      refine (sort_any tv (by simp; omega) (unhide HRW4)).mono ?_
      rintro e w169 ⟨v_s3, rfl, s3, n_s3, hb⟩
      replace ta := ta.below hb
      replace hB := below_then hB hb
      clear hb n_s3
      rw [unhide E3] at s3
      go_wp2_with fail
      refine (Calls.toBelow (same_any s3 ta)).mono ?_
      rintro e w170 ⟨rfl, hb⟩
      replace hB := below_then hB hb
      clear hb
      rw [decide_eq_true rfl]
      go_wp2
      go_ret
      exact ⟨rfl, hB⟩

set_option maxRecDepth 100000 in
theorem lifted (os : Os) (started : os.Started) (H : Type) (enc : TypeId × Value → H) :
    ReturnsInHanded {} Try.checked os 9 .any (Rows.tupleSameSpec.pre6 enc Try.prog Try.f9 Rows.tupleSameRow.domain false) (Rows.tupleSameSpec.post enc Try.prog Try.f9 false true false false) := by
  refine returnsInHanded_of_change (C := Try.checked) own started (by kernel_rfl) Try.func9
    (ChangeSpec.witness6 (enc := enc) (C := Try.checked) false ⟨#[], #[.slice none 0 0], []⟩ 8 (by kernel_rfl) (by kernel_rfl) (by kernel_rfl) (by kernel_rfl)) ?_
  intro W base args ds gs before hval0 hW hcnd _
  have hval : ∀ (j : Nat) t v, Try.f9.params[j]? = some t → args[j]? = some v → Value.okWide Try.prog W .any base t v := hval0
  have hW' := hW
  obtain ⟨p, q, hA0, hV, rfl, hfz, hnd⟩ := hW
  have hA : DataW.TrodAll enc Try.prog W 0 (fun _ => true) true Try.f9.params.toList args.toList ds p := hA0
  rw [Try.params9] at hA hval
  obtain ⟨v0, vs0, d0, ds0, p0, q0, hargs, rfl, rfl, h0, r0⟩ := trodAll_cons hA
  obtain ⟨rfl, rfl, rfl⟩ := trodAll_nil r0
  obtain rfl : args = #[v0] := by cases args; simp_all
  obtain ⟨rfl, rfl⟩ := trodVars_none hV
  obtain ⟨l0, i0, m0⟩ := read_tups h0 (okWide_slice Try.underlying22 (hval 0 22 v0 rfl rfl))
  have lt0 : ∀ x ∈ p0, x.block < W.heap.size := by obtain ⟨m, hm⟩ := h0; exact DataW.trod_lt m _ _ _ hm
  clear hA0 hval0
  refine (walk i0 m0).mono fun e W' ⟨he, bel⟩ => ?_
  subst he
  exact ⟨_, rfl, _, _, _, [], _, [], hW', trodAll_mk1 (shut_bool Try.underlying4 _), (trodAll_cons_mk (Below.trod laidOut (by kernel_rfl) (of_decide_eq_true (by kernel_rfl)) h0 bel lt0) trodAll_mk0), rfl, bel.frame _, fun h => by cases h⟩

theorem over : Rows.tupleSameRow.holds Try.pinned (OpenSpec.ofChange Rows.tupleSameSpec) :=
  OpenClaim.holds_of_wide 9 Try.f9 rfl rfl rfl rfl rfl rfl rfl ⟨rfl, rfl, rfl, rfl, rfl⟩ rfl rfl rfl rfl rfl (by kernel_rfl) Try.func9 (by kernel_rfl)
    (of_decide_eq_true (by kernel_rfl)) (by unfold Func.isWrapper; first | (rw [if_pos (by decide +kernel)]; kernel_rfl) | (rw [if_neg (by decide +kernel)]; exact ⟨rfl, rfl⟩))
    (fun os started H enc _ => lifted os started H enc)

/-- The statement. -/
theorem proved : Rows.TupleSameSaid := over
#print axioms proved
end Go.Proofs.Ytdpcfjnflpgeiaa.tupleSame
