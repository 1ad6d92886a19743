/-
  Proved: ScanTells answers true for every text, and leaves what was handed in as it was. No condition.
-/
import Derived.Test.YtehoepliiobliaaScanShown
import Derived.Test.YtehoepliiobliaaScanRefA
import Derived.Test.YtehoepliiobliaaSFrame
namespace Go.Proofs.Ytehoepliiobliaa.scanTells
open Go.RowKit Go.ChangeShapes Go.WideShapes Go.ChangeAt
set_option linter.unusedVariables false
set_option linter.unusedSimpArgs false
set_option maxRecDepth 20000

theorem ref_good (s : ByteArray) (l : List Tok) (h : scanA 0 (lb s) = .good l) (hs : s.size ≤ 100000) (w : World) :
    Calls Try.prog 12 #[.string s] w fun e w' => ∃ a c, e = .returned (.tuple #[.slice a l.length c, .int .i64 0, .int .i64 0]) ∧ ToksV w' (.slice a l.length c) l ∧ c ≤ 9223372036854775807 ∧ l.length ≤ c ∧ Below w.heap.size w w' :=
  (refAll_any s w hs).mono fun e w' ⟨he, hb⟩ => by
    rw [h] at he
    obtain ⟨v, he, ht⟩ := he
    obtain ⟨a, c, rfl, h1, h2⟩ := ht.form
    exact ⟨a, c, he, ht, h2, h1, hb⟩

theorem ref_bad (s : ByteArray) (p : Nat) (c : Int) (h : scanA 0 (lb s) = .bad p c) (hs : s.size ≤ 100000) (w : World) :
    Calls Try.prog 12 #[.string s] w fun e w' => e = .returned (.tuple #[.slice none 0 0, .int .i64 (p : Int), .int .i64 c]) ∧ Below w.heap.size w w' :=
  (refAll_any s w hs).mono fun e w' ⟨he, hb⟩ => by
    rw [h] at he
    exact ⟨he, hb⟩

set_option maxHeartbeats 4000000 in
theorem walk {s : ByteArray} {v0 : Value} {w : World} (i0 : v0 = .string s) (m0 : s.size ≤ maxLen) :
    Calls Try.prog 3 #[v0] w fun e w' => e = .returned (.bool true) ∧ Below w.heap.size w w' := by
  subst i0
  unfold maxLen at m0
  obtain ⟨T, hTe⟩ : ∃ T, T = s.extract 0 (min (s.size : Int) 3000).toNat := ⟨_, rfl⟩
  have hT : T.size ≤ 3000 := by rw [hTe, ByteArray.size_extract]; omega
  have HTE := hide hTe
  clear hTe
  go_enter Try.func3, Try.ntmps3
  go_wp2_with fail
  refine (shown_any _).mono ?_
  rintro e w1 ⟨rfl, hb1⟩
  go_wp2_with fail
  rw [← unhide HTE]
  clear HTE
  cases hX : scanA 0 (lb T) with
  | bad p er =>
    refine (all_bad T p er hX (by omega) _).mono ?_
    rintro e w2 ⟨rfl, hb2⟩
    go_wp2_with fail
    refine (ref_bad T p er hX (by omega) _).mono ?_
    rintro e w3 ⟨rfl, hb3⟩
    clear hX
    go_wp2
    go_loop [10] (fun i => i = .int .i64 0) (fun _ => 0)
    case atStart => rfl
    case round =>
      subst hrel
      go_wp2
      go_ret
      exact ⟨rfl, below_then (below_then hb1 hb2) hb3⟩
  | good ts =>
    have htl : ts.length ≤ 3001 := by have := scan_le hX; rw [lb_len] at this; omega
    refine (all_good T ts hX (by omega) _).mono ?_
    rintro e w2 ⟨a, ca, rfl, ht, hc1, hc2, hb2⟩
    go_wp2_with fail
    refine (ref_good T ts hX (by omega) _).mono ?_
    rintro e w3 ⟨a', ca', rfl, ht', hc1', hc2', hb3⟩
    have HX := hide (ht.below hb3)
    have HX' := hide ht'
    have HBB := hide (below_then (below_then hb1 hb2) hb3)
    clear hX ht ht' hb1 hb2 hb3
    go_wp2
    go_loopw [10] (fun i wr => ∃ k m : Nat, k ≤ ts.length ∧ i = .int .i64 k ∧ wr = w3.drewN m) (fun i _ => ts.length - (intOf i).toNat)
    case atStart => exact ⟨0, 0, by omega, rfl, rfl⟩
    case round =>
      obtain ⟨k, m, hk, rfl, rfl⟩ := hrel
      by_cases hlt : k < ts.length
      · obtain ⟨b, off, rfl, c0, c1, c2, c3⟩ := (unhide HX).at (i := k) hlt
        obtain ⟨b', off', rfl, d0, d1, d2, d3⟩ := (unhide HX').at (i := k) hlt
        generalize ts[k].kind = K at *
        generalize (⟨ts[k].text.toArray⟩ : ByteArray) = X at *
        generalize ts[k].n = N at *
        generalize (ts[k].at_ : Int) = A at *
        go_wp2
        go_quiet (fail)
        go_wp2
        go_roundw
        case rel => exact ⟨k + 1, _, by omega, by go_num, by first | rfl | (simp only [World.drewN_drewN]; rfl)⟩
        case measure => simp [intOf]; omega
      · go_wp2
        go_ret
        exact ⟨rfl, Below.drewN1 (unhide HBB) m⟩

set_option maxRecDepth 100000 in
theorem lifted (os : Os) (started : os.Started) (H : Type) (enc : TypeId × Value → H) :
    ReturnsInHanded {} Try.checked os 3 .any (Rows.scanTellsSpec.pre6 enc Try.prog Try.f3 Rows.scanTellsRow.domain false) (Rows.scanTellsSpec.post enc Try.prog Try.f3 false true false false) := by
  refine returnsInHanded_of_change (C := Try.checked) own started (by kernel_rfl) Try.func3
    (ChangeSpec.witness6 (enc := enc) (C := Try.checked) false ⟨#[], #[.string ⟨#[]⟩], []⟩ 8 (by kernel_rfl) (by kernel_rfl) (by kernel_rfl) (by kernel_rfl)) ?_
  intro W base args ds gs before hval0 hW hcnd _
  have hval : ∀ (j : Nat) t v, Try.f3.params[j]? = some t → args[j]? = some v → Value.okWide Try.prog W .any base t v := hval0
  have hW' := hW
  obtain ⟨p, q, hA0, hV, rfl, hfz, hnd⟩ := hW
  have hA : DataW.TrodAll enc Try.prog W 0 (fun _ => true) true Try.f3.params.toList args.toList ds p := hA0
  rw [Try.params3] at hA hval
  obtain ⟨v0, vs0, d0, ds0, p0, q0, hargs, rfl, rfl, h0, r0⟩ := trodAll_cons hA
  obtain ⟨rfl, rfl, rfl⟩ := trodAll_nil r0
  obtain rfl : args = #[v0] := by cases args; simp_all
  obtain ⟨rfl, rfl⟩ := trodVars_none hV
  obtain ⟨l0, i0, m0⟩ := read_string h0 (hval 0 9 v0 rfl rfl)
  have lt0 : ∀ x ∈ p0, x.block < W.heap.size := by obtain ⟨m, hm⟩ := h0; exact DataW.trod_lt m _ _ _ hm
  clear hA0 hval0
  refine (walk i0 m0).mono fun e W' ⟨he, bel⟩ => ?_
  subst he
  exact ⟨_, rfl, _, _, _, [], _, [], hW', trodAll_mk1 (shut_bool Try.underlying4 _), (trodAll_cons_mk (Below.trod laidOut (by kernel_rfl) (of_decide_eq_true (by kernel_rfl)) h0 bel lt0) trodAll_mk0), rfl, bel.frame _, fun h => by cases h⟩

theorem over : Rows.scanTellsRow.holds Try.pinned (OpenSpec.ofChange Rows.scanTellsSpec) :=
  OpenClaim.holds_of_wide 3 Try.f3 rfl rfl rfl rfl rfl rfl rfl ⟨rfl, rfl, rfl, rfl, rfl⟩ rfl rfl rfl rfl rfl (by kernel_rfl) Try.func3 (by kernel_rfl)
    (of_decide_eq_true (by kernel_rfl)) (by unfold Func.isWrapper; first | (rw [if_pos (by decide +kernel)]; kernel_rfl) | (rw [if_neg (by decide +kernel)]; exact ⟨rfl, rfl⟩))
    (fun os started H enc _ => lifted os started H enc)

/-- The statement. -/
theorem proved : Rows.ScanTellsSaid := over

#print axioms proved
end Go.Proofs.Ytehoepliiobliaa.scanTells
