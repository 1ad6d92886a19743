/-
  GraphAdds: one edge more makes one part of two, or leaves as many as there were.
-/
import Derived.Test.YtmhaaogjldnceaaDoorFrame8
import Derived.Test.YtmhaaogjldnceaaDoorFrameN
import Derived.Test.YtmhaaogjldnceaaDoorGRefG
import Derived.Test.YtmhaaogjldnceaaDoorGAdds
namespace Go.Proofs.YtmhaaogjldnceaaDoor.graphAdds
open Go.RowKit Go.ChangeShapes Go.WideShapes Go.ChangeAt
set_option linter.unusedVariables false
set_option linter.unusedSimpArgs false
set_option maxRecDepth 20000

set_option maxHeartbeats 2000000 in
theorem walk {l0 : Int} {v0 : Value} {l1 : List (List Int)} {v1 : Value} {l2 : Int} {v2 : Value} {l3 : Int} {v3 : Value} {w : World} (hT : TabD w) (i0 : v0 = .int .i64 l0) (m0 : InI64 l0) (i1 : Tups w v1 l1) (m1 : ∀ l ∈ l1, ∀ n ∈ l, InI64 n)
    (i2 : v2 = .int .i64 l2) (m2 : InI64 l2) (i3 : v3 = .int .i64 l3) (m3 : InI64 l3) :
    Calls Tryd.prog 10 #[v0, v1, v2, v3] w fun e w' => e = .returned (.bool true) ∧ Below w.heap.size w w' := by
  subst i0 i2 i3
  clear m0 m1 m2 m3
  have HT := hide (fun W (hb : Below w.heap.size w W) => hT.below hb)
  have HI := hide (fun W (hb : Below w.heap.size w W) => i1.below hb)
  have HSH := hide (shown8_any hT)
  obtain ⟨a0, c0, rfl, hl0, hc0⟩ := i1.form
  clear hT i1
  go_enter Tryd.func10, Tryd.ntmps10
  go_wp2_with fail
  refine (unhide HSH).mono ?_
  rintro e w1 ⟨rfl, hb1⟩
  have HB1 := hide hb1
  have HMD := hide (made_any (n := l0) (unhide HI w1 hb1))
  have hz1 := hb1.size
  clear hb1 HSH HI
  go_wp2_with fail
  refine (unhide HMD).mono ?_
  rintro e w2 ⟨u, M, bs, rfl, hM2, hok, hMl, hb2⟩
  have hN := rndN_lt (x := l0) (n := 13) (by decide)
  rw [← hMl] at hN
  have HRG := hide (refGraph_any hM2 (by omega))
  have HG := hide (graphR_right hok (by omega))
  have hGl := graphR_len M
  obtain ⟨au, cu, rfl, hul, hum⟩ := hM2.form
  unfold maxLen at hum
  have HB2 := hide ((unhide HB1).trans (hb2.mono hz1))
  have hz2 := (unhide HB2).size
  clear hM2 hok hMl hb2 HMD HB1
  generalize M.length = N at *
  by_cases hN0 : N = 0
  · subst hN0
    go_wp2
    go_ret
    exact ⟨rfl, unhide HB2⟩
  · have hne : ((N : Int) == 0) = false := by simp; omega
    have hA := rndN_lt (x := l2) (n := N) (by omega)
    have hB := rndN_lt (x := l3) (n := N) (by omega)
    have eA := rndN_eq (x := l2) (n := N) (by omega)
    have eB := rndN_eq (x := l3) (n := N) (by omega)
    generalize rndN l2 N = A at *
    generalize rndN l3 N = B at *
    go_wp2_with fail
    refine (unhide HRG).mono ?_
    rintro e w3 ⟨x, rfl, hown3, hb3⟩
    generalize graphR M = G at *
    subst hGl
    obtain ⟨ax, cx, rfl, _, _⟩ := (Seq.of_own hown3).form
    unfold maxLen at *
    have hb4 : Below w3.heap.size w3 (w3.alloc (.cells #[.slice ax G.length cx] 25)) := (Below.refl _ _).alloc (Nat.le_refl _) _
    obtain ⟨W3, hW3⟩ : ∃ W, W = w3.alloc (.cells #[.slice ax G.length cx] 25) := ⟨_, rfl⟩
    have hbx := BoxG.new w3 (.slice ax G.length cx)
    have hz3 : W3.heap.size = w3.heap.size + 1 := by rw [hW3]; simp
    rw [← hW3] at hb4 hbx
    have hg3 := (Seq.of_own hown3).below hb4
    have HGW := hide (fun W (hb : Below W3.heap.size W3 W) => hg3.below hb)
    have HC := hide (fun W (hb : Below W3.heap.size W3 W) => (hbx.below hb (by omega)).cell)
    have HB3 := hide ((unhide HB2).trans ((hb3.trans (hb4.mono hb3.size)).mono hz2))
    have hw3 := (unhide HB3).size
    have HT3 := hide (fun W (hb : Below W3.heap.size W3 W) => unhide HT W ((unhide HB3).trans (hb.mono hw3)))
    have HW3 := hide hW3
    have hn64 : G.length ≤ 64 := by omega
    have HP4 := hide (parts_any (unhide HGW _ (Below.refl _ _)) (unhide HG) (unhide HT3 _ (Below.refl _ _)))
    have y0 := unhide HC _ (Below.refl _ _)
    have HAD := hide (adds_len (unhide HG) (a := A) (b := B) (by omega) (by omega))
    have HBP := hide (both_part (unhide HG) (a := A) (b := B) (by omega))
    clear hown3 hb3 hb4 hW3 hbx hg3 HRG HB2 HT
    go_wp2_with fail
    rw [← unhide HW3]
    refine (unhide HP4).mono ?_
    rintro e w4 ⟨vp, rfl, ho4, hb4⟩
    have htp := ho4.tups
    obtain ⟨ap, cp, rfl, hpl, hpc⟩ := htp.form
    unfold maxLen at hpc
    have HTP := hide (fun W (hb : Below w4.heap.size w4 W) => htp.below hb)
    have HB4 := hide hb4
    have y4 := unhide HC _ hb4
    have HJ := hide (join_any (a := (A : Int)) (b := (B : Int)) (unhide HGW _ hb4) hn64 (unhide HG).w64)
    have hz4 := hb4.size
    clear ho4 htp hb4 HP4 y0 HW3
    go_wp2_with fail
    refine (unhide HJ).mono ?_
    rintro e w5 ⟨y, rfl, hown5, hb5⟩
    have hB5 := (unhide HB4).trans (hb5.mono hz4)
    have HP5 := hide (parts_any (Seq.of_own hown5) (right_join (unhide HG) _) (unhide HT3 _ hB5))
    have HTP5 := hide (fun W (hb : Below w5.heap.size w5 W) => unhide HTP W (hb5.trans (hb.mono hb5.size)))
    have HB5 := hide hB5
    clear hown5 hb5 hB5 HJ HTP y4
    go_wp2_with fail
    refine (unhide HP5).mono ?_
    rintro e w6 ⟨vq, rfl, ho6, hb6⟩
    obtain ⟨aq, cq, rfl, hql, hqc⟩ := ho6.tups.form
    have htp := unhide HTP5 _ hb6
    have HB6 := hide ((unhide HB3).trans (((unhide HB5).trans (hb6.mono (unhide HB5).size)).mono hw3))
    have hpn : (partsL G).length ≤ G.length := partsUp_len _ _
    have HTP := hide htp
    clear ho6 hb6 HP5 HTP5 htp HB5 HB4 HB3
    generalize partsL (joinN G [(A : Int), (B : Int)]) = Q at *
    generalize partsL G = P at *
    go_wp2
    go_loop [14, 15] (fun s i => ∃ (k : Nat) (b : Bool), k ≤ P.length ∧ i = .int .i64 k ∧ s = .bool b ∧ Hid (b = true ↔ ∃ (j : Nat) (h : j < P.length), j < k ∧ (A : Int) ∈ P[j] ∧ (B : Int) ∈ P[j])) (fun _ i => P.length - (intOf i).toNat)
    case atStart => exact ⟨0, false, by omega, rfl, rfl, hide (by simp)⟩
    case round =>
      obtain ⟨k, b, hk, rfl, rfl, HS⟩ := hrel
      by_cases hkl : k < P.length
      · obtain ⟨bp, op, ur, e1, q1, hr⟩ := (unhide HTP).at hkl
        subst e1
        obtain ⟨ar, cr, rfl, hrl, hrc⟩ := hr.form
        unfold maxLen at hrc
        obtain ⟨R, hR⟩ : ∃ R, R = P[k] := ⟨_, rfl⟩
        have HNX : Hid (∀ c : Bool, (c = true ↔ ((A : Int) ∈ R ∧ (B : Int) ∈ R)) → ((b || c) = true ↔ ∃ (j : Nat) (h : j < P.length), j < k + 1 ∧ (A : Int) ∈ P[j] ∧ (B : Int) ∈ P[j])) := hide (fun c hc => by
          rw [Bool.or_eq_true, unhide HS, hc, hR]
          constructor
          · rintro (⟨j, h1, h2, h3⟩ | h3)
            · exact ⟨j, h1, by omega, h3⟩
            · exact ⟨k, hkl, by omega, h3⟩
          · rintro ⟨j, h1, h2, h3⟩
            rcases Nat.lt_or_ge j k with h4 | h4
            · exact .inl ⟨j, h1, h4, h3⟩
            · obtain rfl : j = k := by omega
              exact .inr h3)
        rw [← hR] at q1 hr hrl
        have HRI := hide hr
        clear hR hr HS
        go_wp2
        go_loop [16, 17, 18] (fun o t j => ∃ (m : Nat) (b1 b2 : Bool), m ≤ R.length ∧ j = .int .i64 m ∧ o = .bool b1 ∧ t = .bool b2 ∧ Hid (b1 = true ↔ (A : Int) ∈ R.take m) ∧ Hid (b2 = true ↔ (B : Int) ∈ R.take m)) (fun _ _ j => R.length - (intOf j).toNat)
        case atStart => exact ⟨0, false, false, by omega, rfl, rfl, rfl, hide (by simp), hide (by simp)⟩
        case round =>
          obtain ⟨m, b1, b2, hm, rfl, rfl, rfl, H1, H2⟩ := hrel
          by_cases hml : m < R.length
          · obtain ⟨bR, oR, eR, qx⟩ := (unhide HRI).at hml
            subst eR
            have htk := List.take_succ_eq_append_getElem hml
            have N1 := hide (show (b1 || (R[m] == (A : Int))) = true ↔ (A : Int) ∈ R.take (m + 1) by
              rw [htk, List.mem_append, List.mem_singleton, Bool.or_eq_true, unhide H1, beq_iff_eq, eq_comm (a := R[m])])
            have N2 := hide (show (b2 || (R[m] == (B : Int))) = true ↔ (B : Int) ∈ R.take (m + 1) by
              rw [htk, List.mem_append, List.mem_singleton, Bool.or_eq_true, unhide H2, beq_iff_eq, eq_comm (a := R[m])])
            generalize R[m] = r at *
            clear H1 H2 htk
            cases b1 <;> cases b2
            all_goals
              go_wp2
              go_round
              case rel => exact ⟨m + 1, _, _, by omega, by go_num, rfl, rfl, N1, N2⟩
              case measure => simp [intOf]; omega
          · have hmR : R.take m = R := List.take_of_length_le (by omega)
            rw [hmR] at H1 H2
            have HN2 := hide (unhide HNX (b1 && b2) (by rw [Bool.and_eq_true, unhide H1, unhide H2]))
            clear H1 H2 HNX
            cases b <;> cases b1 <;> cases b2
            all_goals
              go_wp2
              go_round
              case rel => exact ⟨k + 1, _, by omega, by go_num, rfl, HN2⟩
              case measure => simp [intOf]; omega
      · have HR : Hid (b = true ↔ Reach G A B) := hide (by
          rw [unhide HS, ← unhide HBP]
          constructor
          · rintro ⟨j, h1, h2, h3⟩
            exact ⟨P[j], List.getElem_mem _, h3⟩
          · rintro ⟨X, hX, h3⟩
            obtain ⟨j, hj, rfl⟩ := List.getElem_of_mem hX
            exact ⟨j, hj, by omega, h3⟩)
        cases b with
        | true =>
          have hlen := (unhide HAD).1 ((unhide HR).1 rfl)
          have HL := hide hlen
          clear HS HBP HAD hlen
          go_wp2
          go_ret
          exact ⟨by rw [unhide HL]; simp, unhide HB6⟩
        | false =>
          have hlen := (unhide HAD).2 (fun h => by have := (unhide HR).2 h; cases this)
          have HL := hide hlen
          clear HS HBP HAD hlen
          go_wp2
          go_ret
          exact ⟨by have := unhide HL; first | (rw [← this]; simp) | (simp; omega), unhide HB6⟩

set_option maxRecDepth 100000 in
theorem lifted (os : Os) (started : os.Started) (H : Type) (enc : TypeId × Value → H) :
    ReturnsInHanded {} Tryd.checked os 10 .any (fun w args => (Rows.graphAddsSpec.pre enc Tryd.prog Tryd.f10 [] false w args ∧ laidMetH Tryd.prog laidIn w) ∧ sizedMet enc Tryd.prog Tryd.f10 (OpenSpec.ofChange Rows.graphAddsSpec) false w args)
      (Rows.graphAddsSpec.post enc Tryd.prog Tryd.f10 false true false false) := by
  refine returnsInHanded_of_change_and (C := Tryd.checked) (X := fun w _ => laidMetH Tryd.prog laidIn w) (fun _ _ _ hh h => h.of_heap hh) own started (by kernel_rfl) Tryd.func10
    (ChangeSpec.witness_shaped (enc := enc) (C := Tryd.checked) (os := os) (X := fun w _ => laidMetH Tryd.prog laidIn w) false (World.doorLaid Tryd.prog doorN os) #[.int .i64 0, .slice none 0 0, .int .i64 0, .int .i64 0] 8 rfl (World.shaped_of_RefB (by kernel_rfl) (by kernel_rfl)) (by kernel_rfl) (by kernel_rfl) (by kernel_rfl) (door_met os _)) ?_
  intro W base args ds gs before hval0 hW _ _ hL _
  have hval : ∀ (j : Nat) t v, Tryd.f10.params[j]? = some t → args[j]? = some v → Value.okWide Tryd.prog W .any base t v := hval0
  have hW' := hW
  obtain ⟨p, q, hA0, hV, rfl, hfz, hnd⟩ := hW
  have hA : DataW.TrodAll enc Tryd.prog W 0 (fun _ => true) true Tryd.f10.params.toList args.toList ds p := hA0
  rw [Tryd.params10] at hA hval
  obtain ⟨v0, vs0, d0, ds0, p0, q0, hargs, rfl, rfl, h0, r0⟩ := trodAll_cons hA
  obtain ⟨v1, vs1, d1, ds1, p1, q1, rfl, rfl, rfl, h1, r1⟩ := trodAll_cons r0
  obtain ⟨v2, vs2, d2, ds2, p2, q2, rfl, rfl, rfl, h2, r2⟩ := trodAll_cons r1
  obtain ⟨v3, vs3, d3, ds3, p3, q3, rfl, rfl, rfl, h3, r3⟩ := trodAll_cons r2
  obtain ⟨rfl, rfl, rfl⟩ := trodAll_nil r3
  obtain rfl : args = #[v0, v1, v2, v3] := by cases args; simp_all
  obtain ⟨rfl, rfl⟩ := trodVars_none hV
  obtain ⟨l0, i0, m0⟩ := read_int h0 (hval 0 3 v0 rfl rfl)
  have lt0 : ∀ x ∈ p0, x.block < W.heap.size := by obtain ⟨m, hm⟩ := h0; exact DataW.trod_lt m _ _ _ hm
  obtain ⟨l1, i1, m1⟩ := read_tups h1 (okWide_slice Tryd.underlying33 (hval 1 33 v1 rfl rfl))
  have lt1 : ∀ x ∈ p1, x.block < W.heap.size := by obtain ⟨m, hm⟩ := h1; exact DataW.trod_lt m _ _ _ hm
  obtain ⟨l2, i2, m2⟩ := read_int h2 (hval 2 3 v2 rfl rfl)
  have lt2 : ∀ x ∈ p2, x.block < W.heap.size := by obtain ⟨m, hm⟩ := h2; exact DataW.trod_lt m _ _ _ hm
  obtain ⟨l3, i3, m3⟩ := read_int h3 (hval 3 3 v3 rfl rfl)
  have lt3 : ∀ x ∈ p3, x.block < W.heap.size := by obtain ⟨m, hm⟩ := h3; exact DataW.trod_lt m _ _ _ hm
  clear hA0 hval0
  refine (walk (tabs_of hL) i0 m0 i1 m1 i2 m2 i3 m3).mono fun e W' ⟨he, bel⟩ => ?_
  subst he
  exact ⟨_, rfl, _, _, _, [], _, [], hW', trodAll_mk1 (shut_bool Tryd.underlying4 _), (trodAll_cons_mk (Below.trod laidOut (by kernel_rfl) (of_decide_eq_true (by kernel_rfl)) h0 bel lt0) (trodAll_cons_mk (Below.trod laidOut (by kernel_rfl) (of_decide_eq_true (by kernel_rfl)) h1 bel lt1) (trodAll_cons_mk (Below.trod laidOut (by kernel_rfl) (of_decide_eq_true (by kernel_rfl)) h2 bel lt2) (trodAll_cons_mk (Below.trod laidOut (by kernel_rfl) (of_decide_eq_true (by kernel_rfl)) h3 bel lt3) trodAll_mk0)))), rfl, bel.frame _, fun h => by cases h⟩

theorem over : Rows.graphAddsRow.holds Tryd.pinned (OpenSpec.ofChange Rows.graphAddsSpec) :=
  OpenClaim.holds_of_wide 10 Tryd.f10 rfl rfl rfl rfl rfl rfl rfl ⟨rfl, rfl, rfl, rfl, rfl⟩ rfl rfl rfl rfl rfl (by kernel_rfl) Tryd.func10 (by kernel_rfl)
    (of_decide_eq_true (by kernel_rfl)) (by unfold Func.isWrapper; first | (rw [if_pos (by decide +kernel)]; kernel_rfl) | (rw [if_neg (by decide +kernel)]; exact ⟨rfl, rfl⟩))
    (fun os started H enc _ => lifted os started H enc)

/-- The statement: the tied card. -/
theorem proved : Rows.GraphAddsCardSaid :=
  Claim7.holds_tied_plain_at .later [] [.data] true (true, "157dde362406d82824f5618f866d1cc9b7096a3b3657dcbd1ee63959cb86c8c6") false
    over (fun _ h => by cases h) (by kernel_rfl) (fun _ h => by cases h) graphAdds_row_tie rfl ⟨rfl, rfl⟩ (by kernel_rfl) rfl
    (fun f fn hf hfn => by
      obtain rfl : f = 10 := Option.some.inj ((show Tryd.prog.funcNamed "arborist/arboristlaw08.GraphAdds" = some 10 by kernel_rfl).symm.trans hf) |>.symm
      obtain rfl : fn = Tryd.f10 := (Option.some.inj (Tryd.func10.symm.trans hfn)).symm
      exact ⟨by kernel_rfl, fun j t ht => by
        rw [Tryd.params10] at ht
        have hm : t ∈ [3, 33, 3, 3] := by simpa using Array.mem_of_getElem? ht
        have hall : ([3, 33, 3, 3].all fun u => !Tryd.prog.wantsStandIn u) = true := by kernel_rfl
        exact (show Tryd.prog.wantsStandIn t = false by simpa using List.all_eq_true.1 hall t hm)⟩)
    (by kernel_rfl)

end Go.Proofs.YtmhaaogjldnceaaDoor.graphAdds
