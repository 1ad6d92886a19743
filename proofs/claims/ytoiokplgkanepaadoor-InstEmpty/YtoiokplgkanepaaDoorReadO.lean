/-
  Reading tokens: the contract of soft.
-/
import Derived.Test.YtoiokplgkanepaaDoorReadN
namespace Go.Proofs.YtoiokplgkanepaaDoor
open Go.RowKit
set_option linter.unusedVariables false
set_option linter.unusedSimpArgs false
set_option maxRecDepth 20000

def softX (D : List (List Int)) (scope : List Int) (d : Int) (f : Nat) (rows : List (List Int)) (costs : List Int) (ts : List Tok) : Res Sft := (softF D scope f rows costs ts).bind (softT scope d)

set_option maxHeartbeats 1000000 in
theorem soft_any {w0 : World} {R : Nat} {w : World} {ts : List Tok} {dv hv sv : Value} {D : List (List Int)} (h : Rd w0 R w ts dv hv sv) (hf : Fair ts) (hD : TupsO (· = R) w dv D) (hN : ts.length ≤ 1000000) :
    Calls Tryd.prog 37 #[.pointer (some ⟨R, 0, none⟩)] w (REnds (SftV w.heap.size) w0 R w dv hv sv (softR D ts)) := by
  have hlt := h.lt
  have hne : ¬ R = w.heap.size := by omega
  obtain ⟨X, hX⟩ : ∃ X, X = softR D ts := ⟨_, rfl⟩
  rw [← hX]
  unfold softR at hX
  obtain ⟨da, dc, rfl, hdl, hdc⟩ := hD.form
  unfold maxLen at hdc
  have X0 := hide (BoxK.new 57 w (.slice none 0 0) (.slice none 0 0) (.slice none 0 0) (.int .i64 0))
  have h1 := h.push (.cells #[.slice none 0 0, .slice none 0 0, .slice none 0 0, .int .i64 0] 57)
  have HG0 := hide (World.grownBy_alloc w (.cells #[.slice none 0 0, .slice none 0 0, .slice none 0 0, .int .i64 0] 57) (some R))
  have HS := hide (scope_any h1 hf (by omega))
  have HD : Hid (∀ w', w.grownBy w' (some R) → TupsO (· = R) w' (.slice da D.length dc) D) := hide (fun w' g => hD.kept g (fun b e => by cases e; rfl))
  cases hs : scopeR D.length ts with
  | fault p c =>
    rw [hs] at HS hX
    have HX2 := hide hX
    clear h hf hD hX h1 hs
    go_enter Tryd.func37, Tryd.ntmps37
    go_wp2_with fail
    refine (unhide HS).mono ?_
    rintro e w1 ⟨hg1, rfl⟩
    exact ⟨rfl, ends_no (unhide HX2) (grown_then (unhide HG0) hg1 (fun b e => .inr e))⟩
  | ok scope r =>
    rw [hs] at HS
    rw [hs, ok_bind] at hX
    obtain ⟨hf2, hl2, hok⟩ := hf.scope hs
    have HF2 := hide hf2
    have HOK := hide hok
    have HX1 := hide hX
    have hsl := hok.le
    clear h hf hD hX h1 hs hf2 hok
    go_enter Tryd.func37, Tryd.ntmps37
    go_wp2_with fail
    refine (unhide HS).mono ?_
    rintro e w1 ⟨hg1, v, rfl, hi1, hr1⟩
    obtain ⟨sa, sc, rfl, hscl, hscc⟩ := hi1.1.form
    unfold maxLen at hscc
    have hg2 := grown_then (unhide HG0) hg1 (fun b e => .inr e)
    have hw1 : w.heap.size < w1.heap.size := by have := hg1.size; simp at this; omega
    have hi2 : IntsO (fun g => g < w.heap.size + 1 ∨ w1.heap.size ≤ g) w1 (.slice sa scope.length sc) scope := hi1.weaken (fun g hg h => by
      show g < (w.alloc _).heap.size
      simp
      rcases h with h | h <;> omega)
    have hst : SofSt w0 R w (.slice da D.length dc) hv sv w1.heap.size (.slice sa scope.length sc) scope 0 (w1.alloc (.cells #[.slice sa scope.length sc, .slice none 0 0, .slice none 0 0, .int .i64 0] 57)) [] [] r (.slice none 0 0) (.slice none 0 0) :=
      ⟨BoxK.new _ _ _ _ _ _, ((unhide X0).keep hg1 (by simpa using hne)).push _, hi2.kept (World.grownBy_alloc w1 _ none) (by simp), OwnTU.nil _ _ _, World.ownsRow_nil _ _ _ _, hr1.push _, grown_then hg2 (World.grownBy_alloc w1 _ none) (by simp), hlt, hw1⟩
    have HST := hide hst
    have HSG := hide (sign1_any [58] hst.rd (unhide HF2))
    simp only [World.size_alloc] at HSG
    clear hst hg1 hg2 hi1 hi2 hr1
    go_wp2_with fail
    refine (unhide HSG).mono ?_
    have hX := unhide HX1
    cases hs : signR [colon] r with
    | fault p e =>
      rw [hs] at hX
      have HX2 := hide hX
      clear hX hs
      rintro e w3 ⟨hg4, rfl⟩
      exact ⟨rfl, ends_no (unhide HX2) (grown_then (unhide HST).gr hg4 (fun b e => .inr e))⟩
    | ok s r2 =>
      rw [hs, ok_bind] at hX
      obtain ⟨hf3, hl3⟩ := (unhide HF2).sign hs
      have HX2 := hide hX
      have HF3 := hide hf3
      clear hX hs hf3
      rintro e w3 ⟨hg4, _, rfl, rfl, hr3⟩
      have hs3 := (unhide HST).kept hg4 hr3
      have HS3 := hide hs3
      have HNU := hide (numb_any hs3.rd (unhide HF3).ne)
      generalize w1.heap.size = sb at *
      clear hs3 hg4 hr3 HST HSG
      go_wp2_with fail
      refine (unhide HNU).mono ?_
      have hX := unhide HX2
      cases hn : numberR r2 with
      | fault p e =>
        rw [hn] at hX
        have HX3 := hide hX
        clear hX hn
        rintro e w4 ⟨hg5, rfl⟩
        exact ⟨rfl, ends_no (unhide HX3) (grown_then (unhide HS3).gr hg5 (fun b e => .inr e))⟩
      | ok t r3 =>
        rw [hn, ok_bind] at hX
        obtain ⟨hf4, hl4, hb1, hb2⟩ := (unhide HF3).number hn
        have HX3 : Hid (X = softX D scope t.n (r3.length + 1) [] [] r3) := hide hX
        have HF4 := hide hf4
        clear hX hn hf4
        rintro e w4 ⟨hg5, _, rfl, rfl, hr4⟩
        have hs4 := (unhide HS3).kept hg5 hr4
        have e3 := hs4.box.cell3
        have ef := hs4.box.frozen 3
        have hF2 := tok_f2 t.kind t.n (t.at_ : Int) ⟨t.text.toArray⟩
        have hle := hs4.le
        have hs5 : SofSt w0 R w (.slice da D.length dc) hv sv sb (.slice sa scope.length sc) scope t.n (w4.setCell ⟨sb, 3, none⟩ (.int .i64 t.n)) [] [] r3 (.slice none 0 0) (.slice none 0 0) :=
          ⟨hs4.box.set3 _, hs4.res.keep (grown_set _ _ _ _) (by simp; omega), hs4.sco.kept (grown_set _ _ _ _) (fun b e => by cases e; exact .inr (Nat.le_refl _)), OwnTU.nil _ _ _, World.ownsRow_nil _ _ _ _, hs4.rd.grown (grown_set _ _ _ _) (fun b e => by cases e; exact .inr (by omega)), grown_then hs4.gr (grown_set _ _ _ _) (fun b e => by cases e; exact .inl (by omega)), hlt, hle⟩
        have HS5 := hide hs5
        clear hs4 hs5 hg5 hr4 HS3 HNU HX1 HX2
        unfold tokV
        go_wp2
        obtain ⟨N, hNN⟩ : ∃ N, N = r3.length := ⟨_, rfl⟩
        have HNN := hide hNN
        have hNl : N ≤ 1000000 := by omega
        clear hNN e3 ef hF2
        generalize hdd : t.n = d at *
        clear hdd
        go_loopw [] (fun wr => ∃ (rows : List (List Int)) (costs : List Int) (ts : List Tok) (f : Nat) (xr xc : Value), SofSt w0 R w (.slice da D.length dc) hv sv sb (.slice sa scope.length sc) scope d wr rows costs ts xr xc ∧ Fair ts ∧ ts.length < f ∧ rows.length + ts.length ≤ N ∧ costs.length + ts.length ≤ N ∧ Hid (X = softX D scope d f rows costs ts)) (fun wr => N - lenOf ((wr.cell? ⟨sb, 1, none⟩).getD undef))
        case atStart => exact ⟨[], [], r3, r3.length + 1, _, _, unhide HS5, unhide HF4, Nat.lt_succ_self _, by rw [unhide HNN]; simp, by rw [unhide HNN]; simp, HX3⟩
        case round =>
          clear HX3 HF4 HS5 HNN
          obtain ⟨rows, costs, ts, f, xr, xc, hst, hf, hfu, hal1, hal2, HX⟩ := hrel
          rename World => wr
          obtain ⟨g, rfl⟩ : ∃ g, f = g + 1 := ⟨f - 1, by omega⟩
          obtain ⟨ra, rc, rfl, hrl, hrc⟩ := hst.own1.tf.fresh.form
          obtain ⟨ca, cc, rfl, hcl, hcc⟩ := (ownL_fresh hst.own2).1.form
          unfold maxLen at hrc hcc
          have hX := HX.out
          rw [softX, softF] at hX
          have HSG := hide (sign2_any [44] [59] hst.rd hf)
          have HST := hide hst
          have HF := hide hf
          have HXX := hide hX
          clear HX hX hst hf
          go_wp2_with fail
          refine (unhide HSG).mono ?_
          have hX := unhide HXX
          cases hs : signR [comma, semi] ts with
          | fault p e =>
            rw [hs] at hX
            have HX2 := hide hX
            clear hX hs
            rintro e w5 ⟨hg5, rfl⟩
            exact ⟨rfl, ends_no (unhide HX2) (grown_then (unhide HST).gr hg5 (fun b e => .inr e))⟩
          | ok s r4 =>
            rw [hs, ok_bind] at hX
            obtain ⟨hf4, hl4⟩ := (unhide HF).sign hs
            by_cases hm : s = [44]
            · have hq := str_eq hm
              rw [if_pos hm] at hX
              have HX2 := hide hX
              have HF4 := hide hf4
              clear hX hs hf4 hm HXX
              rintro e w5 ⟨hg5, _, rfl, rfl, hr5⟩
              have hs5 := (unhide HST).kept hg5 hr5
              have hs6 := hs5.below (Below.drewN w5 1)
              have HS6 := hide hs6
              have hS0 : w5.drew.cell? ⟨sb, 1, none⟩ = some (.slice ra rows.length rc) ∧ w5.drew.cell? ⟨sb, 0, none⟩ = some (.slice sa scope.length sc) := ⟨hs6.box.cell1, hs6.box.cell0⟩
              have hle := hs5.le
              have HRW := hide (row_any hs6.rd (unhide HF4) (unhide HD _ hs6.gr) (hs6.sco.weaken (fun g _ h => .inl (by have : g = R := h; omega))) (hs6.own1.tf.offR (by omega)) (unhide HOK).inr hsl)
              unfold strE
              clear hs5 hs6 hg5 hr5
              go_wp2
              refine wp_region_till (st := 11) (S := fun U => U.cell? ⟨sb, 1, none⟩ = some (.slice ra rows.length rc) ∧ U.cell? ⟨sb, 0, none⟩ = some (.slice sa scope.length sc)) (by kernel_rfl) ?_
              refine till_take (i := 0) (v := ?_) rfl (by kernel_rfl) (by kernel_rfl) (by kernel_rfl) (by kernel_rfl) (fun _ _ _ h => h) (Or.inl ⟨by kernel_rfl, ?_⟩) (by assumption) ?_
              rotate_left
              · intro W hSW; obtain ⟨hS1, hS2⟩ := hSW; go_simp; first | done | rfl
              simp only [Act.put, List.setIfInBounds_toArray, List.set_cons_zero, List.set_cons_succ]
              refine till_take (i := 1) (v := ?_) rfl (by kernel_rfl) (by kernel_rfl) (by kernel_rfl) (by kernel_rfl) (fun _ _ _ h => h) (Or.inl ⟨by kernel_rfl, ?_⟩) (by assumption) ?_
              rotate_left
              · intro W hSW; obtain ⟨hS1, hS2⟩ := hSW; go_simp; first | done | rfl
              simp only [Act.put, List.setIfInBounds_toArray, List.set_cons_zero, List.set_cons_succ]
              refine till_take (i := 2) (v := ?_) rfl (by kernel_rfl) (by kernel_rfl) (by kernel_rfl) (by kernel_rfl) (fun _ _ _ h => h) (Or.inl ⟨by kernel_rfl, ?_⟩) (by assumption) ?_
              rotate_left
              · intro W hSW; obtain ⟨hS1, hS2⟩ := hSW; go_simp; first | done | rfl
              simp only [Act.put, List.setIfInBounds_toArray, List.set_cons_zero, List.set_cons_succ]
              refine till_take (i := 3) (v := ?_) rfl (by kernel_rfl) (by kernel_rfl) (by kernel_rfl) (by kernel_rfl) (fun _ _ _ h => h) (Or.inl ⟨by kernel_rfl, ?_⟩) (by assumption) ?_
              rotate_left
              · intro W hSW; obtain ⟨hS1, hS2⟩ := hSW; go_simp; first | done | rfl
              simp only [Act.put, List.setIfInBounds_toArray, List.set_cons_zero, List.set_cons_succ]
              refine till_take (i := 4) (v := ?_) rfl (by kernel_rfl) (by kernel_rfl) (by kernel_rfl) (by kernel_rfl) (fun _ _ _ h => h) (Or.inl ⟨by kernel_rfl, ?_⟩) (by assumption) ?_
              rotate_left
              · intro W hSW; obtain ⟨hS1, hS2⟩ := hSW; go_simp; first | done | rfl
              simp only [Act.put, List.setIfInBounds_toArray, List.set_cons_zero, List.set_cons_succ]
              refine till_take (i := 5) (v := ?_) rfl (by kernel_rfl) (by kernel_rfl) (by kernel_rfl) (by kernel_rfl) (fun _ _ _ h => h) (Or.inl ⟨by kernel_rfl, ?_⟩) (by assumption) ?_
              rotate_left
              · intro W hSW; obtain ⟨hS1, hS2⟩ := hSW; go_simp; first | done | rfl
              simp only [Act.put, List.setIfInBounds_toArray, List.set_cons_zero, List.set_cons_succ]
              refine till_take (i := 6) (v := ?_) rfl (by kernel_rfl) (by kernel_rfl) (by kernel_rfl) (by kernel_rfl) (fun _ _ _ h => h) (Or.inl ⟨by kernel_rfl, ?_⟩) (by assumption) ?_
              rotate_left
              · intro W hSW; obtain ⟨hS1, hS2⟩ := hSW; go_simp; first | done | rfl
              simp only [Act.put, List.setIfInBounds_toArray, List.set_cons_zero, List.set_cons_succ]
              refine till_one (i := 7) (by kernel_rfl) rfl rfl (by decide) (fun K hK => ?_)
              go_simp
              refine (unhide HRW).mono ?_
              have hX2 := unhide HX2
              cases hv2 : rowR D scope rows r4 with
              | fault p e =>
                rw [hv2] at hX2
                have HX3 := hide hX2
                clear hX2 hv2
                rintro e w6 ⟨hg6, rfl⟩
                exact ⟨rfl, ends_no (unhide HX3) (grown_then (unhide HS6).gr hg6 (fun b e => .inr e))⟩
              | ok row r5 =>
                rw [hv2, ok_bind] at hX2
                obtain ⟨hf5, hl5⟩ := (unhide HF4).row hv2
                have HF5 := hide hf5
                have HX3 := hide hX2
                clear hv2 hf5 hX2
                rintro e w6 ⟨hg6, u, rfl, hu, hr6⟩
                have hs7 := (unhide HS6).kept hg6 hr6
                have hS6 : w6.cell? ⟨sb, 1, none⟩ = some (.slice ra rows.length rc) ∧ w6.cell? ⟨sb, 0, none⟩ = some (.slice sa scope.length sc) := ⟨hs7.box.cell1, hs7.box.cell0⟩
                have hz5 : sb + 1 ≤ w5.heap.size := by have := (unhide HS6).box.lt; simp at this; omega
                have hn1 := (unhide HS6).own1.tf.new
                have hn2 := New.of_own (unhide HS6).own2
                have hu' : IntsO (fun g => (g < sb + 1 ∨ (Value.slice ra rows.length rc).ownBlock = some g) ∨ (Value.slice ca costs.length cc).ownBlock = some g) w6 u row := hu.weaken (fun k _ hy => by
                  show k < w5.heap.size
                  rcases hy with (h | h) | h
                  · omega
                  · exact (hn1 k h).2
                  · exact (hn2 k h).2)
                obtain ⟨ua, uc, rfl, _, _⟩ := hu.1.form
                refine hK.out _ _ hS6 (fun hHeld => ?_)
                clear hK K
                try simp only [Act.put, List.setIfInBounds_toArray, List.set_cons_zero, List.set_cons_succ]
                refine till_one (i := 8) (by kernel_rfl) rfl rfl (by decide) (fun K hK => ?_)
                go_simp
                refine hK.out _ _ ⟨cell_push0 hS6.1 _, cell_push0 hS6.2 _⟩ (fun hHeld => ?_)
                clear hK K
                try simp only [Act.put, List.setIfInBounds_toArray, List.set_cons_zero, List.set_cons_succ]
                refine till_one (i := 9) (by kernel_rfl) rfl rfl (by decide) (fun K hK => ?_)
                have hz6 : sb + 1 ≤ w6.heap.size := by have := hs7.box.lt; omega
                refine op_app_rowU (.tmp 19) (.tmp 26) rfl (B := sb + 1) (w := w6) hs7.own1 hu' rfl hz6 rfl (by omega) ?_
                intro xr7 w7 hown7 hgrew7
                have hs8 := hs7.addR hown7 hgrew7
                obtain ⟨ra7, rc7, rfl, _, _⟩ := hown7.tf.fresh.form
                have bx7 := hs7.box.grew hgrew7 (fun e => by have := hs7.own1.tf.new _ e; omega)
                have k1 := bx7.cell1
                have k0 := bx7.cell0
                have kf := bx7.frozen 1
                refine hK.out _ _ ⟨k1, k0⟩ (fun hHeld => ?_)
                clear hK K
                try simp only [Act.put, List.setIfInBounds_toArray, List.set_cons_zero, List.set_cons_succ]
                refine till_one (i := 10) (by kernel_rfl) rfl rfl (by decide) (fun K hK => ?_)
                go_simp
                refine hK.out _ _ ⟨k1, k0⟩ (fun hHeld => ?_)
                clear hK K
                try simp only [Act.put, List.setIfInBounds_toArray, List.set_cons_zero, List.set_cons_succ]
                refine till_last (by kernel_rfl) rfl rfl (by kernel_rfl) (fun K hK => ?_)
                go_simp
                refine hK.out _ _ ?_
                clear hK K hHeld k1 k0 kf bx7 hown7 hgrew7 hs7 hS6 hr6 hg6 HRW HS6 hS0 hu hu' hn1 hn2
                have HS8 := hide hs8
                simp only [List.length_append, List.length_cons, List.length_nil, Nat.zero_add] at HS8
                clear hs8
                generalize w7.setCell ⟨sb, 1, none⟩ (.slice ra7 (rows.length + 1) rc7) = W8 at *
                have hs9 := (unhide HS8).below (Below.drewN W8 1)
                have HS9 := hide hs9
                have hS0 : W8.drew.cell? ⟨sb, 2, none⟩ = some (.slice ca costs.length cc) ∧ True := ⟨hs9.box.cell2, trivial⟩
                have HNU := hide (numb_any hs9.rd (unhide HF5).ne)
                clear hs9
                go_wp2
                refine wp_region_till (st := 8) (S := fun U => U.cell? ⟨sb, 2, none⟩ = some (.slice ca costs.length cc) ∧ True) (by kernel_rfl) ?_
                refine till_take (i := 0) (v := ?_) rfl (by kernel_rfl) (by kernel_rfl) (by kernel_rfl) (by kernel_rfl) (fun _ _ _ h => h) (Or.inl ⟨by kernel_rfl, ?_⟩) (by assumption) ?_
                rotate_left
                · intro W hSW; obtain ⟨hS1, _⟩ := hSW; go_simp; first | done | rfl
                simp only [Act.put, List.setIfInBounds_toArray, List.set_cons_zero, List.set_cons_succ]
                refine till_take (i := 1) (v := ?_) rfl (by kernel_rfl) (by kernel_rfl) (by kernel_rfl) (by kernel_rfl) (fun _ _ _ h => h) (Or.inl ⟨by kernel_rfl, ?_⟩) (by assumption) ?_
                rotate_left
                · intro W hSW; obtain ⟨hS1, _⟩ := hSW; go_simp; first | done | rfl
                simp only [Act.put, List.setIfInBounds_toArray, List.set_cons_zero, List.set_cons_succ]
                refine till_take (i := 2) (v := ?_) rfl (by kernel_rfl) (by kernel_rfl) (by kernel_rfl) (by kernel_rfl) (fun _ _ _ h => h) (Or.inl ⟨by kernel_rfl, ?_⟩) (by assumption) ?_
                rotate_left
                · intro W hSW; obtain ⟨hS1, _⟩ := hSW; go_simp; first | done | rfl
                simp only [Act.put, List.setIfInBounds_toArray, List.set_cons_zero, List.set_cons_succ]
                refine till_one (i := 3) (by kernel_rfl) rfl rfl (by decide) (fun K hK => ?_)
                go_simp
                refine (unhide HNU).mono ?_
                have hX3 := unhide HX3
                cases hn : numberR r5 with
                | fault p e =>
                  rw [hn] at hX3
                  have HX4 := hide hX3
                  clear hX3 hn
                  rintro e w9 ⟨hg9, rfl⟩
                  exact ⟨rfl, ends_no (unhide HX4) (grown_then (unhide HS9).gr hg9 (fun b e => .inr e))⟩
                | ok t2 r6 =>
                  rw [hn, ok_bind] at hX3
                  obtain ⟨hf6, hl6, _⟩ := (unhide HF5).number hn
                  have HX4 : Hid (X = softX D scope d g (rows ++ [row]) (costs ++ [t2.n]) r6) := hide hX3
                  have HF6 := hide hf6
                  clear hX3 hn hf6
                  rintro e w9 ⟨hg9, _, rfl, rfl, hr9⟩
                  have hs10 := (unhide HS9).kept hg9 hr9
                  have hS9 : w9.cell? ⟨sb, 2, none⟩ = some (.slice ca costs.length cc) ∧ True := ⟨hs10.box.cell2, trivial⟩
                  refine hK.out _ _ hS9 (fun hHeld => ?_)
                  clear hK K
                  unfold tokV
                  have hF2 := tok_f2 t2.kind t2.n (t2.at_ : Int) ⟨t2.text.toArray⟩
                  try simp only [Act.put, List.setIfInBounds_toArray, List.set_cons_zero, List.set_cons_succ]
                  refine till_one (i := 4) (by kernel_rfl) rfl rfl (by decide) (fun K hK => ?_)
                  go_simp
                  refine hK.out _ _ hS9 (fun hHeld => ?_)
                  clear hK K
                  try simp only [Act.put, List.setIfInBounds_toArray, List.set_cons_zero, List.set_cons_succ]
                  refine till_one (i := 5) (by kernel_rfl) rfl rfl (by decide) (fun K hK => ?_)
                  go_simp
                  refine hK.out _ _ ⟨cell_push0 hS9.1 _, trivial⟩ (fun hHeld => ?_)
                  clear hK K
                  try simp only [Act.put, List.setIfInBounds_toArray, List.set_cons_zero, List.set_cons_succ]
                  refine till_one (i := 6) (by kernel_rfl) rfl rfl (by decide) (fun K hK => ?_)
                  have hz9 : sb + 1 ≤ w9.heap.size := by have := hs10.box.lt; omega
                  refine op_app_one Tryd.undI64s Tryd.infoI64 rfl (by decide) (.tmp 30) (.tmp 34) rfl (B := sb + 1) (w := w9) (enc := Value.int .i64) hs10.own2 rfl hz9 rfl rfl (by omega) ?_
                  intro xc10 w10 hown10 hgrew10
                  have hs11 := hs10.addC hown10 hgrew10
                  obtain ⟨ca7, cc7, rfl, _, _⟩ := (ownL_fresh hown10).1.form
                  have bx10 := hs10.box.grew hgrew10 (fun e => by have := (New.of_own hs10.own2) _ e; omega)
                  have k2 := bx10.cell2
                  have kf := bx10.frozen 2
                  refine hK.out _ _ ⟨k2, trivial⟩ (fun hHeld => ?_)
                  clear hK K
                  try simp only [Act.put, List.setIfInBounds_toArray, List.set_cons_zero, List.set_cons_succ]
                  refine till_one (i := 7) (by kernel_rfl) rfl rfl (by decide) (fun K hK => ?_)
                  go_simp
                  refine hK.out _ _ ⟨k2, trivial⟩ (fun hHeld => ?_)
                  clear hK K
                  try simp only [Act.put, List.setIfInBounds_toArray, List.set_cons_zero, List.set_cons_succ]
                  refine till_last (by kernel_rfl) rfl rfl (by kernel_rfl) (fun K hK => ?_)
                  go_simp
                  refine hK.out _ _ ?_
                  clear hK K hHeld k2 kf bx10 hown10 hgrew10 hs10 hS9 hr9 hg9 HNU HS9 hS0
                  have HS11 := hide hs11
                  simp only [List.length_append, List.length_cons, List.length_nil, Nat.zero_add] at HS11
                  clear hs11
                  have b9 := (unhide HS11).box.cell1
                  have B9 := hide b9
                  have b0 := (unhide HST).box.cell1
                  have B0 := hide b0
                  clear b9 b0
                  go_wp2
                  go_roundw
                  case rel => first | exact ⟨rows ++ [row], costs ++ [t2.n], r6, g, _, _, unhide HS11, unhide HF6, by omega, by simp; omega, by simp; omega, HX4⟩ | ((repeat apply Exists.intro); exact ⟨⟨rows ++ [row], costs ++ [t2.n], r6, g, _, _, unhide HS11, unhide HF6, by omega, by simp; omega, by simp; omega, HX4⟩, rfl⟩) | trace_state
                  case measure => rw [unhide B9, unhide B0]; simp [lenOf]; omega
            · have hq := str_ne hm
              rw [if_neg hm, ok_bind] at hX
              have HX2 : Hid (X = .ok ⟨scope, rows, costs, d⟩ r4) := hide hX
              clear hX hs hm HXX
              rintro e w5 ⟨hg5, _, rfl, rfl, hr5⟩
              have hs5 := (unhide HST).kept hg5 hr5
              have c0 := hs5.res.cell0; have c1 := hs5.res.cell1; have c2 := hs5.res.cell2; have c3 := hs5.res.cell3; have f0 := hs5.res.frozen
              have d0 := hs5.box.cell0; have d1 := hs5.box.cell1; have d2 := hs5.box.cell2; have d3 := hs5.box.cell3
              have hle := hs5.le
              have hc : SftO (· < w.heap.size + 1) w5 ⟨.slice sa scope.length sc, .slice ra rows.length rc, .slice ca costs.length cc, .int .i64 d⟩ ⟨scope, rows, costs, d⟩ := ⟨hs5.sco.weaken (fun g _ h => .inl h), hs5.own1.tf.fresh.weaken (fun g _ h => by have : g < w.heap.size + 1 := h; show g < sb + 1; omega), (ownL_fresh hs5.own2).weaken (fun g _ h => by have : g < w.heap.size + 1 := h; show g < sb + 1; omega), rfl⟩
              obtain ⟨k1, k2, k3⟩ := sft_res hs5.rd hs5.gr hlt hc (Nat.lt_succ_self _)
              have K1 := hide k1
              have K2 := hide k2
              have K3 := hide k3
              have Z0 := hide (BoxK.set hs5.res (.slice sa scope.length sc) (.slice ra rows.length rc) (.slice ca costs.length cc) (.int .i64 d))
              unfold strE
              clear hs5 hg5 hr5 hc k1 k2 k3
              go_wp2
              have y3 := unhide Z0
              have c0 := y3.cell0; have c1 := y3.cell1; have c2 := y3.cell2; have c3 := y3.cell3
              refine bodyPost_ret (v := .agg #[.slice sa scope.length sc, .slice ra rows.length rc, .slice ca costs.length cc, .int .i64 d]) ?_ rfl (ends_ok (unhide HX2) (unhide K1) (unhide K2) (unhide K3))
              simp [results, Tryd.results37, go_sem, c0, c1, c2, c3]

end Go.Proofs.YtoiokplgkanepaaDoor
