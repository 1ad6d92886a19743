/-
  Reading tokens: the contract of hard.
-/
import Derived.Test.YtoiokplgkanepaaDoorReadL
namespace Go.Proofs.YtoiokplgkanepaaDoor
open Go.RowKit
set_option linter.unusedVariables false
set_option linter.unusedSimpArgs false
set_option maxRecDepth 20000

set_option maxHeartbeats 400000 in
theorem hasRows_any (k : Nat) (w : World) : Calls Tryd.prog 43 #[.int .i64 (k : Int)] w fun e w' => e = .returned (.bool (decide (k = 1 ∨ k = 2))) ∧ w' = w := by
  by_cases h1 : k = 1
  · subst h1
    go_enter Tryd.func43, Tryd.ntmps43
    go_wp2
    go_ret
    exact ⟨rfl, rfl⟩
  · have h1' : ((k : Int) == 1) = false := by rw [beq_eq_false_iff_ne]; omega
    by_cases h2 : k = 2
    · subst h2
      go_enter Tryd.func43, Tryd.ntmps43
      go_wp2
      go_ret
      exact ⟨rfl, rfl⟩
    · have h2' : ((k : Int) == 2) = false := by rw [beq_eq_false_iff_ne]; omega
      have hd : decide (k = 1 ∨ k = 2) = false := by simp [h1, h2]
      rw [hd]
      clear h1 h2 hd
      go_enter Tryd.func43, Tryd.ntmps43
      go_wp2
      go_ret
      exact ⟨rfl, rfl⟩

theorem ConV.weaken {B B' : Nat} {c : Con} {v : Value} {w : World} (h : ConV B' c v w) (hB : B ≤ B') : ConV B c v w := by
  obtain ⟨q, h1, h2⟩ := h
  exact ⟨q, h1, h2.weaken (fun g _ h => Nat.lt_of_lt_of_le h hB)⟩

/-- The result's variable is laid at last. -/
theorem con_res {w0 : World} {R : Nat} {w w9 : World} {ts : List Tok} {dv hv sv : Value} {B : Nat} {q : Quad} {c : Con} (hr : Rd w0 R w9 ts dv hv sv) (hg : w.grownBy w9 (some R)) (hlt : R < w.heap.size) (hc : ConO (· < B) w9 q c) (hB : w.heap.size < B) :
    w.grownBy ((((w9.setCell ⟨w.heap.size, 0, none⟩ q.a).setCell ⟨w.heap.size, 1, none⟩ q.b).setCell ⟨w.heap.size, 2, none⟩ q.c).setCell ⟨w.heap.size, 3, none⟩ q.d) (some R) ∧
    ConV w.heap.size c (.agg #[q.a, q.b, q.c, q.d]) ((((w9.setCell ⟨w.heap.size, 0, none⟩ q.a).setCell ⟨w.heap.size, 1, none⟩ q.b).setCell ⟨w.heap.size, 2, none⟩ q.c).setCell ⟨w.heap.size, 3, none⟩ q.d) ∧
    Rd w0 R ((((w9.setCell ⟨w.heap.size, 0, none⟩ q.a).setCell ⟨w.heap.size, 1, none⟩ q.b).setCell ⟨w.heap.size, 2, none⟩ q.c).setCell ⟨w.heap.size, 3, none⟩ q.d) ts dv hv sv := by
  have gs := grown_set4 w9 w.heap.size q.a q.b q.c q.d
  refine ⟨grown_then hg gs (fun b e => .inl (by cases e; exact Nat.le_refl _)), ⟨q, rfl, ?_⟩, hr.setVar hlt _ _ _ _⟩
  exact (hc.kept gs (fun b e => by cases e; exact hB)).weaken (fun g _ h => by have : g < w.heap.size := h; show g < B; omega)

theorem con_f (a b c d : Value) : (Value.agg #[a, b, c, d]).cells.size = 4 → True := fun _ => trivial

set_option maxHeartbeats 1000000 in
theorem hard_any {w0 : World} {R : Nat} {w : World} {ts : List Tok} {dv hv sv : Value} {D : List (List Int)} (T : Tabs w) (hR0 : 0 < R) (h : Rd w0 R w ts dv hv sv) (hf : Fair ts) (hD : TupsO (· = R) w dv D) (k : Nat) (hN : ts.length ≤ 1000000) :
    Calls Tryd.prog 38 #[.pointer (some ⟨R, 0, none⟩), .int .i64 (k : Int)] w (REnds (ConV w.heap.size) w0 R w dv hv sv (hardR D k ts)) := by
  have hlt := h.lt
  have hne : ¬ R = w.heap.size := by omega
  obtain ⟨X, hX⟩ : ∃ X, X = hardR D k ts := ⟨_, rfl⟩
  rw [← hX]
  unfold hardR at hX
  obtain ⟨da, dc, rfl, hdl, hdc⟩ := hD.form
  unfold maxLen at hdc
  have x0 := BoxK.new 42 w (.int .i64 0) (.slice none 0 0) (.slice none 0 0) (.slice none 0 0)
  have h1 := h.push (.cells #[.int .i64 0, .slice none 0 0, .slice none 0 0, .slice none 0 0] 42)
  have hg0 := World.grownBy_alloc w (.cells #[.int .i64 0, .slice none 0 0, .slice none 0 0, .slice none 0 0] 42) (some R)
  by_cases h6 : k = 6
  · rw [if_pos h6] at hX
    have h6' : ((k : Int) == 6) = true := by rw [beq_iff_eq]; omega
    have HL := hide (linear_any (T.below ((Below.refl w.heap.size w).alloc (Nat.le_refl _) (.cells #[.int .i64 0, .slice none 0 0, .slice none 0 0, .slice none 0 0] 42))) hR0 h1 hf (by omega))
    rw [← hX] at HL
    have X0 := hide x0
    have HG0 := hide hg0
    clear h hf hD hX h6 T h1 x0 hg0
    go_enter Tryd.func38, Tryd.ntmps38
    go_wp2_with fail
    refine (unhide HL).mono ?_
    rintro e w1 ⟨hg1, hx1⟩
    have hg2 := grown_then (unhide HG0) hg1 (fun b e => .inr e)
    cases X with
    | fault p c =>
      subst hx1
      exact ⟨rfl, hg2, rfl⟩
    | ok c r =>
      obtain ⟨v, rfl, ⟨q, rfl, hq⟩, hr1⟩ := hx1
      have y0 := (unhide X0).keep hg1 (by simpa using hne)
      have c0 := y0.cell0; have c1 := y0.cell1; have c2 := y0.cell2; have c3 := y0.cell3; have f0 := y0.frozen
      have Y0 := hide (BoxK.set y0 q.a q.b q.c q.d)
      obtain ⟨k1, k2, k3⟩ := con_res hr1 hg2 hlt hq (by simp)
      have K1 := hide k1
      have K2 := hide k2
      have K3 := hide k3
      obtain ⟨_, hq1, hq2, hq3⟩ := hq
      obtain ⟨sa, sc, hqb, _, _⟩ := hq1.1.form
      obtain ⟨ra, rc, hqc, _, _⟩ := hq2.form
      obtain ⟨aa, ac, hqd, _, _⟩ := hq3.1.form
      obtain ⟨qa, qb, qc, qd⟩ := q
      simp only [] at hqb hqc hqd
      rename_i hqa
      simp only [] at hqa
      subst hqa hqb hqc hqd
      clear y0 k1 k2 k3 hr1 hg1 hg2 hq1 hq2 hq3
      go_wp2
      have y3 := unhide Y0
      have c0 := y3.cell0; have c1 := y3.cell1; have c2 := y3.cell2; have c3 := y3.cell3
      refine bodyPost_ret (v := .agg #[.int .i64 c.kind, .slice sa c.scope.length sc, .slice ra c.rows.length rc, .slice aa c.args.length ac]) ?_ rfl ⟨unhide K1, _, rfl, unhide K2, unhide K3⟩
      simp [results, Tryd.results38, go_sem, c0, c1, c2, c3]
  · rw [if_neg h6] at hX
    have h6' : ((k : Int) == 6) = false := by rw [beq_eq_false_iff_ne]; omega
    have HS := hide (scope_any h1 hf (by omega))
    have HH := hide (fun W => hasRows_any k W)
    obtain ⟨hq, hhq⟩ : ∃ hq : Bool, hq = decide (k = 1 ∨ k = 2) := ⟨_, rfl⟩
    rw [← hhq] at HH
    have X0 := hide x0
    have HG0 := hide hg0
    have HD : Hid (∀ w', w.grownBy w' (some R) → TupsO (· = R) w' (.slice da D.length dc) D) := hide (fun w' g => hD.kept g (fun b e => by cases e; rfl))
    cases hs : scopeR D.length ts with
    | fault p c =>
      rw [hs] at HS hX
      have HX2 := hide hX
      clear h hf hD hX h6 T h1 x0 hg0 hs
      go_enter Tryd.func38, Tryd.ntmps38
      go_wp2_with fail
      refine (unhide HS).mono ?_
      rintro e w1 ⟨hg1, rfl⟩
      exact ⟨rfl, ends_no (unhide HX2) (grown_then (unhide HG0) hg1 (fun b e => .inr e))⟩
    | ok scope r =>
      rw [hs] at HS
      rw [hs, ok_bind] at hX
      obtain ⟨hf2, hl2, hok⟩ := hf.scope hs
      have HF2 := hide hf2
      have HOK := hide hok
      have HX1 := hide hX
      have HHQ := hide hhq
      clear h hf hD hX h6 T h1 x0 hg0 hs hhq hf2 hok
      go_enter Tryd.func38, Tryd.ntmps38
      go_wp2_with fail
      refine (unhide HS).mono ?_
      rintro e w1 ⟨hg1, v, rfl, hi1, hr1⟩
      obtain ⟨sa, sc, rfl, hscl, hscc⟩ := hi1.1.form
      unfold maxLen at hscc
      have hg2 := grown_then (unhide HG0) hg1 (fun b e => .inr e)
      have hw1 : w.heap.size < w1.heap.size := by have := hg1.size; simp at this; omega
      have hi2 : IntsO (fun g => g < w.heap.size + 1 ∨ w1.heap.size ≤ g) w1 (.slice sa scope.length sc) scope := hi1.weaken (fun g hg h => by
        show g < (w.alloc _).heap.size
        simp
        rcases h with h | h <;> omega)
      have y0 := ((unhide X0).keep hg1 (by simpa using hne)).push (.cells #[.int .i64 (k : Int), .slice sa scope.length sc, .slice none 0 0, .slice none 0 0] 42)
      have y1 := BoxK.new 42 w1 (.int .i64 (k : Int)) (.slice sa scope.length sc) (.slice none 0 0) (.slice none 0 0)
      have hr2 := hr1.push (.cells #[.int .i64 (k : Int), .slice sa scope.length sc, .slice none 0 0, .slice none 0 0] 42)
      have hg3 := grown_then hg2 (World.grownBy_alloc w1 (.cells #[.int .i64 (k : Int), .slice sa scope.length sc, .slice none 0 0, .slice none 0 0] 42) none) (by simp)
      have hi3 := hi2.kept (World.grownBy_alloc w1 (.cells #[.int .i64 (k : Int), .slice sa scope.length sc, .slice none 0 0, .slice none 0 0] 42) none) (by simp)
      have Y0 := hide y0
      have Y1 := hide y1
      have HR2 := hide hr2
      have HG3 := hide hg3
      have HI3 := hide hi3
      clear y0 y1 hr1 hr2 hg1 hg2 hg3 hi1 hi2 hi3 X0
      go_wp2_with fail
      refine (unhide HH _).mono ?_
      rintro e w2 ⟨rfl, rfl⟩
      have hsz : (w1.alloc (.cells #[.int .i64 (k : Int), .slice sa scope.length sc, .slice none 0 0, .slice none 0 0] 42)).heap.size = w1.heap.size + 1 := by simp
      generalize w1.alloc (.cells #[.int .i64 (k : Int), .slice sa scope.length sc, .slice none 0 0, .slice none 0 0] 42) = W at *
      generalize w1.heap.size = cb at *
      have HSZ := hide hsz
      clear hsz
      have hRcb : ¬ R = cb := by omega
      cases hq with
      | false =>
        have hHQ := unhide HHQ
        rw [if_neg (by simpa using hHQ)] at HX1
        have HSG := hide (sign1_any [59] (unhide HR2) (unhide HF2))
        clear hHQ
        go_wp2_with fail
        refine (unhide HSG).mono ?_
        have hX := unhide HX1
        cases hs : signR [semi] r with
        | fault p e =>
          rw [hs] at hX
          have HX2 := hide hX
          clear hX hs
          rintro e w3 ⟨hg4, rfl⟩
          exact ⟨rfl, ends_no (unhide HX2) (grown_then (unhide HG3) hg4 (fun b e => .inr e))⟩
        | ok s r2 =>
          rw [hs, ok_bind] at hX
          have HX2 := hide hX
          clear hX hs
          rintro e w3 ⟨hg4, _, rfl, rfl, hr3⟩
          have z1 := (unhide Y1).keep hg4 (by simpa using hRcb)
          have z0 := (unhide Y0).keep hg4 (by simpa using hne)
          have c0 := z0.cell0; have c1 := z0.cell1; have c2 := z0.cell2; have c3 := z0.cell3; have f0 := z0.frozen
          have d0 := z1.cell0; have d1 := z1.cell1; have d2 := z1.cell2; have d3 := z1.cell3
          have hi4 := (unhide HI3).kept hg4 (fun b e => by cases e; exact .inl (by omega))
          have hc : ConO (· < w.heap.size + 1) w3 ⟨.int .i64 (k : Int), .slice sa scope.length sc, .slice none 0 0, .slice none 0 0⟩ ⟨(k : Int), scope, [], []⟩ := ⟨rfl, hi4.weaken (fun g _ h => .inl h), TupsO.nil _ _, IntsO.nil _ _⟩
          obtain ⟨k1, k2, k3⟩ := con_res hr3 (grown_then (unhide HG3) hg4 (fun b e => .inr e)) hlt hc (Nat.lt_succ_self _)
          have K1 := hide k1
          have K2 := hide k2
          have K3 := hide k3
          have Z0 := hide (BoxK.set z0 (.int .i64 (k : Int)) (.slice sa scope.length sc) (.slice none 0 0) (.slice none 0 0))
          clear z0 z1 hr3 hg4 hi4 hc k1 k2 k3
          go_wp2
          have y3 := unhide Z0
          have c0 := y3.cell0; have c1 := y3.cell1; have c2 := y3.cell2; have c3 := y3.cell3
          refine bodyPost_ret (v := .agg #[.int .i64 (k : Int), .slice sa scope.length sc, .slice none 0 0, .slice none 0 0]) ?_ rfl (ends_ok (unhide HX2) (unhide K1) (unhide K2) (unhide K3))
          simp [results, Tryd.results38, go_sem, c0, c1, c2, c3]
      | true =>
        have hHQ := unhide HHQ
        rw [if_pos (by simpa using hHQ)] at HX1
        have HSG := hide (sign1_any [58] (unhide HR2) (unhide HF2))
        clear hHQ
        go_wp2_with fail
        refine (unhide HSG).mono ?_
        have hX := unhide HX1
        cases hs : signR [colon] r with
        | fault p e =>
          rw [hs] at hX
          have HX2 := hide hX
          clear hX hs
          rintro e w3 ⟨hg4, rfl⟩
          exact ⟨rfl, ends_no (unhide HX2) (grown_then (unhide HG3) hg4 (fun b e => .inr e))⟩
        | ok s r2 =>
          rw [hs, ok_bind] at hX
          obtain ⟨hf3, hl3⟩ := (unhide HF2).sign hs
          have HX2 := hide hX
          have HF3 := hide hf3
          clear hX hs hf3
          rintro e w3 ⟨hg4, _, rfl, rfl, hr3⟩
          have z1 := (unhide Y1).keep hg4 (by simpa using hRcb)
          have z0 := (unhide Y0).keep hg4 (by simpa using hne)
          have hi4 := (unhide HI3).kept hg4 (fun b e => by cases e; exact .inl (by omega))
          have hg5 := grown_then (unhide HG3) hg4 (fun b e => .inr e)
          have d1 := z1.cell1
          have HRW := hide (rows_any hr3 (unhide HF3) (unhide HD _ hg5) (hi4.weaken (fun g _ h => .inl (by have : g = R := h; omega))) (unhide HOK) (by omega))
          have Z1 := hide z1
          have Z0 := hide z0
          have HI4 := hide hi4
          have HG5 := hide hg5
          have hz3 : cb < w3.heap.size := z1.lt
          clear z0 z1 hr3 hg4 hi4 hg5
          go_wp2_with fail
          refine (unhide HRW).mono ?_
          have hX2 := unhide HX2
          cases hs : rowsR D scope r2 with
          | fault p e =>
            rw [hs] at hX2
            have HX3 := hide hX2
            clear hX2 hs
            rintro e w4 ⟨hg6, rfl⟩
            exact ⟨rfl, ends_no (unhide HX3) (grown_then (unhide HG5) hg6 (fun b e => .inr e))⟩
          | ok rows r3 =>
            rw [hs, ok_bind] at hX2
            have HX3 := hide hX2
            clear hX2 hs
            rintro e w4 ⟨hg6, v, rfl, ht4, hr4⟩
            obtain ⟨ra, rc, rfl, hrl, hrc⟩ := ht4.form
            unfold maxLen at hrc
            have z1 := (unhide Z1).keep hg6 (by simpa using hRcb)
            have z0 := (unhide Z0).keep hg6 (by simpa using hne)
            have e2 := z1.cell2
            have ef := z1.frozen 2
            have z2 := z1.set2 (.slice ra rows.length rc)
            have d0 := z2.cell0; have d1 := z2.cell1; have d2 := z2.cell2; have d3 := z2.cell3
            have gs := grown_set w4 cb 2 (.slice ra rows.length rc)
            have z3 := z0.keep gs (by simp; omega)
            have c0 := z3.cell0; have c1 := z3.cell1; have c2 := z3.cell2; have c3 := z3.cell3; have f0 := z3.frozen
            have hi5 := ((unhide HI4).kept hg6 (fun b e => by cases e; exact .inl (by omega))).kept gs (fun b e => by cases e; exact .inr (Nat.le_refl _))
            have ht5 : TupsO (· < w3.heap.size) (w4.setCell ⟨cb, 2, none⟩ (.slice ra rows.length rc)) (.slice ra rows.length rc) rows := ht4.kept gs (fun b e => by cases e; exact hz3)
            have hr5 := hr4.grown gs (fun b e => by cases e; exact .inr (by omega))
            have hg7 := grown_then (grown_then (unhide HG5) hg6 (fun b e => .inr e)) gs (fun b e => by cases e; exact .inl (by omega))
            have hc : ConO (· < w.heap.size + 1) (w4.setCell ⟨cb, 2, none⟩ (.slice ra rows.length rc)) ⟨.int .i64 (k : Int), .slice sa scope.length sc, .slice ra rows.length rc, .slice none 0 0⟩ ⟨(k : Int), scope, rows, []⟩ := ⟨rfl, hi5.weaken (fun g _ h => .inl h), ht5.weaken (fun g _ h => by have : g < w.heap.size + 1 := h; show g < w3.heap.size; omega), IntsO.nil _ _⟩
            obtain ⟨k1, k2, k3⟩ := con_res hr5 hg7 hlt hc (Nat.lt_succ_self _)
            have K1 := hide k1
            have K2 := hide k2
            have K3 := hide k3
            have Z0' := hide (BoxK.set z3 (.int .i64 (k : Int)) (.slice sa scope.length sc) (.slice ra rows.length rc) (.slice none 0 0))
            clear z0 z1 z2 z3 hr4 hr5 hg6 hg7 hi5 ht4 ht5 hc k1 k2 k3 gs
            go_wp2
            have y3 := unhide Z0'
            have c0 := y3.cell0; have c1 := y3.cell1; have c2 := y3.cell2; have c3 := y3.cell3
            refine bodyPost_ret (v := .agg #[.int .i64 (k : Int), .slice sa scope.length sc, .slice ra rows.length rc, .slice none 0 0]) ?_ rfl (ends_ok (unhide HX3) (unhide K1) (unhide K2) (unhide K3))
            simp [results, Tryd.results38, go_sem, c0, c1, c2, c3]

end Go.Proofs.YtoiokplgkanepaaDoor
