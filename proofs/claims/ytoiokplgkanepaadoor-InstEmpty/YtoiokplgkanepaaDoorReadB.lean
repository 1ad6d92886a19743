/-
  Reading tokens: the contracts of number's fault, value.
-/
import Derived.Test.YtoiokplgkanepaaDoorReadA
import Derived.Test.YtoiokplgkanepaaDoorUntil
namespace Go.Proofs.YtoiokplgkanepaaDoor
open Go.RowKit
set_option linter.unusedVariables false
set_option linter.unusedSimpArgs false
set_option maxRecDepth 20000

set_option maxHeartbeats 1000000 in
theorem numb_no {w0 : World} {R : Nat} {w : World} {ts : List Tok} {p : Nat} {c : Int} {dv hv sv : Value} (h : Rd w0 R w ts dv hv sv) (hts : ts ≠ []) (hn : numberR ts = .fault p c) :
    Calls Tryd.prog 66 #[.pointer (some ⟨R, 0, none⟩)] w fun e w' => e = .panicked (faultE p c) ∧ w.grownBy w' (some R) := by
  cases ts with
  | nil => exact absurd rfl hts
  | cons t r =>
    simp only [numberR] at hn
    split at hn
    · cases hn
    · rename_i hk
      cases hn
      have hk' : (t.kind == 2) = false := by simpa using hk
      have hlt := h.lt
      have HT := hide (rtake_any (h.push (.cells #[.int .i64 0, .string ⟨#[]⟩, .int .i64 0, .int .i64 0] 52)))
      have HN := hide (fun W => need_no t 3 W)
      unfold tokV at HT HN
      clear h hk hts
      go_enter Tryd.func66, Tryd.ntmps66
      go_wp2_with fail
      refine (unhide HT).mono ?_
      rintro e w1 ⟨rfl, hr, hg⟩
      go_wp2_with fail
      refine (unhide HN _).mono ?_
      rintro e w2 ⟨rfl, hb⟩
      exact ⟨rfl, rfl, grown_below_then (grown_then (grown_then (World.grownBy_alloc w _ (some R)) hg (fun b e => .inr e)) (World.grownBy_alloc w1 _ none) (by simp)) hb⟩

set_option maxHeartbeats 400000 in
theorem bySize_any (n : Int) (w : World) (h1 : -9223372036854775808 ≤ n) (h2 : n ≤ 9223372036854775807) : Calls Tryd.prog 72 #[.int .i64 n, .int .i64 1000000] w fun e w' => e = .returned (.bool (smallB n)) ∧ w' = w := by
  unfold smallB
  by_cases ha : -1000000 ≤ n
  · have ha' : decide (-1000000 ≤ n) = true := by simpa using ha
    rw [ha']
    go_enter Tryd.func72, Tryd.ntmps72
    go_wp2
    go_ret
    simp
  · have ha' : decide (-1000000 ≤ n) = false := by simpa using ha
    rw [ha']
    go_enter Tryd.func72, Tryd.ntmps72
    go_wp2
    go_ret
    simp

set_option maxHeartbeats 400000 in
theorem isValue_any (n : Int) (w : World) (h1 : -9223372036854775808 ≤ n) (h2 : n ≤ 9223372036854775807) : Calls Tryd.prog 48 #[.int .i64 n] w fun e w' => e = .returned (.bool (smallB n)) ∧ w' = w := by
  have HB := hide (fun W => bySize_any n W h1 h2)
  go_enter Tryd.func48, Tryd.ntmps48
  go_wp2_with fail
  refine (unhide HB _).mono ?_
  rintro e w' ⟨rfl, rfl⟩
  go_wp2
  go_ret
  exact ⟨rfl, rfl⟩

/-- One operation alone may come up. -/
theorem held_one {P : Program} {md : Region.Mode} {ops : Array Oper} {Q : Exit → Act → World → Prop} {S : World → Prop} {i : Nat} {o : Oper} {n : Nat} {done : Array Bool} {a : Act} {w : World} (hr : Region.ready md ops done = [i]) (ho : ops[i]? = some o) (hwd : Region.wanted o (yielded ops a.tmps) = true)
    (h : ∀ K : Act → World → Prop, Shut (∀ b u, S u → wpAnyH P md ops Q S n (done.setIfInBounds i true) b u → K b u) → Oper.wp P o a w K Q) : wpAnyH P md ops Q S (n + 1) done a w :=
  wpAnyH_all hr (by simp) fun j hj => by
    rw [List.mem_singleton] at hj
    subst hj
    refine wpOp_step ho fun K hK => ?_
    rw [if_pos hwd]
    exact h K fun b u hS hT => hK b u ⟨hS, hT⟩

/-- need, whichever way. -/
theorem need_any (q : Bool) (t : Tok) (c : Int) (w : World) : Calls Tryd.prog 35 #[.bool q, tokV t, .int .i64 c] w fun e w' => e = (if q = true then .returned (.tuple #[]) else .panicked (faultE t.at_ c)) ∧ Below w.heap.size w w' := by
  cases q
  · exact need_no t c w
  · exact need_ok t c w

/-- What reading answers. -/
def REnds {α : Type} (val : α → Value → World → Prop) (w0 : World) (R : Nat) (w : World) (dv hv sv : Value) (x : Res α) (e : Ending) (w' : World) : Prop :=
  w.grownBy w' (some R) ∧ match x with
    | .fault p c => e = .panicked (faultE p c)
    | .ok y r => ∃ v, e = .returned v ∧ val y v w' ∧ Rd w0 R w' r dv hv sv

theorem ends_no {α : Type} {val : α → Value → World → Prop} {w0 : World} {R : Nat} {w : World} {dv hv sv : Value} {x : Res α} {w' : World} {p : Nat} {c : Int} (h : x = .fault p c) (g : w.grownBy w' (some R)) : REnds val w0 R w dv hv sv x (.panicked (faultE p c)) w' := by subst h; exact ⟨g, rfl⟩
theorem ends_ok {α : Type} {val : α → Value → World → Prop} {w0 : World} {R : Nat} {w : World} {dv hv sv : Value} {x : Res α} {w' : World} {y : α} {r : List Tok} {v : Value} (h : x = .ok y r) (g : w.grownBy w' (some R)) (hv' : val y v w') (hr : Rd w0 R w' r dv hv sv) : REnds val w0 R w dv hv sv x (.returned v) w' := by subst h; exact ⟨g, v, rfl, hv', hr⟩

theorem numb_any {w0 : World} {R : Nat} {w : World} {ts : List Tok} {dv hv sv : Value} (h : Rd w0 R w ts dv hv sv) (hts : ts ≠ []) :
    Calls Tryd.prog 66 #[.pointer (some ⟨R, 0, none⟩)] w (REnds (fun t v _ => v = tokV t) w0 R w dv hv sv (numberR ts)) := by
  cases hn : numberR ts with
  | fault p c => exact (numb_no h hts hn).mono fun e w' ⟨h1, h2⟩ => ⟨h2, h1⟩
  | ok t r => exact (numb_ok h hn).mono fun e w' ⟨h1, h2, h3⟩ => ⟨h3, _, h1, rfl, h2⟩

set_option maxHeartbeats 1000000 in
theorem val_any {w0 : World} {R : Nat} {w : World} {ts : List Tok} {dv hv sv : Value} (h : Rd w0 R w ts dv hv sv) (hf : Fair ts) :
    Calls Tryd.prog 62 #[.pointer (some ⟨R, 0, none⟩)] w (REnds (fun t v _ => v = tokV t) w0 R w dv hv sv (valueR ts)) := by
  have hlt := h.lt
  have hne : ¬ R = w.heap.size := by omega
  have HT := hide (numb_any (h.push (.cells #[.int .i64 0, .string ⟨#[]⟩, .int .i64 0, .int .i64 0] 52)) hf.ne)
  unfold valueR
  cases hn : numberR ts with
  | fault p c =>
    rw [hn] at HT
    clear h hf hn
    go_enter Tryd.func62, Tryd.ntmps62
    go_wp2_with fail
    refine (unhide HT).mono ?_
    rintro e w1 ⟨hg, rfl⟩
    exact ⟨rfl, grown_then (World.grownBy_alloc w _ (some R)) hg (fun b e => .inr e), rfl⟩
  | ok t r =>
    rw [hn] at HT
    obtain ⟨_, _, hb1, hb2⟩ := hf.number hn
    have HV := hide (fun W => isValue_any t.n W (by omega) (by omega))
    simp only [Res.bind]
    obtain ⟨q, hq⟩ : ∃ q, q = smallB t.n := ⟨_, rfl⟩
    rw [← hq] at HV ⊢
    have HN := hide (fun W => need_any q t 4 W)
    unfold tokV at HN
    clear h hf hn hq
    go_enter Tryd.func62, Tryd.ntmps62
    go_wp2_with fail
    refine (unhide HT).mono ?_
    rintro e w1 ⟨hg, _, rfl, rfl, hr⟩
    unfold tokV
    have x0 := ((BoxK.new 52 w (.int .i64 0) (.string ⟨#[]⟩) (.int .i64 0) (.int .i64 0)).keep hg (by simpa using hne)).push (.cells #[.int .i64 t.kind, .string ⟨t.text.toArray⟩, .int .i64 t.n, .int .i64 (t.at_ : Int)] 52)
    have x1 := BoxK.new 52 w1 (.int .i64 t.kind) (.string ⟨t.text.toArray⟩) (.int .i64 t.n) (.int .i64 (t.at_ : Int))
    have hr1 := hr.push (.cells #[.int .i64 t.kind, .string ⟨t.text.toArray⟩, .int .i64 t.n, .int .i64 (t.at_ : Int)] 52)
    have hg1 := grown_then hg (World.grownBy_alloc w1 (.cells #[.int .i64 t.kind, .string ⟨t.text.toArray⟩, .int .i64 t.n, .int .i64 (t.at_ : Int)] 52) none) (by simp)
    go_wp2
    generalize w1.alloc (.cells #[.int .i64 t.kind, .string ⟨t.text.toArray⟩, .int .i64 t.n, .int .i64 (t.at_ : Int)] 52) = W at *
    generalize w1.heap.size = tb at *
    have hS0 : W.drew.cell? ⟨tb, 0, none⟩ = some (.int .i64 t.kind) ∧ W.drew.cell? ⟨tb, 1, none⟩ = some (.string ⟨t.text.toArray⟩) ∧ W.drew.cell? ⟨tb, 2, none⟩ = some (.int .i64 t.n) ∧ W.drew.cell? ⟨tb, 3, none⟩ = some (.int .i64 (t.at_ : Int)) := ⟨x1.cell0, x1.cell1, x1.cell2, x1.cell3⟩
    have X0 := hide x0
    have X1 := hide x1
    clear x0 x1 hr hg HT
    refine wp_region_held (S := fun U => U.cell? ⟨tb, 0, none⟩ = some (.int .i64 t.kind) ∧ U.cell? ⟨tb, 1, none⟩ = some (.string ⟨t.text.toArray⟩) ∧ U.cell? ⟨tb, 2, none⟩ = some (.int .i64 t.n) ∧ U.cell? ⟨tb, 3, none⟩ = some (.int .i64 (t.at_ : Int))) (by kernel_rfl) ?_
    refine wpAnyH_take (i := 0) (v := ?_) rfl (by kernel_rfl) (by kernel_rfl) (by kernel_rfl) (fun _ _ _ h => h) (Or.inl ⟨by kernel_rfl, ?_⟩) (by assumption) ?_
    rotate_left
    · intro W hSW; obtain ⟨hS1, hS2, hS3, hS4⟩ := hSW; go_simp; first | done | rfl
    simp only [Act.put, List.setIfInBounds_toArray, List.set_cons_zero, List.set_cons_succ]
    refine wpAnyH_take (i := 1) (v := ?_) rfl (by kernel_rfl) (by kernel_rfl) (by kernel_rfl) (fun _ _ _ h => h) (Or.inl ⟨by kernel_rfl, ?_⟩) (by assumption) ?_
    rotate_left
    · intro W hSW; obtain ⟨hS1, hS2, hS3, hS4⟩ := hSW; go_simp; first | done | rfl
    simp only [Act.put, List.setIfInBounds_toArray, List.set_cons_zero, List.set_cons_succ]
    refine wpAnyH_take (i := 3) (v := ?_) rfl (by kernel_rfl) (by kernel_rfl) (by kernel_rfl) (fun _ _ _ h => h) (Or.inl ⟨by kernel_rfl, ?_⟩) (by assumption) ?_
    rotate_left
    · intro W hSW; obtain ⟨hS1, hS2, hS3, hS4⟩ := hSW; go_simp; first | done | rfl
    simp only [Act.put, List.setIfInBounds_toArray, List.set_cons_zero, List.set_cons_succ]
    refine held_one (i := 2) (by kernel_rfl) rfl (by rfl) (fun K hK => ?_)
    go_simp
    refine (unhide HV _).mono ?_
    rintro e w2 ⟨rfl, rfl⟩
    refine hK.out _ _ hS0 ?_
    clear hK K
    try simp only [Act.put, List.setIfInBounds_toArray, List.set_cons_zero, List.set_cons_succ]
    refine held_one (i := 4) (by kernel_rfl) rfl (by rfl) (fun K hK => ?_)
    go_simp
    refine (unhide HN _).mono ?_
    rintro e w2 ⟨rfl, hb⟩
    cases q with
    | false => exact ⟨rfl, grown_below_then (grown_then (grown_then (World.grownBy_alloc w _ (some R)) hg1 (fun b e => .inr e)) (grown_drewN W 1 none) (by simp)) hb, rfl⟩
    | true =>
      have hb' : Below W.heap.size W w2 := below_then (Below.drewN W 1) hb
      have x1 := (unhide X1).belowH hb'
      have hS1 : w2.cell? ⟨tb, 0, none⟩ = some (.int .i64 t.kind) ∧ w2.cell? ⟨tb, 1, none⟩ = some (.string ⟨t.text.toArray⟩) ∧ w2.cell? ⟨tb, 2, none⟩ = some (.int .i64 t.n) ∧ w2.cell? ⟨tb, 3, none⟩ = some (.int .i64 (t.at_ : Int)) := ⟨x1.cell0, x1.cell1, x1.cell2, x1.cell3⟩
      refine hK.out _ _ hS1 (wpAnyH_done (by kernel_rfl) ?_ _)
      obtain ⟨c0, c1, c2, c3⟩ := hS1
      have y2 := (unhide X0).belowH hb'
      have d0 := y2.cell0; have d1 := y2.cell1; have d2 := y2.cell2; have d3 := y2.cell3; have f0 := y2.frozen
      have HR := hide ((hr1.below hb').setVar hlt (.int .i64 t.kind) (.string ⟨t.text.toArray⟩) (.int .i64 t.n) (.int .i64 (t.at_ : Int)))
      have HG := hide (grown_var (grown_below_then hg1 hb') (.int .i64 t.kind) (.string ⟨t.text.toArray⟩) (.int .i64 t.n) (.int .i64 (t.at_ : Int)))
      have Y2 := hide (BoxK.set y2 (.int .i64 t.kind) (.string ⟨t.text.toArray⟩) (.int .i64 t.n) (.int .i64 (t.at_ : Int)))
      clear x1 y2 hb hb' hr1 hg1 X0 X1 hS0 hK HV HN
      try simp only [Act.put, List.setIfInBounds_toArray, List.set_cons_zero, List.set_cons_succ]
      go_wp2
      have y3 := unhide Y2
      have c0 := y3.cell0; have c1 := y3.cell1; have c2 := y3.cell2; have c3 := y3.cell3
      refine bodyPost_ret (v := .agg #[.int .i64 t.kind, .string ⟨t.text.toArray⟩, .int .i64 t.n, .int .i64 (t.at_ : Int)]) ?_ rfl ⟨unhide HG, _, rfl, rfl, unhide HR⟩
      simp [results, Tryd.results62, go_sem, c0, c1, c2, c3]

end Go.Proofs.YtoiokplgkanepaaDoor
