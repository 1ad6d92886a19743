/-
  Reading tokens: the contract of row.
-/
import Derived.Test.YtoiokplgkanepaaDoorReadH
namespace Go.Proofs.YtoiokplgkanepaaDoor
open Go.RowKit
set_option linter.unusedVariables false
set_option linter.unusedSimpArgs false
set_option maxRecDepth 20000

def rowX (D : List (List Int)) (ahead : List (List Int)) (p : Nat) (vs acc : List Int) (ts : List Tok) : Res (List Int) := (rowF D vs acc ts).bind fun row r => if goesB ahead row = true then .ok row r else .fault p 6

set_option maxHeartbeats 8000000 in
theorem row_any {w0 : World} {R : Nat} {w : World} {ts : List Tok} {dv hv sv scv av : Value} {D : List (List Int)} {scope : List Int} {ahead : List (List Int)} (h : Rd w0 R w ts dv hv sv) (hf : Fair ts)
    (hD : TupsO (· = R) w dv D) (hS : IntsO (· = R) w scv scope) (hA : TupsO (· = R) w av ahead) (hsc : ∀ v ∈ scope, 0 ≤ v ∧ v < (D.length : Int)) (hsl : scope.length ≤ 6) :
    Calls Tryd.prog 67 #[.pointer (some ⟨R, 0, none⟩), scv, av] w (REnds (fun l v w' => IntsO (· < w.heap.size) w' v l) w0 R w dv hv sv (rowR D scope ahead ts)) := by
  have hlt := h.lt
  obtain ⟨t0, r0, rfl⟩ := hf.cons
  obtain ⟨X, hX⟩ : ∃ X, X = rowR D scope ahead (t0 :: r0) := ⟨_, rfl⟩
  rw [← hX]
  have HX : Hid (X = rowX D ahead t0.at_ scope [] (t0 :: r0)) := hide hX
  obtain ⟨da, dc, rfl, hdl, hdc⟩ := hD.form
  obtain ⟨sa, sc, rfl, hscl, hscc⟩ := hS.1.form
  obtain ⟨aa, ac, rfl, hal, hac⟩ := hA.form
  unfold maxLen at hdc hscc hac
  obtain ⟨pb, poff, pc, p0, p1, p2, p3, p4, p5, p6⟩ := h.peek
  have HR := hide (h.push (.cells #[.int .i64 t0.kind, .string ⟨t0.text.toArray⟩, .int .i64 t0.n, .int .i64 (t0.at_ : Int)] 52))
  have X0 := hide (BoxK.new 52 w (.int .i64 t0.kind) (.string ⟨t0.text.toArray⟩) (.int .i64 t0.n) (.int .i64 (t0.at_ : Int)))
  have HF := hide hf
  have HD : Hid (∀ w', w.grownBy w' (some R) → TupsO (· = R) w' (.slice da D.length dc) D) := hide (fun w' g => hD.kept g (fun b e => by cases e; rfl))
  have HS : Hid (∀ w', w.grownBy w' (some R) → IntsO (· = R) w' (.slice sa scope.length sc) scope) := hide (fun w' g => hS.kept g (fun b e => by cases e; rfl))
  have HA : Hid (∀ w', w.grownBy w' (some R) → TupsO (· = R) w' (.slice aa ahead.length ac) ahead) := hide (fun w' g => hA.kept g (fun b e => by cases e; rfl))
  have HSC := hide hsc
  clear hX h hf hD hS hA hsc
  go_enter Tryd.func67, Tryd.ntmps67
  go_wp2_with (at_make; refine wp_make_room rfl _ _ rfl (B := w.heap.size + 1) (by simp) rfl rfl (by omega) ?_; intro v1 w1 hown1 hb1)
  have HR1 := hide ((unhide HR).below hb1)
  have X1 := hide ((unhide X0).belowH hb1)
  have HG1 := hide (grown_below_then (World.grownBy_alloc w (.cells #[.int .i64 t0.kind, .string ⟨t0.text.toArray⟩, .int .i64 t0.n, .int .i64 (t0.at_ : Int)] 52) (some R)) hb1)
  have HO1 := hide hown1
  clear HR X0 hown1 hb1 p0 p1 p2 p3 p4 p5 p6
  go_loopw [8, 23] (fun v i wr => ∃ (k : Nat) (acc : List Int) (ts : List Tok), i = .int .i64 k ∧ k ≤ scope.length ∧ OwnI (w.heap.size + 1) wr v acc ∧ Rd w0 R wr ts (.slice da D.length dc) hv sv ∧ w.grownBy wr (some R) ∧ BoxK 52 wr w.heap.size (.int .i64 t0.kind) (.string ⟨t0.text.toArray⟩) (.int .i64 t0.n) (.int .i64 (t0.at_ : Int)) ∧ Fair ts ∧ acc.length ≤ k ∧ Hid (X = rowX D ahead t0.at_ (scope.drop k) acc ts)) (fun _ i _ => scope.length - (intOf i).toNat)
  case atStart => exact ⟨0, [], _, rfl, Nat.zero_le _, unhide HO1, unhide HR1, unhide HG1, unhide X1, unhide HF, Nat.le_refl _, HX⟩
  case round =>
    clear HX HR1 HO1 HF HG1 X1
    obtain ⟨k, acc, ts, rfl, hk, hown, hr, hg, hx, hf, hal2, HX⟩ := hrel
    rename World => wr
    have hz := hg.size
    have hlt1 : R < w.heap.size + 1 := by omega
    have hxl := hx.lt
    obtain ⟨a, cap, rfl, hla, hca⟩ := (Seq.of_own hown).form
    unfold maxLen at hca
    by_cases hkl : k < scope.length
    · have hX := HX.out
      rw [rowX, List.drop_eq_getElem_cons hkl, rowF] at hX
      obtain ⟨sb, so, rfl, hcs⟩ := (unhide HS wr hg).1.at hkl
      have HV := hide (val_any hr hf)
      have hvr := unhide HSC _ (List.getElem_mem hkl)
      obtain ⟨j, hj⟩ : ∃ j : Nat, scope[k] = (j : Int) := ⟨scope[k].toNat, by omega⟩
      rw [hj] at hX hcs hvr
      have hjD : j < D.length := by omega
      have HOW := hide hown
      have HG := hide hg
      have HX0 := hide hx
      cases hv' : valueR ts with
      | fault p e =>
        rw [hv'] at HV hX
        have HX2 := hide hX
        clear HX hX hr hf hown hv' hg hx hj
        go_wp2_with fail
        refine (unhide HV).mono ?_
        rintro e w1 ⟨hg1, rfl⟩
        exact ⟨rfl, ends_no (unhide HX2) (grown_then (unhide HG) hg1 (fun b e => .inr e))⟩
      | ok t r2 =>
        rw [hv', ok_bind] at hX
        rw [hv'] at HV
        obtain ⟨hf2, hl2, _⟩ := hf.value hv'
        have HF2 := hide hf2
        have hget : D.getD (((j : Nat) : Int)).toNat [] = D[j] := by simp [hjD]
        rw [hget] at hX
        obtain ⟨q, hq⟩ : ∃ q : Bool, q = decide (t.n ∈ D[j]) := ⟨_, rfl⟩
        have HQ := hide hq
        have HX2 : Hid (X = if q = true then rowX D ahead t0.at_ (scope.drop (k + 1)) (acc ++ [t.n]) r2 else .fault t.at_ 6) := hide (by
          rw [hX, hq]
          by_cases hm : t.n ∈ D[j]
          · simp [hm, rowX]
          · simp [hm, fault_bind])
        have HN := hide (fun W => need_any q t 6 W)
        unfold tokV at HN
        clear HX hX hr hf hown hv' hg hx hj hf2 hl2 hq hget
        go_wp2_with fail
        refine (unhide HV).mono ?_
        rintro e w1 ⟨hg1, _, rfl, rfl, hr1⟩
        unfold tokV
        have x1 := BoxK.new 52 w1 (.int .i64 t.kind) (.string ⟨t.text.toArray⟩) (.int .i64 t.n) (.int .i64 (t.at_ : Int))
        have hr2 := hr1.push (.cells #[.int .i64 t.kind, .string ⟨t.text.toArray⟩, .int .i64 t.n, .int .i64 (t.at_ : Int)] 52)
        have hg2 := grown_then hg1 (World.grownBy_alloc w1 (.cells #[.int .i64 t.kind, .string ⟨t.text.toArray⟩, .int .i64 t.n, .int .i64 (t.at_ : Int)] 52) none) (by simp)
        go_wp2
        generalize w1.alloc (.cells #[.int .i64 t.kind, .string ⟨t.text.toArray⟩, .int .i64 t.n, .int .i64 (t.at_ : Int)] 52) = W at *
        generalize w1.heap.size = tb at *
        have hg3 := grown_then (unhide HG) hg2 (fun b e => .inr e)
        obtain ⟨db, doff, du, rfl, hdc2, hdu⟩ := (unhide HD W hg3).at hjD
        obtain ⟨dua, duc, rfl, _, _⟩ := hdu.1.form
        have hS0 : W.drew.cell? ⟨tb, 0, none⟩ = some (.int .i64 t.kind) ∧ W.drew.cell? ⟨tb, 1, none⟩ = some (.string ⟨t.text.toArray⟩) ∧ W.drew.cell? ⟨tb, 2, none⟩ = some (.int .i64 t.n) ∧ W.drew.cell? ⟨tb, 3, none⟩ = some (.int .i64 (t.at_ : Int)) ∧ W.drew.cell? ⟨R, 1, none⟩ = some (.slice (some ⟨db, doff, none⟩) D.length dc) ∧ W.drew.cell? ⟨db, doff + j, none⟩ = some (.slice dua D[j].length duc) := ⟨x1.cell0, x1.cell1, x1.cell2, x1.cell3, hr2.cell1, hdc2⟩
        have HC := hide (containsI_any (n := t.n) (hdu.1.drewN 1))
        rw [← unhide HQ] at HC
        have X1 := hide x1
        have X2 := hide ((unhide HX0).keep hg2 (by simp; omega))
        have HG2 := hide hg2
        have HG3 := hide hg3
        have HR2 := hide hr2
        have hz2 := hg2.size
        clear x1 hg1 hg2 hg3 hr1 hr2 hdu
        generalize D[j].length = dn at *
        refine wp_region_held (S := fun U => U.cell? ⟨tb, 0, none⟩ = some (.int .i64 t.kind) ∧ U.cell? ⟨tb, 1, none⟩ = some (.string ⟨t.text.toArray⟩) ∧ U.cell? ⟨tb, 2, none⟩ = some (.int .i64 t.n) ∧ U.cell? ⟨tb, 3, none⟩ = some (.int .i64 (t.at_ : Int)) ∧ U.cell? ⟨R, 1, none⟩ = some (.slice (some ⟨db, doff, none⟩) D.length dc) ∧ U.cell? ⟨db, doff + j, none⟩ = some (.slice dua dn duc)) (by kernel_rfl) ?_
        refine wpAnyH_take (i := 0) (v := ?_) rfl (by kernel_rfl) (by kernel_rfl) (by kernel_rfl) (fun _ _ _ h => h) (Or.inl ⟨by kernel_rfl, ?_⟩) (by assumption) ?_
        rotate_left
        · intro W hSW; obtain ⟨hS1, hS2, hS3, hS4, hS5, hS6⟩ := hSW; go_simp; first | done | rfl
        simp only [Act.put, List.setIfInBounds_toArray, List.set_cons_zero, List.set_cons_succ]
        refine wpAnyH_take (i := 1) (v := ?_) rfl (by kernel_rfl) (by kernel_rfl) (by kernel_rfl) (fun _ _ _ h => h) (Or.inl ⟨by kernel_rfl, ?_⟩) (by assumption) ?_
        rotate_left
        · intro W hSW; obtain ⟨hS1, hS2, hS3, hS4, hS5, hS6⟩ := hSW; go_simp; first | done | rfl
        simp only [Act.put, List.setIfInBounds_toArray, List.set_cons_zero, List.set_cons_succ]
        refine wpAnyH_take (i := 2) (v := ?_) rfl (by kernel_rfl) (by kernel_rfl) (by kernel_rfl) (fun _ _ _ h => h) (Or.inl ⟨by kernel_rfl, ?_⟩) (by assumption) ?_
        rotate_left
        · intro W hSW; obtain ⟨hS1, hS2, hS3, hS4, hS5, hS6⟩ := hSW; go_simp; first | done | rfl
        simp only [Act.put, List.setIfInBounds_toArray, List.set_cons_zero, List.set_cons_succ]
        refine wpAnyH_take (i := 3) (v := ?_) rfl (by kernel_rfl) (by kernel_rfl) (by kernel_rfl) (fun _ _ _ h => h) (Or.inl ⟨by kernel_rfl, ?_⟩) (by assumption) ?_
        rotate_left
        · intro W hSW; obtain ⟨hS1, hS2, hS3, hS4, hS5, hS6⟩ := hSW; go_simp; first | done | rfl
        simp only [Act.put, List.setIfInBounds_toArray, List.set_cons_zero, List.set_cons_succ]
        refine wpAnyH_take (i := 4) (v := ?_) rfl (by kernel_rfl) (by kernel_rfl) (by kernel_rfl) (fun _ _ _ h => h) (Or.inl ⟨by kernel_rfl, ?_⟩) (by assumption) ?_
        rotate_left
        · intro W hSW; obtain ⟨hS1, hS2, hS3, hS4, hS5, hS6⟩ := hSW; go_simp; first | done | rfl
        simp only [Act.put, List.setIfInBounds_toArray, List.set_cons_zero, List.set_cons_succ]
        refine wpAnyH_take (i := 5) (v := ?_) rfl (by kernel_rfl) (by kernel_rfl) (by kernel_rfl) (fun _ _ _ h => h) (Or.inl ⟨by kernel_rfl, ?_⟩) (by assumption) ?_
        rotate_left
        · intro W hSW; obtain ⟨hS1, hS2, hS3, hS4, hS5, hS6⟩ := hSW; go_simp; first | done | rfl
        simp only [Act.put, List.setIfInBounds_toArray, List.set_cons_zero, List.set_cons_succ]
        refine wpAnyH_take (i := 6) (v := ?_) rfl (by kernel_rfl) (by kernel_rfl) (by kernel_rfl) (fun _ _ _ h => h) (Or.inl ⟨by kernel_rfl, ?_⟩) (by assumption) ?_
        rotate_left
        · intro W hSW; obtain ⟨hS1, hS2, hS3, hS4, hS5, hS6⟩ := hSW; go_simp; first | done | rfl
        simp only [Act.put, List.setIfInBounds_toArray, List.set_cons_zero, List.set_cons_succ]
        refine wpAnyH_take (i := 7) (v := ?_) rfl (by kernel_rfl) (by kernel_rfl) (by kernel_rfl) (fun _ _ _ h => h) (Or.inl ⟨by kernel_rfl, ?_⟩) (by assumption) ?_
        rotate_left
        · intro W hSW; obtain ⟨hS1, hS2, hS3, hS4, hS5, hS6⟩ := hSW; go_simp; first | done | rfl
        simp only [Act.put, List.setIfInBounds_toArray, List.set_cons_zero, List.set_cons_succ]
        refine wpAnyH_take (i := 8) (v := ?_) rfl (by kernel_rfl) (by kernel_rfl) (by kernel_rfl) (fun _ _ _ h => h) (Or.inl ⟨by kernel_rfl, ?_⟩) (by assumption) ?_
        rotate_left
        · intro W hSW; obtain ⟨hS1, hS2, hS3, hS4, hS5, hS6⟩ := hSW; go_simp; first | done | rfl
        simp only [Act.put, List.setIfInBounds_toArray, List.set_cons_zero, List.set_cons_succ]
        refine wpAnyH_take (i := 9) (v := ?_) rfl (by kernel_rfl) (by kernel_rfl) (by kernel_rfl) (fun _ _ _ h => h) (Or.inl ⟨by kernel_rfl, ?_⟩) (by assumption) ?_
        rotate_left
        · intro W hSW; obtain ⟨hS1, hS2, hS3, hS4, hS5, hS6⟩ := hSW; go_simp; first | done | rfl
        simp only [Act.put, List.setIfInBounds_toArray, List.set_cons_zero, List.set_cons_succ]
        refine wpAnyH_take (i := 11) (v := ?_) rfl (by kernel_rfl) (by kernel_rfl) (by kernel_rfl) (fun _ _ _ h => h) (Or.inl ⟨by kernel_rfl, ?_⟩) (by assumption) ?_
        rotate_left
        · intro W hSW; obtain ⟨hS1, hS2, hS3, hS4, hS5, hS6⟩ := hSW; go_simp; first | done | rfl
        simp only [Act.put, List.setIfInBounds_toArray, List.set_cons_zero, List.set_cons_succ]
        refine held_one (i := 10) (by kernel_rfl) rfl (by kernel_rfl) (fun K hK => ?_)
        go_simp
        refine (unhide HC).mono ?_
        rintro e w2 ⟨rfl, rfl⟩
        refine hK.out _ _ hS0 ?_
        clear hK K
        try simp only [Act.put, List.setIfInBounds_toArray, List.set_cons_zero, List.set_cons_succ]
        refine held_one (i := 12) (by kernel_rfl) rfl (by kernel_rfl) (fun K hK => ?_)
        go_simp
        refine (unhide HN _).mono ?_
        rintro e w2 ⟨rfl, hb⟩
        have hb' : Below W.heap.size W w2 := below_then (Below.drewN W 1) hb
        have HG4 := hide (grown_below_then (unhide HG3) hb')
        cases q with
        | false => exact ⟨rfl, ends_no (unhide HX2) (unhide HG4)⟩
        | true =>
          have x1 := (unhide X1).belowH hb'
          have hS1 : w2.cell? ⟨tb, 0, none⟩ = some (.int .i64 t.kind) ∧ w2.cell? ⟨tb, 1, none⟩ = some (.string ⟨t.text.toArray⟩) ∧ w2.cell? ⟨tb, 2, none⟩ = some (.int .i64 t.n) ∧ w2.cell? ⟨tb, 3, none⟩ = some (.int .i64 (t.at_ : Int)) ∧ w2.cell? ⟨R, 1, none⟩ = some (.slice (some ⟨db, doff, none⟩) D.length dc) ∧ w2.cell? ⟨db, doff + j, none⟩ = some (.slice dua dn duc) := ⟨x1.cell0, x1.cell1, x1.cell2, x1.cell3, ((unhide HR2).below hb').cell1, Below.cell_of hb' hS0.2.2.2.2.2⟩
          refine hK.out _ _ hS1 (wpAnyH_done (by kernel_rfl) ?_ _)
          obtain ⟨c0, c1, c2, c3, _, _⟩ := hS1
          have HR3 := hide ((unhide HR2).below hb')
          have hown3 := hide (own_below (own_keptR (unhide HOW) (unhide HG2) hlt1) hb')
          have HX3 := hide ((unhide X2).belowH hb')
          have hz3 := hb'.size
          clear x1 hb hb' X1 hS0 hK HN HC HR2 HG2 HX0 X2 hdc2
          try simp only [Act.put, List.setIfInBounds_toArray, List.set_cons_zero, List.set_cons_succ]
          go_wp2_with (at_builtin; refine wp_app_int rfl (.tmp 42) (.tmp 45) rfl (unhide hown3) rfl (by omega) rfl (by omega) ?_; intro v' w4 hown4 hgrew)
          have hnew := New.of_own (unhide hown3)
          have hr4 := (unhide HR3).grown hgrew.by_ (fun b e => .inr (by have := hnew b e; omega))
          have hg4 := grown_then (unhide HG4) hgrew.by_ (fun b e => .inl (by have := (hnew b e).1; omega))
          obtain ⟨a', c', rfl, _, _⟩ := (Seq.of_own hown4).form
          go_roundw
          case rel => exact ⟨k + 1, acc ++ [t.n], r2, by go_num, by omega, hown4, hr4, hg4, (unhide HX3).grew hgrew (fun e => by have := hnew _ e; omega), unhide HF2, by simp; omega, HX2⟩
          case measure => simp [intOf]; omega
    · have hX := HX.out
      have hke : k = scope.length := by omega
      rw [hke, List.drop_length, rowX, rowF, ok_bind] at hX
      obtain ⟨q, hq⟩ : ∃ q : Bool, q = goesB ahead acc := ⟨_, rfl⟩
      rw [← hq] at hX
      have HX2 := hide hX
      have HC := hide (goesOn_any ((unhide HA wr hg).tups.drewN 1) ((Seq.of_own hown).drewN 1))
      rw [← hq] at HC
      have HN := hide (fun W => need_any q t0 6 W)
      unfold tokV at HN
      have hS0 : wr.drew.cell? ⟨w.heap.size, 0, none⟩ = some (.int .i64 t0.kind) ∧ wr.drew.cell? ⟨w.heap.size, 1, none⟩ = some (.string ⟨t0.text.toArray⟩) ∧ wr.drew.cell? ⟨w.heap.size, 2, none⟩ = some (.int .i64 t0.n) ∧ wr.drew.cell? ⟨w.heap.size, 3, none⟩ = some (.int .i64 (t0.at_ : Int)) := ⟨hx.cell0, hx.cell1, hx.cell2, hx.cell3⟩
      have HOW := hide hown
      have HG := hide hg
      have HRX := hide hr
      have HX0 := hide hx
      clear HX hX hr hf hown hg hx hq hke
      go_wp2
      refine wp_region_held (S := fun U => U.cell? ⟨w.heap.size, 0, none⟩ = some (.int .i64 t0.kind) ∧ U.cell? ⟨w.heap.size, 1, none⟩ = some (.string ⟨t0.text.toArray⟩) ∧ U.cell? ⟨w.heap.size, 2, none⟩ = some (.int .i64 t0.n) ∧ U.cell? ⟨w.heap.size, 3, none⟩ = some (.int .i64 (t0.at_ : Int))) (by kernel_rfl) ?_
      refine wpAnyH_take (i := 0) (v := ?_) rfl (by kernel_rfl) (by kernel_rfl) (by kernel_rfl) (fun _ _ _ h => h) (Or.inl ⟨by kernel_rfl, ?_⟩) (by assumption) ?_
      rotate_left
      · intro W hSW; obtain ⟨hS1, hS2, hS3, hS4⟩ := hSW; go_simp; first | done | rfl
      simp only [Act.put, List.setIfInBounds_toArray, List.set_cons_zero, List.set_cons_succ]
      refine wpAnyH_take (i := 1) (v := ?_) rfl (by kernel_rfl) (by kernel_rfl) (by kernel_rfl) (fun _ _ _ h => h) (Or.inl ⟨by kernel_rfl, ?_⟩) (by assumption) ?_
      rotate_left
      · intro W hSW; obtain ⟨hS1, hS2, hS3, hS4⟩ := hSW; go_simp; first | done | rfl
      simp only [Act.put, List.setIfInBounds_toArray, List.set_cons_zero, List.set_cons_succ]
      refine wpAnyH_take (i := 3) (v := ?_) rfl (by kernel_rfl) (by kernel_rfl) (by kernel_rfl) (fun _ _ _ h => h) (Or.inl ⟨by kernel_rfl, ?_⟩) (by assumption) ?_
      rotate_left
      · intro W hSW; obtain ⟨hS1, hS2, hS3, hS4⟩ := hSW; go_simp; first | done | rfl
      simp only [Act.put, List.setIfInBounds_toArray, List.set_cons_zero, List.set_cons_succ]
      refine held_one (i := 2) (by kernel_rfl) rfl (by kernel_rfl) (fun K hK => ?_)
      go_simp
      refine (unhide HC).mono ?_
      rintro e w2 ⟨rfl, n, rfl⟩
      refine hK.out _ _ hS0 ?_
      clear hK K
      try simp only [Act.put, List.setIfInBounds_toArray, List.set_cons_zero, List.set_cons_succ]
      refine held_one (i := 4) (by kernel_rfl) rfl (by kernel_rfl) (fun K hK => ?_)
      go_simp
      refine (unhide HN _).mono ?_
      rintro e w2 ⟨rfl, hb⟩
      have hb' : Below wr.heap.size wr w2 := below_then (Below.drewN wr (1 + n)) hb
      have HG4 := hide (grown_below_then (unhide HG) hb')
      cases q with
      | false => exact ⟨rfl, ends_no (unhide HX2) (unhide HG4)⟩
      | true =>
        have x1 := (unhide HX0).belowH hb'
        have hS1 : w2.cell? ⟨w.heap.size, 0, none⟩ = some (.int .i64 t0.kind) ∧ w2.cell? ⟨w.heap.size, 1, none⟩ = some (.string ⟨t0.text.toArray⟩) ∧ w2.cell? ⟨w.heap.size, 2, none⟩ = some (.int .i64 t0.n) ∧ w2.cell? ⟨w.heap.size, 3, none⟩ = some (.int .i64 (t0.at_ : Int)) := ⟨x1.cell0, x1.cell1, x1.cell2, x1.cell3⟩
        refine hK.out _ _ hS1 (wpAnyH_done (by kernel_rfl) ?_ _)
        have HR3 := hide ((unhide HRX).below hb')
        have hown3 := hide (own_below (unhide HOW) hb')
        clear x1 hb hb' hS0 hS1 hK HN HC
        try simp only [Act.put, List.setIfInBounds_toArray, List.set_cons_zero, List.set_cons_succ]
        go_wp2
        go_ret
        exact ends_ok (unhide HX2) (unhide HG4) ((own_fresh (unhide hown3)).weaken (fun g _ h => Nat.lt_succ_of_lt h)) (unhide HR3)

end Go.Proofs.YtoiokplgkanepaaDoor
