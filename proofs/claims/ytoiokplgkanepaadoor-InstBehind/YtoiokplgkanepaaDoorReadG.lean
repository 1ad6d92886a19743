/-
  Reading tokens: the contract of domain.
-/
import Derived.Test.YtoiokplgkanepaaDoorReadF
namespace Go.Proofs.YtoiokplgkanepaaDoor
open Go.RowKit
set_option linter.unusedVariables false
set_option linter.unusedSimpArgs false
set_option maxRecDepth 20000

theorem ok_bind {α β : Type} (x : α) (r : List Tok) (f : α → List Tok → Res β) : (Res.ok x r).bind f = f x r := rfl
theorem fault_bind {α β : Type} (p : Nat) (e : Int) (f : α → List Tok → Res β) : (Res.fault p e : Res α).bind f = .fault p e := rfl

def domX (f : Nat) (acc : List Int) (ts : List Tok) : Res (List Int) := if acc = [] ∨ headNum ts = true then domF f acc ts else (signR [semi] ts).bind fun _ r => .ok acc r

theorem seq_lit1 (w : World) (s : Bytes) : Seq strE (w.alloc (.cells #[.string ⟨s.toArray⟩] 9)) (.slice (some ⟨w.heap.size, 0, none⟩) 1 1) [s] := by
  refine ⟨_, 1, rfl, by simp, by simp [maxLen], by simp, by rintro x h _; cases h; rfl, fun i y hi => ⟨_, rfl, ?_⟩⟩
  match i, hi with
  | 0, hi => simp at hi; subst hi; simp [strE]
theorem seq_lit2 (w : World) (s u : Bytes) : Seq strE (w.alloc (.cells #[.string ⟨s.toArray⟩, .string ⟨u.toArray⟩] 9)) (.slice (some ⟨w.heap.size, 0, none⟩) 2 2) [s, u] := by
  refine ⟨_, 2, rfl, by simp, by simp [maxLen], by simp, by rintro x h _; cases h; rfl, fun i y hi => ⟨_, rfl, ?_⟩⟩
  match i, hi with
  | 0, hi => simp at hi; subst hi; simp [strE]
  | 1, hi => simp at hi; subst hi; simp [strE]

/-- sign, of one that must be there. -/
theorem sign1_any {w0 : World} {R : Nat} {w : World} {ts : List Tok} {dv hv sv : Value} (s : Bytes) (h : Rd w0 R w ts dv hv sv) (hf : Fair ts) :
    Calls Tryd.prog 64 #[.pointer (some ⟨R, 0, none⟩), .slice (some ⟨w.heap.size, 0, none⟩) 1 1] (w.alloc (.cells #[.string ⟨s.toArray⟩] 9)) (REnds (fun s v _ => v = strE s) w0 R w dv hv sv (signR [s] ts)) :=
  (sign_any (h.push _) hf (seq_lit1 w s) (by have := h.lt; simp [Value.ownBlock]; omega)).mono fun e w' hx => ⟨grown_then (World.grownBy_alloc w _ _) hx.1 (fun b e => .inr e), hx.2⟩
/-- .. of one of two. -/
theorem sign2_any {w0 : World} {R : Nat} {w : World} {ts : List Tok} {dv hv sv : Value} (s u : Bytes) (h : Rd w0 R w ts dv hv sv) (hf : Fair ts) :
    Calls Tryd.prog 64 #[.pointer (some ⟨R, 0, none⟩), .slice (some ⟨w.heap.size, 0, none⟩) 2 2] (w.alloc (.cells #[.string ⟨s.toArray⟩, .string ⟨u.toArray⟩] 9)) (REnds (fun s v _ => v = strE s) w0 R w dv hv sv (signR [s, u] ts)) :=
  (sign_any (h.push _) hf (seq_lit2 w s u) (by have := h.lt; simp [Value.ownBlock]; omega)).mono fun e w' hx => ⟨grown_then (World.grownBy_alloc w _ _) hx.1 (fun b e => .inr e), hx.2⟩

set_option maxHeartbeats 8000000 in
theorem domain_any {w0 : World} {R : Nat} {w : World} {ts : List Tok} {dv hv sv : Value} (h : Rd w0 R w ts dv hv sv) (hf : Fair ts) :
    Calls Tryd.prog 36 #[.pointer (some ⟨R, 0, none⟩)] w (REnds (fun l v w' => IntsO (· < w.heap.size) w' v l) w0 R w dv hv sv (domR ts)) := by
  have hlt := h.lt
  obtain ⟨X, hX⟩ : ∃ X, X = domR ts := ⟨_, rfl⟩
  rw [← hX]
  have HX : Hid (X = domX (ts.length + 1) [] ts) := hide (by rw [hX, domX, if_pos (.inl rfl)]; rfl)
  have HR := hide (h.push (.cells #[] 3))
  have HO := hide (own_litI (w := w) (B := w.heap.size) (Nat.le_refl _))
  have HF := hide hf
  clear hX h hf
  go_enter Tryd.func36, Tryd.ntmps36
  go_wp2
  go_loopw [3] (fun v wr => ∃ (acc : List Int) (ts : List Tok) (f : Nat), OwnI w.heap.size wr v acc ∧ Rd w0 R wr ts dv hv sv ∧ w.grownBy wr (some R) ∧ Fair ts ∧ ts.length < f ∧ acc.length ≤ 16 ∧ Hid (X = domX f acc ts)) (fun v _ => 17 - lenOf v)
  case atStart => exact ⟨[], ts, ts.length + 1, unhide HO, unhide HR, World.grownBy_alloc w _ _, unhide HF, Nat.lt_succ_self _, by simp, HX⟩
  case round =>
    clear HX HR HO HF
    obtain ⟨acc, ts, f, hown, hr, hg, hf, hfu, hal, HX⟩ := hrel
    rename World => wr
    obtain ⟨g, rfl⟩ : ∃ g, f = g + 1 := ⟨f - 1, by omega⟩
    have hz := hg.size
    obtain ⟨a, cap, rfl, hla, hca⟩ := (Seq.of_own hown).form
    unfold maxLen at hca
    by_cases hgo : acc = [] ∨ headNum ts = true
    · have hX := HX.out
      rw [domX, if_pos hgo, domF] at hX
      have HV := hide (val_any hr hf)
      have HOW := hide hown
      obtain ⟨t0, r0, rfl⟩ := hf.cons
      obtain ⟨b, off, c, p0, p1, p2, p3, _⟩ := hr.peek
      have HF := hide hf
      have hcond : ((acc.length : Int) == 0) = true ∨ ((acc.length : Int) == 0) = false ∧ (t0.kind == 2) = true := by
        rcases hgo with h | h
        · subst h; exact .inl rfl
        · by_cases h0 : acc.length = 0
          · left; simp [h0]
          · right; exact ⟨by rw [beq_eq_false_iff_ne]; omega, h⟩
      have HG := hide hg
      cases hv' : valueR (t0 :: r0) with
      | fault p e =>
        rw [hv'] at HV hX
        have HX2 := hide hX
        clear HX hX hr hf hown hgo hv' hg
        rcases hcond with h0 | ⟨h0, h1⟩
        all_goals
          go_wp2_with fail
          refine (unhide HV).mono ?_
          rintro e w1 ⟨hg1, rfl⟩
          exact ⟨rfl, ends_no (unhide HX2) (grown_then (unhide HG) hg1 (fun b e => .inr e))⟩
      | ok t r2 =>
        rw [hv'] at HV hX
        obtain ⟨hf2, hl2, _⟩ := hf.value hv'
        rw [ok_bind] at hX
        have hl3 : r2.length < g := by simp at hl2 hfu; omega
        have HF2 := hide hf2
        by_cases h16 : acc.length < 16
        · rw [if_pos h16] at hX
          have h16' : decide ((acc.length : Int) < 16) = true := by simp; omega
          obtain ⟨q, hq⟩ : ∃ q : Bool, q = aboveB t.n acc := ⟨_, rfl⟩
          rw [← hq] at hX
          have HQ := hide hq
          have HX2 : Hid (X = if q = true then domX g (acc ++ [t.n]) r2 else .fault t.at_ 6) := hide (by
            rw [hX, domX]
            simp)
          have HN1 := hide (fun W => need_ok t 7 W)
          have HN := hide (fun W => need_any q t 6 W)
          unfold tokV at HN HN1
          clear HX hX hr hf hown hgo hv' hg hf2 hl2 hfu HF hq
          rcases hcond with h0 | ⟨h0, h1⟩
          all_goals
            go_wp2_with fail
            refine (unhide HV).mono ?_
            rintro e w1 ⟨hg1, _, rfl, rfl, hr1⟩
            unfold tokV
            have x1 := BoxK.new 52 w1 (.int .i64 t.kind) (.string ⟨t.text.toArray⟩) (.int .i64 t.n) (.int .i64 (t.at_ : Int))
            have hr2 := hr1.push (.cells #[.int .i64 t.kind, .string ⟨t.text.toArray⟩, .int .i64 t.n, .int .i64 (t.at_ : Int)] 52)
            have hg2 := grown_then hg1 (World.grownBy_alloc w1 (.cells #[.int .i64 t.kind, .string ⟨t.text.toArray⟩, .int .i64 t.n, .int .i64 (t.at_ : Int)] 52) none) (by simp)
            go_wp2_with fail
            refine (unhide HN1 _).mono ?_
            rintro e W ⟨rfl, hb⟩
            replace x1 := x1.belowH hb
            replace hr2 := hr2.below hb
            replace hg2 := grown_below_then hg2 hb
            have hz2 := hg2.size
            generalize w1.heap.size = tb at *
            clear hr1 hg1 hb
            have hS0 : W.drew.cell? ⟨tb, 0, none⟩ = some (.int .i64 t.kind) ∧ W.drew.cell? ⟨tb, 1, none⟩ = some (.string ⟨t.text.toArray⟩) ∧ W.drew.cell? ⟨tb, 2, none⟩ = some (.int .i64 t.n) ∧ W.drew.cell? ⟨tb, 3, none⟩ = some (.int .i64 (t.at_ : Int)) := ⟨x1.cell0, x1.cell1, x1.cell2, x1.cell3⟩
            have hown2 := own_keptR (unhide HOW) hg2 hlt
            have HC := hide (isAbove_any (n := t.n) ((Seq.of_own hown2).drewN 1))
            rw [← unhide HQ] at HC
            have X1 := hide x1
            have HOW2 := hide hown2
            have HG2 := hide hg2
            have HR2 := hide hr2
            clear x1 hown2 hg2 hr2
            go_wp2
            refine wp_region_held (S := fun U => U.cell? ⟨tb, 0, none⟩ = some (.int .i64 t.kind) ∧ U.cell? ⟨tb, 1, none⟩ = some (.string ⟨t.text.toArray⟩) ∧ U.cell? ⟨tb, 2, none⟩ = some (.int .i64 t.n) ∧ U.cell? ⟨tb, 3, none⟩ = some (.int .i64 (t.at_ : Int))) (by kernel_rfl) ?_
            refine wpAnyH_take (i := 0) (v := ?_) rfl (by kernel_rfl) (by kernel_rfl) (by kernel_rfl) (fun _ _ _ h => h) (Or.inl ⟨by kernel_rfl, ?_⟩) (by assumption) ?_
            rotate_left
            · intro W hSW; obtain ⟨hS1, hS2, hS3, hS4⟩ := hSW; go_simp; first | done | rfl
            simp only [Act.put, List.setIfInBounds_toArray, List.set_cons_zero, List.set_cons_succ]
            refine wpAnyH_take (i := 1) (v := ?_) rfl (by kernel_rfl) (by kernel_rfl) (by kernel_rfl) (fun _ _ _ h => h) (Or.inl ⟨by kernel_rfl, ?_⟩) (by assumption) ?_
            rotate_left
            · intro W hSW; obtain ⟨hS1, hS2, hS3, hS4⟩ := hSW; go_simp; first | done | rfl
            simp only [Act.put, List.setIfInBounds_toArray, List.set_cons_zero, List.set_cons_succ]
            refine wpAnyH_take (i := 2) (v := ?_) rfl (by kernel_rfl) (by kernel_rfl) (by kernel_rfl) (fun _ _ _ h => h) (Or.inl ⟨by kernel_rfl, ?_⟩) (by assumption) ?_
            rotate_left
            · intro W hSW; obtain ⟨hS1, hS2, hS3, hS4⟩ := hSW; go_simp; first | done | rfl
            simp only [Act.put, List.setIfInBounds_toArray, List.set_cons_zero, List.set_cons_succ]
            refine wpAnyH_take (i := 4) (v := ?_) rfl (by kernel_rfl) (by kernel_rfl) (by kernel_rfl) (fun _ _ _ h => h) (Or.inl ⟨by kernel_rfl, ?_⟩) (by assumption) ?_
            rotate_left
            · intro W hSW; obtain ⟨hS1, hS2, hS3, hS4⟩ := hSW; go_simp; first | done | rfl
            simp only [Act.put, List.setIfInBounds_toArray, List.set_cons_zero, List.set_cons_succ]
            refine held_one (i := 3) (by kernel_rfl) rfl (by kernel_rfl) (fun K hK => ?_)
            go_simp
            refine (unhide HC).mono ?_
            rintro e w2 ⟨rfl, rfl⟩
            refine hK.out _ _ hS0 ?_
            clear hK K
            try simp only [Act.put, List.setIfInBounds_toArray, List.set_cons_zero, List.set_cons_succ]
            refine held_one (i := 5) (by kernel_rfl) rfl (by kernel_rfl) (fun K hK => ?_)
            go_simp
            refine (unhide HN _).mono ?_
            rintro e w2 ⟨rfl, hb⟩
            have hb' : Below W.heap.size W w2 := below_then (Below.drewN W 1) hb
            have HG3 := hide (grown_below_then (grown_then (unhide HG) (unhide HG2) (fun b e => .inr e)) hb')
            cases q with
            | false => exact ⟨rfl, ends_no (unhide HX2) (unhide HG3)⟩
            | true =>
              have x1 := (unhide X1).belowH hb'
              have hS1 : w2.cell? ⟨tb, 0, none⟩ = some (.int .i64 t.kind) ∧ w2.cell? ⟨tb, 1, none⟩ = some (.string ⟨t.text.toArray⟩) ∧ w2.cell? ⟨tb, 2, none⟩ = some (.int .i64 t.n) ∧ w2.cell? ⟨tb, 3, none⟩ = some (.int .i64 (t.at_ : Int)) := ⟨x1.cell0, x1.cell1, x1.cell2, x1.cell3⟩
              refine hK.out _ _ hS1 (wpAnyH_done (by kernel_rfl) ?_ _)
              obtain ⟨c0, c1, c2, c3⟩ := hS1
              have HR3 := hide ((unhide HR2).below hb')
              have hown3 := hide (own_below (unhide HOW2) hb')
              have hz3 := hb'.size
              clear x1 hb hb' X1 hS0 hK HN HC HR2 HG2 HN1
              try simp only [Act.put, List.setIfInBounds_toArray, List.set_cons_zero, List.set_cons_succ]
              go_wp2_with (at_builtin; refine wp_app_int rfl (.tmp 32) (.tmp 35) rfl (unhide hown3) rfl (by omega) rfl (by omega) ?_; intro v' w4 hown4 hgrew)
              have hnew := New.of_own (unhide hown3)
              have hr4 := (unhide HR3).grown hgrew.by_ (fun b e => .inr (by have := hnew b e; omega))
              have hg4 := grown_then (unhide HG3) hgrew.by_ (fun b e => .inl (hnew b e).1)
              obtain ⟨a', c', rfl, _, _⟩ := (Seq.of_own hown4).form
              go_roundw
              case rel => exact ⟨acc ++ [t.n], r2, g, hown4, hr4, hg4, unhide HF2, hl3, by simp; omega, HX2⟩
              case measure => simp [lenOf]; omega
        · rw [if_neg h16] at hX
          have h16' : decide ((acc.length : Int) < 16) = false := by simp; omega
          have HX2 := hide hX
          have HN1 := hide (fun W => need_no t 7 W)
          unfold tokV at HN1
          clear HX hX hr hf hown hgo hv' hg hf2 hl2 hfu HF
          rcases hcond with h0 | ⟨h0, h1⟩
          all_goals
            go_wp2_with fail
            refine (unhide HV).mono ?_
            rintro e w1 ⟨hg1, _, rfl, rfl, hr1⟩
            unfold tokV
            have hg2 := grown_then hg1 (World.grownBy_alloc w1 (.cells #[.int .i64 t.kind, .string ⟨t.text.toArray⟩, .int .i64 t.n, .int .i64 (t.at_ : Int)] 52) none) (by simp)
            go_wp2_with fail
            refine (unhide HN1 _).mono ?_
            rintro e W ⟨rfl, hb⟩
            exact ⟨rfl, ends_no (unhide HX2) (grown_below_then (grown_then (unhide HG) hg2 (fun b e => .inr e)) hb)⟩
    · have hX := HX.out
      rw [domX, if_neg hgo] at hX
      have HS := hide (sign1_any [59] hr hf)
      obtain ⟨t, r, rfl⟩ := hf.cons
      obtain ⟨b, off, c, p0, p1, p2, p3, _⟩ := hr.peek
      have h0 : ((acc.length : Int) == 0) = false := by
        have : acc ≠ [] := fun e => hgo (.inl e)
        have := List.length_pos_iff.2 this
        rw [beq_eq_false_iff_ne]; omega
      have h1 : (t.kind == 2) = false := by
        have : ¬ headNum (t :: r) = true := fun e => hgo (.inr e)
        simpa [headNum] using this
      have HOW := hide hown
      have HG1 := hide hg
      cases hs : signR [semi] (t :: r) with
      | fault p e =>
        rw [hs] at HS hX
        have HX2 := hide hX
        clear HX hX hr hf hown hgo hg hs
        go_wp2_with fail
        refine (unhide HS).mono ?_
        rintro e w1 ⟨hg1, rfl⟩
        exact ⟨rfl, ends_no (unhide HX2) (grown_then (unhide HG1) hg1 (fun b e => .inr e))⟩
      | ok s r2 =>
        rw [hs] at HS hX
        have HX2 := hide hX
        clear HX hX hr hf hown hgo hg hs
        go_wp2_with fail
        refine (unhide HS).mono ?_
        rintro e w1 ⟨hg1, _, rfl, rfl, hr1⟩
        have HO2 := hide (own_keptR (unhide HOW) hg1 hlt)
        go_wp2
        go_ret
        exact ends_ok (unhide HX2) (grown_then (unhide HG1) hg1 (fun b e => .inr e)) (own_fresh (unhide HO2)) hr1

end Go.Proofs.YtoiokplgkanepaaDoor
