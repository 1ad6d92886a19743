/-
  Reading tokens: the contract of linear.
-/
import Derived.Test.YtoiokplgkanepaaDoorReadK
namespace Go.Proofs.YtoiokplgkanepaaDoor
open Go.RowKit
set_option linter.unusedVariables false
set_option linter.unusedSimpArgs false
set_option maxRecDepth 20000

theorem own_keptB {B : Nat} {w w' : World} {v : Value} {l : List Int} {row : Option Nat} (h : OwnI B w v l) (g : w.grownBy w' row) (hr : ∀ b, row = some b → b < B ∨ w.heap.size ≤ b) : OwnI B w' v l := h.kept g (by
  cases e : v.ownBlock with
  | none => exact .inl rfl
  | some k => exact .inr (fun e2 => by have := (New.of_own h) k e; rcases hr k e2.symm with h | h <;> omega))
theorem BoxK.set3 {e : TypeId} {w : World} {b : Nat} {x y z u : Value} (h : BoxK e w b x y z u) (u' : Value) : BoxK e (w.setCell ⟨b, 3, none⟩ u') b x y z u' := by
  unfold BoxK at *
  rw [heap_setCell_same w b 3 _ _ u' h]; simp
theorem BoxK.set2 {e : TypeId} {w : World} {b : Nat} {x y z u : Value} (h : BoxK e w b x y z u) (z' : Value) : BoxK e (w.setCell ⟨b, 2, none⟩ z') b x y z' u := by
  unfold BoxK at *
  rw [heap_setCell_same w b 2 _ _ z' h]; simp

/-- Two more numbers. -/
theorem op_app_two {w : World} {o : Oper} {a : Act} {K : Act → World → Prop} {Q : Exit → Act → World → Prop} (s x : Operand)
    (ho : o.op = .call { callee := .builtin .append, args := #[s, x], argTypes := #[40, 40] }) {B : Nat} {v : Value} {l : List Int} {y z : Int} (hown : OwnI B w v l) (hs : a.eval s = v) (hB : B ≤ w.heap.size)
    (hx : a.eval x = .slice (some ⟨w.heap.size, 0, none⟩) 2 2) (hlen : l.length < 100000000)
    (h : ∀ v' w', OwnI B w' v' (l ++ [y, z]) → Grew B w w' v v' → K (a.put o.dst v') w') :
    o.wp Tryd.prog a (w.alloc (.cells #[.int .i64 y, .int .i64 z] 3)) K Q := by
  obtain ⟨i, hi, hz0, hz1, hz2⟩ := info_parts Tryd.infoInt
  refine op_append _ s x 40 ho B 3 i (.int .i64 0) 1 8 Tryd.underlying40 hi hz0 hz1 hz2 rfl (by decide) v l.length (l.map (Value.int .i64)) hs (hown.alloc _) ⟨w.heap.size, 0, none⟩ 2 2 [.int .i64 y, .int .i64 z] hx rfl
    ?_ ?_ ?_ ?_ ?_ ?_
  · intro j u hj
    match j, hj with
    | 0, hj => simp at hj; subst hj; simp [Addr.add]
    | 1, hj => simp at hj; subst hj; simp [Addr.add]
  · intro u hu; simp at hu; rcases hu with rfl | rfl <;> rfl
  · unfold maxLen; omega
  · omega
  · simp; omega
  · intro v' w' hown' hgrow hat
    refine h v' w' (by simpa [OwnI] using hown') ⟨?_, ?_, ?_⟩
    · exact ((Below.refl B w).alloc hB _).grown hgrow (by simp; omega) (fun k hk => (hown.lt k hk).1)
    · exact ⟨hgrow.os, hgrow.tape, hgrow.output, Nat.le_trans (by simp) hgrow.size, fun k hk hne => (hgrow.block k (by simp; omega) hne).trans (Below.heap_alloc _ _ _ hk)⟩
    · rcases hat with hat | hat
      · exact .inl hat
      · exact .inr ⟨_, hat, by simp⟩

theorem grown_set4 (w : World) (n : Nat) (x y z u : Value) : w.grownBy ((((w.setCell ⟨n, 0, none⟩ x).setCell ⟨n, 1, none⟩ y).setCell ⟨n, 2, none⟩ z).setCell ⟨n, 3, none⟩ u) (some n) := by
  have k : ∀ (b : Nat), some n = some b → w.heap.size ≤ b ∨ some n = some b := fun b e => .inr e
  exact grown_then (grown_then (grown_then (grown_set _ _ _ _) (grown_set _ _ _ _) k) (grown_set _ _ _ _) k) (grown_set _ _ _ _) k

/-- What linear does behind its variables. -/
def linT (ag : List Int × List Int) (r : List Tok) : Res Con := (wordR 3 8 r).bind fun k r => (valueR r).bind fun t r => (signR [semi] r).bind fun _ r => .ok ⟨6, ag.2, [], ag.1 ++ [(k : Int) - 8, t.n]⟩ r
theorem linearR_eq (nv : Nat) (ts : List Tok) : linearR nv ts = (linF nv (ts.length + 1) [] [] ts).bind linT := rfl
def linX (nv : Nat) (more : Bool) (f : Nat) (args scope : List Int) (ts : List Tok) : Res Con := if more = true then (linF nv f args scope ts).bind linT else linT (args, scope) ts

/-- A hard constraint as a value. -/
def ConV (B : Nat) (c : Con) (v : Value) (w : World) : Prop := ∃ q : Quad, v = .agg #[q.a, q.b, q.c, q.d] ∧ ConO (· < B) w q c

/-- What holds of linear's variables, whenever the loop comes round. -/
structure LinSt (w0 : World) (R : Nat) (w : World) (dv hv sv : Value) (wr : World) (args scope : List Int) (ts : List Tok) (xs xa : Value) : Prop where
  box : BoxK 42 wr (w.heap.size + 1) (.int .i64 6) xs (.slice none 0 0) xa
  res : BoxK 42 wr w.heap.size (.int .i64 0) (.slice none 0 0) (.slice none 0 0) (.slice none 0 0)
  own1 : OwnI (w.heap.size + 2) wr xs scope
  own2 : OwnI (w.heap.size + 2) wr xa args
  sep : Sep xs xa
  rd : Rd w0 R wr ts dv hv sv
  gr : w.grownBy wr (some R)
  lt : R < w.heap.size

theorem LinSt.kept {w0 : World} {R : Nat} {w : World} {dv hv sv : Value} {wr w' : World} {args scope : List Int} {ts ts' : List Tok} {xs xa : Value} (h : LinSt w0 R w dv hv sv wr args scope ts xs xa) (g : wr.grownBy w' (some R)) (hr : Rd w0 R w' ts' dv hv sv) : LinSt w0 R w dv hv sv w' args scope ts' xs xa := by
  have hl := h.lt
  exact ⟨h.box.keep g (by simp; omega), h.res.keep g (by simp; omega), own_keptB h.own1 g (fun b e => by cases e; exact .inl (by omega)), own_keptB h.own2 g (fun b e => by cases e; exact .inl (by omega)), h.sep, hr, grown_then h.gr g (fun b e => .inr e), hl⟩
theorem LinSt.below {w0 : World} {R : Nat} {w : World} {dv hv sv : Value} {wr w' : World} {args scope : List Int} {ts : List Tok} {xs xa : Value} (h : LinSt w0 R w dv hv sv wr args scope ts xs xa) (g : Below wr.heap.size wr w') : LinSt w0 R w dv hv sv w' args scope ts xs xa :=
  h.kept (grown_below g (some R)) (h.rd.below g)
/-- One more multiplier. -/
theorem LinSt.addA {w0 : World} {R : Nat} {w : World} {dv hv sv : Value} {wr w' : World} {args args' scope : List Int} {ts : List Tok} {xs xa xa' : Value} (h : LinSt w0 R w dv hv sv wr args scope ts xs xa) (ho : OwnI (w.heap.size + 2) w' xa' args') (g : Grew (w.heap.size + 2) wr w' xa xa') : LinSt w0 R w dv hv sv (w'.setCell ⟨w.heap.size + 1, 3, none⟩ xa') args' scope ts xs xa' := by
  have hl := h.lt
  have hn := New.of_own h.own2
  have hs1 := own_grew h.own1 g h.sep.or
  have hb : ∀ b, some (w.heap.size + 1) = some b → b < w.heap.size + 2 ∨ w'.heap.size ≤ b := fun b e => by cases e; exact .inl (by omega)
  refine ⟨(h.box.grew g (fun e => by have := hn _ e; omega)).set3 _, (h.res.grew g (fun e => by have := hn _ e; omega)).keep (grown_set _ _ _ _) (by simp), own_keptB hs1 (grown_set _ _ _ _) hb, own_keptB ho (grown_set _ _ _ _) hb, h.sep.grewN (New.of_own h.own1) g, ?_, ?_, hl⟩
  · exact (h.rd.grown g.by_ (fun b e => .inr (by have := hn b e; omega))).grown (grown_set _ _ _ _) (fun b e => by cases e; exact .inr (by omega))
  · exact grown_then (grown_then h.gr g.by_ (fun b e => .inl (by have := hn b e; omega))) (grown_set _ _ _ _) (fun b e => by cases e; exact .inl (by omega))
/-- One more variable. -/
theorem LinSt.addS {w0 : World} {R : Nat} {w : World} {dv hv sv : Value} {wr w' : World} {args scope scope' : List Int} {ts : List Tok} {xs xs' xa : Value} (h : LinSt w0 R w dv hv sv wr args scope ts xs xa) (ho : OwnI (w.heap.size + 2) w' xs' scope') (g : Grew (w.heap.size + 2) wr w' xs xs') : LinSt w0 R w dv hv sv (w'.setCell ⟨w.heap.size + 1, 1, none⟩ xs') args scope' ts xs' xa := by
  have hl := h.lt
  have hn := New.of_own h.own1
  have hs1 := own_grew h.own2 g h.sep.symm.or
  have hb : ∀ b, some (w.heap.size + 1) = some b → b < w.heap.size + 2 ∨ w'.heap.size ≤ b := fun b e => by cases e; exact .inl (by omega)
  refine ⟨(h.box.grew g (fun e => by have := hn _ e; omega)).set1 _, (h.res.grew g (fun e => by have := hn _ e; omega)).keep (grown_set _ _ _ _) (by simp), own_keptB ho (grown_set _ _ _ _) hb, own_keptB hs1 (grown_set _ _ _ _) hb, (h.sep.symm.grewN (New.of_own h.own2) g).symm, ?_, ?_, hl⟩
  · exact (h.rd.grown g.by_ (fun b e => .inr (by have := hn b e; omega))).grown (grown_set _ _ _ _) (fun b e => by cases e; exact .inr (by omega))
  · exact grown_then (grown_then h.gr g.by_ (fun b e => .inl (by have := hn b e; omega))) (grown_set _ _ _ _) (fun b e => by cases e; exact .inl (by omega))
theorem LinSt.ofR {w0 : World} {R : Nat} {w : World} {dv hv sv : Value} {wr : World} {args scope : List Int} {ts : List Tok} {xs xa : Value} (h : LinSt w0 R w dv hv sv wr args scope ts xs xa) : IntsO (· = R) wr xs scope := own_intsO h.own1 (by have := h.lt; omega)

set_option maxHeartbeats 1000000 in
theorem linear_any {w0 : World} {R : Nat} {w : World} {ts : List Tok} {hv sv : Value} {da : Option Addr} {nv dc : Nat} (T : Tabs w) (hR0 : 0 < R) (h : Rd w0 R w ts (.slice da nv dc) hv sv) (hf : Fair ts) (hnv : nv ≤ 9223372036854775807) :
    Calls Tryd.prog 68 #[.pointer (some ⟨R, 0, none⟩)] w (REnds (ConV w.heap.size) w0 R w (.slice da nv dc) hv sv (linearR nv ts)) := by
  have hlt := h.lt
  obtain ⟨X, hX⟩ : ∃ X, X = linearR nv ts := ⟨_, rfl⟩
  rw [← hX]
  have HX : Hid (X = linX nv true (ts.length + 1) [] [] ts) := hide hX
  have HF := hide hf
  have HT := hide T
  have h1 : LinSt w0 R w (.slice da nv dc) hv sv ((w.alloc (.cells #[.int .i64 0, .slice none 0 0, .slice none 0 0, .slice none 0 0] 42)).alloc (.cells #[.int .i64 6, .slice none 0 0, .slice none 0 0, .slice none 0 0] 42)) [] [] ts (.slice none 0 0) (.slice none 0 0) :=
    ⟨by have := BoxK.new 42 (w.alloc (.cells #[.int .i64 0, .slice none 0 0, .slice none 0 0, .slice none 0 0] 42)) (.int .i64 6) (.slice none 0 0) (.slice none 0 0) (.slice none 0 0); simpa using this, (BoxK.new _ _ _ _ _ _).push _, own_nilI _ _, own_nilI _ _, Sep.nil _, (h.push _).push _, grown_then (World.grownBy_alloc w _ _) (World.grownBy_alloc _ _ (some R)) (fun b e => .inr e), hlt⟩
  have HS := hide h1
  clear hX h hf T h1
  go_enter Tryd.func68, Tryd.ntmps68
  go_wp2
  go_loopw [4] (fun m wr => ∃ (more : Bool) (args scope : List Int) (ts : List Tok) (f : Nat) (xs xa : Value), m = .bool more ∧ LinSt w0 R w (.slice da nv dc) hv sv wr args scope ts xs xa ∧ Fair ts ∧ ts.length < f ∧ scope.length ≤ 6 ∧ args.length ≤ scope.length ∧ Hid (X = linX nv more f args scope ts)) (fun m wr => (7 - lenOf ((wr.cell? ⟨w.heap.size + 1, 1, none⟩).getD undef)) * 2 + (match m with | .bool true => 1 | _ => 0))
  case atStart => exact ⟨true, [], [], ts, ts.length + 1, _, _, rfl, unhide HS, unhide HF, Nat.lt_succ_self _, by simp, by simp, HX⟩
  case round =>
    clear HX HF HS
    obtain ⟨more, args, scope, ts, f, xs, xa, rfl, hst, hf, hfu, hsl, hal, HX⟩ := hrel
    rename World => wr
    obtain ⟨sa, sc, rfl, hsc1, hsc2⟩ := (Seq.of_own hst.own1).form
    obtain ⟨aa, ac, rfl, hac1, hac2⟩ := (Seq.of_own hst.own2).form
    unfold maxLen at hsc2 hac2
    cases more with
    | true =>
      obtain ⟨g, rfl⟩ : ∃ g, f = g + 1 := ⟨f - 1, by omega⟩
      have hX := HX.out
      rw [linX, if_pos rfl, linF] at hX
      have HV := hide (val_any hst.rd hf)
      have HST := hide hst
      cases hv' : valueR ts with
      | fault p e =>
        rw [hv'] at HV hX
        have HX2 := hide hX
        clear HX hX hst hf hv'
        go_wp2_with fail
        refine (unhide HV).mono ?_
        rintro e w1 ⟨hg1, rfl⟩
        exact ⟨rfl, ends_no (unhide HX2) (grown_then (unhide HST).gr hg1 (fun b e => .inr e))⟩
      | ok t r2 =>
        rw [hv', ok_bind] at hX
        rw [hv'] at HV
        obtain ⟨hf2, hl2, hb1, hb2⟩ := hf.value hv'
        by_cases hz : t.n = 0
        · have hz' : (t.n != 0) = false := by simp [hz]
          rw [if_neg (by simpa using hz)] at hX
          have HX2 := hide hX
          have HN := hide (fun W => need_no t 4 W)
          unfold tokV at HN
          clear HX hX hst hf hv' hz
          go_wp2_with fail
          refine (unhide HV).mono ?_
          rintro e w1 ⟨hg1, _, rfl, rfl, hr1⟩
          unfold tokV
          have hg2 := grown_then hg1 (World.grownBy_alloc w1 (.cells #[.int .i64 t.kind, .string ⟨t.text.toArray⟩, .int .i64 t.n, .int .i64 (t.at_ : Int)] 52) none) (by simp)
          go_wp2_with fail
          refine (unhide HN _).mono ?_
          rintro e W ⟨rfl, hb⟩
          exact ⟨rfl, ends_no (unhide HX2) (grown_below_then (grown_then (unhide HST).gr hg2 (fun b e => .inr e)) hb)⟩
        · have hz' : (t.n != 0) = true := by simpa using hz
          rw [if_pos hz] at hX
          have HX2 := hide hX
          have HN := hide (fun W => need_ok t 4 W)
          unfold tokV at HN
          have HF2 := hide hf2
          clear HX hX hst hf hv' hz hf2
          go_wp2_with fail
          refine (unhide HV).mono ?_
          rintro e w1 ⟨hg1, _, rfl, rfl, hr1⟩
          unfold tokV
          have hs1 := (unhide HST).kept hg1 hr1
          have hs2 := hs1.below ((Below.refl _ _).alloc (Nat.le_refl _) (.cells #[.int .i64 t.kind, .string ⟨t.text.toArray⟩, .int .i64 t.n, .int .i64 (t.at_ : Int)] 52))
          have x1 := BoxK.new 52 w1 (.int .i64 t.kind) (.string ⟨t.text.toArray⟩) (.int .i64 t.n) (.int .i64 (t.at_ : Int))
          have HS2 := hide hs2
          have X1 := hide x1
          clear hs1 hs2 x1 hg1 hr1
          go_wp2_with fail
          refine (unhide HN _).mono ?_
          rintro e W ⟨rfl, hb⟩
          have hs3 := (unhide HS2).below hb
          have x1 := (unhide X1).belowH hb
          have c2 := x1.cell2
          have b3 := hs3.box.cell3
          have b1 := hs3.box.cell1
          have HS3 := hide hs3
          have hzz : w.heap.size + 2 ≤ W.heap.size := by have := hs3.box.lt; omega
          generalize w1.heap.size = tb at *
          clear hs3 x1 hb HS2 X1 HN HV
          go_wp2_with (at_builtin; refine wp_app_int rfl (.tmp 21) (.tmp 24) rfl (unhide HS3).own2 rfl hzz rfl (by omega) ?_; intro xa2 w3 hown3 hgrew3; have hs4 := (unhide HS3).addA hown3 hgrew3; have HS4 := hide hs4; obtain ⟨aa2, ac2, rfl, _, _⟩ := (Seq.of_own hown3).form; have hs5 := ((unhide HS3).box.grew hgrew3 (fun e => by have := (New.of_own (unhide HS3).own2) _ e; omega)); have e3 := hs5.cell3; have ef := hs5.frozen 3; have hgs := hgrew3.by_.size; clear hs4 hs5 hown3 hgrew3)
          have hs4 := unhide HS4
          simp only [List.length_append, List.length_cons, List.length_nil, Nat.zero_add] at hs4
          generalize w3.setCell ⟨w.heap.size + 1, 3, none⟩ (.slice aa2 (args.length + 1) ac2) = W4 at *
          clear HS4 e3 ef hgs b1 b3 c2 HS3
          have hs5 := hs4.below (Below.drewN W4 1)
          have hS0 : W4.drew.cell? ⟨w.heap.size + 1, 1, none⟩ = some (.slice sa scope.length sc) ∧ True := ⟨hs5.box.cell1, trivial⟩
          have HVV := hide (variable_any hs5.rd (unhide HF2) hs5.ofR hnv)
          have HS5 := hide hs5
          have hX2 := unhide HX2
          clear hs4 hs5
          refine wp_region_till (st := 9) (S := fun U => U.cell? ⟨w.heap.size + 1, 1, none⟩ = some (.slice sa scope.length sc) ∧ True) (by kernel_rfl) ?_
          refine till_take (i := 0) (v := ?_) rfl (by kernel_rfl) (by kernel_rfl) (by kernel_rfl) (by kernel_rfl) (fun _ _ _ h => h) (Or.inl ⟨by kernel_rfl, ?_⟩) (by assumption) ?_
          rotate_left
          · intro W hSW; obtain ⟨hS1, _⟩ := hSW; go_simp; first | done | rfl
          simp only [Act.put, List.setIfInBounds_toArray, List.set_cons_zero, List.set_cons_succ]
          refine till_take (i := 1) (v := ?_) rfl (by kernel_rfl) (by kernel_rfl) (by kernel_rfl) (by kernel_rfl) (fun _ _ _ h => h) (Or.inl ⟨by kernel_rfl, ?_⟩) (by assumption) ?_
          rotate_left
          · intro W hSW; obtain ⟨hS1, _⟩ := hSW; go_simp; first | done | rfl
          simp only [Act.put, List.setIfInBounds_toArray, List.set_cons_zero, List.set_cons_succ]
          refine till_take (i := 2) (v := ?_) rfl (by kernel_rfl) (by kernel_rfl) (by kernel_rfl) (by kernel_rfl) (fun _ _ _ h => h) (Or.inl ⟨by kernel_rfl, ?_⟩) (by assumption) ?_
          rotate_left
          · intro W hSW; obtain ⟨hS1, _⟩ := hSW; go_simp; first | done | rfl
          simp only [Act.put, List.setIfInBounds_toArray, List.set_cons_zero, List.set_cons_succ]
          refine till_take (i := 3) (v := ?_) rfl (by kernel_rfl) (by kernel_rfl) (by kernel_rfl) (by kernel_rfl) (fun _ _ _ h => h) (Or.inl ⟨by kernel_rfl, ?_⟩) (by assumption) ?_
          rotate_left
          · intro W hSW; obtain ⟨hS1, _⟩ := hSW; go_simp; first | done | rfl
          simp only [Act.put, List.setIfInBounds_toArray, List.set_cons_zero, List.set_cons_succ]
          refine till_take (i := 4) (v := ?_) rfl (by kernel_rfl) (by kernel_rfl) (by kernel_rfl) (by kernel_rfl) (fun _ _ _ h => h) (Or.inl ⟨by kernel_rfl, ?_⟩) (by assumption) ?_
          rotate_left
          · intro W hSW; obtain ⟨hS1, _⟩ := hSW; go_simp; first | done | rfl
          simp only [Act.put, List.setIfInBounds_toArray, List.set_cons_zero, List.set_cons_succ]
          refine till_one (i := 5) (by kernel_rfl) rfl rfl (by decide) (fun K hK => ?_)
          go_simp
          refine (unhide HVV).mono ?_
          cases hv2 : variableR nv scope r2 with
          | fault p e =>
            rw [hv2] at hX2
            have HX3 := hide hX2
            clear hX2 hv2
            rintro e w6 ⟨hg6, rfl⟩
            exact ⟨rfl, ends_no (unhide HX3) (grown_then (unhide HS5).gr hg6 (fun b e => .inr e))⟩
          | ok v r3 =>
            rw [hv2, ok_bind] at hX2
            obtain ⟨hf3, hl3, _⟩ := (unhide HF2).variable hv2
            obtain ⟨_, _, _, h6, _⟩ := variable_ok hv2
            have HF3 := hide hf3
            clear hv2 hf3
            rintro e w6 ⟨hg6, _, rfl, rfl, hr6⟩
            have hs6 := (unhide HS5).kept hg6 hr6
            have hS6 : w6.cell? ⟨w.heap.size + 1, 1, none⟩ = some (.slice sa scope.length sc) := hs6.box.cell1
            refine hK.out _ _ ⟨hS6, trivial⟩ (fun hHeld => ?_)
            clear hK K
            try simp only [Act.put, List.setIfInBounds_toArray, List.set_cons_zero, List.set_cons_succ]
            refine till_one (i := 6) (by kernel_rfl) rfl rfl (by decide) (fun K hK => ?_)
            go_simp
            refine hK.out _ _ ⟨cell_push0 hS6 _, trivial⟩ (fun hHeld => ?_)
            clear hK K
            try simp only [Act.put, List.setIfInBounds_toArray, List.set_cons_zero, List.set_cons_succ]
            refine till_one (i := 7) (by kernel_rfl) rfl rfl (by decide) (fun K hK => ?_)
            have hz6 : w.heap.size + 2 ≤ w6.heap.size := by have := hs6.box.lt; omega
            refine op_app_int (.tmp 28) (.tmp 33) rfl (B := w.heap.size + 2) (w := w6) hs6.own1 rfl hz6 rfl (by omega) ?_
            intro xs7 w7 hown7 hgrew7
            have hs8 := hs6.addS hown7 hgrew7
            obtain ⟨sa7, sc7, rfl, _, _⟩ := (Seq.of_own hown7).form
            have bx7 := hs6.box.grew hgrew7 (fun e => by have := (New.of_own hs6.own1) _ e; omega)
            have k1 := bx7.cell1
            have kf := bx7.frozen 1
            refine hK.out _ _ ⟨k1, trivial⟩ (fun hHeld => ?_)
            clear hK K
            try simp only [Act.put, List.setIfInBounds_toArray, List.set_cons_zero, List.set_cons_succ]
            refine till_one (i := 8) (by kernel_rfl) rfl rfl (by decide) (fun K hK => ?_)
            go_simp
            refine hK.out _ _ ⟨k1, trivial⟩ (fun hHeld => ?_)
            clear hK K
            try simp only [Act.put, List.setIfInBounds_toArray, List.set_cons_zero, List.set_cons_succ]
            refine till_last (by kernel_rfl) rfl rfl (by kernel_rfl) (fun K hK => ?_)
            go_simp
            refine hK.out _ _ ?_
            clear hK K hHeld k1 kf bx7 hown7 hgrew7 hs6 hS6 hr6 hg6 HVV HS5 hS0
            have HS8 := hide hs8
            simp only [List.length_append, List.length_cons, List.length_nil, Nat.zero_add] at HS8
            clear hs8
            generalize w7.setCell ⟨w.heap.size + 1, 1, none⟩ (.slice sa7 (scope.length + 1) sc7) = W8 at *
            have HSG := hide (sign2_any [44] [58] (unhide HS8).rd (unhide HF3))
            go_wp2_with fail
            refine (unhide HSG).mono ?_
            cases hs : signR [comma, colon] r3 with
            | fault p e =>
              rw [hs] at hX2
              have HX3 := hide hX2
              clear hX2 hs
              rintro e w9 ⟨hg9, rfl⟩
              exact ⟨rfl, ends_no (unhide HX3) (grown_then (unhide HS8).gr hg9 (fun b e => .inr e))⟩
            | ok s r4 =>
              rw [hs, ok_bind] at hX2
              obtain ⟨hf4, hl4⟩ := (unhide HF3).sign hs
              obtain ⟨q, hq⟩ : ∃ q : Bool, q = (s == [44]) := ⟨_, rfl⟩
              have HX3 : Hid (X = linX nv q g (args ++ [t.n]) (scope ++ [v]) r4) := hide (by
                rw [hX2, linX, hq]
                by_cases hm : s = [44]
                · simp [hm]
                · simp [hm, ok_bind])
              have HF4 := hide hf4
              clear hX2 hs hf4
              rintro e w9 ⟨hg9, _, rfl, rfl, hr9⟩
              have HS9 := hide ((unhide HS8).kept hg9 hr9)
              have b9 := (unhide HS9).box.cell1
              have B9 := hide b9
              have b0 := (unhide HST).box.cell1
              have B0 := hide b0
              unfold strE
              have hq' : (s == [44]) = q := hq.symm
              clear hq hg9 hr9 b9 b0 HX2 HSG HST
              go_wp2
              go_roundw
              case rel => exact ⟨q, args ++ [t.n], scope ++ [v], r4, g, _, _, rfl, unhide HS9, unhide HF4, by omega, by simp; omega, by simp; omega, HX3⟩
              case measure => rw [unhide B9, unhide B0]; cases q <;> simp [lenOf] <;> omega
    | false =>
      have hX := HX.out
      rw [linX, if_neg (by decide), linT] at hX
      have HXX := hide hX
      obtain ⟨t, r, rfl⟩ := hf.cons
      have HTK := hide (rtake_any hst.rd)
      have HST := hide hst
      have HF := hide hf
      have HTW := hide (fun w' (g : wr.grownBy w' (some R)) => wordOf_any (((unhide HT).grown hst.gr (by simp; omega)).grown g (by simp; omega)) t 3 8 10 rfl (by omega))
      clear HX hX hst hf
      go_wp2_with fail
      refine (unhide HTK).mono ?_
      rintro e w1 ⟨rfl, hr1, hg1⟩
      have hs1 := (unhide HST).kept hg1 hr1
      go_wp2_with fail
      refine (unhide HTW _ hg1).mono ?_
      have hX := unhide HXX
      have hw : wordR 3 8 (t :: r) = wordT t 3 8 r := rfl
      rw [hw, wordT] at hX
      cases hwf : wordF t 3 8 with
      | none =>
        rw [hwf] at hX
        have HX2 := hide hX
        clear hX hw hwf
        rintro e w2 ⟨rfl, hb2⟩
        exact ⟨rfl, ends_no (unhide HX2) (grown_below_then hs1.gr hb2)⟩
      | some k =>
        rw [hwf] at hX
        obtain ⟨hf2, hl2, hk1, hk2⟩ := (unhide HF).word (n := 3) (k := 8) (j := k) (r := r) (by rw [hw, wordT, hwf])
        simp only [] at hX
        rw [ok_bind] at hX
        have HX2 := hide hX
        have HF2 := hide hf2
        clear hX hw hwf hf2
        rintro e w2 ⟨rfl, hb2⟩
        have hs2 := (hs1.below hb2).below (Below.drewN w2 1)
        have HS2 := hide hs2
        have HV := hide (val_any hs2.rd (unhide HF2))
        have hS0 : w2.drew.cell? ⟨w.heap.size + 1, 3, none⟩ = some (.slice aa args.length ac) ∧ True := ⟨hs2.box.cell3, trivial⟩
        clear hs1 hs2 hg1 hr1 hb2 HST HTK HTW
        simp only [wordEnd]
        have hk3 : (8 : Int) ≤ k := by omega
        have hk4 : (k : Int) ≤ 10 := by omega
        obtain ⟨how, hhow⟩ : ∃ how : Int, how = (k : Int) - 8 := ⟨_, rfl⟩
        rw [← hhow] at HX2
        go_wp2
        rw [← hhow]
        clear hhow
        refine wp_region_till (st := 9) (S := fun U => U.cell? ⟨w.heap.size + 1, 3, none⟩ = some (.slice aa args.length ac) ∧ True) (by kernel_rfl) ?_
        refine till_take (i := 0) (v := ?_) rfl (by kernel_rfl) (by kernel_rfl) (by kernel_rfl) (by kernel_rfl) (fun _ _ _ h => h) (Or.inl ⟨by kernel_rfl, ?_⟩) (by assumption) ?_
        rotate_left
        · intro W hSW; obtain ⟨hS1, _⟩ := hSW; go_simp; first | done | rfl
        simp only [Act.put, List.setIfInBounds_toArray, List.set_cons_zero, List.set_cons_succ]
        refine till_take (i := 1) (v := ?_) rfl (by kernel_rfl) (by kernel_rfl) (by kernel_rfl) (by kernel_rfl) (fun _ _ _ h => h) (Or.inl ⟨by kernel_rfl, ?_⟩) (by assumption) ?_
        rotate_left
        · intro W hSW; obtain ⟨hS1, _⟩ := hSW; go_simp; first | done | rfl
        simp only [Act.put, List.setIfInBounds_toArray, List.set_cons_zero, List.set_cons_succ]
        refine till_take (i := 2) (v := ?_) rfl (by kernel_rfl) (by kernel_rfl) (by kernel_rfl) (by kernel_rfl) (fun _ _ _ h => h) (Or.inl ⟨by kernel_rfl, ?_⟩) (by assumption) ?_
        rotate_left
        · intro W hSW; obtain ⟨hS1, _⟩ := hSW; go_simp; first | done | rfl
        simp only [Act.put, List.setIfInBounds_toArray, List.set_cons_zero, List.set_cons_succ]
        refine till_take (i := 3) (v := ?_) rfl (by kernel_rfl) (by kernel_rfl) (by kernel_rfl) (by kernel_rfl) (fun _ _ _ h => h) (Or.inl ⟨by kernel_rfl, ?_⟩) (by assumption) ?_
        rotate_left
        · intro W hSW; obtain ⟨hS1, _⟩ := hSW; go_simp; first | done | rfl
        simp only [Act.put, List.setIfInBounds_toArray, List.set_cons_zero, List.set_cons_succ]
        refine till_one (i := 4) (by kernel_rfl) rfl rfl (by decide) (fun K hK => ?_)
        go_simp
        refine (unhide HV).mono ?_
        have hX2 := unhide HX2
        cases hv2 : valueR r with
        | fault p e =>
          rw [hv2] at hX2
          have HX3 := hide hX2
          clear hX2 hv2
          rintro e w6 ⟨hg6, rfl⟩
          exact ⟨rfl, ends_no (unhide HX3) (grown_then (unhide HS2).gr hg6 (fun b e => .inr e))⟩
        | ok u r3 =>
          rw [hv2, ok_bind] at hX2
          obtain ⟨hf3, hl3, _⟩ := (unhide HF2).value hv2
          have HF3 := hide hf3
          have HX3 := hide hX2
          clear hv2 hf3 hX2 HX2
          rintro e w6 ⟨hg6, _, rfl, rfl, hr6⟩
          have hs6 := (unhide HS2).kept hg6 hr6
          have hS6 : w6.cell? ⟨w.heap.size + 1, 3, none⟩ = some (.slice aa args.length ac) ∧ True := ⟨hs6.box.cell3, trivial⟩
          refine hK.out _ _ hS6 (fun hHeld => ?_)
          clear hK K
          unfold tokV
          try simp only [Act.put, List.setIfInBounds_toArray, List.set_cons_zero, List.set_cons_succ]
          have hF2 := tok_f2 u.kind u.n (u.at_ : Int) ⟨u.text.toArray⟩
          refine till_one (i := 5) (by kernel_rfl) rfl rfl (by decide) (fun K hK => ?_)
          go_simp
          refine hK.out _ _ hS6 (fun hHeld => ?_)
          clear hK K
          try simp only [Act.put, List.setIfInBounds_toArray, List.set_cons_zero, List.set_cons_succ]
          refine till_one (i := 6) (by kernel_rfl) rfl rfl (by decide) (fun K hK => ?_)
          go_simp
          refine hK.out _ _ ⟨cell_push0 hS6.1 _, trivial⟩ (fun hHeld => ?_)
          clear hK K
          try simp only [Act.put, List.setIfInBounds_toArray, List.set_cons_zero, List.set_cons_succ]
          refine till_one (i := 7) (by kernel_rfl) rfl rfl (by decide) (fun K hK => ?_)
          have hz6 : w.heap.size + 2 ≤ w6.heap.size := by have := hs6.box.lt; omega
          refine op_app_two (.tmp 41) (.tmp 46) rfl (B := w.heap.size + 2) (w := w6) hs6.own2 rfl hz6 rfl (by omega) ?_
          intro xa7 w7 hown7 hgrew7
          have hs8 := hs6.addA hown7 hgrew7
          obtain ⟨aa7, ac7, rfl, _, _⟩ := (Seq.of_own hown7).form
          have bx7 := hs6.box.grew hgrew7 (fun e => by have := (New.of_own hs6.own2) _ e; omega)
          have k1 := bx7.cell3
          have kf := bx7.frozen 3
          refine hK.out _ _ ⟨k1, trivial⟩ (fun hHeld => ?_)
          clear hK K
          try simp only [Act.put, List.setIfInBounds_toArray, List.set_cons_zero, List.set_cons_succ]
          refine till_one (i := 8) (by kernel_rfl) rfl rfl (by decide) (fun K hK => ?_)
          go_simp
          refine hK.out _ _ ⟨k1, trivial⟩ (fun hHeld => ?_)
          clear hK K
          try simp only [Act.put, List.setIfInBounds_toArray, List.set_cons_zero, List.set_cons_succ]
          refine till_last (by kernel_rfl) rfl rfl (by kernel_rfl) (fun K hK => ?_)
          go_simp
          refine hK.out _ _ ?_
          clear hK K hHeld k1 kf bx7 hown7 hgrew7 hs6 hS6 hr6 hg6 HV hS0
          have HS8 := hide hs8
          simp only [List.length_append, List.length_cons, List.length_nil, Nat.zero_add, Nat.reduceAdd] at HS8
          clear hs8
          generalize w7.setCell ⟨w.heap.size + 1, 3, none⟩ (.slice aa7 (args.length + 2) ac7) = W8 at *
          have HSG := hide (sign1_any [59] (unhide HS8).rd (unhide HF3))
          go_wp2_with fail
          refine (unhide HSG).mono ?_
          have hX3 := unhide HX3
          cases hs : signR [semi] r3 with
          | fault p e =>
            rw [hs] at hX3
            have HX4 := hide hX3
            clear hX3 hs
            rintro e w9 ⟨hg9, rfl⟩
            exact ⟨rfl, ends_no (unhide HX4) (grown_then (unhide HS8).gr hg9 (fun b e => .inr e))⟩
          | ok s r4 =>
            rw [hs, ok_bind] at hX3
            have HX4 := hide hX3
            clear hX3 hs
            rintro e w9 ⟨hg9, _, rfl, rfl, hr9⟩
            have hs9 := (unhide HS8).kept hg9 hr9
            have b0 := hs9.box.cell0; have b1 := hs9.box.cell1; have b2 := hs9.box.cell2; have b3 := hs9.box.cell3
            have r0 := hs9.res.cell0; have r1 := hs9.res.cell1; have r2 := hs9.res.cell2; have r3 := hs9.res.cell3; have rf := hs9.res.frozen
            have HS9 := hide hs9
            clear hs9 hg9 hr9
            go_wp2
            have hs9 := unhide HS9
            have y9 := BoxK.set hs9.res (.int .i64 6) (.slice sa scope.length sc) (.slice none 0 0) (.slice aa7 (args.length + 2) ac7)
            have d0 := y9.cell0; have d1 := y9.cell1; have d2 := y9.cell2; have d3 := y9.cell3
            have gs := grown_set4 w9 w.heap.size (.int .i64 6) (.slice sa scope.length sc) (.slice none 0 0) (.slice aa7 (args.length + 2) ac7)
            have hc : ConO (· < w.heap.size + 2) w9 ⟨.int .i64 6, .slice sa scope.length sc, .slice none 0 0, .slice aa7 (args.length + 2) ac7⟩ ⟨6, scope, [], args ++ [how, u.n]⟩ := ⟨rfl, own_fresh hs9.own1, TupsO.nil _ _, own_fresh hs9.own2⟩
            have hc2 := (hc.kept gs (fun b e => by cases e; show w.heap.size < w.heap.size + 2; omega)).weaken (Y := (· < w.heap.size)) (fun g _ h => by show g < w.heap.size + 2; have : g < w.heap.size := h; omega)
            refine bodyPost_ret (v := .agg #[.int .i64 6, .slice sa scope.length sc, .slice none 0 0, .slice aa7 (args.length + 2) ac7]) ?_ rfl (ends_ok (unhide HX4) (grown_then hs9.gr gs (fun b e => .inl (by cases e; exact Nat.le_refl _))) ⟨_, rfl, hc2⟩ (hs9.rd.setVar hlt _ _ _ _))
            simp [results, Tryd.results68, go_sem, d0, d1, d2, d3]

end Go.Proofs.YtoiokplgkanepaaDoor
