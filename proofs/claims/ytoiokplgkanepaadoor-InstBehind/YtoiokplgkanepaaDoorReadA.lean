/-
  Reading tokens: the contracts of need, take, number, value.
-/
import Derived.Test.YtoiokplgkanepaaDoorInstWords
namespace Go.Proofs.YtoiokplgkanepaaDoor
open Go.RowKit
set_option linter.unusedVariables false
set_option linter.unusedSimpArgs false
set_option maxRecDepth 20000

/-- What is thrown where a text is wrong. -/
def faultE (p : Nat) (c : Int) : List PanicEntry := [{ v := .iface 47 (.agg #[.int .i64 (p : Int), .int .i64 c]), recovered := false }]

/-- The reader, in the block R: the tokens that are still to be read lie in the world w0, and what was read in the blocks of dv, hv, sv. -/
structure Rd (w0 : World) (R : Nat) (w : World) (ts : List Tok) (dv hv sv : Value) : Prop where
  box : ∃ tv, BoxK 50 w R tv dv hv sv ∧ ToksV w0 tv ts
  old : Below w0.heap.size w0 w
  le : w0.heap.size ≤ R

theorem grown_set (w : World) (b i : Nat) (v : Value) : w.grownBy (w.setCell ⟨b, i, none⟩ v) (some b) :=
  ⟨rfl, rfl, rfl, by simp [World.setCell], fun k _ hne => heap_setCell_other w _ k v (fun e => hne (by rw [e]))⟩
theorem grown_refl (w : World) (row : Option Nat) : w.grownBy w row := ⟨rfl, rfl, rfl, Nat.le_refl _, fun _ _ _ => rfl⟩
theorem grown_drewN (w : World) (n : Nat) (row : Option Nat) : w.grownBy (w.drewN n) row := ⟨rfl, rfl, rfl, Nat.le_refl _, fun _ _ _ => rfl⟩
theorem grown_below {w w' : World} (h : Below w.heap.size w w') (row : Option Nat) : w.grownBy w' row := ⟨h.os, h.tape, h.output, h.size, fun k hk _ => h.block k hk⟩
/-- What was written behind w's end is new. -/
theorem grown_then {w w1 w2 : World} {row row' : Option Nat} (h : w.grownBy w1 row) (k : w1.grownBy w2 row') (hr : ∀ b, row' = some b → w.heap.size ≤ b ∨ row = some b) : w.grownBy w2 row :=
  ⟨k.os.trans h.os, k.tape.trans h.tape, k.output.trans h.output, Nat.le_trans h.size k.size, fun j hj hne => (k.block j (Nat.lt_of_lt_of_le hj h.size) (fun e => by
    rcases hr j e.symm with h' | h'
    · omega
    · exact hne h'.symm)).trans (h.block j hj hne)⟩

theorem Rd.lt {w0 : World} {R : Nat} {w : World} {ts : List Tok} {dv hv sv : Value} (h : Rd w0 R w ts dv hv sv) : R < w.heap.size := by
  obtain ⟨tv, hb, _⟩ := h.box
  exact hb.lt
theorem Rd.grown {w0 : World} {R : Nat} {w w' : World} {ts : List Tok} {dv hv sv : Value} {row : Option Nat} (h : Rd w0 R w ts dv hv sv) (g : w.grownBy w' row) (hr : ∀ b, row = some b → w.heap.size ≤ b ∨ R < b) : Rd w0 R w' ts dv hv sv := by
  obtain ⟨tv, hb, ht⟩ := h.box
  have hl := hb.lt
  have hle := h.le
  have hs := h.old.size
  refine ⟨⟨tv, ?_, ht⟩, ?_, hle⟩
  · unfold BoxK at *
    rw [g.block R hl (fun e => by rcases hr R e.symm with h | h <;> omega)]; exact hb
  · exact h.old.trans ⟨g.os, g.tape, g.output, g.size, fun k hk => g.block k (by omega) (fun e => by rcases hr k e.symm with h | h <;> omega)⟩
theorem Rd.below {w0 : World} {R : Nat} {w w' : World} {ts : List Tok} {dv hv sv : Value} (h : Rd w0 R w ts dv hv sv) (g : Below w.heap.size w w') : Rd w0 R w' ts dv hv sv := h.grown (grown_below g none) (fun b e => by cases e)
theorem Rd.push {w0 : World} {R : Nat} {w : World} {ts : List Tok} {dv hv sv : Value} (h : Rd w0 R w ts dv hv sv) (o : Obj) : Rd w0 R (w.alloc o) ts dv hv sv := h.below ((Below.refl _ _).alloc (Nat.le_refl _) o)

set_option maxHeartbeats 400000 in
theorem need_ok (t : Tok) (c : Int) (w : World) : Calls Tryd.prog 35 #[.bool true, tokV t, .int .i64 c] w fun e w' => e = .returned (.tuple #[]) ∧ Below w.heap.size w w' := by
  unfold tokV
  go_enter Tryd.func35, Tryd.ntmps35
  go_wp2
  go_end0
  exact ⟨rfl, (Below.refl _ _).alloc (Nat.le_refl _) _⟩

set_option maxHeartbeats 400000 in
theorem need_no (t : Tok) (c : Int) (w : World) : Calls Tryd.prog 35 #[.bool false, tokV t, .int .i64 c] w fun e w' => e = .panicked (faultE t.at_ c) ∧ Below w.heap.size w w' := by
  unfold tokV faultE
  go_enter Tryd.func35, Tryd.ntmps35
  go_wp2
  exact ⟨rfl, rfl, (Below.refl _ _).alloc (Nat.le_refl _) _⟩

/-- Where 't[1:]' of tokens begins. -/
def tailA (a : Option Addr) (cap : Nat) : Option Addr := if cap = 1 then a else a.map (·.add 4)

theorem run_tail (a : Option Addr) (len cap : Nat) (h : 1 ≤ len) (w : World) :
    (Instr.slice 43 (.slice a len cap) (some (.int .i64 1)) none none).run Tryd.prog w = .ok (.slice (tailA a cap) (len - 1) (cap - 1)) w := by
  have hu : Tryd.prog.underlying 43 = some (.slice (Tryd.prog.elem 43)) := by kernel_rfl
  have hsz : (sizeOf (Tryd.prog.elem 43)).run Tryd.prog w = .ok 4 w := by kernel_rfl
  rw [run_slice_l w 43 a len cap hu .i64 (1 : Int) (by omega) (by omega), hsz]
  simp [Result.andThen_ok, sliced, tailA]

theorem ToksV.tail {w : World} {a : Option Addr} {n cap : Nat} {t : Tok} {r : List Tok} (h : ToksV w (.slice a n cap) (t :: r)) : ToksV w (.slice (tailA a cap) (n - 1) (cap - 1)) r := by
  obtain ⟨a', cap', h1, h2, h3, h4⟩ := h
  cases h1
  simp only [List.length_cons] at h2
  refine ⟨tailA a cap, cap - 1, by simp, by omega, by omega, fun i hi => ?_⟩
  obtain ⟨b, off, rfl, k1, k2, k3, k4⟩ := h4 (i + 1) (by simp; omega)
  refine ⟨b, off + 4, ?_, ?_, ?_, ?_, ?_⟩
  · unfold tailA; rw [if_neg (by omega)]; rfl
  · simpa [Nat.add_mul, Nat.add_assoc, Nat.add_comm, Nat.add_left_comm] using k1
  · simpa [Nat.add_mul, Nat.add_assoc, Nat.add_comm, Nat.add_left_comm] using k2
  · simpa [Nat.add_mul, Nat.add_assoc, Nat.add_comm, Nat.add_left_comm] using k3
  · simpa [Nat.add_mul, Nat.add_assoc, Nat.add_comm, Nat.add_left_comm] using k4

theorem BoxK.set0 {e : TypeId} {w : World} {b : Nat} {x y z u : Value} (h : BoxK e w b x y z u) (x' : Value) : BoxK e (w.setCell ⟨b, 0, none⟩ x') b x' y z u := by
  unfold BoxK at *
  rw [heap_setCell_same w b 0 _ _ x' h]; simp

theorem cell_push0 {w : World} {a : Addr} {v : Value} (h : w.cell? a = some v) (o : Obj) : (w.alloc o).cell? a = some v := Below.cell_of ((Below.refl _ _).alloc (Nat.le_refl _) o) h
theorem frozen_push0 {w : World} {a : Addr} (h : w.frozen? a = false) (hl : a.block < w.heap.size) (o : Obj) : (w.alloc o).frozen? a = false := by
  rw [((Below.refl w.heap.size w).alloc (Nat.le_refl _) o).frozen hl]; exact h

set_option maxHeartbeats 1000000 in
theorem rtake_any {w0 : World} {R : Nat} {w : World} {t : Tok} {r : List Tok} {dv hv sv : Value} (h : Rd w0 R w (t :: r) dv hv sv) :
    Calls Tryd.prog 33 #[.pointer (some ⟨R, 0, none⟩)] w fun e w' => e = .returned (tokV t) ∧ Rd w0 R w' r dv hv sv ∧ w.grownBy w' (some R) := by
  obtain ⟨tv, hb, ht⟩ := h.box
  obtain ⟨a, cap, rfl, hl, hc⟩ := ht.form
  have hold := h.old
  have hle := h.le
  have hlt := hb.lt
  obtain ⟨b, off, rfl, k0, k1, k2, k3⟩ := (ht.below hold).at (i := 0) (by simp)
  simp only [List.getElem_cons_zero, Nat.zero_mul, Nat.add_zero] at k0 k1 k2 k3
  have c0 := cell_push0 hb.cell0
  have f0 := frozen_push0 (hb.frozen 0) hlt
  have hne : ¬ R = w.heap.size := by omega
  have hne' : ¬ w.heap.size = R := by omega
  replace k0 := cell_push0 k0
  replace k1 := cell_push0 k1
  replace k2 := cell_push0 k2
  replace k3 := cell_push0 k3
  have hrun := fun w => run_tail (some ⟨b, off, none⟩) (t :: r).length cap (by simp) w
  have HT := hide ht.tail
  have HB := hide hb
  have HO := hide hold
  unfold maxLen at hc
  simp only [List.length_cons] at *
  unfold tokV
  clear h hb ht hold
  go_enter Tryd.func33, Tryd.ntmps33
  go_wp2
  refine bodyPost_ret (v := .agg #[.int .i64 t.kind, .string ⟨t.text.toArray⟩, .int .i64 t.n, .int .i64 (t.at_ : Int)]) ?_ rfl ⟨rfl, ?_, ?_⟩
  · simp [results, Tryd.results33, go_sem]
  · have h1 : Rd w0 R (w.setCell ⟨R, 0, none⟩ (.slice (tailA (some ⟨b, off, none⟩) cap) r.length (cap - 1))) r dv hv sv := ⟨⟨_, (unhide HB).set0 _, unhide HT⟩, (unhide HO).setCell (by exact hle) _, hle⟩
    exact (h1.push _).push _
  · exact grown_then (grown_then (grown_set _ _ _ _) (World.grownBy_alloc _ _ none) (by simp)) (World.grownBy_alloc _ _ none) (by simp)

theorem tok_f0 (k n p : Int) (s : ByteArray) (w : World) : (Instr.field 52 (.agg #[.int .i64 k, .string s, .int .i64 n, .int .i64 p]) 0).run Tryd.prog w = .ok (.int .i64 k) w := by kernel_rfl
theorem tok_f2 (k n p : Int) (s : ByteArray) (w : World) : (Instr.field 52 (.agg #[.int .i64 k, .string s, .int .i64 n, .int .i64 p]) 2).run Tryd.prog w = .ok (.int .i64 n) w := by kernel_rfl

theorem BoxK.keep {e : TypeId} {w w' : World} {b : Nat} {x y z u : Value} {row : Option Nat} (h : BoxK e w b x y z u) (g : w.grownBy w' row) (hne : row ≠ some b) : BoxK e w' b x y z u := by
  have hl := h.lt
  unfold BoxK at *
  rw [g.block b hl (fun e => hne e.symm)]; exact h

/-- The world behind a fresh variable, a callee that wrote into R, and four cells of that variable. -/
theorem grown_var {w w1 : World} {o : Obj} {R : Nat} (g : (w.alloc o).grownBy w1 (some R)) (x y z u : Value) : w.grownBy ((((w1.setCell ⟨w.heap.size, 0, none⟩ x).setCell ⟨w.heap.size, 1, none⟩ y).setCell ⟨w.heap.size, 2, none⟩ z).setCell ⟨w.heap.size, 3, none⟩ u) (some R) := by
  have h0 := grown_then (World.grownBy_alloc w o (some R)) g (fun b e => .inr e)
  have k : ∀ (b : Nat), some w.heap.size = some b → w.heap.size ≤ b ∨ some R = some b := fun b e => .inl (by cases e; exact Nat.le_refl _)
  exact grown_then (grown_then (grown_then (grown_then h0 (grown_set _ _ _ _) k) (grown_set _ _ _ _) k) (grown_set _ _ _ _) k) (grown_set _ _ _ _) k
theorem Rd.setVar {w0 : World} {R : Nat} {w1 : World} {ts : List Tok} {dv hv sv : Value} (h : Rd w0 R w1 ts dv hv sv) {n : Nat} (hn : R < n) (x y z u : Value) : Rd w0 R ((((w1.setCell ⟨n, 0, none⟩ x).setCell ⟨n, 1, none⟩ y).setCell ⟨n, 2, none⟩ z).setCell ⟨n, 3, none⟩ u) ts dv hv sv := by
  have k : ∀ (W : World) (b : Nat), some n = some b → W.heap.size ≤ b ∨ R < b := fun W b e => .inr (by cases e; exact hn)
  exact (((h.grown (grown_set _ _ _ _) (k _)).grown (grown_set _ _ _ _) (k _)).grown (grown_set _ _ _ _) (k _)).grown (grown_set _ _ _ _) (k _)
theorem grown_below_then {w w1 w2 : World} {row : Option Nat} (g : w.grownBy w1 row) (hb : Below w1.heap.size w1 w2) : w.grownBy w2 row := grown_then g (grown_below hb none) (fun b e => by cases e)

set_option maxHeartbeats 1000000 in
theorem numb_ok {w0 : World} {R : Nat} {w : World} {t : Tok} {ts r : List Tok} {dv hv sv : Value} (h : Rd w0 R w ts dv hv sv) (hn : numberR ts = .ok t r) :
    Calls Tryd.prog 66 #[.pointer (some ⟨R, 0, none⟩)] w fun e w' => e = .returned (tokV t) ∧ Rd w0 R w' r dv hv sv ∧ w.grownBy w' (some R) := by
  obtain ⟨rfl, hk⟩ := number_ok hn
  have hk' : (t.kind == 2) = true := by simp [hk]
  have hlt := h.lt
  have HT := hide (rtake_any (h.push (.cells #[.int .i64 0, .string ⟨#[]⟩, .int .i64 0, .int .i64 0] 52)))
  have HN := hide (fun W => need_ok t 3 W)
  have hne : ¬ R = w.heap.size := by omega
  unfold tokV at HT HN ⊢
  clear h hn hk
  go_enter Tryd.func66, Tryd.ntmps66
  go_wp2_with fail
  refine (unhide HT).mono ?_
  rintro e w1 ⟨rfl, hr, hg⟩
  have X0 := hide ((BoxK.new 52 w (.int .i64 0) (.string ⟨#[]⟩) (.int .i64 0) (.int .i64 0)).keep hg (by simpa using hne))
  have x1 := BoxK.new 52 w1 (.int .i64 t.kind) (.string ⟨t.text.toArray⟩) (.int .i64 t.n) (.int .i64 (t.at_ : Int))
  have X1 := hide x1
  go_wp2_with fail
  refine (unhide HN _).mono ?_
  rintro e w2 ⟨rfl, hb⟩
  have x2 := (unhide X1).belowH hb
  have d0 := x2.cell0; have d1 := x2.cell1; have d2 := x2.cell2; have d3 := x2.cell3
  have y2 := ((unhide X0).push _).belowH hb
  have c0 := y2.cell0; have c1 := y2.cell1; have c2 := y2.cell2; have c3 := y2.cell3; have f0 := y2.frozen
  have hr2 := (hr.push _).below hb
  have hg2 := grown_below_then (grown_then hg (World.grownBy_alloc w1 _ none) (by simp)) hb
  have HR := hide (hr2.setVar hlt (.int .i64 t.kind) (.string ⟨t.text.toArray⟩) (.int .i64 t.n) (.int .i64 (t.at_ : Int)))
  have HG := hide (grown_var hg2 (.int .i64 t.kind) (.string ⟨t.text.toArray⟩) (.int .i64 t.n) (.int .i64 (t.at_ : Int)))
  have Y2 := hide (BoxK.set y2 (.int .i64 t.kind) (.string ⟨t.text.toArray⟩) (.int .i64 t.n) (.int .i64 (t.at_ : Int)))
  clear x2 y2 hr2 hg2 hr hg x1 X0 X1 hb
  go_wp2
  have y3 := unhide Y2
  have c0 := y3.cell0; have c1 := y3.cell1; have c2 := y3.cell2; have c3 := y3.cell3
  refine bodyPost_ret (v := .agg #[.int .i64 t.kind, .string ⟨t.text.toArray⟩, .int .i64 t.n, .int .i64 (t.at_ : Int)]) ?_ rfl ⟨rfl, unhide HR, unhide HG⟩
  simp [results, Tryd.results66, go_sem, c0, c1, c2, c3]

end Go.Proofs.YtoiokplgkanepaaDoor
