/-
  The program's Costs: every row's cost.
-/
import Derived.Test.YtflibcfecnhjgaaBTab
import Derived.Test.YtflibcfecnhjgaaUntil
namespace Go.Proofs.Ytflibcfecnhjgaa
open Go.RowKit
set_option linter.unusedVariables false
set_option linter.unusedSimpArgs false
set_option maxRecDepth 20000

theorem Try.infoCI : (Try.prog.info? 2).map (fun i => (i.zero, i.size, i.bytes)) = some (some (.int .i64 0), 1, 8) := by kernel_rfl
abbrev OwnCI (B : Nat) (w : World) (v : Value) (l : List Int) : Prop := w.ownsRow B 2 1 v l.length (l.map (Value.int .i64))
theorem ownC_sl {B : Nat} {w : World} {v : Value} {l : List Int} (h : OwnCI B w v l) : ∃ a n c, v = .slice a n c := by
  obtain ⟨a, c, rfl, _, _⟩ := (Seq.of_own h).form
  exact ⟨_, _, _, rfl⟩
theorem op_app_costC {w : World} {o : Oper} {a : Act} {K : Act → World → Prop} {Q : Exit → Act → World → Prop} (s x : Operand)
    (ho : o.op = .call { callee := .builtin .append, args := #[s, x], argTypes := #[41, 41] }) {B : Nat} {v : Value} {l : List Int} {y : Int} (hown : OwnCI B w v l) (hs : a.eval s = v) (hB : B ≤ w.heap.size)
    (hx : a.eval x = .slice (some ⟨w.heap.size, 0, none⟩) 1 1) (hlen : l.length < 100000000000)
    (h : ∀ v' w', OwnCI B w' v' (l ++ [y]) → Grew B w w' v v' → K (a.put o.dst v') w') :
    o.wp Try.prog a (w.alloc (.cells #[.int .i64 y] 2)) K Q :=
  op_app_one Try.underlying41 Try.infoCI rfl (by decide) s x ho hown hs hB hx rfl hlen h

/-- A variable of three cells. -/
def Box3 (w : World) (b : Nat) (x y v : Value) : Prop := w.heap[b]? = some (.cells #[x, y, v] 45)
theorem Box3.cells {w : World} {b : Nat} {x y v : Value} (h : Box3 w b x y v) : w.cell? ⟨b, 0, none⟩ = some x ∧ w.cell? ⟨b, 1, none⟩ = some y ∧ w.cell? ⟨b, 2, none⟩ = some v ∧ w.frozen? ⟨b, 0, none⟩ = false ∧ w.frozen? ⟨b, 1, none⟩ = false ∧ w.frozen? ⟨b, 2, none⟩ = false := by
  unfold Box3 at h
  refine ⟨?_, ?_, ?_, frozen_of_row _ _ _ _ _ h, frozen_of_row _ _ _ _ _ h, frozen_of_row _ _ _ _ _ h⟩ <;> (unfold World.cell?; rw [h]; rfl)

/-- How Costs ends. -/
def CostEnds (w' : World) (e : Ending) (s : Sft) (R : List (List Int)) (most : Int) : Prop :=
  ((R.length : Int) ≤ most ∧ ∃ va vb vc, e = .returned (.tuple #[.agg #[va, vb, vc], .int .i64 0]) ∧ Ints w' va s.scope ∧ Tups w' vb R ∧ Ints w' vc (R.map (costB s))) ∨
  (most < (R.length : Int) ∧ e = .returned (.tuple #[.agg #[.slice none 0 0, .slice none 0 0, .slice none 0 0], .int .i64 9]))

theorem Box3.set {w : World} {b : Nat} {x y v : Value} (h : Box3 w b x y v) (u : Value) : Box3 (w.setCell ⟨b, 2, none⟩ u) b x y u := by
  unfold Box3 at *
  rw [heap_setCell_same w b 2 _ _ u h]; simp
theorem Box3.grew {w w' : World} {b B : Nat} {x y v u u' : Value} (h : Box3 w b x y v) (g : Grew B w w' u u') (hne : u.ownBlock ≠ some b) : Box3 w' b x y v := by
  unfold Box3 at *
  rw [g.by_.block b (Array.getElem?_eq_some_iff.1 h).1 (fun e => hne e.symm)]; exact h
theorem Box3.below {w w' : World} {b : Nat} {x y v : Value} (h : Box3 w b x y v) (hb : Below w.heap.size w w') : Box3 w' b x y v := by
  unfold Box3 at *
  rw [hb.block b (Array.getElem?_eq_some_iff.1 h).1]; exact h
theorem Box3.boxS {w : World} {b : Nat} {a a' a'' : Option Addr} {n n' n'' c c' c'' : Nat} (h : Box3 w b (.slice a n c) (.slice a' n' c') (.slice a'' n'' c'')) : BoxS w b := by
  intro off u hu
  unfold Box3 at h
  unfold World.cell? at hu
  rw [h] at hu
  match off, hu with
  | 0, hu => simp at hu; exact ⟨_, _, _, hu.symm⟩
  | 1, hu => simp at hu; exact ⟨_, _, _, hu.symm⟩
  | 2, hu => simp at hu; exact ⟨_, _, _, hu.symm⟩
  | off + 3, hu => simp at hu

/-- The three parts laid in the answer's variable. -/
theorem cost_store {w : World} {b : Nat} {a a' a'' : Option Addr} {n n' n'' c c' c'' : Nat} {S C : List Int} {R : List (List Int)} (h : Box3 w b (.slice none 0 0) (.slice none 0 0) (.slice none 0 0)) (hi : Ints w (.slice a n c) S) (ht : Tups w (.slice a' n' c') R)
    (hne : (Value.slice a' n' c').ownBlock ≠ some b) (hc : Ints w (.slice a'' n'' c'') C) :
    Ints (((w.setCell ⟨b, 0, none⟩ (.slice a n c)).setCell ⟨b, 1, none⟩ (.slice a' n' c')).setCell ⟨b, 2, none⟩ (.slice a'' n'' c'')) (.slice a n c) S ∧
    Tups (((w.setCell ⟨b, 0, none⟩ (.slice a n c)).setCell ⟨b, 1, none⟩ (.slice a' n' c')).setCell ⟨b, 2, none⟩ (.slice a'' n'' c'')) (.slice a' n' c') R ∧
    Ints (((w.setCell ⟨b, 0, none⟩ (.slice a n c)).setCell ⟨b, 1, none⟩ (.slice a' n' c')).setCell ⟨b, 2, none⟩ (.slice a'' n'' c'')) (.slice a'' n'' c'') C := by
  have b0 := h.boxS
  obtain ⟨k0, k1, k2, _, _, _⟩ := h.cells
  have b1 := b0.setCell k0 a n c
  have k1' : (w.setCell ⟨b, 0, none⟩ (.slice a n c)).cell? ⟨b, 1, none⟩ = some (.slice none 0 0) := by rw [World.cell?_setCell_other]; exact k1; intro e; injection e; omega
  have b2 := b1.setCell k1' a' n' c'
  exact ⟨((hi.setBox b0 _ _).setBox b1 _ _).setBox b2 _ _, ((ht.setBox b0 hne _ _).setBox b1 hne _ _).setBox b2 hne _ _, ((hc.setBox b0 _ _).setBox b1 _ _).setBox b2 _ _⟩

set_option maxHeartbeats 4000000 in
theorem costs_any {most : Int} {doms : List (List Int)} {s : Sft} {vd vs : Value} {w : World} (hd : Tups w vd doms) (hs : SftV w vs s) (hin : ∀ x ∈ s.scope, 0 ≤ x ∧ x < (doms.length : Int)) (hsl : s.scope.length < 100000)
    (hcnt : (fullL (s.scope.map (domL doms))).length < 1000000000) (hdl : ∀ d ∈ doms, d.length < 1000000000) (hasc : AscL s.rows) (hlen : s.rows.length < 100000000) :
    Calls Try.prog 12 #[vd, vs, .int .i64 most] w fun e w' => CostEnds w' e s (fullL (s.scope.map (domL doms))) most ∧ Below w.heap.size w w' := by
  obtain ⟨a, ca, rfl, hla, hca⟩ := hd.form
  obtain ⟨vs, vr, vc, rfl, g1, g2, g3⟩ := hs
  obtain ⟨a1, c1, rfl, l1, m1⟩ := g1.form
  obtain ⟨a2, c2, rfl, l2, m2⟩ := g2.form
  obtain ⟨a3, c3, rfl, l3, m3⟩ := g3.form
  unfold maxLen at hca m1 m2 m3
  have hb0 := ((Below.refl w.heap.size w).alloc (Nat.le_refl _) (.cells #[.slice a1 s.scope.length c1, .slice a2 s.rows.length c2, .slice a3 s.costs.length c3, .int .i64 s.dflt] 43)).alloc (by simp) (.cells #[.slice none 0 0, .slice none 0 0, .slice none 0 0] 45)
  obtain ⟨W1, hW1⟩ : ∃ W, W = (w.alloc (.cells #[.slice a1 s.scope.length c1, .slice a2 s.rows.length c2, .slice a3 s.costs.length c3, .int .i64 s.dflt] 43)).alloc (.cells #[.slice none 0 0, .slice none 0 0, .slice none 0 0] 45) := ⟨_, rfl⟩
  have hz1 : W1.heap.size = w.heap.size + 2 := by rw [hW1]; simp
  have x0 : W1.heap[w.heap.size]? = some (.cells #[.slice a1 s.scope.length c1, .slice a2 s.rows.length c2, .slice a3 s.costs.length c3, .int .i64 s.dflt] 43) := by
    rw [hW1]; simp only [alloc_at, World.size_alloc]; repeat (first | rw [if_pos True.intro] | rw [if_pos rfl] | rw [if_neg (by omega)])
  have x1 : Box3 W1 (w.heap.size + 1) (.slice none 0 0) (.slice none 0 0) (.slice none 0 0) := by
    unfold Box3; rw [hW1]; simp only [alloc_at, World.size_alloc]; repeat (first | rw [if_pos True.intro] | rw [if_pos rfl] | rw [if_neg (by omega)])
  rw [← hW1] at hb0
  have HG := hide (full_any (most := most) (hd.below hb0) (g1.below hb0) hin hsl hcnt hdl)
  have HC := hide (fun W (hb : Below W1.heap.size W1 W) (t : List Int) (vt : Value) (ht : Ints W vt t) =>
    cost_any (show SftV W (.agg #[.slice a1 s.scope.length c1, .slice a2 s.rows.length c2, .slice a3 s.costs.length c3, .int .i64 s.dflt]) s from ⟨_, _, _, rfl, (g1.below hb0).below hb, (g2.below hb0).below hb, (g3.below hb0).below hb⟩) ht hasc hlen)
  have HX := hide (fun W (hb : Below W1.heap.size W1 W) =>
    have e0 : W.heap[w.heap.size]? = some (.cells #[.slice a1 s.scope.length c1, .slice a2 s.rows.length c2, .slice a3 s.costs.length c3, .int .i64 s.dflt] 43) := by rw [hb.block _ (by omega)]; exact x0
    (show W.cell? ⟨w.heap.size, 0, none⟩ = some (.slice a1 s.scope.length c1) ∧ W.cell? ⟨w.heap.size, 1, none⟩ = some (.slice a2 s.rows.length c2) ∧ W.cell? ⟨w.heap.size, 2, none⟩ = some (.slice a3 s.costs.length c3) ∧ W.cell? ⟨w.heap.size, 3, none⟩ = some (.int .i64 s.dflt) from by
      refine ⟨?_, ?_, ?_, ?_⟩ <;> (unfold World.cell?; rw [e0]; rfl)))
  have HY := hide (fun W (hb : Below W1.heap.size W1 W) => (show Box3 W (w.heap.size + 1) (.slice none 0 0) (.slice none 0 0) (.slice none 0 0) from by unfold Box3; rw [hb.block _ (by omega)]; exact x1))
  have HB := hide hb0
  have HW1 := hide hW1
  obtain ⟨y0, y1, y2, y3⟩ := unhide HX W1 (Below.refl _ _)
  generalize fullL (s.scope.map (domL doms)) = R at *
  clear hd g1 g2 g3 hin hsl hdl hasc hlen hb0 x0 x1 hW1
  go_enter Try.func12, Try.ntmps12
  go_wp2_with fail
  rw [← unhide HW1]
  refine (unhide HG).mono ?_
  rintro e w2 ⟨hE, hb2⟩
  have HB2 := hide hb2
  have hz2 := hb2.size
  have hz2' : w.heap.size + 2 ≤ w2.heap.size := by omega
  clear HW1 HG y0 y1 y2 y3
  have hb3 := hb2.alloc hz2 (.cells #[.slice none 0 0, .slice none 0 0] 36)
  obtain ⟨q0, q1, q2, f0, f1, f2⟩ := (unhide HY _ hb3).cells
  have hne1 : ¬ (w2.heap.size = w.heap.size + 1) := by omega
  have hne2 : ¬ (w.heap.size + 1 = w2.heap.size) := by omega
  rcases hE with ⟨hm, ua, ub, rfl, hi, ht, hn⟩ | ⟨hm, rfl⟩
  · obtain ⟨xa, xc, rfl, _, hxc⟩ := hi.form
    obtain ⟨ta, tc, rfl, _, htc⟩ := ht.form
    unfold maxLen at hxc htc
    have HI := hide hi
    have HT := hide ht
    have HN := hide hn
    clear hi ht hn hb2 hb3
    obtain ⟨W3, hW3⟩ : ∃ W, W = w2.alloc (.cells #[.slice xa s.scope.length xc, .slice ta R.length tc] 36) := ⟨_, rfl⟩
    have hz3 : W3.heap.size = w2.heap.size + 1 := by rw [hW3]; simp
    have hw3 : Below w2.heap.size w2 W3 := by rw [hW3]; exact (Below.refl _ _).alloc (Nat.le_refl _) _
    have HX3 := hide (fun W (hb : Below W3.heap.size W3 W) => (unhide HB2).trans ((hw3.trans (hb.mono (by omega))).mono hz2))
    have HT3 := hide (fun W (hb : Below W3.heap.size W3 W) => (unhide HT).below (hw3.trans (hb.mono (by omega))))
    have HI3 := hide (fun W (hb : Below W3.heap.size W3 W) => (unhide HI).below (hw3.trans (hb.mono (by omega))))
    have x3 : Box3 (W3.alloc (.cells #[.slice xa s.scope.length xc, .slice ta R.length tc, .slice none 0 0] 45)) (w2.heap.size + 1) (.slice xa s.scope.length xc) (.slice ta R.length tc) (.slice none 0 0) := by
      unfold Box3; rw [← hz3]; exact heap_alloc_new _ _
    have HW3 := hide hW3
    clear hw3 hW3 HT HI
    go_wp2
    rw [← unhide HW3]
    clear q0 q1 q2 f0 f1 f2 HW3
    go_loopw [12, 30] (fun _ i wr => ∃ (k : Nat) (v : Value), k ≤ R.length ∧ i = .int .i64 k ∧ Box3 wr (w2.heap.size + 1) (.slice xa s.scope.length xc) (.slice ta R.length tc) v ∧ OwnCI (w2.heap.size + 2) wr v ((R.take k).map (costB s)) ∧ Below W3.heap.size W3 wr) (fun _ i _ => R.length - (intOf i).toNat)
    case atStart => exact ⟨0, _, by omega, rfl, x3, World.ownsRow_nil _ _ _ _, (Below.refl _ _).alloc (Nat.le_refl _) _⟩
    case round =>
      clear x3
      obtain ⟨k, v, hk, rfl, hbx, hown, hbel⟩ := hrel
      rename World => wr
      obtain ⟨oa, on, oc, rfl⟩ := ownC_sl hown
      have hzr := hbel.size
      by_cases hkl : k < R.length
      · obtain ⟨b4, o4, u4, rfl, q4, r4⟩ := (unhide HT3 wr hbel).at hkl
        obtain ⟨a5, c5, rfl, _, _⟩ := r4.form
        have HST : Hid ((R.take (k + 1)).map (costB s) = (R.take k).map (costB s) ++ [costB s R[k]]) := hide (by
          rw [List.take_succ_eq_append_getElem hkl, List.map_append]; rfl)
        have hll : ((R.take k).map (costB s)).length < 1000000000 := by
          rw [List.length_map, List.length_take]; omega
        obtain ⟨y0, y1, y2, y3⟩ := unhide HX wr (unhide HX3 wr hbel)
        obtain ⟨p0, p1, p2, g0, g1, g2⟩ := hbx.cells
        have HCL := hide (unhide HC wr.drew (unhide HX3 _ hbel.drew) _ _ (r4.below (Below.refl _ _).drew))
        generalize R[k] = t at *
        generalize (R.take k).map (costB s) = L at *
        clear r4
        go_wp2
        refine wp_region_noPanic ?_
        refine wp_region_till (st := 8) (S := fun W => (W.cell? ⟨w.heap.size, 0, none⟩ = some (.slice a1 s.scope.length c1) ∧ W.cell? ⟨w.heap.size, 1, none⟩ = some (.slice a2 s.rows.length c2) ∧ W.cell? ⟨w.heap.size, 2, none⟩ = some (.slice a3 s.costs.length c3) ∧ W.cell? ⟨w.heap.size, 3, none⟩ = some (.int .i64 s.dflt)) ∧ W.cell? ⟨w2.heap.size + 1, 2, none⟩ = some (.slice oa on oc)) (by kernel_rfl) ?_
        have hS0 : (wr.drew.cell? ⟨w.heap.size, 0, none⟩ = some (.slice a1 s.scope.length c1) ∧ wr.drew.cell? ⟨w.heap.size, 1, none⟩ = some (.slice a2 s.rows.length c2) ∧ wr.drew.cell? ⟨w.heap.size, 2, none⟩ = some (.slice a3 s.costs.length c3) ∧ wr.drew.cell? ⟨w.heap.size, 3, none⟩ = some (.int .i64 s.dflt)) ∧ wr.drew.cell? ⟨w2.heap.size + 1, 2, none⟩ = some (.slice oa on oc) := ⟨⟨y0, y1, y2, y3⟩, p2⟩
        refine till_take (i := 0) (v := ?_) rfl (by kernel_rfl) (by kernel_rfl) (by kernel_rfl) (by kernel_rfl) (fun _ _ _ h => h) (Or.inl ⟨by rfl, ?_⟩) (by assumption) ?_
        rotate_left
        · intro W hSW; obtain ⟨⟨hS1, hS2, hS3, hS4⟩, hS5⟩ := hSW; go_simp; first | done | rfl
        simp only [Act.put, List.setIfInBounds_toArray, List.set_cons_zero, List.set_cons_succ]
        refine till_take (i := 1) (v := ?_) rfl (by kernel_rfl) (by kernel_rfl) (by kernel_rfl) (by kernel_rfl) (fun _ _ _ h => h) (Or.inl ⟨by rfl, ?_⟩) (by assumption) ?_
        rotate_left
        · intro W hSW; obtain ⟨⟨hS1, hS2, hS3, hS4⟩, hS5⟩ := hSW; go_simp; first | done | rfl
        simp only [Act.put, List.setIfInBounds_toArray, List.set_cons_zero, List.set_cons_succ]
        refine till_take (i := 2) (v := ?_) rfl (by kernel_rfl) (by kernel_rfl) (by kernel_rfl) (by kernel_rfl) (fun _ _ _ h => h) (Or.inl ⟨by rfl, ?_⟩) (by assumption) ?_
        rotate_left
        · intro W hSW; obtain ⟨⟨hS1, hS2, hS3, hS4⟩, hS5⟩ := hSW; go_simp; first | done | rfl
        simp only [Act.put, List.setIfInBounds_toArray, List.set_cons_zero, List.set_cons_succ]
        refine till_take (i := 3) (v := ?_) rfl (by kernel_rfl) (by kernel_rfl) (by kernel_rfl) (by kernel_rfl) (fun _ _ _ h => h) (Or.inl ⟨by rfl, ?_⟩) (by assumption) ?_
        rotate_left
        · intro W hSW; obtain ⟨⟨hS1, hS2, hS3, hS4⟩, hS5⟩ := hSW; go_simp; first | done | rfl
        simp only [Act.put, List.setIfInBounds_toArray, List.set_cons_zero, List.set_cons_succ]
        refine till_one (i := 4) (by kernel_rfl) rfl rfl (by decide) (fun K hK => ?_)
        go_simp
        go_at_call 14
        refine (unhide HCL).mono ?_
        rintro e w9 ⟨rfl, hb9⟩
        have hb9' : Below wr.heap.size wr w9 := ⟨hb9.os, hb9.tape, hb9.output, hb9.size, hb9.block⟩
        have hB9 : Below W3.heap.size W3 w9 := hbel.trans (hb9'.mono hzr)
        have hbx9 := hbx.below hb9'
        have hown9 : OwnCI (w2.heap.size + 2) w9 (.slice oa on oc) L := own_below hown hb9'
        obtain ⟨y0', y1', y2', y3'⟩ := unhide HX w9 (unhide HX3 w9 hB9)
        have hc9 := hbx9.cells.2.2.1
        refine hK.out _ _ ⟨⟨y0', y1', y2', y3'⟩, hc9⟩ (fun hHeld => ?_)
        clear hK K
        try simp only [Act.put, List.setIfInBounds_toArray, List.set_cons_zero, List.set_cons_succ]
        refine till_one (i := 5) (by kernel_rfl) rfl rfl (by decide) (fun K hK => ?_)
        go_simp
        refine hK.out _ _ ⟨⟨cell_push0' hHeld.1.1 _, cell_push0' hHeld.1.2.1 _, cell_push0' hHeld.1.2.2.1 _, cell_push0' hHeld.1.2.2.2 _⟩, cell_push0' hHeld.2 _⟩ (fun hHeld => ?_)
        clear hK K
        try simp only [Act.put, List.setIfInBounds_toArray, List.set_cons_zero, List.set_cons_succ]
        refine till_one (i := 6) (by kernel_rfl) rfl rfl (by decide) (fun K hK => ?_)
        have hz9 := hB9.size
        have hbz : w2.heap.size + 1 < w9.heap.size := (Array.getElem?_eq_some_iff.1 hbx9).1
        refine op_app_costC (.tmp 35) (.tmp 39) rfl hown9 rfl (by omega) rfl (by omega) ?_
        intro v6 w6 hown6 hg6
        obtain ⟨na, nn, nc, rfl⟩ := ownC_sl hown6
        have hbx6 := hbx9.grew hg6 ((New.of_own hown9).ne (by omega))
        have hB6 : Below W3.heap.size W3 w6 := hB9.trans (hg6.below.mono (by omega))
        obtain ⟨z0, z1, z2, z3⟩ := unhide HX w6 (unhide HX3 w6 hB6)
        obtain ⟨p0', p1', p2', g0', g1', g2'⟩ := hbx6.cells
        refine hK.out _ _ ⟨⟨z0, z1, z2, z3⟩, p2'⟩ (fun hHeld => ?_)
        clear hK K
        try simp only [Act.put, List.setIfInBounds_toArray, List.set_cons_zero, List.set_cons_succ]
        refine till_one (i := 7) (by kernel_rfl) rfl rfl (by decide) (fun K hK => ?_)
        go_simp
        refine hK.out _ _ hHeld (fun hHeld => ?_)
        clear hK K
        try simp only [Act.put, List.setIfInBounds_toArray, List.set_cons_zero, List.set_cons_succ]
        refine till_last (by kernel_rfl) rfl rfl (by kernel_rfl) (fun K hK => ?_)
        go_simp
        refine hK.out _ _ (NoPanic.normal ?_)
        have hn6 := (New.of_own hown6).ne (b := w2.heap.size + 1) (by omega)
        clear hHeld hS0 p0 p1 p2 g0 g1 g2 p0' p1' p2' g0' g1' g2' y0 y1 y2 y3 y0' y1' y2' y3' z0 z1 z2 z3 hc9
        go_wp2
        go_roundw
        case rel => exact ⟨k + 1, _, by omega, by go_num, hbx6.set _, by rw [unhide HST]; exact ownsRow_setCell_other hown6 hn6 _, hB6.setCell (by simp; omega) _⟩
        case measure => simp [intOf]; omega
      · have hke : k = R.length := by omega
        subst hke
        rw [List.take_length] at hown
        have hBw := unhide HX3 wr hbel
        have hbo := unhide HY wr hBw
        obtain ⟨p0, p1, p2, g0, g1, g2⟩ := hbx.cells
        obtain ⟨q0, q1, q2, f0, f1, f2⟩ := hbo.cells
        have hfin := cost_store hbo (unhide HI3 wr hbel) (unhide HT3 wr hbel) (fun e => by have := unhide HN _ e; omega) (Seq.of_own hown)
        have hE : Below w.heap.size w wr := (unhide HB).trans (hBw.mono (by omega))
        have HF := hide hfin
        have HE := hide hE
        clear hfin hE hown hbx hbo hbel hkl
        go_wp2
        refine bodyPost_ret (v := .tuple #[.agg #[.slice xa s.scope.length xc, .slice ta R.length tc, .slice oa on oc], .int .i64 0]) (by simp [results, Try.results12, go_sem, q0, q1, q2]) rfl ⟨.inl ⟨hm, _, _, _, rfl, (unhide HF).1, (unhide HF).2.1, (unhide HF).2.2⟩, ?_⟩
        exact (((unhide HE).setCell (by simp) _).setCell (by simp) _).setCell (by simp) _
  · have HE := hide ((unhide HB).trans (hb3.mono (by omega)))
    clear hb2 hb3
    go_wp2
    refine bodyPost_ret (v := .tuple #[.agg #[.slice none 0 0, .slice none 0 0, .slice none 0 0], .int .i64 9]) (by simp [results, Try.results12, go_sem, q0, q1, q2]) rfl ⟨.inr ⟨hm, rfl⟩, ?_⟩
    exact (((unhide HE).setCell (by simp) _).setCell (by simp) _).setCell (by simp) _

end Go.Proofs.Ytflibcfecnhjgaa
