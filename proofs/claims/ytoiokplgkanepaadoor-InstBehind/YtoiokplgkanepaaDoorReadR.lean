/-
  The deferred closure of Parse: what is thrown is caught.
-/
import Derived.Test.YtoiokplgkanepaaDoorReadB
import Derived.Defers
import Derived.Recover
namespace Go.Proofs.YtoiokplgkanepaaDoor
open Go.RowKit
set_option linter.unusedVariables false
set_option linter.unusedSimpArgs false
set_option maxRecDepth 20000

/-- The block b holds this one cell. -/
def Box1 (e : TypeId) (w : World) (b : Nat) (x : Value) : Prop := w.heap[b]? = some (.cells #[x] e (0, 0))
theorem Box1.lt {e : TypeId} {w : World} {b : Nat} {x : Value} (h : Box1 e w b x) : b < w.heap.size := by
  rcases Nat.lt_or_ge b w.heap.size with hl | hl
  · exact hl
  · unfold Box1 at h; rw [Array.getElem?_eq_none hl] at h; cases h
theorem Box1.cell0 {e : TypeId} {w : World} {b : Nat} {x : Value} (h : Box1 e w b x) : w.cell? ⟨b, 0, none⟩ = some x := by unfold Box1 at h; simp only [World.cell?, h]; simp
theorem Box1.frozen {e : TypeId} {w : World} {b : Nat} {x : Value} (h : Box1 e w b x) (i : Nat) : w.frozen? ⟨b, i, none⟩ = false := frozen_of_row w b i _ _ h
theorem Box1.new (e : TypeId) (w : World) (x : Value) : Box1 e (w.alloc (.cells #[x] e)) w.heap.size x := heap_alloc_new w _
theorem Box1.keep {e : TypeId} {w w' : World} {b : Nat} {x : Value} {row : Option Nat} (h : Box1 e w b x) (g : w.grownBy w' row) (hne : row ≠ some b) : Box1 e w' b x := by
  have hl := h.lt
  unfold Box1 at *
  rw [g.block b hl (fun e => hne e.symm)]; exact h
theorem Box1.set {e : TypeId} {w : World} {b : Nat} {x : Value} (h : Box1 e w b x) (y : Value) : Box1 e (w.setCell ⟨b, 0, none⟩ y) b y := by
  unfold Box1 at *
  rw [heap_setCell_same w b 0 _ _ y h]; simp

/-- The block b holds these three cells. -/
def Box3 (e : TypeId) (w : World) (b : Nat) (x y z : Value) : Prop := w.heap[b]? = some (.cells #[x, y, z] e (0, 0))
theorem Box3.lt {e : TypeId} {w : World} {b : Nat} {x y z : Value} (h : Box3 e w b x y z) : b < w.heap.size := by
  rcases Nat.lt_or_ge b w.heap.size with hl | hl
  · exact hl
  · unfold Box3 at h; rw [Array.getElem?_eq_none hl] at h; cases h
theorem Box3.cell0 {e : TypeId} {w : World} {b : Nat} {x y z : Value} (h : Box3 e w b x y z) : w.cell? ⟨b, 0, none⟩ = some x := by unfold Box3 at h; simp only [World.cell?, h]; simp
theorem Box3.cell1 {e : TypeId} {w : World} {b : Nat} {x y z : Value} (h : Box3 e w b x y z) : w.cell? ⟨b, 1, none⟩ = some y := by unfold Box3 at h; simp only [World.cell?, h]; simp
theorem Box3.cell2 {e : TypeId} {w : World} {b : Nat} {x y z : Value} (h : Box3 e w b x y z) : w.cell? ⟨b, 2, none⟩ = some z := by unfold Box3 at h; simp only [World.cell?, h]; simp
theorem Box3.frozen {e : TypeId} {w : World} {b : Nat} {x y z : Value} (h : Box3 e w b x y z) (i : Nat) : w.frozen? ⟨b, i, none⟩ = false := frozen_of_row w b i _ _ h
theorem Box3.new (e : TypeId) (w : World) (x y z : Value) : Box3 e (w.alloc (.cells #[x, y, z] e)) w.heap.size x y z := heap_alloc_new w _
theorem Box3.keep {e : TypeId} {w w' : World} {b : Nat} {x y z : Value} {row : Option Nat} (h : Box3 e w b x y z) (g : w.grownBy w' row) (hne : row ≠ some b) : Box3 e w' b x y z := by
  have hl := h.lt
  unfold Box3 at *
  rw [g.block b hl (fun e => hne e.symm)]; exact h
theorem Box3.set {e : TypeId} {w : World} {b : Nat} {x y z : Value} (h : Box3 e w b x y z) (x' y' z' : Value) : Box3 e (((w.setCell ⟨b, 0, none⟩ x').setCell ⟨b, 1, none⟩ y').setCell ⟨b, 2, none⟩ z') b x' y' z' := by
  unfold Box3 at *
  have h1 := heap_setCell_same w b 0 _ _ x' h
  have h2 := heap_setCell_same _ b 1 _ _ y' h1
  rw [heap_setCell_same _ b 2 _ _ z' h2]; simp

set_option maxHeartbeats 1000000 in
theorem catch_idle (b0 b1 b2 : Nat) (w : World) :
    CallsD Tryd.prog 14 #[.pointer (some ⟨b0, 0, none⟩), .pointer (some ⟨b1, 0, none⟩), .pointer (some ⟨b2, 0, none⟩)] .returning w fun e u' w' => e = .returned (.tuple #[]) ∧ u' = .returning ∧ w' = w := by
  have hnil : ∀ w : World, (binOp BinOp.eql 20 .nilIface .nilIface).run Tryd.prog w = .ok (.bool true) w := fun _ => by kernel_rfl
  refine callsD_of_wpS Tryd.func14 rfl fun c₀ cs hu => ?_
  apply wpS_seq
  apply wpS_region
  simp [wpOpsS, go_sem, recoverD, hu, Tryd.ntmps14, Exit.thenS]
  refine wpS_of_wp ?_
  change Code.wp Tryd.prog _ _ { tmps := #[.pointer (some ⟨b0, 0, none⟩), .pointer (some ⟨b1, 0, none⟩), .pointer (some ⟨b2, 0, none⟩), undef, undef, undef, .nilIface, undef, undef, undef, undef, undef, undef, undef, undef, undef, undef], defers := [] } _
  go_wp2
  cases c₀
  simp_all [bodyPostS, results, Tryd.results14]

set_option maxHeartbeats 1000000 in
theorem catch_fault (n p : Nat) (c : Int) (w : World) {x y z u v : Value} (x0 : Box3 27 w n x y z) (x1 : Box1 3 w (n + 1) u) (x2 : Box1 28 w (n + 2) v) :
    CallsD Tryd.prog 14 #[.pointer (some ⟨n, 0, none⟩), .pointer (some ⟨n + 1, 0, none⟩), .pointer (some ⟨n + 2, 0, none⟩)] (.panicking (faultE p c)) w fun e u' w' => e = .returned (.tuple #[]) ∧ u' = .panicking [{ v := .iface 47 (.agg #[.int .i64 (p : Int), .int .i64 c]), recovered := true }] ∧ Box3 27 w' n (.slice none 0 0) (.slice none 0 0) (.slice none 0 0) ∧ Box1 3 w' (n + 1) (.int .i64 (p : Int)) ∧ Box1 28 w' (n + 2) (.int .i64 c) ∧ Below n w w' := by
  unfold faultE
  have hnil : ∀ w : World, (binOp BinOp.eql 20 (.iface 47 (.agg #[.int .i64 (p : Int), .int .i64 c])) .nilIface).run Tryd.prog w = .ok (.bool false) w := fun _ => by kernel_rfl
  have hta : ∀ w : World, (Instr.typeAssert (.iface 47 (.agg #[.int .i64 (p : Int), .int .i64 c])) 20 47 true).run Tryd.prog w = .ok (.tuple #[.agg #[.int .i64 (p : Int), .int .i64 c], .bool true]) w := fun _ => by kernel_rfl
  refine callsD_of_wpS Tryd.func14 rfl fun c₀ cs hu => ?_
  apply wpS_seq
  apply wpS_region
  simp [wpOpsS, go_sem, recoverD, hu, Tryd.ntmps14, Exit.thenS]
  refine wpS_of_wp ?_
  change Code.wp Tryd.prog _ _ { tmps := #[.pointer (some ⟨n, 0, none⟩), .pointer (some ⟨n + 1, 0, none⟩), .pointer (some ⟨n + 2, 0, none⟩), undef, undef, undef, .iface 47 (.agg #[.int .i64 (p : Int), .int .i64 c]), undef, undef, undef, undef, undef, undef, undef, undef, undef, undef], defers := [] } _
  have X0 := hide x0
  have X1 := hide x1
  have X2 := hide x2
  have h0 := x0.lt
  have h1 := x1.lt
  have h2 := x2.lt
  clear x0 x1 x2
  go_wp2
  have g0 := World.grownBy_alloc w (.cells #[.int .i64 (p : Int), .int .i64 c] 47) none
  have x0 := (unhide X0).keep g0 (by simp)
  have x1 := (unhide X1).keep g0 (by simp)
  have x2 := (unhide X2).keep g0 (by simp)
  have hb : Below n w (w.alloc (.cells #[.int .i64 (p : Int), .int .i64 c] 47)) := (Below.refl _ _).alloc (by omega) _
  have f0 : (w.alloc (.cells #[.int .i64 (p : Int), .int .i64 c] 47)).heap[w.heap.size]? = some (.cells #[.int .i64 (p : Int), .int .i64 c] 47 (0, 0)) := heap_alloc_new w _
  generalize w.alloc (.cells #[.int .i64 (p : Int), .int .i64 c] 47) = W at *
  obtain ⟨fb, hfb⟩ : ∃ fb, fb = w.heap.size := ⟨_, rfl⟩
  rw [← hfb] at f0 h0 h1 h2 ⊢
  have HFB := hide hfb
  clear hfb g0
  have HSX : Hid (∀ U : World, U.heap[fb]? = some (.cells #[.int .i64 (p : Int), .int .i64 c] 47 (0, 0)) → U.cell? ⟨fb, 0, none⟩ = some (.int .i64 (p : Int)) ∧ U.cell? ⟨fb, 1, none⟩ = some (.int .i64 c)) := hide (fun U h => ⟨by simp only [World.cell?, h]; simp, by simp only [World.cell?, h]; simp⟩)
  have hS0 := unhide HSX W.drew f0
  have a0 := x0.cell0; have a1 := x0.cell1; have a2 := x0.cell2; have af := x0.frozen
  have gs0 := grown_then (grown_then (grown_set W.drew n 0 (.slice none 0 0)) (grown_set _ n 1 (.slice none 0 0)) (fun b e => .inr e)) (grown_set _ n 2 (.slice none 0 0)) (fun b e => .inr e)
  have y0 : Box3 _ _ n _ _ _ := Box3.set (w := W.drew) x0 (.slice none 0 0) (.slice none 0 0) (.slice none 0 0)
  have y1 : Box1 _ _ (n + 1) _ := Box1.keep (w := W.drew) x1 gs0 (by simp)
  have y2 : Box1 _ _ (n + 2) _ := Box1.keep (w := W.drew) x2 gs0 (by simp)
  have yf := (gs0.block fb (by have : n + 2 < W.heap.size := x2.lt; exact (by
    rcases Nat.lt_or_ge fb W.heap.size with h | h
    · exact h
    · rw [Array.getElem?_eq_none h] at f0; cases f0)) (by simp; omega)).trans f0
  have gb0 := hb.trans ((Below.drewN W 1).mono (show n ≤ W.heap.size by have := x0.lt; omega))
  have gb1 := ((gb0.setCell (p := ⟨n, 0, none⟩) (Nat.le_refl _) (.slice none 0 0)).setCell (p := ⟨n, 1, none⟩) (Nat.le_refl _) (.slice none 0 0)).setCell (p := ⟨n, 2, none⟩) (Nat.le_refl _) (.slice none 0 0)
  have HY := hide (And.intro y0 (And.intro y1 (And.intro y2 (And.intro yf gb1))))
  clear x0 x1 x2 gs0 y0 y1 y2 yf gb0 gb1 hb f0 X0 X1 X2
  refine wp_region_held (S := fun U => U.cell? ⟨fb, 0, none⟩ = some (.int .i64 (p : Int)) ∧ U.cell? ⟨fb, 1, none⟩ = some (.int .i64 c)) (by kernel_rfl) ?_
  refine wpAnyH_take (i := 0) (v := ?_) rfl (by kernel_rfl) (by kernel_rfl) (by kernel_rfl) (fun _ _ _ h => h) (Or.inl ⟨by kernel_rfl, ?_⟩) (by assumption) ?_
  rotate_left
  · intro W hSW; obtain ⟨hS1, hS2⟩ := hSW; go_simp; first | done | rfl
  simp only [Act.put, List.setIfInBounds_toArray, List.set_cons_zero, List.set_cons_succ]
  refine wpAnyH_take (i := 1) (v := ?_) rfl (by kernel_rfl) (by kernel_rfl) (by kernel_rfl) (fun _ _ _ h => h) (Or.inl ⟨by kernel_rfl, ?_⟩) (by assumption) ?_
  rotate_left
  · intro W hSW; obtain ⟨hS1, hS2⟩ := hSW; go_simp; first | done | rfl
  simp only [Act.put, List.setIfInBounds_toArray, List.set_cons_zero, List.set_cons_succ]
  refine wpAnyH_take (i := 2) (v := ?_) rfl (by kernel_rfl) (by kernel_rfl) (by kernel_rfl) (fun _ _ _ h => h) (Or.inl ⟨by kernel_rfl, ?_⟩) (by assumption) ?_
  rotate_left
  · intro W hSW; obtain ⟨hS1, hS2⟩ := hSW; go_simp; first | done | rfl
  simp only [Act.put, List.setIfInBounds_toArray, List.set_cons_zero, List.set_cons_succ]
  refine wpAnyH_take (i := 3) (v := ?_) rfl (by kernel_rfl) (by kernel_rfl) (by kernel_rfl) (fun _ _ _ h => h) (Or.inl ⟨by kernel_rfl, ?_⟩) (by assumption) ?_
  rotate_left
  · intro W hSW; obtain ⟨hS1, hS2⟩ := hSW; go_simp; first | done | rfl
  simp only [Act.put, List.setIfInBounds_toArray, List.set_cons_zero, List.set_cons_succ]
  refine wpAnyH_take (i := 4) (v := ?_) rfl (by kernel_rfl) (by kernel_rfl) (by kernel_rfl) (fun _ _ _ h => h) (Or.inl ⟨by kernel_rfl, ?_⟩) (by assumption) ?_
  rotate_left
  · intro W hSW; obtain ⟨hS1, hS2⟩ := hSW; go_simp; first | done | rfl
  simp only [Act.put, List.setIfInBounds_toArray, List.set_cons_zero, List.set_cons_succ]
  refine held_one (i := 5) (by kernel_rfl) rfl (by kernel_rfl) (fun K hK => ?_)
  go_simp
  obtain ⟨y0, y1, y2, yf, gb1⟩ := unhide HY
  refine hK.out _ _ (unhide HSX _ yf) ?_
  clear hK K hS0 a0 a1 a2 af HY
  replace gb1 : Below n w (((W.drew.setCell ⟨n, 0, none⟩ (.slice none 0 0)).setCell ⟨n, 1, none⟩ (.slice none 0 0)).setCell ⟨n, 2, none⟩ (.slice none 0 0)) := gb1
  try rw [show (((W.setCell ⟨n, 0, none⟩ (.slice none 0 0)).setCell ⟨n, 1, none⟩ (.slice none 0 0)).setCell ⟨n, 2, none⟩ (.slice none 0 0)).drew = ((W.drew.setCell ⟨n, 0, none⟩ (.slice none 0 0)).setCell ⟨n, 1, none⟩ (.slice none 0 0)).setCell ⟨n, 2, none⟩ (.slice none 0 0) from rfl]
  generalize ((W.drew.setCell ⟨n, 0, none⟩ (.slice none 0 0)).setCell ⟨n, 1, none⟩ (.slice none 0 0)).setCell ⟨n, 2, none⟩ (.slice none 0 0) = W2 at *
  try simp only [Act.put, List.setIfInBounds_toArray, List.set_cons_zero, List.set_cons_succ]
  have b0 := y1.cell0; have bf := y1.frozen
  have hfl : fb < W2.heap.size := by
    rcases Nat.lt_or_ge fb W2.heap.size with h | h
    · exact h
    · rw [Array.getElem?_eq_none h] at yf; cases yf
  have gs1 := grown_set W2 (n + 1) 0 (.int .i64 (p : Int))
  have z0 := y0.keep gs1 (by simp)
  have z1 := y1.set (.int .i64 (p : Int))
  have z2 := y2.keep gs1 (by simp)
  have zf := (gs1.block fb hfl (by simp; omega)).trans yf
  have gb2 := gb1.setCell (p := ⟨n + 1, 0, none⟩) (by show n ≤ n + 1; omega) (.int .i64 (p : Int))
  refine held_one (i := 6) (by kernel_rfl) rfl (by kernel_rfl) (fun K hK => ?_)
  go_simp
  refine hK.out _ _ (unhide HSX _ zf) ?_
  clear hK K b0 bf y0 y1 y2 yf gb1
  have hfl2 : fb < (W2.setCell ⟨n + 1, 0, none⟩ (.int .i64 (p : Int))).heap.size := by simpa using hfl
  generalize W2.setCell ⟨n + 1, 0, none⟩ (.int .i64 (p : Int)) = W3 at *
  try simp only [Act.put, List.setIfInBounds_toArray, List.set_cons_zero, List.set_cons_succ]
  have b0 := z2.cell0; have bf := z2.frozen
  have gs2 := grown_set W3 (n + 2) 0 (.int .i64 c)
  have q0 := z0.keep gs2 (by simp)
  have q1 := z1.keep gs2 (by simp)
  have q2 := z2.set (.int .i64 c)
  have qf := (gs2.block fb hfl2 (by simp; omega)).trans zf
  have gb3 := gb2.setCell (p := ⟨n + 2, 0, none⟩) (by show n ≤ n + 2; omega) (.int .i64 c)
  refine held_one (i := 7) (by kernel_rfl) rfl (by kernel_rfl) (fun K hK => ?_)
  go_simp
  refine hK.out _ _ (unhide HSX _ qf) (wpAnyH_done (by kernel_rfl) ?_ _)
  have HQ := hide (And.intro q0 (And.intro q1 (And.intro q2 gb3)))
  clear hK K b0 bf z0 z1 z2 zf gb2 gs1 gs2 q0 q1 q2 qf gb3
  try simp only [Act.put, List.setIfInBounds_toArray, List.set_cons_zero, List.set_cons_succ]
  go_wp2
  obtain ⟨q0, q1, q2, gb3⟩ := unhide HQ
  refine ⟨rfl, _, rfl, .tuple #[], by simp [results, Tryd.results14], rfl, rfl, q0, q1, q2, gb3⟩

end Go.Proofs.YtoiokplgkanepaaDoor
