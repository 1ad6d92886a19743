/-
  A relation that is laid in a variable's block.
-/
import Derived.Test.YtflibcfecnhjgaaRelRight
import Derived.Test.YtflibcfecnhjgaaApp3
namespace Go.Proofs.Ytflibcfecnhjgaa
open Go.RowKit
set_option linter.unusedVariables false
set_option linter.unusedSimpArgs false
set_option maxRecDepth 20000

theorem box_cells {w W : World} {x y : Value} {t : TypeId} (hb : Below (w.alloc (.cells #[x, y] t)).heap.size (w.alloc (.cells #[x, y] t)) W) :
    W.cell? ⟨w.heap.size, 0, none⟩ = some x ∧ W.cell? ⟨w.heap.size, 1, none⟩ = some y ∧ W.frozen? ⟨w.heap.size, 0, none⟩ = false ∧ W.frozen? ⟨w.heap.size, 1, none⟩ = false := by
  refine ⟨?_, ?_, ?_, ?_⟩
  · rw [hb.cell (by simp)]; simp
  · rw [hb.cell (by simp)]; simp
  · rw [hb.frozen (by simp)]; simp
  · rw [hb.frozen (by simp)]; simp

/-- Whatever block b holds are slices. -/
def BoxS (w : World) (b : Nat) : Prop := ∀ off u, w.cell? ⟨b, off, none⟩ = some u → ∃ a n c, u = .slice a n c

theorem BoxS.of_below {w W : World} {a a' : Option Addr} {n n' c c' : Nat} {t : TypeId} (hb : Below (w.alloc (.cells #[.slice a n c, .slice a' n' c'] t)).heap.size (w.alloc (.cells #[.slice a n c, .slice a' n' c'] t)) W) : BoxS W w.heap.size := by
  intro off u h
  rw [hb.cell (by simp)] at h
  match off, h with
  | 0, h => simp at h; exact ⟨_, _, _, h.symm⟩
  | 1, h => simp at h; exact ⟨_, _, _, h.symm⟩
  | off + 2, h => simp only [World.cell?, heap_alloc_new] at h; simp at h

theorem BoxS.setCell {w : World} {b i : Nat} (h : BoxS w b) {x : Value} (hc : w.cell? ⟨b, i, none⟩ = some x) (a : Option Addr) (n c : Nat) : BoxS (w.setCell ⟨b, i, none⟩ (.slice a n c)) b := by
  intro off u hu
  by_cases e : i = off
  · subst e
    rw [World.cell?_setCell_same (h := hc)] at hu
    cases hu
    exact ⟨_, _, _, rfl⟩
  · rw [World.cell?_setCell_other] at hu
    · exact h off u hu
    · intro e'; injection e' with _ e2; exact e e2

theorem Seq.setBox {w : World} {v : Value} {l : List Int} (h : Ints w v l) {b : Nat} (hb : BoxS w b) (i : Nat) (y : Value) : Ints (w.setCell ⟨b, i, none⟩ y) v l := by
  refine h.setCell (fun hne e => ?_) y
  obtain ⟨a, cap, rfl, h2, h3, h4, h5, h6⟩ := h
  obtain ⟨x, rfl, hc⟩ := h6 0 (l.head hne) (by cases l with
    | nil => exact absurd rfl hne
    | cons y r => rfl)
  have e' : x.block = b := by simpa [Value.ownBlock] using e
  subst e'
  obtain ⟨_, _, _, hx⟩ := hb _ _ hc
  cases hx

theorem Tups.setBox {w : World} {v : Value} {ll : List (List Int)} (h : Tups w v ll) {b : Nat} (hb : BoxS w b) (hne : v.ownBlock ≠ some b) (i : Nat) (y : Value) : Tups (w.setCell ⟨b, i, none⟩ y) v ll := by
  obtain ⟨vs, h1, h2, h3⟩ := h
  exact ⟨vs, h1.setCell (fun _ => hne) y, h2, fun i hi hi' => (h3 i hi hi').setBox hb _ y⟩

/-- A relation that is laid in a box of its own. -/
theorem rel_store {w : World} {b : Nat} {a a' : Option Addr} {n n' c c' : Nat} {s : List Int} {ll : List (List Int)} (hb : BoxS w b) {x : Value} (hc : w.cell? ⟨b, 0, none⟩ = some x) (hs : Ints w (.slice a n c) s) (ht : Tups w (.slice a' n' c') ll) (hne : (Value.slice a' n' c').ownBlock ≠ some b) :
    RelV ((w.setCell ⟨b, 0, none⟩ (.slice a n c)).setCell ⟨b, 1, none⟩ (.slice a' n' c')) (.agg #[.slice a n c, .slice a' n' c']) s ll := by
  have hb' := hb.setCell hc a n c
  exact ⟨_, _, rfl, (hs.setBox hb _ _).setBox hb' _ _, (ht.setBox hb hne _ _).setBox hb' hne _ _⟩

theorem below_store {w W : World} {B b : Nat} (h : Below B w W) (hb : B ≤ b) (x y : Value) : Below B w ((W.setCell ⟨b, 0, none⟩ x).setCell ⟨b, 1, none⟩ y) := (h.setCell hb _).setCell hb _

theorem New.ne {B b : Nat} {w : World} {v : Value} (h : New B w v) (hb : b < B) : v.ownBlock ≠ some b := fun e => by have := h b e; omega

end Go.Proofs.Ytflibcfecnhjgaa
