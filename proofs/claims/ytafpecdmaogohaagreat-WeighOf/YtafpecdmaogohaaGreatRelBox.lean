/-
  A relation's box: the block that a variable of type api.Rel has; the contract of the document's Select.
-/
import Derived.Test.YtafpecdmaogohaaGreatRelSel
import Derived.Deep.RegionLaw
import Derived.BigRegion
namespace Go.Proofs.YtafpecdmaogohaaGreat
open Go.RowKit
set_option linter.unusedVariables false
set_option linter.unusedSimpArgs false
set_option maxRecDepth 20000

def Box (w : World) (b : Nat) (x y : Value) : Prop := w.heap[b]? = some (.cells #[x, y] 29 (0, 0))

theorem Box.lt {w : World} {b : Nat} {x y : Value} (h : Box w b x y) : b < w.heap.size := by
  rcases Nat.lt_or_ge b w.heap.size with hl | hl
  · exact hl
  · unfold Box at h; rw [Array.getElem?_eq_none hl] at h; cases h
theorem Box.cell0 {w : World} {b : Nat} {x y : Value} (h : Box w b x y) : w.cell? ⟨b, 0, none⟩ = some x := by unfold Box at h; simp only [World.cell?, h]; simp
theorem Box.cell1 {w : World} {b : Nat} {x y : Value} (h : Box w b x y) : w.cell? ⟨b, 1, none⟩ = some y := by unfold Box at h; simp only [World.cell?, h]; simp
theorem Box.frozen {w : World} {b : Nat} {x y : Value} (h : Box w b x y) (i : Nat) : w.frozen? ⟨b, i, none⟩ = false := frozen_of_row w b i _ _ h
theorem Box.boxS {w : World} {b : Nat} {a a' : Option Addr} {n n' c c' : Nat} (h : Box w b (.slice a n c) (.slice a' n' c')) : BoxS w b := by
  intro off u hu
  unfold Box at h
  simp only [World.cell?, h] at hu
  match off, hu with
  | 0, hu => simp at hu; exact ⟨_, _, _, hu.symm⟩
  | 1, hu => simp at hu; exact ⟨_, _, _, hu.symm⟩
  | off + 2, hu => simp at hu
theorem Box.new (w : World) (x y : Value) : Box (w.alloc (.cells #[x, y] 29)) w.heap.size x y := heap_alloc_new w _
theorem Box.below {w w' : World} {b B : Nat} {x y : Value} (h : Box w b x y) (hb : Below B w w') (hB : b < B) : Box w' b x y := by
  unfold Box at *; rw [hb.block b hB]; exact h
theorem Box.belowH {w w' : World} {b : Nat} {x y : Value} (h : Box w b x y) (hb : Below w.heap.size w w') : Box w' b x y := h.below hb h.lt
theorem Box.push {w : World} {b : Nat} {x y : Value} (h : Box w b x y) (o : Obj) : Box (w.alloc o) b x y := h.belowH ((Below.refl _ _).alloc (Nat.le_refl _) o)
theorem Box.grew {w w' : World} {b B : Nat} {x y v v' : Value} (h : Box w b x y) (g : Grew B w w' v v') (hne : v.ownBlock ≠ some b) : Box w' b x y := by
  have hl := h.lt
  unfold Box at *
  rw [g.by_.block b hl (fun e => hne e.symm)]; exact h
theorem Box.set1 {w : World} {b : Nat} {x y : Value} (h : Box w b x y) (z : Value) : Box (w.setCell ⟨b, 1, none⟩ z) b x z := by
  unfold Box at *
  rw [heap_setCell_same w b 1 _ _ z h]; simp

theorem OwnT.sl {B : Nat} {w : World} {v : Value} {ll : List (List Int)} (h : OwnT B w v ll) : ∃ a n c, v = .slice a n c := by
  obtain ⟨a, c, rfl, _, _⟩ := h.tups.form
  exact ⟨_, _, _, rfl⟩

theorem OwnT.setBox {B : Nat} {w : World} {v : Value} {ll : List (List Int)} (h : OwnT B w v ll) {b : Nat} (hb : BoxS w b) (hne : v.ownBlock ≠ some b) (i : Nat) (y : Value) : OwnT B (w.setCell ⟨b, i, none⟩ y) v ll := by
  obtain ⟨vs, h1, h2, h3⟩ := h
  exact ⟨vs, ownsRow_setCell_other h1 hne y, h2, fun j hj hj' => ⟨(h3 j hj hj').1.setBox hb _ y, (h3 j hj hj').2⟩⟩

end Go.Proofs.YtafpecdmaogohaaGreat
