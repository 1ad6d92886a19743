/-
  What stays where only given blocks are written: Keeps; rows, and rows of rows, that lie off given blocks.
-/
import Derived.Test.YtcglbopmfdilfaaDoorApp3
namespace Go.Proofs.YtcglbopmfdilfaaDoor
open Go.RowKit
set_option linter.unusedVariables false
set_option linter.unusedSimpArgs false

/-- From w to w' no block turned but those of X, and new ones. -/
structure Keeps (X : Nat → Prop) (w w' : World) : Prop where
  os : w'.os = w.os
  tape : w'.tape = w.tape
  output : w'.output = w.output
  size : w.heap.size ≤ w'.heap.size
  block : ∀ k, k < w.heap.size → ¬ X k → w'.heap[k]? = w.heap[k]?

theorem Keeps.refl (X : Nat → Prop) (w : World) : Keeps X w w := ⟨rfl, rfl, rfl, Nat.le_refl _, fun _ _ _ => rfl⟩
theorem Keeps.then {X : Nat → Prop} {a b c : World} (h : Keeps X a b) (k : Keeps X b c) : Keeps X a c :=
  ⟨k.os.trans h.os, k.tape.trans h.tape, k.output.trans h.output, Nat.le_trans h.size k.size, fun i hi hx => (k.block i (Nat.lt_of_lt_of_le hi h.size) hx).trans (h.block i hi hx)⟩
theorem Keeps.below {X : Nat → Prop} {B : Nat} {w w' : World} (h : Below B w w') (hX : ∀ g, B ≤ g → X g) : Keeps X w w' := ⟨h.os, h.tape, h.output, h.size, fun k _ hx => h.block k (Nat.lt_of_not_le fun hb => hx (hX k hb))⟩
theorem Keeps.belowW {X : Nat → Prop} {w w' : World} (h : Below w.heap.size w w') : Keeps X w w' := ⟨h.os, h.tape, h.output, h.size, fun k hk _ => h.block k hk⟩
theorem Keeps.grown {X : Nat → Prop} {w w' : World} {row : Option Nat} (h : w.grownBy w' row) (hX : ∀ b, row = some b → X b) : Keeps X w w' := ⟨h.os, h.tape, h.output, h.size, fun k hk hx => h.block k hk fun e => hx (hX k e.symm)⟩
theorem Keeps.to {X : Nat → Prop} {B : Nat} {w w' : World} (h : Keeps X w w') (hX : ∀ g, X g → B ≤ g) (hB : B ≤ w.heap.size) : Below B w w' := ⟨h.os, h.tape, h.output, h.size, fun k hk => h.block k (Nat.lt_of_lt_of_le hk hB) fun hx => by have := hX k hx; omega⟩
theorem Keeps.cell {X : Nat → Prop} {w w' : World} (h : Keeps X w w') {a : Addr} {v : Value} (hc : w.cell? a = some v) (hx : ¬ X a.block) : w'.cell? a = some v := by
  have := h.block a.block (cell_lt hc) hx
  unfold World.cell? at hc ⊢
  rw [this]; exact hc
theorem Keeps.seq {α : Type} {enc : α → Value} {X : Nat → Prop} {w w' : World} {v : Value} {l : List α} (h : Keeps X w w') (hs : Seq enc w v l) (hx : l ≠ [] → ∀ g, v.ownBlock = some g → ¬ X g) : Seq enc w' v l := by
  obtain ⟨a, cap, rfl, h2, h3, h4, h5, h6⟩ := hs
  refine ⟨a, cap, rfl, h2, h3, h4, h5, fun i y hi => ?_⟩
  obtain ⟨x, rfl, hc⟩ := h6 i y hi
  exact ⟨x, rfl, h.cell hc (hx (by rintro rfl; simp at hi) x.block rfl)⟩

/-- The value lies in no block of X, where it has anything. -/
def OffX {α : Type} (X : Nat → Prop) (v : Value) (l : List α) : Prop := l ≠ [] → ∀ g, v.ownBlock = some g → ¬ X g

/-- Rows of numbers off X. -/
def TupsX (X : Nat → Prop) (w : World) (v : Value) (ll : List (List Int)) : Prop :=
  ∃ vs : List Value, Seq id w v vs ∧ OffX X v vs ∧ vs.length = ll.length ∧ ∀ i (h : i < vs.length) (h' : i < ll.length), Ints w vs[i] ll[i] ∧ OffX X vs[i] ll[i]
theorem TupsX.tups {X : Nat → Prop} {w : World} {v : Value} {ll : List (List Int)} (h : TupsX X w v ll) : Tups w v ll := by
  obtain ⟨vs, h1, h2, h3, h4⟩ := h
  exact ⟨vs, h1, h3, fun i hi hi' => (h4 i hi hi').1⟩
theorem Keeps.tups {X : Nat → Prop} {w w' : World} {v : Value} {ll : List (List Int)} (h : Keeps X w w') (ht : TupsX X w v ll) : TupsX X w' v ll := by
  obtain ⟨vs, h1, h2, h3, h4⟩ := ht
  exact ⟨vs, h.seq h1 h2, h2, h3, fun i hi hi' => ⟨h.seq (h4 i hi hi').1 (h4 i hi hi').2, (h4 i hi hi').2⟩⟩

theorem TupsX.at {X : Nat → Prop} {w : World} {a : Option Addr} {n cap : Nat} {ll : List (List Int)} (h : TupsX X w (.slice a n cap) ll) {k : Nat} (hk : k < ll.length) :
    ∃ b off v, a = some ⟨b, off, none⟩ ∧ w.cell? ⟨b, off + k, none⟩ = some v ∧ Ints w v ll[k] ∧ ¬ X b ∧ OffX X v ll[k] := by
  obtain ⟨vs, h1, h2, h3, h4⟩ := h
  obtain ⟨b, off, rfl, hc⟩ := h1.at (k := k) (by omega)
  exact ⟨b, off, _, rfl, hc, (h4 k (by omega) hk).1, h2 (by rintro rfl; simp at h3; omega) b rfl, (h4 k (by omega) hk).2⟩

end Go.Proofs.YtcglbopmfdilfaaDoor
