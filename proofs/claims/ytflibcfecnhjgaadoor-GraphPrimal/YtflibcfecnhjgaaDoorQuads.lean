/-
  Slices whose elements have four cells.
-/
import Derived.Test.YtflibcfecnhjgaaDoorApp2
namespace Go.Proofs.YtflibcfecnhjgaaDoor
open Go.RowKit
set_option linter.unusedVariables false
set_option linter.unusedSimpArgs false
set_option maxRecDepth 20000

/-- Four cells. -/
structure Quad where
  a : Value
  b : Value
  c : Value
  d : Value
def Quad.cells (q : Quad) : List Value := [q.a, q.b, q.c, q.d]
def flatQ (l : List Quad) : List Value := l.flatMap Quad.cells
theorem flatQ_len (l : List Quad) : (flatQ l).length = l.length * 4 := by
  induction l with
  | nil => rfl
  | cons x r ih => simp only [flatQ, List.flatMap_cons, List.length_append, List.length_cons, Quad.cells, List.length_nil] at *; omega
theorem flatQ_at : ∀ (l : List Quad) (i : Nat) (h : i < l.length) (j : Nat) (hj : j < 4), (flatQ l)[i * 4 + j]? = (Quad.cells l[i])[j]?
  | x :: r, 0, _, j, hj => by
    have e : flatQ (x :: r) = Quad.cells x ++ flatQ r := by simp [flatQ]
    rw [e, List.getElem?_append_left (by simp [Quad.cells]; omega)]; simp
  | x :: r, i + 1, h, j, hj => by
    have ih := flatQ_at r i (by simpa using h) j hj
    have e : flatQ (x :: r) = Quad.cells x ++ flatQ r := by simp [flatQ]
    have e1 : (i + 1) * 4 + j = (i * 4 + j) + 4 := by omega
    rw [e, e1, List.getElem?_append_right (by simp [Quad.cells])]
    simpa [Quad.cells] using ih

/-- The slice value v reads as these elements of four cells. -/
def SeqQ (w : World) (v : Value) (l : List Quad) : Prop :=
  ∃ a cap, v = .slice a l.length cap ∧ l.length ≤ cap ∧ cap ≤ maxLen ∧ ∀ i (h : i < l.length), ∃ b off, a = some ⟨b, off, none⟩ ∧ w.cell? ⟨b, off + i * 4, none⟩ = some l[i].a ∧ w.cell? ⟨b, off + i * 4 + 1, none⟩ = some l[i].b ∧ w.cell? ⟨b, off + i * 4 + 2, none⟩ = some l[i].c ∧ w.cell? ⟨b, off + i * 4 + 3, none⟩ = some l[i].d
theorem SeqQ.nil (w : World) : SeqQ w (.slice none 0 0) [] := ⟨none, 0, rfl, by simp, by simp [maxLen], fun i h => by simp at h⟩
theorem SeqQ.form {w : World} {v : Value} {l : List Quad} (h : SeqQ w v l) : ∃ a cap, v = .slice a l.length cap ∧ l.length ≤ cap ∧ cap ≤ maxLen := by
  obtain ⟨a, cap, h1, h2, h3, h4⟩ := h
  exact ⟨a, cap, h1, h2, h3⟩
theorem SeqQ.at {w : World} {a : Option Addr} {n cap : Nat} {l : List Quad} (h : SeqQ w (.slice a n cap) l) {i : Nat} (hi : i < l.length) :
    ∃ b off, a = some ⟨b, off, none⟩ ∧ w.cell? ⟨b, off + i * 4, none⟩ = some l[i].a ∧ w.cell? ⟨b, off + i * 4 + 1, none⟩ = some l[i].b ∧ w.cell? ⟨b, off + i * 4 + 2, none⟩ = some l[i].c ∧ w.cell? ⟨b, off + i * 4 + 3, none⟩ = some l[i].d := by
  obtain ⟨a', cap', h1, h2, h3, h4⟩ := h
  cases h1
  exact h4 i hi

end Go.Proofs.YtflibcfecnhjgaaDoor
