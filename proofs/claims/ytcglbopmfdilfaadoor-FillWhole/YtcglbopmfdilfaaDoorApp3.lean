/-
  A slice of rows that is made; an element written of a slice that the call itself made; a slice grown from nothing.
-/
import Derived.Test.YtcglbopmfdilfaaDoorApp2
import Derived.Lib.AppendZeros
namespace Go.Proofs.YtcglbopmfdilfaaDoor
open Go.RowKit
set_option linter.unusedVariables false
set_option linter.unusedSimpArgs false
set_option maxRecDepth 20000

/-- One element written of a row of the call's own. -/
theorem own_set {B : Nat} {e : TypeId} {w : World} {g n c : Nat} {xs : List Value} (h : w.ownsRow B e 1 (.slice (some ⟨g, 0, none⟩) n c) n xs) {i : Nat} (hi : i < n) (y : Value) :
    (∃ u, w.cell? ⟨g, i, none⟩ = some u) ∧ w.frozen? ⟨g, i, none⟩ = false ∧ (w.setCell ⟨g, i, none⟩ y).ownsRow B e 1 (.slice (some ⟨g, 0, none⟩) n c) n (xs.set i y) ∧ Below B w (w.setCell ⟨g, i, none⟩ y) := by
  obtain ⟨h1, h2⟩ := h
  rcases h2 with ⟨h2, _⟩ | ⟨g', cap, cur, hv, hg, hh, hn, hm, hs, ht⟩
  · cases h2
  cases hv
  have hic : i < cur.size := by omega
  refine ⟨⟨cur[i], by simp [World.cell?, hh, hic]⟩, frozen_of_row w g i cur e hh, ⟨by simpa using h1, .inr ⟨g, c, cur.setIfInBounds i y, rfl, hg, heap_setCell_same w g i cur e y hh, hn, hm, by simpa using hs, ?_⟩⟩, (Below.refl _ _).setCell hg _⟩
  rw [← ht]
  simp [List.take_set]

theorem own_setI {B : Nat} {w : World} {g n c : Nat} {l : List Int} (h : OwnI B w (.slice (some ⟨g, 0, none⟩) n c) l) (hn : n = l.length) {i : Nat} (hi : i < n) (y : Int) :
    (∃ u, w.cell? ⟨g, i, none⟩ = some u) ∧ w.frozen? ⟨g, i, none⟩ = false ∧ OwnI B (w.setCell ⟨g, i, none⟩ (.int .i64 y)) (.slice (some ⟨g, 0, none⟩) n c) (l.set i y) ∧ Below B w (w.setCell ⟨g, i, none⟩ (.int .i64 y)) := by
  subst hn
  obtain ⟨h1, h2, h3, h4⟩ := own_set h hi (.int .i64 y)
  refine ⟨h1, h2, ?_, h4⟩
  simpa [OwnI, List.map_set] using h3

theorem ownsRow_len {B : Nat} {e : TypeId} {w : World} {v : Value} {a : Option Addr} {n c m : Nat} {xs : List Value} (h : w.ownsRow B e 1 (.slice a n c) m xs) : n = m := by
  obtain ⟨h1, h2⟩ := h
  rcases h2 with ⟨h2, h3⟩ | ⟨g', cap, cur, hv, _⟩
  · cases h2; exact h3.symm
  · cases hv; rfl

/-- What lies in no row of block g stays when a cell of it is written. -/
theorem Seq.setCell {α : Type} {enc : α → Value} {w : World} {u : Value} {l : List α} (h : Seq enc w u l) {g i : Nat} (hs : l ≠ [] → u.ownBlock ≠ some g) (y : Value) : Seq enc (w.setCell ⟨g, i, none⟩ y) u l := by
  obtain ⟨a, cap, rfl, h2, h3, h4, h5, h6⟩ := h
  refine ⟨a, cap, rfl, h2, h3, h4, h5, fun j z hj => ?_⟩
  obtain ⟨x, rfl, hc⟩ := h6 j z hj
  refine ⟨x, rfl, ?_⟩
  rw [World.cell?_setCell_other]
  · exact hc
  · intro e
    have : g = x.block := by injection e
    exact hs (by rintro rfl; simp at hj) (by subst this; rfl)

theorem OwnT.set {B : Nat} {w : World} {g n c : Nat} {ll : List (List Int)} (h : OwnT B w (.slice (some ⟨g, 0, none⟩) n c) ll) {i : Nat} (hi : i < ll.length) {u : Value} {l : List Int} (hu : Ints w u l) (ha : Apart u l (.slice (some ⟨g, 0, none⟩) n c)) :
    (∃ u, w.cell? ⟨g, i, none⟩ = some u) ∧ w.frozen? ⟨g, i, none⟩ = false ∧ OwnT B (w.setCell ⟨g, i, none⟩ u) (.slice (some ⟨g, 0, none⟩) n c) (ll.set i l) ∧ Below B w (w.setCell ⟨g, i, none⟩ u) := by
  obtain ⟨vs, h1, h2, h3⟩ := h
  have hn : n = vs.length := ownsRow_len (v := .slice none 0 0) h1
  subst hn
  obtain ⟨k1, k2, k3, k4⟩ := own_set h1 (i := i) (by omega) u
  refine ⟨k1, k2, ⟨vs.set i u, by simpa [OwnV] using k3, by simp [h2], fun j hj hj' => ?_⟩, k4⟩
  have hj0 : j < vs.length := by simpa using hj
  have hj0' : j < ll.length := by simpa using hj'
  have hsep : ∀ {u : Value} {l : List Int}, Apart u l (.slice (some ⟨g, 0, none⟩) vs.length c) → l ≠ [] → u.ownBlock ≠ some g := fun ha hl e => ha hl g e rfl
  by_cases e : i = j
  · subst e
    simp only [List.getElem_set_self]
    exact ⟨hu.setCell (hsep ha) _, ha⟩
  · rw [List.getElem_set_ne e, List.getElem_set_ne e]
    exact ⟨(h3 j hj0 hj0').1.setCell (hsep (h3 j hj0 hj0').2) _, (h3 j hj0 hj0').2⟩

/-- A slice of n rows is made: all without numbers. -/
theorem wp_make_rows {w : World} {ops : Array Oper} {rest : List Oper} {o : Oper} {a : Act} {Q : Exit → Act → World → Prop} (hgd : o.guard = none) (l c : Operand) (ho : o.op = Op.makeSlice 22 l c) {B : Nat} (hB : B ≤ w.heap.size)
    {n : Nat} (hl : a.eval l = .int .i64 (n : Int)) (hc : a.eval c = .int .i64 (n : Int)) (hlen : n < 100000000000)
    (h : ∀ w', OwnT B w' (.slice (some ⟨w.heap.size, 0, none⟩) n n) (List.replicate n []) → Below w.heap.size w w' → wpList Tryd.prog ops Q rest (a.put o.dst (.slice (some ⟨w.heap.size, 0, none⟩) n n)) w') :
    wpList Tryd.prog ops Q (o :: rest) a w := by
  obtain ⟨i, hi, hz0, hz1, hz2⟩ := info_parts Tryd.infoInts
  refine wpList_make_full w hgd l c 22 ho B 23 i (.slice none 0 0) 1 Tryd.underlying22 hi hz0 hz1 .i64 .i64 _ _ n hl hc rfl rfl (by rw [hz2]; omega) (by unfold maxLen; omega) hB ?_
  intro w' hown hg
  refine h w' ⟨List.replicate n (.slice none 0 0), ?_, by simp, fun i hi hi' => ?_⟩ ⟨hg.os, hg.tape, hg.output, hg.size, fun k hk => hg.block k hk (by simp)⟩
  · have : (madeCells (Value.slice none 0 0).cells (n * 1)).toList = List.replicate n (Value.slice none 0 0) := by
      rw [show (Value.slice none 0 0).cells = #[.slice none 0 0] from rfl, toList_madeCells_one]; simp
    rw [this] at hown
    simpa [OwnV] using hown
  · simp only [List.getElem_replicate]
    exact ⟨Seq.nil _ _, fun h => absurd rfl h⟩

end Go.Proofs.YtcglbopmfdilfaaDoor
