/-
  The contracts of slices.Sort, slices.BinarySearch and slices.Compact at []int, by the library's own, in our words.
-/
import Derived.Test.YtcglbopmfdilfaaDoorApp3
import Derived.Test.YtcglbopmfdilfaaDoorSets
import Derived.Test.YtcglbopmfdilfaaDoorShelfN
import Derived.Shelf.SlSortCmp.Whole1
namespace Go.Proofs.YtcglbopmfdilfaaDoor
open Go.RowKit
set_option linter.unusedVariables false
set_option linter.unusedSimpArgs false
set_option maxRecDepth 20000

/-- The call's own numbers, that may be written: from block B on. -/
def HoldsI (B : Nat) (w : World) (v : Value) (l : List Int) : Prop :=
  (v = .slice none 0 0 ∧ l = []) ∨ ∃ g cap, v = .slice (some ⟨g, 0, none⟩) l.length cap ∧ B ≤ g ∧ g < w.heap.size ∧ l.length ≤ cap ∧ cap ≤ maxLen ∧ Go.Sort.Holds (Value.int .i64) w g 0 l.toArray

theorem HoldsI.of_own {B : Nat} {w : World} {v : Value} {l : List Int} (h : OwnI B w v l) : HoldsI B w v l := by
  obtain ⟨h1, h2⟩ := h
  rcases h2 with ⟨rfl, h0⟩ | ⟨g, cap, cur, rfl, hg, hh, hn, hm, hs, ht⟩
  · exact .inl ⟨rfl, List.length_eq_zero_iff.1 h0⟩
  · refine .inr ⟨g, cap, rfl, hg, ?_, hn, hm, fun j hj => ?_⟩
    · rcases Nat.lt_or_ge g w.heap.size with h | h
      · exact h
      · rw [Array.getElem?_eq_none h] at hh; cases hh
    · have hj' : j < l.length := by simpa using hj
      have e1 : (cur.toList.take (l.length * 1))[j]? = (l.map (Value.int .i64))[j]? := by rw [ht]
      rw [List.getElem?_take, if_pos (by omega)] at e1
      constructor
      · simp only [World.cell?, hh]
        simpa [hj'] using e1
      · simp [World.frozen?, hh]

theorem HoldsI.ints {B : Nat} {w : World} {v : Value} {l : List Int} (h : HoldsI B w v l) : Ints w v l := by
  rcases h with ⟨rfl, rfl⟩ | ⟨g, cap, rfl, hg, hlt, hn, hm, hH⟩
  · exact Seq.nil _ _
  · refine ⟨_, cap, rfl, hn, hm, by simp, by rintro x h _; cases h; rfl, fun i y hi => ⟨_, rfl, ?_⟩⟩
    have hil : i < l.length := by
      rcases Nat.lt_or_ge i l.length with h | h
      · exact h
      · rw [List.getElem?_eq_none h] at hi; cases hi
    have := (hH i (by simpa using hil)).1
    rw [List.getElem?_eq_getElem hil] at hi
    cases hi
    simpa [hil] using this

theorem HoldsI.new {B : Nat} {w : World} {v : Value} {l : List Int} (h : HoldsI B w v l) : New B w v := by
  rcases h with ⟨rfl, rfl⟩ | ⟨g, cap, rfl, hg, hlt, _⟩
  · exact New.nil _ _
  · intro k hk; cases hk; exact ⟨hg, hlt⟩

theorem belowI_sortWorld {α : Type} [Inhabited α] {enc : α → Value} {w : World} {B blk off m : Nat} {d : Array α} {os : Array Obj} (h : B ≤ blk) (hB : B ≤ w.heap.size) : Below B w (sortWorld enc w blk off m d os) := by
  have hz : (Go.Sort.putRow enc (Go.Sort.ahead w m) blk off d).heap.size = w.heap.size := by simp [Go.Sort.putRow, Go.Sort.mapBlock, Go.Sort.ahead]
  refine ⟨rfl, rfl, rfl, ?_, fun k hk => ?_⟩
  · unfold sortWorld Go.Sort.grow
    simp only [Array.size_append, hz]; omega
  · unfold sortWorld
    rw [Go.Sort.heap_grow_old _ _ (by omega)]
    simp only [Go.Sort.putRow, Go.Sort.mapBlock, Go.Sort.ahead, Array.getElem?_modify]
    rw [if_neg (by omega)]

theorem grow_none (w : World) : Go.Sort.grow w #[] = w := by simp [Go.Sort.grow]

def sortI (l : List Int) : List Int := l.mergeSort fun x y => decide (x ≤ y)

theorem sortI_up (l : List Int) : (sortI l).Pairwise (· ≤ ·) := by
  have := List.pairwise_mergeSort (le := fun x y : Int => decide (x ≤ y)) (fun a b c h1 h2 => by simp at *; omega) (fun a b => by simp; omega) l
  simpa [sortI] using this
theorem sortI_mem {l : List Int} {x : Int} : x ∈ sortI l ↔ x ∈ l := by simp [sortI]
theorem sortI_len (l : List Int) : (sortI l).length = l.length := by simp [sortI]

theorem sortInts_any {B : Nat} {l : List Int} {v : Value} {w : World} (h : HoldsI B w v l) (hB : B ≤ w.heap.size) (hlen : l.length < 100000000000) :
    Calls Tryd.prog 59 #[v] w fun e w' => e = .returned (.tuple #[]) ∧ HoldsI B w' v (sortI l) ∧ Below B w w' := by
  rcases h with ⟨rfl, rfl⟩ | ⟨g, cap, rfl, hg, hlt, hn, hm, hH⟩
  · refine (shelf_ints_none none 0 w).mono ?_
    rintro e w' ⟨rfl, rfl⟩
    exact ⟨rfl, .inl ⟨rfl, by simp [sortI]⟩, Below.refl _ _⟩
  · refine (shelf_ints g 0 cap l w hH hlt (by omega)).mono ?_
    rintro e w' ⟨rfl, n, os, rfl⟩
    have hh := holds_sortWorld (Value.int .i64) w g 0 n l.toArray (sortI l).toArray os hlt hH (by simp [sortI])
    have hb := belowI_sortWorld (enc := Value.int .i64) (m := n) (off := 0) (d := (sortI l).toArray) (os := os) hg hB
    refine ⟨rfl, .inr ⟨g, cap, by rw [sortI_len], hg, ?_, by rw [sortI_len]; exact hn, hm, hh⟩, hb⟩
    have := (belowI_sortWorld (w := w) (enc := Value.int .i64) (m := n) (off := 0) (d := (sortI l).toArray) (os := os) (Nat.le_refl g) (Nat.le_of_lt hlt)).size
    exact Nat.lt_of_lt_of_le hlt (belowI_size hlt)
where
  belowI_size {w : World} {g n : Nat} {l : List Int} {os : Array Obj} (hlt : g < w.heap.size) : w.heap.size ≤ (sortWorld (Value.int .i64) w g 0 n (sortI l).toArray os).heap.size := by
    have hz : (Go.Sort.putRow (Value.int .i64) (Go.Sort.ahead w n) g 0 (sortI l).toArray).heap.size = w.heap.size := by simp [Go.Sort.putRow, Go.Sort.mapBlock, Go.Sort.ahead]
    unfold sortWorld Go.Sort.grow
    simp only [Array.size_append, hz]; omega

def inB (l : List Int) (x : Int) : Bool := decide (x ∈ l)

end Go.Proofs.YtcglbopmfdilfaaDoor
