/-
  The contracts of slices.Sort, slices.BinarySearch and slices.Compact at []int, by the library's own, in our words.
-/
import Derived.Test.YtafpecdmaogohaaGreatApp3
import Derived.Test.YtafpecdmaogohaaGreatSets
import Derived.Test.YtafpecdmaogohaaGreatShelfN
import Derived.Shelf.SlSortCmp.Whole1
namespace Go.Proofs.YtafpecdmaogohaaGreat
open Go.RowKit
set_option linter.unusedVariables false
set_option linter.unusedSimpArgs false
set_option maxRecDepth 20000

/-- The call's own numbers, that may be written: from block B on. -/
def HoldsI (B : Nat) (w : World) (v : Value) (l : List Int) : Prop :=
  (v = .slice none 0 0 ∧ l = []) ∨ ∃ g cap, v = .slice (some ⟨g, 0, none⟩) l.length cap ∧ B ≤ g ∧ g < w.heap.size ∧ l.length ≤ cap ∧ cap ≤ maxLen ∧ Go.Sort.Holds (Value.int .i64) w g 0 l.toArray

theorem HoldsI.of_own {B : Nat} {w : World} {v : Value} {l : List Int} (h : OwnI B w v l) : HoldsI B w v l := by
  obtain ⟨h1, h2⟩ := h
  rcases h2 with ⟨rfl, h0⟩ | ⟨g, cap, cur, rfl, hg, hh, hn, hm, hs, ht⟩
  · exact .inl ⟨rfl, List.length_eq_zero_iff.1 h0⟩
  · refine .inr ⟨g, cap, rfl, hg, ?_, hn, hm, fun j hj => ?_⟩
    · rcases Nat.lt_or_ge g w.heap.size with h | h
      · exact h
      · rw [Array.getElem?_eq_none h] at hh; cases hh
    · have hj' : j < l.length := by simpa using hj
      have e1 : (cur.toList.take (l.length * 1))[j]? = (l.map (Value.int .i64))[j]? := by rw [ht]
      rw [List.getElem?_take, if_pos (by omega)] at e1
      constructor
      · simp only [World.cell?, hh]
        simpa [hj'] using e1
      · simp [World.frozen?, hh]

theorem HoldsI.ints {B : Nat} {w : World} {v : Value} {l : List Int} (h : HoldsI B w v l) : Ints w v l := by
  rcases h with ⟨rfl, rfl⟩ | ⟨g, cap, rfl, hg, hlt, hn, hm, hH⟩
  · exact Seq.nil _ _
  · refine ⟨_, cap, rfl, hn, hm, by simp, by rintro x h _; cases h; rfl, fun i y hi => ⟨_, rfl, ?_⟩⟩
    have hil : i < l.length := by
      rcases Nat.lt_or_ge i l.length with h | h
      · exact h
      · rw [List.getElem?_eq_none h] at hi; cases hi
    have := (hH i (by simpa using hil)).1
    rw [List.getElem?_eq_getElem hil] at hi
    cases hi
    simpa [hil] using this

theorem HoldsI.new {B : Nat} {w : World} {v : Value} {l : List Int} (h : HoldsI B w v l) : New B w v := by
  rcases h with ⟨rfl, rfl⟩ | ⟨g, cap, rfl, hg, hlt, _⟩
  · exact New.nil _ _
  · intro k hk; cases hk; exact ⟨hg, hlt⟩

theorem belowI_sortWorld {α : Type} [Inhabited α] {enc : α → Value} {w : World} {B blk off m : Nat} {d : Array α} {os : Array Obj} (h : B ≤ blk) (hB : B ≤ w.heap.size) : Below B w (sortWorld enc w blk off m d os) := by
  have hz : (Go.Sort.putRow enc (Go.Sort.ahead w m) blk off d).heap.size = w.heap.size := by simp [Go.Sort.putRow, Go.Sort.mapBlock, Go.Sort.ahead]
  refine ⟨rfl, rfl, rfl, ?_, fun k hk => ?_⟩
  · unfold sortWorld Go.Sort.grow
    simp only [Array.size_append, hz]; omega
  · unfold sortWorld
    rw [Go.Sort.heap_grow_old _ _ (by omega)]
    simp only [Go.Sort.putRow, Go.Sort.mapBlock, Go.Sort.ahead, Array.getElem?_modify]
    rw [if_neg (by omega)]

theorem grow_none (w : World) : Go.Sort.grow w #[] = w := by simp [Go.Sort.grow]

def sortI (l : List Int) : List Int := l.mergeSort fun x y => decide (x ≤ y)

theorem sortI_up (l : List Int) : (sortI l).Pairwise (· ≤ ·) := by
  have := List.pairwise_mergeSort (le := fun x y : Int => decide (x ≤ y)) (fun a b c h1 h2 => by simp at *; omega) (fun a b => by simp; omega) l
  simpa [sortI] using this
theorem sortI_mem {l : List Int} {x : Int} : x ∈ sortI l ↔ x ∈ l := by simp [sortI]
theorem sortI_len (l : List Int) : (sortI l).length = l.length := by simp [sortI]

theorem sortInts_any {B : Nat} {l : List Int} {v : Value} {w : World} (h : HoldsI B w v l) (hB : B ≤ w.heap.size) (hlen : l.length < 100000000000) :
    Calls Tryz.prog 46 #[v] w fun e w' => e = .returned (.tuple #[]) ∧ HoldsI B w' v (sortI l) ∧ Below B w w' := by
  rcases h with ⟨rfl, rfl⟩ | ⟨g, cap, rfl, hg, hlt, hn, hm, hH⟩
  · refine (shelf_ints_none none 0 w).mono ?_
    rintro e w' ⟨rfl, rfl⟩
    exact ⟨rfl, .inl ⟨rfl, by simp [sortI]⟩, Below.refl _ _⟩
  · refine (shelf_ints g 0 cap l w hH hlt (by omega)).mono ?_
    rintro e w' ⟨rfl, n, os, rfl⟩
    have hh := holds_sortWorld (Value.int .i64) w g 0 n l.toArray (sortI l).toArray os hlt hH (by simp [sortI])
    have hb := belowI_sortWorld (enc := Value.int .i64) (m := n) (off := 0) (d := (sortI l).toArray) (os := os) hg hB
    refine ⟨rfl, .inr ⟨g, cap, by rw [sortI_len], hg, ?_, by rw [sortI_len]; exact hn, hm, hh⟩, hb⟩
    have := (belowI_sortWorld (w := w) (enc := Value.int .i64) (m := n) (off := 0) (d := (sortI l).toArray) (os := os) (Nat.le_refl g) (Nat.le_of_lt hlt)).size
    exact Nat.lt_of_lt_of_le hlt (belowI_size hlt)
where
  belowI_size {w : World} {g n : Nat} {l : List Int} {os : Array Obj} (hlt : g < w.heap.size) : w.heap.size ≤ (sortWorld (Value.int .i64) w g 0 n (sortI l).toArray os).heap.size := by
    have hz : (Go.Sort.putRow (Value.int .i64) (Go.Sort.ahead w n) g 0 (sortI l).toArray).heap.size = w.heap.size := by simp [Go.Sort.putRow, Go.Sort.mapBlock, Go.Sort.ahead]
    unfold sortWorld Go.Sort.grow
    simp only [Array.size_append, hz]; omega

def inB (l : List Int) (x : Int) : Bool := decide (x ∈ l)

theorem search_ints {l : List Int} {v : Value} {x : Int} {w : World} (h : Ints w v l) (hs : l.Pairwise (· ≤ ·)) (hlen : l.length < 100000000000) :
    Calls Tryz.prog 47 #[v, .int .i64 x] w fun e w' => ∃ k : Int, e = .returned (.tuple #[.int .i64 k, .bool (inB l x)]) ∧ ∃ n, w' = w.drewN n := by
  obtain ⟨a, cap, rfl, h2, h3, h4, h5, h6⟩ := h
  by_cases hl : l = []
  · subst hl
    refine (shelf_search_empty a cap x w).mono ?_
    rintro e w' ⟨rfl, rfl⟩
    exact ⟨0, rfl, 0, rfl⟩
  · obtain ⟨y, rfl, hc0⟩ := h6 0 (l.head hl) (by cases l with
      | nil => exact absurd rfl hl
      | cons y r => rfl)
    have hsp := h5 y rfl hl
    obtain ⟨b, o, sp⟩ := y
    simp at hsp
    subst hsp
    refine (shelf_search b o l.length cap l x w (Nat.le_refl _) (by omega) (fun j hj => ?_) (by simpa using hs)).mono ?_
    · obtain ⟨z, hz, hc⟩ := h6 j l[j] (by simp [hj])
      cases hz
      simpa [hj] using hc
    · rintro e w' ⟨rfl, q, rfl⟩
      refine ⟨((l.take l.length).countP (· < x) : Nat), ?_, q, rfl⟩
      have : (l.take l.length).contains x = inB l x := by simp [inB]
      rw [this]

theorem compactUp_spec {l : List Int} (hs : l.Pairwise (· ≤ ·)) : ∀ k, k ≤ l.length → Asc (Lib.compactUpTo l.toArray k) ∧ (∀ x, x ∈ Lib.compactUpTo l.toArray k ↔ x ∈ l.take k)
  | 0, _ => by simp [Lib.compactUpTo, Asc]
  | k + 1, hk => by
    have hkl : k < l.length := by omega
    obtain ⟨h1, h2⟩ := compactUp_spec hs k (by omega)
    have hup : ∀ x ∈ l.take k, x ≤ l[k] := by
      intro x hx
      obtain ⟨i, hi, rfl⟩ := List.getElem_of_mem hx
      simp at hi
      rw [List.getElem_take]
      exact (List.pairwise_iff_getElem.1 hs) i k (by omega) hkl (by omega)
    have hstep : Lib.compactUpTo l.toArray (k + 1) = Lib.compactUpTo l.toArray k ++ if Lib.keeps l.toArray k then [l[k]] else [] := by
      unfold Lib.compactUpTo
      rw [List.range_succ, List.filter_append, List.map_append]
      by_cases hkeep : Lib.keeps l.toArray k = true
      · simp [List.filter_cons, hkeep, hkl]
      · simp [List.filter_cons, hkeep]
    rw [hstep, List.take_succ_eq_append_getElem hkl]
    by_cases hc : k = 0 ∨ l[k - 1]? ≠ l[k]?
    · have hkeep : Lib.keeps l.toArray k = true := by
        rcases hc with hc | hc
        · exact Lib.keeps_lt_one _ _ (by omega)
        · refine Lib.keeps_pos fun e => hc ?_
          rcases Nat.eq_zero_or_pos k with h0 | h0
          · subst h0; rfl
          · have : k - 1 < l.length := by omega
            simp [hkl, this] at e
            simp [hkl, this, e]
      rw [if_pos hkeep]
      constructor
      · refine List.pairwise_append.2 ⟨h1, by simp, fun x hx y hy => ?_⟩
        simp at hy
        subst hy
        have hx' := (h2 x).1 hx
        have hle := hup x hx'
        rcases Int.lt_or_le x l[k] with h | h
        · exact h
        · have hxe : x = l[k] := by omega
          subst hxe
          obtain ⟨i, hi, hie⟩ := List.getElem_of_mem hx'
          simp at hi
          rw [List.getElem_take] at hie
          have hk1 : k - 1 < l.length := by omega
          have hne : l[k - 1] ≠ l[k] := by
            rcases hc with hc | hc
            · omega
            · intro e; exact hc (by simp [hkl, hk1, e])
          have ha : l[k - 1] ≤ l[k] := (List.pairwise_iff_getElem.1 hs) (k - 1) k hk1 hkl (by omega)
          have hb : l[k] ≤ l[k - 1] := by
            rcases Nat.lt_or_ge i (k - 1) with hik | hik
            · have := (List.pairwise_iff_getElem.1 hs) i (k - 1) (by omega) hk1 hik
              rw [hie] at this; exact this
            · have : i = k - 1 := by omega
              subst this
              rw [hie]; exact Int.le_refl _
          omega
      · intro x; simp only [List.mem_append, List.mem_singleton, h2 x]
    · have hc0 : k ≠ 0 := fun e => hc (.inl e)
      have hce : l[k - 1]? = l[k]? := Decidable.byContradiction fun e => hc (.inr e)
      have hk1 : k - 1 < l.length := by omega
      have hee : l[k - 1] = l[k] := by simpa [hkl, hk1] using hce
      have hkeep : Lib.keeps l.toArray k = false := Lib.keeps_neg (by omega) (by simp [hkl, hk1, hee])
      rw [hkeep]
      refine ⟨by simpa using h1, fun x => ?_⟩
      simp only [Bool.false_eq_true, if_false, List.append_nil, h2 x, List.mem_append]
      constructor
      · exact .inl
      · rintro (h | h)
        · exact h
        · simp at h
          subst h
          rw [← hee]
          exact List.mem_iff_getElem.2 ⟨k - 1, by simp; omega, by simp⟩

theorem compact_spec {l : List Int} (hs : l.Pairwise (· ≤ ·)) : Asc (Lib.compact l) ∧ ∀ x, x ∈ Lib.compact l ↔ x ∈ l := by
  have := compactUp_spec hs l.length (Nat.le_refl _)
  rw [List.take_length] at this
  exact this

theorem compactI_le (l : List Int) : (Lib.compact l).length ≤ l.length := by
  unfold Lib.compact Lib.compactUpTo
  rw [List.length_map]
  exact Nat.le_trans (List.length_filter_le _ _) (by simp)

end Go.Proofs.YtafpecdmaogohaaGreat
