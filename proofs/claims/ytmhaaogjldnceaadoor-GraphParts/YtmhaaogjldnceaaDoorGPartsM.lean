/-
  Each point is in one part, and no edge leaves one: plain mathematics.
-/
import Derived.Test.YtmhaaogjldnceaaDoorGAdds
namespace Go.Proofs.YtmhaaogjldnceaaDoor
set_option linter.unusedVariables false
set_option linter.unusedSimpArgs false

theorem partsL_at {g : List Nat} {i : Nat} (h : i < (partsL g).length) : ∃ h' : i < (firsts g g.length).length, (partsL g)[i] = compL g ((firsts g g.length)[i]) := by
  have h' : i < (firsts g g.length).length := by rw [← partsL_len]; exact h
  exact ⟨h', by simp [partsL, partsUp]⟩

/-- A part begins with its first point. -/
theorem compL_head {g : List Nat} (hr : RightG g) {f : Nat} (hf : First g f) (hl : f < g.length) : ∃ r, compL g f = (f : Int) :: r := by
  have hm : (f : Int) ∈ compL g f := (mem_compL hr).2 ⟨f, rfl, .refl hl⟩
  have hs := compL_asc g f
  cases h : compL g f with
  | nil => rw [h] at hm; simp at hm
  | cons x r =>
    refine ⟨r, ?_⟩
    have hx : x ∈ compL g f := by rw [h]; simp
    obtain ⟨k, rfl, hk⟩ := (mem_compL hr).1 hx
    rw [h] at hm hs
    rcases List.mem_cons.1 hm with e | hm
    · rw [e]
    · have h1 := (List.pairwise_cons.1 hs).1 _ hm
      exact absurd hk (hf k (by omega))

structure PartAt (g : List Nat) (i : Nat) (P : List Int) (f : Nat) : Prop where
  head : ∃ r, P = (f : Int) :: r
  asc : Asc P
  pts : ∀ x ∈ P, ∃ k : Nat, x = (k : Int) ∧ k < g.length ∧ Reach g f k

theorem part_at {g : List Nat} (hr : RightG g) {i : Nat} (h : i < (partsL g).length) : ∃ f, PartAt g i (partsL g)[i] f ∧ First g f ∧ ∃ h' : i < (firsts g g.length).length, (firsts g g.length)[i] = f := by
  obtain ⟨h', e⟩ := partsL_at h
  have hm := List.getElem_mem h'
  obtain ⟨h1, h2⟩ := mem_firsts.1 hm
  refine ⟨(firsts g g.length)[i], ⟨?_, ?_, ?_⟩, h2, h', rfl⟩
  · rw [e]; exact compL_head hr h2 h1
  · rw [e]; exact compL_asc _ _
  · rw [e]
    intro x hx
    obtain ⟨k, rfl, hk⟩ := (mem_compL hr).1 hx
    exact ⟨k, rfl, hk.to_lt hr, hk⟩

/-- First points rise. -/
theorem part_rise {g : List Nat} (hr : RightG g) {i : Nat} (h : i + 1 < (partsL g).length) : (partsL g)[i].getD 0 0 < (partsL g)[i + 1].getD 0 0 := by
  obtain ⟨f, p1, _, h1, e1⟩ := part_at hr (i := i) (by omega)
  obtain ⟨f', p2, _, h2, e2⟩ := part_at hr (i := i + 1) h
  obtain ⟨r, er⟩ := p1.head
  obtain ⟨r', er'⟩ := p2.head
  rw [er, er']
  have h3 := List.pairwise_iff_getElem.1 (firsts_asc g g.length) i (i + 1) h1 h2 (by omega)
  simp only [List.getD_cons_zero]
  omega

theorem part_one {g : List Nat} (hr : RightG g) {i j : Nat} (hi : i < (partsL g).length) (hj : j < (partsL g).length) {x y : Nat} (hx : (x : Int) ∈ (partsL g)[i]) (hy : (y : Int) ∈ (partsL g)[j]) (h : Reach g x y) : i = j := by
  obtain ⟨f, p1, hf1, h1, e1⟩ := part_at hr hi
  obtain ⟨f', p2, hf2, h2, e2⟩ := part_at hr hj
  obtain ⟨k, ek, _, hk⟩ := p1.pts _ hx
  obtain ⟨m, em, _, hm⟩ := p2.pts _ hy
  have ek : k = x := by omega
  have em : m = y := by omega
  subst ek em
  have hff : f = f' := first_one hr hf1 hf2 ((hk.trans h).trans (hm.symm hr))
  have hp := List.pairwise_iff_getElem.1 (firsts_asc g g.length)
  rcases Nat.lt_trichotomy i j with h3 | h3 | h3
  · have := hp i j h1 h2 h3; omega
  · exact h3
  · have := hp j i h2 h1 h3; omega

theorem part_cover {g : List Nat} (hr : RightG g) {x : Nat} (hx : x < g.length) : ∃ (i : Nat) (h : i < (partsL g).length), (x : Int) ∈ (partsL g)[i] := by
  obtain ⟨P, hP, h1, _⟩ := (both_part hr (a := x) (b := x) hx).2 (.refl hx)
  obtain ⟨i, hi, rfl⟩ := List.getElem_of_mem hP
  exact ⟨i, hi, h1⟩

/-- Which part a point is told to be in, when the parts ahead of i, and k points of that, have been gone through. -/
def PS (g : List Nat) (i k : Nat) (L : List Int) : Prop :=
  L.length = g.length ∧ ∀ x : Nat, x < g.length → (L.getD x 0 = -1 ∧ ∀ (j : Nat) (h : j < (partsL g).length), (j < i ∨ (j = i ∧ (x : Int) ∈ ((partsL g)[j]).take k)) → (x : Int) ∉ (partsL g)[j]) ∨
    ∃ (j : Nat) (h : j < (partsL g).length), L.getD x 0 = (j : Int) ∧ (x : Int) ∈ (partsL g)[j] ∧ (j < i ∨ (j = i ∧ (x : Int) ∈ ((partsL g)[j]).take k))

theorem PS.start {g : List Nat} : PS g 0 0 (List.replicate g.length (-1)) := by
  refine ⟨by simp, fun x hx => .inl ⟨?_, fun j h hj => ?_⟩⟩
  · rw [List.getD_eq_getElem?_getD, List.getElem?_replicate, if_pos hx]; rfl
  · rcases hj with hj | ⟨_, hj⟩
    · omega
    · simp at hj

theorem PS.free {g : List Nat} (hr : RightG g) {i k : Nat} {L : List Int} (hp : PS g i k L) (hi : i < (partsL g).length) (hk : k < (partsL g)[i].length) {x : Nat} (hx : (partsL g)[i][k] = (x : Int)) : x < g.length ∧ L.getD x 0 = -1 := by
  obtain ⟨f, p1, _⟩ := part_at hr hi
  have hm : (x : Int) ∈ (partsL g)[i] := by rw [← hx]; exact List.getElem_mem _
  obtain ⟨y, ey, hy, _⟩ := p1.pts _ hm
  have ey : y = x := by omega
  subst ey
  refine ⟨hy, ?_⟩
  rcases hp.2 y hy with h | ⟨j, hj, _, h2, h3⟩
  · exact h.1
  · have e := part_one hr hj hi h2 hm (.refl hy)
    subst e
    rcases h3 with h3 | ⟨_, h3⟩
    · omega
    · obtain ⟨m, hmk, hme⟩ := List.mem_take_iff_getElem.1 h3
      have hlt : m < k := by omega
      have := List.pairwise_iff_getElem.1 p1.asc m k (by omega) hk hlt
      omega

theorem PS.next {g : List Nat} (hr : RightG g) {i k : Nat} {L : List Int} (hp : PS g i k L) (hi : i < (partsL g).length) (hk : k < (partsL g)[i].length) {x : Nat} (hx : (partsL g)[i][k] = (x : Int)) : PS g i (k + 1) (L.set x (i : Int)) := by
  obtain ⟨hxl, hx1⟩ := hp.free hr hi hk hx
  have hm : (x : Int) ∈ (partsL g)[i] := by rw [← hx]; exact List.getElem_mem _
  have htk : (partsL g)[i].take (k + 1) = (partsL g)[i].take k ++ [(x : Int)] := by rw [List.take_succ_eq_append_getElem hk, hx]
  refine ⟨by rw [List.length_set]; exact hp.1, fun y hy => ?_⟩
  by_cases e : y = x
  · subst e
    refine .inr ⟨i, hi, ?_, hm, .inr ⟨rfl, ?_⟩⟩
    · rw [List.getD_eq_getElem?_getD, List.getElem?_set, if_pos rfl, if_pos (by rw [hp.1]; exact hy)]; rfl
    · rw [htk]; simp
  · have eL : (L.set x (i : Int)).getD y 0 = L.getD y 0 := by
      rw [List.getD_eq_getElem?_getD, List.getElem?_set, if_neg (fun h => e h.symm), ← List.getD_eq_getElem?_getD]
    rw [eL]
    have hmem : ∀ j (h : j < (partsL g).length), j = i → ((y : Int) ∈ ((partsL g)[j]).take (k + 1) ↔ (y : Int) ∈ ((partsL g)[j]).take k) := fun j h ej => by
      subst ej
      rw [htk, List.mem_append, List.mem_singleton]
      constructor
      · rintro (h1 | h1)
        · exact h1
        · exact absurd (by omega) e
      · exact .inl
    rcases hp.2 y hy with ⟨h1, h2⟩ | ⟨j, hj, h1, h2, h3⟩
    · refine .inl ⟨h1, fun j hj h3 => h2 j hj ?_⟩
      rcases h3 with h3 | ⟨h3, h4⟩
      · exact .inl h3
      · exact .inr ⟨h3, (hmem j hj h3).1 h4⟩
    · refine .inr ⟨j, hj, h1, h2, ?_⟩
      rcases h3 with h3 | ⟨h3, h4⟩
      · exact .inl h3
      · exact .inr ⟨h3, (hmem j hj h3).2 h4⟩

theorem PS.up {g : List Nat} {i : Nat} {L : List Int} (hi : i < (partsL g).length) (hp : PS g i (partsL g)[i].length L) : PS g (i + 1) 0 L := by
  refine ⟨hp.1, fun x hx => ?_⟩
  rcases hp.2 x hx with ⟨h1, h2⟩ | ⟨j, hj, h1, h2, h3⟩
  · refine .inl ⟨h1, fun j hj h3 hm => ?_⟩
    rcases h3 with h3 | ⟨_, h3⟩
    · rcases Nat.lt_or_ge j i with h4 | h4
      · exact h2 j hj (.inl h4) hm
      · have e : j = i := by omega
        subst e
        exact h2 j hj (.inr ⟨rfl, by rw [List.take_length]; exact hm⟩) hm
    · simp at h3
  · exact .inr ⟨j, hj, h1, h2, .inl (by rcases h3 with h3 | ⟨h3, _⟩ <;> omega)⟩

theorem PS.done {g : List Nat} (hr : RightG g) {L : List Int} (hp : PS g (partsL g).length 0 L) {a : Nat} (ha : a < g.length) : ∃ (j : Nat) (h : j < (partsL g).length), L.getD a 0 = (j : Int) ∧ (a : Int) ∈ (partsL g)[j] := by
  rcases hp.2 a ha with ⟨h1, h2⟩ | ⟨j, hj, h1, h2, _⟩
  · obtain ⟨i, hi, hm⟩ := part_cover hr ha
    exact absurd hm (h2 i hi (.inl hi))
  · exact ⟨j, hj, h1, h2⟩

theorem PS.edge {g : List Nat} (hr : RightG g) {L : List Int} (hp : PS g (partsL g).length 0 L) {a b : Nat} (ha : a < g.length) (hb : b < g.length) (h : besB g a b = true) : L.getD a 0 = L.getD b 0 := by
  obtain ⟨i, hi, h1, h2⟩ := hp.done hr ha
  obtain ⟨j, hj, h3, h4⟩ := hp.done hr hb
  rw [h1, h3, part_one hr hi hj h2 h4 (.step (.refl ha) h)]

end Go.Proofs.YtmhaaogjldnceaaDoor
