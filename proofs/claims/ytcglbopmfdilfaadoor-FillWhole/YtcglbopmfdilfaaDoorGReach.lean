/-
  Who leads to whom: plain mathematics, nothing of the program is spoken of here.
-/
import Derived.Test.YtcglbopmfdilfaaDoorGMath
import Derived.Test.YtcglbopmfdilfaaDoorSets
namespace Go.Proofs.YtcglbopmfdilfaaDoor
set_option linter.unusedVariables false
set_option linter.unusedSimpArgs false

/-- From one to one beside it. -/
inductive Reach (g : List Nat) : Nat → Nat → Prop
  | refl {a : Nat} : a < g.length → Reach g a a
  | step {a b c : Nat} : Reach g a b → besB g b c = true → Reach g a c

theorem Reach.from_lt {g : List Nat} {a b : Nat} (h : Reach g a b) : a < g.length := by
  induction h with
  | refl h => exact h
  | step _ _ ih => exact ih
theorem Reach.to_lt {g : List Nat} (hr : RightG g) {a b : Nat} (h : Reach g a b) : b < g.length := by
  cases h with
  | refl h => exact h
  | step _ h => exact hr.pts _ _ h
theorem Reach.trans {g : List Nat} {a b c : Nat} (h : Reach g a b) (k : Reach g b c) : Reach g a c := by
  induction k with
  | refl _ => exact h
  | step _ hb ih => exact ih.step hb
theorem Reach.symm {g : List Nat} (hr : RightG g) {a b : Nat} (h : Reach g a b) : Reach g b a := by
  induction h with
  | refl h => exact .refl h
  | step h1 h2 ih =>
    have h3 := hr.sym _ _ h2
    exact Reach.trans (.step (.refl (hr.pts _ _ h2)) h3) ih

open Classical in
/-- The points that a leads to. -/
noncomputable def compL (g : List Nat) (a : Nat) : List Int := (ptsL g.length).filter fun x => decide (Reach g a x.toNat)

theorem ptsL_asc (n : Nat) : Asc (ptsL n) := by
  unfold ptsL Asc
  rw [List.pairwise_map]
  exact List.pairwise_lt_range.imp fun h => Int.ofNat_lt.2 h

theorem compL_asc (g : List Nat) (a : Nat) : Asc (compL g a) := List.Pairwise.filter _ (ptsL_asc _)
open Classical in
theorem mem_compL {g : List Nat} (hr : RightG g) {a : Nat} {x : Int} : x ∈ compL g a ↔ ∃ k : Nat, x = (k : Int) ∧ Reach g a k := by
  unfold compL
  rw [List.mem_filter, mem_ptsL, decide_eq_true_eq]
  constructor
  · rintro ⟨h1, h2⟩
    have := ptB_iff.1 h1
    exact ⟨x.toNat, by omega, h2⟩
  · rintro ⟨k, rfl, h⟩
    refine ⟨?_, by simpa using h⟩
    rw [ptB_nat]
    simpa using h.to_lt hr

/-- No lesser one is led to. -/
def First (g : List Nat) (a : Nat) : Prop := ∀ k, k < a → ¬ Reach g a k

open Classical in
noncomputable def firsts (g : List Nat) (m : Nat) : List Nat := (List.range m).filter fun a => decide (First g a)
/-- The parts of the points ahead of m. -/
noncomputable def partsUp (g : List Nat) (m : Nat) : List (List Int) := (firsts g m).map (compL g)
noncomputable def partsL (g : List Nat) : List (List Int) := partsUp g g.length

open Classical in
theorem mem_firsts {g : List Nat} {m a : Nat} : a ∈ firsts g m ↔ a < m ∧ First g a := by
  unfold firsts
  rw [List.mem_filter, List.mem_range, decide_eq_true_eq]
theorem firsts_asc (g : List Nat) (m : Nat) : (firsts g m).Pairwise (· < ·) := List.Pairwise.filter _ List.pairwise_lt_range

theorem partsUp_succ (g : List Nat) (m : Nat) [Decidable (First g m)] : partsUp g (m + 1) = if First g m then partsUp g m ++ [compL g m] else partsUp g m := by
  unfold partsUp firsts
  rw [List.range_succ, List.filter_append, List.map_append]
  split
  · rename_i h; simp [h]
  · rename_i h; simp [h]

open Classical in
theorem partsUp_yes {g : List Nat} {m : Nat} (h : First g m) : partsUp g (m + 1) = partsUp g m ++ [compL g m] := by rw [partsUp_succ, if_pos h]
open Classical in
theorem partsUp_no {g : List Nat} {m : Nat} (h : ¬ First g m) : partsUp g (m + 1) = partsUp g m := by rw [partsUp_succ, if_neg h]
theorem partsUp_len (g : List Nat) (m : Nat) : (partsUp g m).length ≤ m := by
  unfold partsUp firsts
  rw [List.length_map]
  exact Nat.le_trans (List.length_filter_le _ _) (by simp)

/-- Seen: led to by one ahead of m. -/
def SeenTo (g : List Nat) (S : List Bool) (m : Nat) : Prop := S.length = g.length ∧ ∀ i, S.getD i false = true ↔ ∃ k, k < m ∧ Reach g k i

theorem SeenTo.start (g : List Nat) : SeenTo g (List.replicate g.length false) 0 := by
  refine ⟨by simp, fun i => ?_⟩
  have : (List.replicate g.length false).getD i false = false := by
    rw [List.getD_eq_getElem?_getD, List.getElem?_replicate]; split <;> rfl
  rw [this]
  simp

theorem SeenTo.first {g : List Nat} {S : List Bool} {m : Nat} (hr : RightG g) (h : SeenTo g S m) : S.getD m false = true ↔ ¬ First g m := by
  rw [h.2]
  unfold First
  constructor
  · rintro ⟨k, h1, h2⟩ h3
    exact h3 k h1 (h2.symm hr)
  · intro h3
    rcases Classical.em (∃ k, k < m ∧ Reach g k m) with h4 | h4
    · exact h4
    · exact absurd (fun k hk hreach => h4 ⟨k, hk, hreach.symm hr⟩) h3

theorem SeenTo.closed {g : List Nat} {S : List Bool} {m : Nat} (hr : RightG g) (h : SeenTo g S m) {a b : Nat} (hb : besB g a b = true) (ha : S.getD a false = true) : S.getD b false = true := by
  obtain ⟨k, h1, h2⟩ := (h.2 a).1 ha
  exact (h.2 b).2 ⟨k, h1, h2.step hb⟩

theorem SeenTo.skip {g : List Nat} {S : List Bool} {m : Nat} (hr : RightG g) (h : SeenTo g S m) (hs : S.getD m false = true) : SeenTo g S (m + 1) := by
  refine ⟨h.1, fun i => ?_⟩
  rw [h.2]
  constructor
  · rintro ⟨k, h1, h2⟩
    exact ⟨k, by omega, h2⟩
  · rintro ⟨k, h1, h2⟩
    rcases Nat.lt_or_ge k m with h3 | h3
    · exact ⟨k, h3, h2⟩
    · obtain rfl : k = m := by omega
      obtain ⟨j, h4, h5⟩ := (h.2 k).1 hs
      exact ⟨j, h4, h5.trans h2⟩

theorem SeenTo.next {g : List Nat} {S S' : List Bool} {m : Nat} (h : SeenTo g S m) (hl : S'.length = g.length) (hs : ∀ i, S'.getD i false = true ↔ S.getD i false = true ∨ Reach g m i) : SeenTo g S' (m + 1) := by
  refine ⟨hl, fun i => ?_⟩
  rw [hs, h.2]
  constructor
  · rintro (⟨k, h1, h2⟩ | h2)
    · exact ⟨k, by omega, h2⟩
    · exact ⟨m, by omega, h2⟩
  · rintro ⟨k, h1, h2⟩
    rcases Nat.lt_or_ge k m with h3 | h3
    · exact .inl ⟨k, h3, h2⟩
    · obtain rfl : k = m := by omega
      exact .inr h2

/-- Where the search for a part stands. -/
structure Bfs (g : List Nat) (S0 : List Bool) (a : Nat) (S : List Bool) (P : List Int) : Prop where
  len : S.length = g.length
  nod : P.Nodup
  mem : ∀ x ∈ P, ∃ k : Nat, x = (k : Int) ∧ Reach g a k
  seen : ∀ i, S.getD i false = true ↔ S0.getD i false = true ∨ (i : Int) ∈ P
  new : ∀ i : Nat, (i : Int) ∈ P → S0.getD i false = false
  has : (a : Int) ∈ P

theorem getD_set {S : List Bool} {b : Nat} (hb : b < S.length) (i : Nat) : (S.set b true).getD i false = true ↔ S.getD i false = true ∨ i = b := by
  rw [List.getD_eq_getElem?_getD, List.getD_eq_getElem?_getD, List.getElem?_set]
  by_cases h : b = i
  · subst h; simp [hb]
  · rw [if_neg h]
    constructor
    · exact .inl
    · rintro (h' | h')
      · exact h'
      · exact absurd h'.symm h

theorem Bfs.start {g : List Nat} {S0 : List Bool} {a : Nat} (hl : S0.length = g.length) (ha : a < g.length) (hs : S0.getD a false = false) : Bfs g S0 a (S0.set a true) [(a : Int)] := by
  refine ⟨by simp [hl], by simp, fun x hx => ⟨a, by simpa using hx, .refl ha⟩, fun i => ?_, fun i hi => ?_, by simp⟩
  · rw [getD_set (by omega)]
    have : ((i : Int) ∈ [(a : Int)]) ↔ i = a := by rw [List.mem_singleton]; omega
    rw [this]
  · have : i = a := by rw [List.mem_singleton] at hi; omega
    rw [this]; exact hs

theorem Bfs.add {g : List Nat} {S0 S : List Bool} {a : Nat} {P : List Int} (hr : RightG g) (h : Bfs g S0 a S P) {p b : Nat} (hp : (p : Int) ∈ P) (hb : besB g p b = true) (hs : S.getD b false = false) :
    Bfs g S0 a (S.set b true) (P ++ [(b : Int)]) := by
  have hbn := hr.pts _ _ hb
  have hbP : (b : Int) ∉ P := fun hm => by rw [(h.seen b).2 (.inr hm)] at hs; cases hs
  have hb0 : S0.getD b false = false := by
    cases h0 : S0.getD b false with
    | false => rfl
    | true => rw [(h.seen b).2 (.inl h0)] at hs; cases hs
  refine ⟨by simp [h.len], ?_, fun x hx => ?_, fun i => ?_, fun i hi => ?_, List.mem_append.2 (.inl h.has)⟩
  · rw [List.nodup_append]
    refine ⟨h.nod, by simp, fun x hx y hy => ?_⟩
    rw [List.mem_singleton] at hy
    subst hy
    exact fun e => hbP (e ▸ hx)
  · rcases List.mem_append.1 hx with hx | hx
    · exact h.mem x hx
    · rw [List.mem_singleton] at hx
      subst hx
      obtain ⟨k, hk, hrk⟩ := h.mem _ hp
      have : k = p := by omega
      subst this
      exact ⟨b, rfl, hrk.step hb⟩
  · rw [getD_set (by rw [h.len]; exact hbn), h.seen, List.mem_append, List.mem_singleton]
    have : ((i : Int) = (b : Int)) ↔ i = b := by omega
    rw [this, or_assoc]
  · rcases List.mem_append.1 hi with hi | hi
    · exact h.new i hi
    · have : i = b := by rw [List.mem_singleton] at hi; omega
      rw [this]; exact hb0

theorem nodupI_len : ∀ (P Q : List Int), P.Nodup → (∀ x ∈ P, x ∈ Q) → P.length ≤ Q.length
  | [], Q, _, _ => by simp
  | x :: P, Q, hn, hs => by
    rw [List.nodup_cons] at hn
    have hx := hs x (by simp)
    have h1 := nodupI_len P (Q.erase x) hn.2 (fun y hy => (List.mem_erase_of_ne (fun (e : y = x) => hn.1 (by rw [← e]; exact hy))).2 (hs y (by simp [hy])))
    rw [List.length_erase_of_mem hx] at h1
    have := List.length_pos_of_mem hx
    simp only [List.length_cons]
    omega

theorem Bfs.few {g : List Nat} {S0 S : List Bool} {a : Nat} {P : List Int} (hr : RightG g) (h : Bfs g S0 a S P) : P.length ≤ g.length := by
  have : P.length ≤ (ptsL g.length).length := by
    refine nodupI_len _ _ h.nod (fun x hx => ?_)
    obtain ⟨k, rfl, hk⟩ := h.mem x hx
    rw [mem_ptsL, ptB_nat]
    simpa using hk.to_lt hr
  rwa [ptsL_len] at this

/-- All that stand ahead of 'at' have been gone from. -/
def GoneTo (g : List Nat) (S : List Bool) (P : List Int) (k : Nat) : Prop := ∀ i, i < k → ∀ x ∈ nbL g (P.getD i 0), S.getD x.toNat false = true

theorem Bfs.done {g : List Nat} {S0 S : List Bool} {a : Nat} {P : List Int} (hr : RightG g) (h : Bfs g S0 a S P) (hg : GoneTo g S P P.length) (hc : ∀ x y, besB g x y = true → S0.getD x false = true → S0.getD y false = true) :
    ∀ k : Nat, (k : Int) ∈ P ↔ Reach g a k := by
  intro k
  constructor
  · intro hk
    obtain ⟨j, hj, hr⟩ := h.mem _ hk
    have : j = k := by omega
    rwa [this] at hr
  · intro hk
    induction hk with
    | refl _ => exact h.has
    | step hab hbc ih =>
      rename_i b c
      obtain ⟨i, hi, he⟩ := List.getElem_of_mem ih
      have h1 := hg i hi (c : Int) (by
        rw [List.getD_eq_getElem?_getD, List.getElem?_eq_getElem hi]
        show (c : Int) ∈ nbL g (P[i])
        rw [he]
        exact mem_nbL.2 ⟨by rw [ptB_nat]; simpa using besB_lt hbc, c, hr.pts _ _ hbc, by simpa using hbc, rfl⟩)
      rcases (h.seen c).1 (by simpa using h1) with h2 | h2
      · have h3 := hc c b (hr.sym _ _ hbc) h2
        rw [h.new b ih] at h3
        cases h3
      · exact h2

end Go.Proofs.YtcglbopmfdilfaaDoor
