/-
  One edge more makes one part of two, or leaves as many as there were: plain mathematics.
-/
import Derived.Test.YtmhaaogjldnceaaDoorGReach
namespace Go.Proofs.YtmhaaogjldnceaaDoor
set_option linter.unusedVariables false
set_option linter.unusedSimpArgs false

theorem Reach.into {g h : List Nat} (hl : h.length = g.length) (hb : ∀ x y, besB g x y = true → besB h x y = true) {a b : Nat} (k : Reach g a b) : Reach h a b := by
  induction k with
  | refl hx => exact .refl (by omega)
  | step _ hbc ih => exact ih.step (hb _ _ hbc)

theorem first_of {g : List Nat} (hr : RightG g) : ∀ a, a < g.length → ∃ f, First g f ∧ Reach g a f := by
  intro a
  induction a using Nat.strongRecOn with
  | _ a ih =>
    intro ha
    rcases Classical.em (First g a) with h | h
    · exact ⟨a, h, .refl ha⟩
    · have : ∃ k, k < a ∧ Reach g a k := Classical.byContradiction (fun hn => h (fun k hk hrk => hn ⟨k, hk, hrk⟩))
      obtain ⟨k, hk, hrk⟩ := this
      obtain ⟨f, h1, h2⟩ := ih k hk (by omega)
      exact ⟨f, h1, hrk.trans h2⟩

theorem first_one {g : List Nat} (hr : RightG g) {x y : Nat} (hx : First g x) (hy : First g y) (h : Reach g x y) : x = y := by
  rcases Nat.lt_trichotomy x y with h1 | h1 | h1
  · exact absurd (h.symm hr) (hy x h1)
  · exact h1
  · exact absurd h (hx y h1)

section
variable {g : List Nat} {a b : Nat}

theorem join_edge (hr : RightG g) (ha : a < g.length) (hb : b < g.length) (x y : Nat) : besB (joinN g [(a : Int), (b : Int)]) x y = true ↔ besB g x y = true ∨ (x ≠ y ∧ ((x = a ∧ y = b) ∨ (x = b ∧ y = a))) := by
  rw [joinN_bes (by have := hr.few; omega), Bool.or_eq_true, decide_eq_true_eq]
  simp only [List.mem_cons, List.not_mem_nil, or_false]
  constructor
  · rintro (h | ⟨h1, h2, h3, h4, h5⟩)
    · exact .inl h
    · exact .inr ⟨h5, by omega⟩
  · rintro (h | ⟨h1, ⟨h2, h3⟩ | ⟨h2, h3⟩⟩)
    · exact .inl h
    · exact .inr ⟨by omega, by omega, .inl (by omega), .inr (by omega), h1⟩
    · exact .inr ⟨by omega, by omega, .inr (by omega), .inl (by omega), h1⟩

theorem join_reach (hr : RightG g) (ha : a < g.length) (hb : b < g.length) {x y : Nat} (h : Reach (joinN g [(a : Int), (b : Int)]) x y) : Reach g x y ∨ (Reach g x a ∧ Reach g b y) ∨ (Reach g x b ∧ Reach g a y) := by
  induction h with
  | refl h => exact .inl (.refl (by rw [joinN_len] at h; exact h))
  | step _ hbc ih =>
    rcases (join_edge hr ha hb _ _).1 hbc with h1 | ⟨h1, ⟨rfl, rfl⟩ | ⟨rfl, rfl⟩⟩
    · rcases ih with h2 | ⟨h2, h3⟩ | ⟨h2, h3⟩
      · exact .inl (h2.step h1)
      · exact .inr (.inl ⟨h2, h3.step h1⟩)
      · exact .inr (.inr ⟨h2, h3.step h1⟩)
    · rcases ih with h2 | ⟨h2, h3⟩ | ⟨h2, h3⟩
      · exact .inr (.inl ⟨h2, .refl hb⟩)
      · exact .inr (.inl ⟨h2, .refl hb⟩)
      · exact .inl h2
    · rcases ih with h2 | ⟨h2, h3⟩ | ⟨h2, h3⟩
      · exact .inr (.inr ⟨h2, .refl ha⟩)
      · exact .inl h2
      · exact .inr (.inr ⟨h2, .refl ha⟩)

theorem reach_join (hr : RightG g) (ha : a < g.length) (hb : b < g.length) {x y : Nat} (h : Reach g x y) : Reach (joinN g [(a : Int), (b : Int)]) x y :=
  h.into (joinN_len _ _) (fun x y h => (join_edge hr ha hb _ _).2 (.inl h))

theorem reach_ab (hr : RightG g) (ha : a < g.length) (hb : b < g.length) : Reach (joinN g [(a : Int), (b : Int)]) a b := by
  rcases Nat.lt_trichotomy a b with h | h | h
  · exact .step (.refl (by rw [joinN_len]; exact ha)) ((join_edge hr ha hb _ _).2 (.inr ⟨by omega, .inl ⟨rfl, rfl⟩⟩))
  · subst h; exact .refl (by rw [joinN_len]; exact ha)
  · exact .step (.refl (by rw [joinN_len]; exact ha)) ((join_edge hr ha hb _ _).2 (.inr ⟨by omega, .inl ⟨rfl, rfl⟩⟩))

open Classical in
theorem firsts_same (hr : RightG g) (ha : a < g.length) (hb : b < g.length) (h : Reach g a b) : firsts (joinN g [(a : Int), (b : Int)]) g.length = firsts g g.length := by
  have key : ∀ x y, Reach (joinN g [(a : Int), (b : Int)]) x y ↔ Reach g x y := fun x y => by
    constructor
    · intro h1
      rcases join_reach hr ha hb h1 with h2 | ⟨h2, h3⟩ | ⟨h2, h3⟩
      · exact h2
      · exact (h2.trans h).trans h3
      · exact (h2.trans (h.symm hr)).trans h3
    · exact reach_join hr ha hb
  have kf : ∀ x, First (joinN g [(a : Int), (b : Int)]) x ↔ First g x := fun x => by
    unfold First
    simp only [key]
  unfold firsts
  congr 1
  funext x
  rw [Bool.eq_iff_iff, decide_eq_true_eq, decide_eq_true_eq]
  exact kf x

theorem firsts_less (hr : RightG g) (ha : a < g.length) (hb : b < g.length) (h : ¬ Reach g a b) : (firsts (joinN g [(a : Int), (b : Int)]) g.length).length + 1 = (firsts g g.length).length := by
  have hr' : RightG (joinN g [(a : Int), (b : Int)]) := right_join hr _
  obtain ⟨fa, a1, a2⟩ := first_of hr a ha
  obtain ⟨fb, b1, b2⟩ := first_of hr b hb
  have hne : fa ≠ fb := fun e => h (a2.trans (by rw [e]; exact b2.symm hr))
  obtain ⟨m, hm⟩ : ∃ m, m = max fa fb := ⟨_, rfl⟩
  have hab := reach_ab hr ha hb
  have ra := reach_join hr ha hb a2
  have rb := reach_join hr ha hb b2
  have hfab : Reach (joinN g [(a : Int), (b : Int)]) fa fb := ((ra.symm hr').trans hab).trans rb
  have hmf : First g m ∧ m < g.length := by
    have h1 := a2.to_lt hr
    have h2 := b2.to_lt hr
    rcases Nat.lt_or_ge fa fb with h3 | h3
    · have : m = fb := by omega
      rw [this]; exact ⟨b1, h2⟩
    · have : m = fa := by omega
      rw [this]; exact ⟨a1, h1⟩
  have key : ∀ x, First (joinN g [(a : Int), (b : Int)]) x ↔ First g x ∧ x ≠ m := fun x => by
    constructor
    · intro hx
      refine ⟨fun k hk hrk => hx k hk (reach_join hr ha hb hrk), fun e => ?_⟩
      subst e
      rcases Nat.lt_or_ge fa fb with h3 | h3
      · have e : x = fb := by omega
        subst e
        exact hx fa h3 (hfab.symm hr')
      · have e : x = fa := by omega
        subst e
        exact hx fb (by omega) hfab
    · rintro ⟨hx, hxm⟩ k hk hrk
      rcases join_reach hr ha hb hrk with h2 | ⟨h2, h3⟩ | ⟨h2, h3⟩
      · exact hx k hk h2
      · have e : x = fa := first_one hr hx a1 (h2.trans a2)
        have h4 : ¬ k < fb := fun h5 => b1 k h5 ((b2.symm hr).trans h3)
        omega
      · have e : x = fb := first_one hr hx b1 (h2.trans b2)
        have h4 : ¬ k < fa := fun h5 => a1 k h5 ((a2.symm hr).trans h3)
        omega
  have hmem : m ∈ firsts g g.length := mem_firsts.2 ⟨hmf.2, hmf.1⟩
  have hasc := firsts_asc g g.length
  have e : firsts (joinN g [(a : Int), (b : Int)]) g.length = (firsts g g.length).erase m := by
    have hnd : (firsts g g.length).Nodup := hasc.imp (fun h => by omega)
    rw [List.Nodup.erase_eq_filter hnd]
    unfold firsts
    rw [List.filter_filter]
    congr 1
    funext x
    rw [Bool.eq_iff_iff]
    simp only [decide_eq_true_eq, Bool.and_eq_true, bne_iff_ne]
    rw [key]
    exact And.comm
  rw [e, List.length_erase_of_mem hmem]
  have := List.length_pos_of_mem hmem
  omega
end

theorem partsL_len (g : List Nat) : (partsL g).length = (firsts g g.length).length := by simp [partsL, partsUp]

/-- Some part has both just if the one leads to the other. -/
theorem both_part {g : List Nat} (hr : RightG g) {a b : Nat} (ha : a < g.length) : (∃ P ∈ partsL g, (a : Int) ∈ P ∧ (b : Int) ∈ P) ↔ Reach g a b := by
  constructor
  · rintro ⟨P, hP, h1, h2⟩
    obtain ⟨f, hf, rfl⟩ := List.mem_map.1 hP
    obtain ⟨k, e1, r1⟩ := (mem_compL hr).1 h1
    obtain ⟨j, e2, r2⟩ := (mem_compL hr).1 h2
    have e1 : k = a := by omega
    have e2 : j = b := by omega
    subst e1 e2
    exact (r1.symm hr).trans r2
  · intro h
    obtain ⟨f, h1, h2⟩ := first_of hr a ha
    refine ⟨compL g f, List.mem_map.2 ⟨f, mem_firsts.2 ⟨h2.to_lt hr, h1⟩, rfl⟩, (mem_compL hr).2 ⟨a, rfl, h2.symm hr⟩, (mem_compL hr).2 ⟨b, rfl, (h2.symm hr).trans h⟩⟩

theorem adds_len {g : List Nat} (hr : RightG g) {a b : Nat} (ha : a < g.length) (hb : b < g.length) :
    (Reach g a b → (partsL (joinN g [(a : Int), (b : Int)])).length = (partsL g).length) ∧ (¬ Reach g a b → (partsL (joinN g [(a : Int), (b : Int)])).length + 1 = (partsL g).length) := by
  have e : (partsL (joinN g [(a : Int), (b : Int)])).length = (firsts (joinN g [(a : Int), (b : Int)]) g.length).length := by rw [partsL_len, joinN_len]
  rw [e, partsL_len]
  exact ⟨fun h => by rw [firsts_same hr ha hb h], fun h => firsts_less hr ha hb h⟩

end Go.Proofs.YtmhaaogjldnceaaDoor
