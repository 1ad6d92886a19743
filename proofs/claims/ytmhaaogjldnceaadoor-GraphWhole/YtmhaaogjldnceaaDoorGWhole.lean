/-
  Graphs in which each is beside each, but perhaps two: plain mathematics.
-/
import Derived.Test.YtmhaaogjldnceaaDoorGAdds
namespace Go.Proofs.YtmhaaogjldnceaaDoor
set_option linter.unusedVariables false
set_option linter.unusedSimpArgs false

/-- Pairs up to (i, k) are joined, but those that are skipped. -/
structure WG (g : List Nat) (N i k : Nat) (sk : Nat → Nat → Prop) : Prop where
  right : RightG g
  len : g.length = N
  bes : ∀ x y, besB g x y = true ↔ x ≠ y ∧ x < N ∧ y < N ∧ (max x y < i ∨ (max x y = i ∧ min x y < k)) ∧ ¬ sk (max x y) (min x y)

theorem WG.start {N : Nat} (hN : N ≤ 40) (sk : Nat → Nat → Prop) : WG (List.replicate N 0) N 0 0 sk := by
  refine ⟨right_new N hN, by simp, fun x y => ?_⟩
  rw [bes_replicate]
  constructor
  · intro h; cases h
  · rintro ⟨h1, h2, h3, h4, h5⟩; omega

theorem WG.up {g : List Nat} {N i : Nat} {sk : Nat → Nat → Prop} (h : WG g N i i sk) : WG g N (i + 1) 0 sk := by
  refine ⟨h.right, h.len, fun x y => ?_⟩
  rw [h.bes]
  constructor
  · rintro ⟨h1, h2, h3, h4, h5⟩; exact ⟨h1, h2, h3, .inl (by omega), h5⟩
  · rintro ⟨h1, h2, h3, h4, h5⟩; exact ⟨h1, h2, h3, by omega, h5⟩

theorem WG.skip {g : List Nat} {N i k : Nat} {sk : Nat → Nat → Prop} (h : WG g N i k sk) (hs : sk i k) : WG g N i (k + 1) sk := by
  refine ⟨h.right, h.len, fun x y => ?_⟩
  rw [h.bes]
  constructor
  · rintro ⟨h1, h2, h3, h4, h5⟩; exact ⟨h1, h2, h3, by omega, h5⟩
  · rintro ⟨h1, h2, h3, h4, h5⟩
    refine ⟨h1, h2, h3, ?_, h5⟩
    by_cases e : max x y = i ∧ min x y = k
    · rw [e.1, e.2] at h5; exact absurd hs h5
    · omega

theorem WG.join {g : List Nat} {N i k : Nat} {sk : Nat → Nat → Prop} (h : WG g N i k sk) (hi : i < N) (hk : k < i) (hs : ¬ sk i k) : WG (joinN g [(i : Int), (k : Int)]) N i (k + 1) sk := by
  refine ⟨right_join h.right _, by rw [joinN_len]; exact h.len, fun x y => ?_⟩
  rw [join_edge h.right (by rw [h.len]; exact hi) (by rw [h.len]; omega), h.bes]
  constructor
  · rintro (⟨h1, h2, h3, h4, h5⟩ | ⟨h1, ⟨rfl, rfl⟩ | ⟨rfl, rfl⟩⟩)
    · exact ⟨h1, h2, h3, by omega, h5⟩
    · have e1 : max x y = x := by omega
      have e2 : min x y = y := by omega
      rw [e1, e2]
      exact ⟨h1, hi, by omega, .inr ⟨rfl, by omega⟩, hs⟩
    · have e1 : max x y = y := by omega
      have e2 : min x y = x := by omega
      rw [e1, e2]
      exact ⟨h1, by omega, hi, .inr ⟨rfl, by omega⟩, hs⟩
  · rintro ⟨h1, h2, h3, h4, h5⟩
    by_cases e : max x y = i ∧ min x y = k
    · exact .inr ⟨h1, by omega⟩
    · exact .inl ⟨h1, h2, h3, by omega, h5⟩

theorem one_zero {l : List Nat} (hs : l.Pairwise (· < ·)) (hm : ∀ x, x ∈ l ↔ x = 0) : l = [0] := by
  cases l with
  | nil => have := (hm 0).2 rfl; simp at this
  | cons x r =>
    have hx : x = 0 := (hm x).1 (by simp)
    subst hx
    have : r = [] := by
      cases r with
      | nil => rfl
      | cons y t =>
        have hy : y = 0 := (hm y).1 (by simp)
        rw [List.pairwise_cons] at hs
        have := hs.1 y (by simp)
        omega
    rw [this]

/-- Where all are led to from 0 there is one part. -/
theorem parts_one {g : List Nat} (hr : RightG g) (hN : 0 < g.length) (h : ∀ x, x < g.length → Reach g 0 x) : partsL g = [ptsL g.length] := by
  have hf : firsts g g.length = [0] := one_zero (firsts_asc _ _) (fun x => by
    rw [mem_firsts]
    constructor
    · rintro ⟨h1, h2⟩
      rcases Nat.eq_zero_or_pos x with h3 | h3
      · exact h3
      · exact absurd ((h x h1).symm hr) (h2 0 h3)
    · rintro rfl
      exact ⟨hN, fun k hk => by omega⟩)
  have hc : compL g 0 = ptsL g.length := by
    refine Asc.ext (compL_asc _ _) (ptsL_asc _) (fun x => ?_)
    rw [mem_compL hr, mem_ptsL]
    constructor
    · rintro ⟨k, rfl, hk⟩
      rw [ptB_nat]
      simpa using hk.to_lt hr
    · intro hx
      have := ptB_iff.1 hx
      exact ⟨x.toNat, by omega, h _ (by omega)⟩
  unfold partsL partsUp
  rw [hf]
  simp [hc]

section
variable {g : List Nat} {N : Nat}
theorem WG.all (h : WG g N N 0 (fun _ _ => False)) {x y : Nat} (hx : x < N) (hy : y < N) (hne : x ≠ y) : besB g x y = true := (h.bes x y).2 ⟨hne, hx, hy, .inl (by omega), id⟩

theorem WG.clique (h : WG g N N 0 (fun _ _ => False)) : clqB g (ptsL N) = true := by
  unfold clqB
  simp only [List.all_eq_true, Bool.and_eq_true, Bool.or_eq_true]
  intro a ha
  refine ⟨by rw [h.len]; exact mem_ptsL.1 ha, fun b hb => ?_⟩
  have h1 := ptB_iff.1 (mem_ptsL.1 ha)
  have h2 := ptB_iff.1 (mem_ptsL.1 hb)
  by_cases e : a = b
  · left; simp [e]
  · right; exact h.all (by omega) (by omega) (by omega)

theorem WG.parts (h : WG g N N 0 (fun _ _ => False)) (hN : 0 < N) : partsL g = [ptsL N] := by
  rw [← h.len]
  refine parts_one h.right (by rw [h.len]; exact hN) (fun x hx => ?_)
  rw [h.len] at hx
  by_cases e : x = 0
  · subst e; exact .refl (by rw [h.len]; exact hN)
  · exact .step (.refl (by rw [h.len]; exact hN)) (h.all hN hx (by omega))

theorem WG.parts2 {mx mn : Nat} (h : WG g N N 0 (fun p q => p = mx ∧ q = mn)) (hN : 3 ≤ N) : partsL g = [ptsL N] := by
  rw [← h.len]
  have hb : ∀ {x y : Nat}, x < N → y < N → x ≠ y → ¬ (max x y = mx ∧ min x y = mn) → besB g x y = true := fun hx hy hne hs => (h.bes _ _).2 ⟨hne, hx, hy, .inl (by omega), hs⟩
  refine parts_one h.right (by rw [h.len]; omega) (fun x hx => ?_)
  rw [h.len] at hx
  have h0 : 0 < N := by omega
  have r0 : Reach g 0 0 := .refl (by rw [h.len]; exact h0)
  by_cases e : x = 0
  · subst e; exact r0
  · by_cases es : max 0 x = mx ∧ min 0 x = mn
    · obtain ⟨z, hz, hz1, hz2⟩ : ∃ z, z < N ∧ z ≠ 0 ∧ z ≠ x := by
        by_cases e1 : x = 1
        · exact ⟨2, by omega, by omega, by omega⟩
        · exact ⟨1, by omega, by omega, by omega⟩
      exact (r0.step (hb h0 hz (by omega) (by omega))).step (hb hz hx hz2 (by omega))
    · exact r0.step (hb h0 hx (by omega) es)

theorem WG.clique2 {a b : Nat} (h : WG g N N 0 (fun p q => p = max a b ∧ q = min a b)) (ha : a < N) (hb : b < N) : clqB g (ptsL N) = decide (a = b) := by
  by_cases e : a = b
  · rw [decide_eq_true e]
    unfold clqB
    simp only [List.all_eq_true, Bool.and_eq_true, Bool.or_eq_true]
    intro x hx
    refine ⟨by rw [h.len]; exact mem_ptsL.1 hx, fun y hy => ?_⟩
    have h1 := ptB_iff.1 (mem_ptsL.1 hx)
    have h2 := ptB_iff.1 (mem_ptsL.1 hy)
    by_cases e2 : x = y
    · left; simp [e2]
    · right; exact (h.bes _ _).2 ⟨by omega, by omega, by omega, .inl (by omega), by omega⟩
  · rw [decide_eq_false e]
    cases hc : clqB g (ptsL N) with
    | false => rfl
    | true =>
      unfold clqB at hc
      simp only [List.all_eq_true, Bool.and_eq_true, Bool.or_eq_true] at hc
      have h1 := (hc (a : Int) (mem_ptsL.2 (by rw [ptB_nat]; simpa using ha))).2 (b : Int) (mem_ptsL.2 (by rw [ptB_nat]; simpa using hb))
      rcases h1 with h1 | h1
      · rw [beq_iff_eq] at h1; omega
      · have h2 := (h.bes a b).1 (by simpa using h1)
        exact absurd ⟨rfl, rfl⟩ h2.2.2.2.2

theorem WG.nbs {a : Nat} (h : WG g N N 0 (fun _ _ => False)) (ha : a < N) : (nbL g (a : Int)).length = N - 1 := by
  have e : nbL g (a : Int) = (ptsL N).erase (a : Int) := by
    have hnd : (ptsL N).Nodup := Asc.nodup (ptsL_asc N)
    refine Asc.ext (nbL_asc _ _) ?_ (fun x => ?_)
    · exact List.Pairwise.sublist (List.erase_sublist) (ptsL_asc N)
    · rw [mem_nbL', List.Nodup.mem_erase_iff hnd, mem_ptsL, h.len, ptB_nat]
      constructor
      · rintro ⟨h1, h2, h3⟩
        have h4 := (h.bes _ _).1 h3
        have h5 := ptB_iff.1 h2
        exact ⟨fun e => h4.1 (by omega), h2⟩
      · rintro ⟨h1, h2⟩
        have h5 := ptB_iff.1 h2
        exact ⟨by simpa using ha, h2, h.all (by omega) (by omega) (by omega)⟩
  rw [e, List.length_erase_of_mem (mem_ptsL.2 (by rw [ptB_nat]; simpa using ha)), ptsL_len]
end

end Go.Proofs.YtmhaaogjldnceaaDoor
