/-
  Mathematics: an order by greatest numbers of visited neighbours is one that joins nothing, where some order joins nothing.
-/
import Derived.Test.YtcglbopmfdilfaaDoorLists
namespace Go.Proofs.YtcglbopmfdilfaaDoor
set_option linter.unusedVariables false
set_option linter.unusedSimpArgs false

theorem argmin_range (b : Nat → Nat) (lo : Nat) : ∀ d, ∃ j, lo ≤ j ∧ j ≤ lo + d ∧ ∀ i, lo ≤ i → i ≤ lo + d → b j ≤ b i
  | 0 => ⟨lo, Nat.le_refl _, by omega, fun i h1 h2 => by rw [show i = lo from by omega]; exact Nat.le_refl _⟩
  | d + 1 => by
    obtain ⟨j, h1, h2, h3⟩ := argmin_range b lo d
    by_cases hc : b (lo + (d + 1)) < b j
    · refine ⟨lo + (d + 1), by omega, by omega, fun i h4 h5 => ?_⟩
      rcases Nat.lt_or_ge i (lo + (d + 1)) with h | h
      · have := h3 i h4 (by omega); omega
      · rw [show i = lo + (d + 1) from by omega]; exact Nat.le_refl _
    · refine ⟨j, h1, by omega, fun i h4 h5 => ?_⟩
      rcases Nat.lt_or_ge i (lo + (d + 1)) with h | h
      · exact h3 i h4 (by omega)
      · rw [show i = lo + (d + 1) from by omega]; omega

/-- An order (by numbers) by which nothing is joined. -/
structure PeoN (adj : Nat → Nat → Prop) (b : Nat → Nat) : Prop where
  ne : ∀ x y, adj x y → x ≠ y
  sym : ∀ x y, adj x y → adj y x
  inj : ∀ x y z, adj x z → b x = b y → (∃ z', adj y z') → x = y
  peo : ∀ z x y, adj z x → adj z y → x ≠ y → b z < b x → b z < b y → adj x y

/-- Who is beside both ends of a path without short cuts is beside all of it. -/
theorem fan_all {adj : Nat → Nat → Prop} {b : Nat → Nat} (h : PeoN adj b) (f : Nat → Nat) (x : Nat) : ∀ (d lo : Nat),
    (∀ i, lo ≤ i → i < lo + d → adj (f i) (f (i + 1))) → (∀ i j, lo ≤ i → i + 2 ≤ j → j ≤ lo + d → ¬ adj (f i) (f j)) → (∀ i j, lo ≤ i → i < j → j ≤ lo + d → f i ≠ f j) →
    (∀ i, lo ≤ i → i ≤ lo + d → f i ≠ x) → adj x (f lo) → adj x (f (lo + d)) → ∀ i, lo ≤ i → i ≤ lo + d → adj x (f i)
  | 0, lo, hs, hc, hi, hx, h1, h2 => fun i h3 h4 => by rw [show i = lo from by omega]; exact h1
  | 1, lo, hs, hc, hi, hx, h1, h2 => fun i h3 h4 => by
    rcases Nat.lt_or_ge i (lo + 1) with h5 | h5
    · rw [show i = lo from by omega]; exact h1
    · rw [show i = lo + 1 from by omega]; exact h2
  | d + 2, lo, hs, hc, hi, hx, h1, h2 => by
    have nbr : ∀ i, lo ≤ i → i ≤ lo + (d + 2) → ∃ z, adj (f i) z := fun i h3 h4 => by
      rcases Nat.lt_or_ge i (lo + (d + 2)) with h5 | h5
      · exact ⟨_, hs i h3 h5⟩
      · refine ⟨f (lo + (d + 1)), ?_⟩
        rw [show i = lo + (d + 1) + 1 from by omega]
        exact h.sym _ _ (hs (lo + (d + 1)) (by omega) (by omega))
    obtain ⟨j, j1, j2, j3⟩ := argmin_range (fun i => b (f i)) lo (d + 2)
    have lt : ∀ i, lo ≤ i → i ≤ lo + (d + 2) → i ≠ j → b (f j) < b (f i) := fun i h3 h4 h5 => by
      rcases Nat.lt_or_ge (b (f j)) (b (f i)) with h6 | h6
      · exact h6
      · exfalso
        have e : b (f j) = b (f i) := Nat.le_antisymm (j3 i h3 h4) h6
        obtain ⟨z, hz⟩ := nbr j j1 j2
        have := h.inj _ _ z hz e (nbr i h3 h4)
        rcases Nat.lt_or_ge i j with h7 | h7
        · exact hi i j h3 h7 j2 this.symm
        · exact hi j i j1 (by omega) h4 this
    by_cases hbx : b x < b (f j)
    · exact absurd (h.peo x _ _ h1 h2 (hi _ _ (Nat.le_refl _) (by omega) (Nat.le_refl _)) (Nat.lt_of_lt_of_le hbx (j3 _ (Nat.le_refl _) (by omega))) (Nat.lt_of_lt_of_le hbx (j3 _ (by omega) (Nat.le_refl _)))) (hc _ _ (Nat.le_refl _) (by omega) (Nat.le_refl _))
    · have hbj : b (f j) < b x := by
        rcases Nat.lt_or_ge (b (f j)) (b x) with h6 | h6
        · exact h6
        · exfalso
          have e : b x = b (f j) := by omega
          exact hx j j1 j2 (h.inj _ _ _ h1 e (nbr j j1 j2)).symm
      rcases Nat.lt_or_ge lo j with h3 | h3
      · rcases Nat.lt_or_ge j (lo + (d + 2)) with h4 | h4
        · exfalso
          have e1 := h.sym _ _ (hs (j - 1) (by omega) (by omega))
          rw [show j - 1 + 1 = j from by omega] at e1
          exact hc (j - 1) (j + 1) (by omega) (by omega) (by omega)
            (h.peo (f j) _ _ e1 (hs j j1 h4) (hi _ _ (by omega) (by omega) (by omega)) (lt _ (by omega) (by omega) (by omega)) (lt _ (by omega) (by omega) (by omega)))
        · obtain rfl : j = lo + (d + 2) := by omega
          have e1 := h.sym _ _ (hs (lo + (d + 1)) (by omega) (by omega))
          have e2 : adj (f (lo + (d + 1))) x := h.peo _ _ _ e1 (h.sym _ _ h2) (hx _ (by omega) (by omega)) (lt _ (by omega) (by omega) (by omega)) hbj
          have ih := fan_all h f x (d + 1) lo (fun i a1 a2 => hs i a1 (by omega)) (fun i k a1 a2 a3 => hc i k a1 a2 (by omega)) (fun i k a1 a2 a3 => hi i k a1 a2 (by omega)) (fun i a1 a2 => hx i a1 (by omega)) h1 (h.sym _ _ e2)
          intro i a1 a2
          rcases Nat.lt_or_ge i (lo + (d + 2)) with h5 | h5
          · exact ih i a1 (by omega)
          · rw [show i = lo + (d + 2) from by omega]; exact h2
      · obtain rfl : j = lo := by omega
        have e1 := hs j (by omega) (by omega)
        have e2 : adj (f (j + 1)) x := h.peo _ _ _ e1 (h.sym _ _ h1) (hx _ (by omega) (by omega)) (lt _ (by omega) (by omega) (by omega)) hbj
        have ih := fan_all h f x (d + 1) (j + 1) (fun i a1 a2 => hs i (by omega) (by omega)) (fun i k a1 a2 a3 => hc i k (by omega) a2 (by omega)) (fun i k a1 a2 a3 => hi i k (by omega) a2 (by omega)) (fun i a1 a2 => hx i (by omega) (by omega)) (h.sym _ _ e2)
          (by rw [show j + 1 + (d + 1) = j + (d + 2) from by omega]; exact h2)
        intro i a1 a2
        rcases Nat.lt_or_ge j i with h5 | h5
        · exact ih i (by omega) (by omega)
        · rw [show i = j from by omega]; exact h1

/-- A path whose inner points stand ahead of m. -/
structure PthN (adj : Nat → Nat → Prop) (al : Nat → Nat) (m : Nat) (f : Nat → Nat) (k v w : Nat) : Prop where
  fst : f 0 = v
  lst : f k = w
  nxt : ∀ i, i < k → adj (f i) (f (i + 1))
  low : ∀ i, 0 < i → i < k → al (f i) < m

theorem PthN.rev {adj : Nat → Nat → Prop} {al : Nat → Nat} {m : Nat} {f : Nat → Nat} {k v w : Nat} (h : PthN adj al m f k v w) (sym : ∀ x y, adj x y → adj y x) : PthN adj al m (fun i => f (k - i)) k w v :=
  ⟨h.lst, by show f (k - k) = v; rw [Nat.sub_self]; exact h.fst, fun i hi => sym _ _ (by have := h.nxt (k - (i + 1)) (by omega); rwa [show k - (i + 1) + 1 = k - i from by omega] at this), fun i h1 h2 => h.low _ (by omega) (by omega)⟩

/-- A short cut. -/
theorem PthN.cut {adj : Nat → Nat → Prop} {al : Nat → Nat} {m : Nat} {f : Nat → Nat} {k v w : Nat} (h : PthN adj al m f k v w) {i j : Nat} (hij : i + 2 ≤ j) (hj : j ≤ k) (hc : adj (f i) (f j)) :
    PthN adj al m (fun t => if t ≤ i then f t else f (t + (j - i - 1))) (k - (j - i - 1)) v w := by
  refine ⟨by simp [h.fst], ?_, fun t ht => ?_, fun t h1 h2 => ?_⟩
  · show (if k - (j - i - 1) ≤ i then f (k - (j - i - 1)) else f (k - (j - i - 1) + (j - i - 1))) = w
    rw [if_neg (by omega), show k - (j - i - 1) + (j - i - 1) = k from by omega]; exact h.lst
  · show adj (if t ≤ i then f t else f (t + (j - i - 1))) (if t + 1 ≤ i then f (t + 1) else f (t + 1 + (j - i - 1)))
    rcases Nat.lt_or_ge t i with h1 | h1
    · rw [if_pos (by omega), if_pos (by omega)]; exact h.nxt t (by omega)
    · rcases Nat.lt_or_ge i t with h2 | h2
      · rw [if_neg (by omega), if_neg (by omega), show t + 1 + (j - i - 1) = t + (j - i - 1) + 1 from by omega]; exact h.nxt _ (by omega)
      · obtain rfl : t = i := by omega
        rw [if_pos (by omega), if_neg (by omega), show t + 1 + (j - t - 1) = j from by omega]; exact hc
  · show al (if t ≤ i then f t else f (t + (j - i - 1))) < m
    split
    · exact h.low _ h1 (by omega)
    · exact h.low _ (by omega) (by omega)

/-- The same point twice. -/
theorem PthN.same {adj : Nat → Nat → Prop} {al : Nat → Nat} {m : Nat} {f : Nat → Nat} {k v w : Nat} (h : PthN adj al m f k v w) {i j : Nat} (hij : i < j) (hj : j ≤ k) (hc : f i = f j) :
    PthN adj al m (fun t => if t ≤ i then f t else f (t + (j - i))) (k - (j - i)) v w := by
  refine ⟨by simp [h.fst], ?_, fun t ht => ?_, fun t h1 h2 => ?_⟩
  · show (if k - (j - i) ≤ i then f (k - (j - i)) else f (k - (j - i) + (j - i))) = w
    split
    · rw [show k - (j - i) = i from by omega, hc, show j = k from by omega]; exact h.lst
    · rw [show k - (j - i) + (j - i) = k from by omega]; exact h.lst
  · show adj (if t ≤ i then f t else f (t + (j - i))) (if t + 1 ≤ i then f (t + 1) else f (t + 1 + (j - i)))
    rcases Nat.lt_or_ge t i with h1 | h1
    · rw [if_pos (by omega), if_pos (by omega)]; exact h.nxt t (by omega)
    · rcases Nat.lt_or_ge i t with h2 | h2
      · rw [if_neg (by omega), if_neg (by omega), show t + 1 + (j - i) = t + (j - i) + 1 from by omega]; exact h.nxt _ (by omega)
      · obtain rfl : t = i := by omega
        rw [if_pos (by omega), if_neg (by omega), hc, show t + 1 + (j - t) = j + 1 from by omega]; exact h.nxt _ (by omega)
  · show al (if t ≤ i then f t else f (t + (j - i))) < m
    split
    · exact h.low _ h1 (by omega)
    · exact h.low _ (by omega) (by omega)

/-- What the visits ask: of two that stand ahead of one beside the first .. -/
structure VisN (adj : Nat → Nat → Prop) (al : Nat → Nat) (n : Nat) : Prop where
  lt : ∀ x, al x < n
  inj : ∀ x y z, adj x z → al x = al y → (∃ z', adj y z') → x = y
  vis : ∀ u v w, al u < al v → al v < al w → adj u w → ¬ adj v w → (∃ z, adj v z) → ∃ x, al v < al x ∧ adj v x ∧ ¬ adj u x

theorem vis_path {adj : Nat → Nat → Prop} {b al : Nat → Nat} {n : Nat} (h : PeoN adj b) (hv : VisN adj al n) : ∀ (d k m : Nat) (f : Nat → Nat) (v w : Nat), n - m ≤ d → PthN adj al m f k v w → m ≤ al v → m ≤ al w → v ≠ w → adj v w
  | 0, k, m, f, v, w, hd, hp, h1, h2, hne => by have := hv.lt v; omega
  | d + 1, k, m, f, v, w, hd, hp, h1, h2, hne => by
    -- the shortest path
    have inner : ∀ (k : Nat) (f : Nat → Nat) (v w : Nat), PthN adj al m f k v w → m ≤ al v → m ≤ al w → al v < al w → adj v w := by
      intro k
      induction k using Nat.strongRecOn with
      | ind k ih =>
        intro f v w hp h1 h2 hlt
        apply Classical.byContradiction
        intro hna
        have hne : v ≠ w := fun e => by rw [e] at hlt; omega
        have hk0 : k ≠ 0 := fun e => by subst e; exact hne (hp.fst.symm.trans hp.lst)
        have hk1 : k ≠ 1 := fun e => by
          subst e
          have := hp.nxt 0 (by omega)
          rw [hp.fst, show 0 + 1 = 1 from rfl, hp.lst] at this
          exact hna this
        have hmv : al v = m := by
          rcases Nat.lt_or_ge m (al v) with h3 | h3
          · exact absurd (vis_path h hv d k (al v) f v w (by omega) ⟨hp.fst, hp.lst, hp.nxt, fun i a1 a2 => by have := hp.low i a1 a2; omega⟩ (Nat.le_refl _) (by omega) hne) hna
          · omega
        have hc : ∀ i j, 0 ≤ i → i + 2 ≤ j → j ≤ 0 + k → ¬ adj (f i) (f j) := fun i j _ a2 a3 a4 => hna (ih (k - (j - i - 1)) (by omega) _ v w (hp.cut a2 (by omega) a4) h1 h2 hlt)
        have hi : ∀ i j, 0 ≤ i → i < j → j ≤ 0 + k → f i ≠ f j := fun i j _ a2 a3 a4 => hna (ih (k - (j - i)) (by omega) _ v w (hp.same a2 (by omega) a4) h1 h2 hlt)
        have eu := hp.nxt (k - 1) (by omega)
        rw [show k - 1 + 1 = k from by omega, hp.lst] at eu
        have hu := hp.low (k - 1) (by omega) (by omega)
        have ev := hp.nxt 0 (by omega)
        rw [hp.fst] at ev
        obtain ⟨x, hx1, hx2, hx3⟩ := hv.vis (f (k - 1)) v w (by omega) hlt eu hna ⟨_, ev⟩
        have hxw : x ≠ w := fun e => hna (by rw [← e]; exact hx2)
        have axw : adj x w := by
          refine vis_path h hv d (k + 1) (m + 1) (fun i => if i = 0 then x else f (i - 1)) x w (by omega) ⟨rfl, ?_, fun i a1 => ?_, fun i a1 a2 => ?_⟩ (by omega) (by omega) hxw
          · show (if k + 1 = 0 then x else f (k + 1 - 1)) = w
            rw [if_neg (by omega)]; exact hp.lst
          · show adj (if i = 0 then x else f (i - 1)) (if i + 1 = 0 then x else f (i + 1 - 1))
            rw [if_neg (show ¬ i + 1 = 0 by omega), show i + 1 - 1 = i from rfl]
            split
            · next e => subst e; rw [hp.fst]; exact h.sym _ _ hx2
            · have := hp.nxt (i - 1) (by omega)
              rwa [show i - 1 + 1 = i from by omega] at this
          · show al (if i = 0 then x else f (i - 1)) < m + 1
            rw [if_neg (by omega)]
            rcases Nat.lt_or_ge 1 i with a3 | a3
            · have := hp.low (i - 1) (by omega) (by omega); omega
            · rw [show i - 1 = 0 from by omega, hp.fst]; omega
        have hall := fan_all h f x k 0 (fun i _ a2 => hp.nxt i (by omega)) hc hi (fun i a1 a2 e => by
            rcases Nat.eq_zero_or_pos i with a3 | a3
            · rw [a3, hp.fst] at e; rw [e] at hx1; omega
            · rcases Nat.lt_or_ge i k with a4 | a4
              · have := hp.low i a3 a4; rw [e] at this; omega
              · rw [show i = k from by omega, hp.lst] at e; exact hxw e.symm)
          (by rw [hp.fst]; exact h.sym _ _ hx2) (by rw [Nat.zero_add, hp.lst]; exact axw) (k - 1) (by omega) (by omega)
        exact hx3 (h.sym _ _ hall)
    rcases Nat.lt_or_ge (al v) (al w) with h3 | h3
    · exact inner k f v w hp h1 h2 h3
    · rcases Nat.lt_or_ge (al w) (al v) with h4 | h4
      · exact h.sym _ _ (inner k _ w v (hp.rev h.sym) h2 h1 h4)
      · exfalso
        rcases Nat.eq_zero_or_pos k with h5 | h5
        · subst h5; exact hne (hp.fst.symm.trans hp.lst)
        · have e1 := hp.nxt 0 h5
          have e2 := hp.nxt (k - 1) (by omega)
          rw [hp.fst] at e1
          rw [show k - 1 + 1 = k from by omega, hp.lst] at e2
          exact hne (hv.inj _ _ _ e1 (by omega) ⟨_, h.sym _ _ e2⟩)
  termination_by d => d

/-- Visited by greatest numbers of visited neighbours: nothing is joined, where some order joins nothing. -/
theorem vis_peo {adj : Nat → Nat → Prop} {b al : Nat → Nat} {n : Nat} (h : PeoN adj b) (hv : VisN adj al n) {z x y : Nat} (hx : adj z x) (hy : adj z y) (hne : x ≠ y) (h1 : al z < al x) (h2 : al z < al y) : adj x y := by
  refine vis_path h hv (n - (al z + 1)) 2 (al z + 1) (fun i => if i = 0 then x else if i = 1 then z else y) x y (Nat.le_refl _) ⟨rfl, rfl, fun i hi => ?_, fun i a1 a2 => ?_⟩ (by omega) (by omega) hne
  · rcases Nat.lt_or_ge i 1 with h3 | h3
    · obtain rfl : i = 0 := by omega
      exact h.sym _ _ hx
    · obtain rfl : i = 1 := by omega
      exact hy
  · obtain rfl : i = 1 := by omega
    show al z < al z + 1
    omega

end Go.Proofs.YtcglbopmfdilfaaDoor
