/-
  Orders of a graph's points, as lists: plain mathematics, nothing of the program is spoken of here.
-/
import Derived.Test.YtcglbopmfdilfaaDoorGMath
namespace Go.Proofs.YtcglbopmfdilfaaDoor
set_option linter.unusedVariables false
set_option linter.unusedSimpArgs false

/-- The points beside a that were taken (c: yes), or not. -/
def besT (g : List Nat) (t : List Bool) (a : Int) (c : Bool) : List Int := (nbL g a).filter fun b => t.getD b.toNat false == c

theorem mem_besT {g : List Nat} {t : List Bool} {a x : Int} {c : Bool} : x ∈ besT g t a c ↔ (ptB g.length a = true ∧ ptB g.length x = true ∧ besB g a.toNat x.toNat = true) ∧ t.getD x.toNat false = c := by
  unfold besT
  rw [List.mem_filter, mem_nbL', beq_iff_eq]

theorem besT_asc (g : List Nat) (t : List Bool) (a : Int) (c : Bool) : (besT g t a c).Pairwise (· < ·) := (nbL_asc g a).filter _

theorem nbL_len (g : List Nat) (a : Int) : (nbL g a).length ≤ g.length := by
  unfold nbL
  split
  · rw [List.length_map]
    exact Nat.le_trans (List.length_filter_le _ _) (by simp)
  · simp
theorem besT_len (g : List Nat) (t : List Bool) (a : Int) (c : Bool) : (besT g t a c).length ≤ g.length := Nat.le_trans (List.length_filter_le _ _) (nbL_len g a)

/-- Pairs of the i-th of L, and those of the first m, that are not beside each other. -/
def apRow (g : List Nat) (L : List Int) (i m : Nat) : List (Int × Int) := ((L.take m).filter fun c => !besI g (L.getD i 0) c).map fun c => (L.getD i 0, c)
def apUp (g : List Nat) (L : List Int) (k : Nat) : List (Int × Int) := (List.range k).flatMap fun i => apRow g L i i
def apartL (g : List Nat) (t : List Bool) (a : Int) : List (Int × Int) := apUp g (besT g t a false) (besT g t a false).length

theorem apUp_succ (g : List Nat) (L : List Int) (k : Nat) : apUp g L (k + 1) = apUp g L k ++ apRow g L k k := by simp [apUp, List.range_succ]
theorem apRow_zero (g : List Nat) (L : List Int) (i : Nat) : apRow g L i 0 = [] := by simp [apRow]
theorem apRow_succ (g : List Nat) (L : List Int) (i m : Nat) (hm : m < L.length) : apRow g L i (m + 1) = if besI g (L.getD i 0) L[m] = true then apRow g L i m else apRow g L i m ++ [(L.getD i 0, L[m])] := by
  unfold apRow
  rw [List.take_succ_eq_append_getElem hm, List.filter_append, List.map_append]
  generalize L.getD i 0 = b
  split
  · rename_i h; simp [h]
  · rename_i h; simp [h]

theorem apRow_len (g : List Nat) (L : List Int) (i m : Nat) : (apRow g L i m).length ≤ m := by
  unfold apRow
  rw [List.length_map]
  exact Nat.le_trans (List.length_filter_le _ _) (by rw [List.length_take]; omega)
theorem apUp_len (g : List Nat) (L : List Int) (k : Nat) : (apUp g L k).length ≤ k * k := by
  induction k with
  | zero => simp [apUp]
  | succ k ih =>
    rw [apUp_succ, List.length_append]
    have := apRow_len g L k k
    have e : (k + 1) * (k + 1) = k * k + 2 * k + 1 := by rw [Nat.mul_add, Nat.add_mul]; omega
    omega

theorem mem_apUp {g : List Nat} {L : List Int} {k : Nat} (hk : k ≤ L.length) {b c : Int} : (b, c) ∈ apUp g L k ↔ ∃ (i j : Nat) (hi : i < L.length) (hj : j < L.length), j < i ∧ i < k ∧ b = L[i] ∧ c = L[j] ∧ besI g b c = false := by
  unfold apUp apRow
  simp only [List.mem_flatMap, List.mem_range, List.mem_map, List.mem_filter, Prod.mk.injEq, Bool.not_eq_true', Bool.not_eq_eq_eq_not, Bool.not_true]
  constructor
  · rintro ⟨i, hi, c', ⟨h1, h2⟩, h3, rfl⟩
    obtain ⟨j, hj, rfl⟩ := List.getElem_of_mem h1
    rw [List.length_take] at hj
    have hiL : i < L.length := by omega
    have e : L.getD i 0 = L[i] := by rw [List.getD_eq_getElem?_getD, List.getElem?_eq_getElem hiL]; rfl
    rw [e] at h2 h3
    refine ⟨i, j, hiL, by omega, by omega, hi, h3.symm, by rw [List.getElem_take], by rw [← h3]; exact h2⟩
  · rintro ⟨i, j, hi, hj, hji, hik, rfl, rfl, h⟩
    have e : L.getD i 0 = L[i] := by rw [List.getD_eq_getElem?_getD, List.getElem?_eq_getElem hi]; rfl
    refine ⟨i, hik, L[j], ⟨?_, by rw [e]; exact h⟩, e, rfl⟩
    exact List.mem_iff_getElem.2 ⟨j, by rw [List.length_take]; omega, by rw [List.getElem_take]⟩

/-- What a point is worth. -/
def fillW (g : List Nat) (t : List Bool) (a : Int) : Int := ((apartL g t a).length : Int)
def degW (g : List Nat) (t : List Bool) (a : Int) : Int := ((besT g t a false).length : Int)
def cardW (g : List Nat) (t : List Bool) (a : Int) : Int := -((besT g t a true).length : Int)
def worthW (how : Int) (g : List Nat) (t : List Bool) (a : Int) : Int := if how = 1 then fillW g t a else if how = 2 then degW g t a else cardW g t a

/-- The first that is worth least, of those that are left, ahead of k; and what it is worth. -/
def leastUp (f : Int → Int) (t : List Bool) : Nat → Int × Int
  | 0 => (-1, 0)
  | k + 1 => if t.getD k false = true then leastUp f t k else if (leastUp f t k).1 < 0 ∨ f (k : Int) < (leastUp f t k).2 then ((k : Int), f (k : Int)) else leastUp f t k
def leastL (f : Int → Int) (t : List Bool) : Int := (leastUp f t t.length).1

/-- All these are joined, two by two. -/
def joinPs (g : List Nat) (ps : List (Int × Int)) : List Nat := ps.foldl (fun g p => joinN g [p.1, p.2]) g
theorem joinPs_snoc (g : List Nat) (ps : List (Int × Int)) (p : Int × Int) : joinPs g (ps ++ [p]) = joinN (joinPs g ps) [p.1, p.2] := by simp [joinPs]
theorem joinPs_len (g : List Nat) (ps : List (Int × Int)) : (joinPs g ps).length = g.length := by
  unfold joinPs
  induction ps generalizing g with
  | nil => rfl
  | cons p r ih => rw [List.foldl_cons, ih, joinN_len]
theorem joinPs_right {g : List Nat} (h : RightG g) (ps : List (Int × Int)) : RightG (joinPs g ps) := by
  unfold joinPs
  induction ps generalizing g with
  | nil => exact h
  | cons p r ih => rw [List.foldl_cons]; exact ih (right_join h _)

/-- How far an order is found. -/
structure Srch where
  g : List Nat
  t : List Bool
  o : List Int

def takeS (how : Int) (s : Srch) (a : Int) : Srch :=
  if how = 3 then ⟨s.g, s.t.set a.toNat true, a :: s.o⟩ else ⟨joinPs s.g (apartL s.g (s.t.set a.toNat true) a), s.t.set a.toNat true, s.o ++ [a]⟩
def nextS (how : Int) (s : Srch) : Srch := takeS how s (leastL (worthW how s.g s.t) s.t)
def runS (how : Int) (s : Srch) : Nat → Srch
  | 0 => s
  | k + 1 => nextS how (runS how s k)
def begS (g : List Nat) : Srch := ⟨g, List.replicate g.length false, []⟩
/-- The order that is found. -/
def ofL (how : Int) (g : List Nat) : List Int := (runS how (begS g) g.length).o

theorem leastUp_range (f : Int → Int) (t : List Bool) (k : Nat) : -1 ≤ (leastUp f t k).1 ∧ (leastUp f t k).1 < (k : Int) ∧ (0 ≤ (leastUp f t k).1 → t.getD (leastUp f t k).1.toNat false = false) ∧ ((leastUp f t k).1 < 0 → ∀ i < k, t.getD i false = true) := by
  induction k with
  | zero => exact ⟨by simp [leastUp], by simp [leastUp], by simp [leastUp], fun _ i hi => by omega⟩
  | succ k ih =>
    obtain ⟨h1, h2, h3, h4⟩ := ih
    unfold leastUp
    split
    · rename_i ht
      exact ⟨h1, by omega, h3, fun h i hi => by
        rcases Nat.lt_or_ge i k with h' | h'
        · exact h4 h i h'
        · obtain rfl : i = k := by omega
          exact ht⟩
    · rename_i ht
      split
      · exact ⟨by simp only; omega, by simp only; omega, fun _ => by simpa using ht, fun h => by simp only at h; omega⟩
      · rename_i h
        exact ⟨h1, by omega, h3, fun h' => absurd (Or.inl h') h⟩

/-- It is the first of the least. -/
theorem leastUp_least (f : Int → Int) (t : List Bool) (k : Nat) (h0 : 0 ≤ (leastUp f t k).1) : (leastUp f t k).2 = f (leastUp f t k).1 ∧ ∀ i : Nat, i < k → t.getD i false = false → f (leastUp f t k).1 < f i ∨ (f (leastUp f t k).1 = f i ∧ (leastUp f t k).1 ≤ i) := by
  induction k with
  | zero => simp [leastUp] at h0
  | succ k ih =>
    have hr := leastUp_range f t k
    revert h0
    unfold leastUp
    split
    · rename_i ht
      intro h0
      obtain ⟨h1, h2⟩ := ih h0
      refine ⟨h1, fun i hi hti => ?_⟩
      rcases Nat.lt_or_ge i k with h' | h'
      · exact h2 i h' hti
      · obtain rfl : i = k := by omega
        rw [ht] at hti; cases hti
    · rename_i ht
      split
      · rename_i hc
        intro _
        refine ⟨rfl, fun i hi hti => ?_⟩
        rcases Nat.lt_or_ge i k with h' | h'
        · rcases hc with hc | hc
          · have := hr.2.2.2 hc i h'
            rw [this] at hti; cases hti
          · have hn : 0 ≤ (leastUp f t k).1 := by
              rcases Int.lt_or_le (leastUp f t k).1 0 with hx | hx
              · have := hr.2.2.2 hx i h'
                rw [this] at hti; cases hti
              · exact hx
            obtain ⟨h1, h2⟩ := ih hn
            rcases h2 i h' hti with h3 | h3
            · left; simp only; omega
            · left; simp only; omega
        · obtain rfl : i = k := by omega
          right; simp
      · rename_i hc
        intro h0
        obtain ⟨h1, h2⟩ := ih h0
        refine ⟨h1, fun i hi hti => ?_⟩
        rcases Nat.lt_or_ge i k with h' | h'
        · exact h2 i h' hti
        · obtain rfl : i = k := by omega
          have h3 : ¬ f (i : Int) < (leastUp f t i).2 := fun h => hc (.inr h)
          rw [h1] at h3
          have := hr.2.1
          omega

/-- How many are left. -/
def leftN (t : List Bool) : Nat := t.countP (· == false)
theorem leftN_set {t : List Bool} {i : Nat} (hi : i < t.length) (h : t.getD i false = false) : leftN (t.set i true) + 1 = leftN t := by
  have e : t[i] = false := by rw [List.getD_eq_getElem?_getD, List.getElem?_eq_getElem hi] at h; exact h
  have hp : 0 < t.countP (· == false) := List.countP_pos_iff.2 ⟨t[i], List.getElem_mem hi, by simp [e]⟩
  have h2 := List.countP_set (p := (· == false)) (l := t) (i := i) (a := true) hi
  simp only [e, beq_self_eq_true, if_true, show (true == false) = false from rfl, Bool.false_eq_true, if_false] at h2
  unfold leftN
  omega
theorem leftN_pos {t : List Bool} (h : 0 < leftN t) : ∃ i, i < t.length ∧ t.getD i false = false := by
  obtain ⟨x, hx, hx'⟩ := List.countP_pos_iff.1 h
  obtain ⟨i, hi, rfl⟩ := List.getElem_of_mem hx
  exact ⟨i, hi, by rw [List.getD_eq_getElem?_getD, List.getElem?_eq_getElem hi]; simpa using hx'⟩

theorem least_ok {f : Int → Int} {t : List Bool} (h : 0 < leftN t) : 0 ≤ leastL f t ∧ leastL f t < (t.length : Int) ∧ t.getD (leastL f t).toNat false = false := by
  obtain ⟨h1, h2, h3, h4⟩ := leastUp_range f t t.length
  have hn : 0 ≤ (leastUp f t t.length).1 := by
    rcases Int.lt_or_le (leastUp f t t.length).1 0 with hx | hx
    · obtain ⟨i, hi, hf⟩ := leftN_pos h
      rw [h4 hx i hi] at hf; cases hf
    · exact hx
  exact ⟨hn, h2, h3 hn⟩

/-- A search that stands well: its graph is right, so many are left. -/
structure SrchOk (n k : Nat) (s : Srch) : Prop where
  right : RightG s.g
  glen : s.g.length = n
  tlen : s.t.length = n
  left : leftN s.t + k = n
  olen : s.o.length = k

theorem begS_ok {g : List Nat} (h : RightG g) : SrchOk g.length 0 (begS g) := ⟨h, rfl, by simp [begS], by simp [begS, leftN, List.countP_replicate], rfl⟩

theorem SrchOk.next {n k : Nat} {s : Srch} {how : Int} (h : SrchOk n k s) (hk : k < n) : SrchOk n (k + 1) (nextS how s) := by
  have hl := least_ok (f := worthW how s.g s.t) (t := s.t) (by have := h.left; omega)
  have h3 : leftN (s.t.set (leastL (worthW how s.g s.t) s.t).toNat true) + 1 = leftN s.t := leftN_set (by omega) hl.2.2
  unfold nextS takeS
  generalize leastL (worthW how s.g s.t) s.t = a at *
  have h4 := h.left
  split
  · exact ⟨h.right, h.glen, by simp [h.tlen], by simp only; omega, by simp [h.olen]⟩
  · exact ⟨joinPs_right h.right _, by rw [joinPs_len]; exact h.glen, by simp [h.tlen], by simp only; omega, by simp [h.olen]⟩

theorem SrchOk.run {n : Nat} {s : Srch} {how : Int} (h : SrchOk n 0 s) {k : Nat} (hk : k ≤ n) : SrchOk n k (runS how s k) := by
  induction k with
  | zero => exact h
  | succ k ih => exact (ih (by omega)).next (by omega)

theorem ofL_len {how : Int} {g : List Nat} (h : RightG g) : (ofL how g).length = g.length := ((begS_ok h).run (how := how) (Nat.le_refl _)).olen

end Go.Proofs.YtcglbopmfdilfaaDoor
