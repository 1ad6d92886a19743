/-
  Proved: of a graph without rings each order that is found joins nothing.
-/
import Derived.Test.YtflibcfecnhjgaaDoorORefOf2
import Derived.Test.YtflibcfecnhjgaaDoorOValid
import Derived.Test.YtflibcfecnhjgaaDoorFrameT
import Derived.Test.YtflibcfecnhjgaaDoorFrameN
import Derived.Test.YtflibcfecnhjgaaDoorOShown
import Derived.Test.YtflibcfecnhjgaaDoorGMade
namespace Go.Proofs.YtflibcfecnhjgaaDoor
set_option linter.unusedVariables false
set_option linter.unusedSimpArgs false

theorem nextS_o {how : Int} (h3 : how ≠ 3) (s : Srch) : (nextS how s).o = s.o ++ [leastL (worthW how s.g s.t) s.t] := by
  unfold nextS takeS; rw [if_neg h3]

theorem runS_pre {how : Int} (h3 : how ≠ 3) (s : Srch) (k j : Nat) : (runS how s (k + j)).o.take (runS how s k).o.length = (runS how s k).o := by
  induction j with
  | zero => exact List.take_length
  | succ j ih =>
    have e : runS how s (k + (j + 1)) = nextS how (runS how s (k + j)) := rfl
    have hle : (runS how s k).o.length ≤ (runS how s (k + j)).o.length := by
      have := congrArg List.length ih
      rw [List.length_take] at this
      omega
    rw [e, nextS_o h3, List.take_append_of_le_length hle]
    exact ih

theorem ofL_take {how : Int} (h3 : how ≠ 3) {g : List Nat} (hr : RightG g) {k : Nat} (hk : k ≤ g.length) : (runS how (begS g) k).o = (ofL how g).take k := by
  have h1 := runS_pre h3 (begS g) k (g.length - k)
  rw [Nat.add_sub_cancel' hk, ((begS_ok hr).run (how := how) hk).olen] at h1
  exact h1.symm

theorem ofL_at {how : Int} (h3 : how ≠ 3) {g : List Nat} (hr : RightG g) {k : Nat} (hk : k < g.length) (hk' : k < (ofL how g).length) :
    (ofL how g)[k] = leastL (worthW how (runS how (begS g) k).g (runS how (begS g) k).t) (runS how (begS g) k).t := by
  have h1 := ofL_take h3 hr (show k + 1 ≤ g.length from hk)
  have h2 := ofL_take h3 hr (show k ≤ g.length by omega)
  have e : runS how (begS g) (k + 1) = nextS how (runS how (begS g) k) := rfl
  rw [e, nextS_o h3, h2, List.take_succ_eq_append_getElem hk'] at h1
  have := List.append_cancel_left h1
  injection this with this _
  exact this.symm

/-- Who is marked stands in the order so far, and the other way round. -/
theorem runS_got {how : Int} {g : List Nat} (hr : RightG g) {k : Nat} (hk : k ≤ g.length) (i : Nat) : (runS how (begS g) k).t.getD i false = true ↔ (i : Int) ∈ (runS how (begS g) k).o := by
  induction k generalizing i with
  | zero =>
    simp only [runS, begS]
    rw [List.getD_eq_getElem?_getD, List.getElem?_replicate]
    split <;> simp
  | succ k ih =>
    have hok := (begS_ok hr).run (how := how) (show k ≤ g.length by omega)
    have hl := least_ok (f := worthW how (runS how (begS g) k).g (runS how (begS g) k).t) (t := (runS how (begS g) k).t) (by have := hok.left; omega)
    have e : runS how (begS g) (k + 1) = takeS how (runS how (begS g) k) (leastL (worthW how (runS how (begS g) k).g (runS how (begS g) k).t) (runS how (begS g) k).t) := rfl
    have ih2 := ih (by omega)
    rw [e]
    generalize leastL (worthW how (runS how (begS g) k).g (runS how (begS g) k).t) (runS how (begS g) k).t = a at *
    have htl := hok.tlen
    generalize runS how (begS g) k = s at *
    have ht : (takeS how s a).t = s.t.set a.toNat true := by unfold takeS; split <;> rfl
    have hmem : ∀ x, x ∈ (takeS how s a).o ↔ x = a ∨ x ∈ s.o := fun x => by
      unfold takeS
      split
      · simp
      · simp [or_comm]
    rw [ht, getD_set (by omega), hmem, ih2]
    constructor
    · rintro (h | h)
      · exact .inr h
      · exact .inl (by omega)
    · rintro (h | h)
      · exact .inr (by omega)
      · exact .inl h

/-- What the law asks of two points of the order. -/
structure Goes (s : Srch) (f : Int → Int) (a x : Nat) : Prop where
  ta : s.t.getD a false = false
  tx : s.t.getD x false = false
  le : f a < f x ∨ (f a = f x ∧ a ≤ x)

theorem goes_ok {how : Int} (h3 : how ≠ 3) {g : List Nat} (hr : RightG g) {i k : Nat} (hik : i ≤ k) (hk : k < g.length) :
    ∃ (a x : Nat) (hi' : i < (ofL how g).length) (hk' : k < (ofL how g).length), (ofL how g)[i] = (a : Int) ∧ (ofL how g)[k] = (x : Int) ∧ a < g.length ∧ x < g.length ∧ Goes (runS how (begS g) i) (worthW how (runS how (begS g) i).g (runS how (begS g) i).t) a x ∧ runS how (begS g) (i + 1) = takeS how (runS how (begS g) i) (a : Int) := by
  have hlen := ofL_len (how := how) hr
  have hi' : i < (ofL how g).length := by omega
  have hk' : k < (ofL how g).length := by omega
  have hord := ordB_iff.1 (ofL_ord (how := how) hr)
  have hok := (begS_ok hr).run (how := how) (show i ≤ g.length by omega)
  have hl := least_ok (f := worthW how (runS how (begS g) i).g (runS how (begS g) i).t) (t := (runS how (begS g) i).t) (by have := hok.left; omega)
  have hla := leastUp_least (worthW how (runS how (begS g) i).g (runS how (begS g) i).t) (runS how (begS g) i).t (runS how (begS g) i).t.length hl.1
  have hat := ofL_at h3 hr (show i < g.length by omega) hi'
  have hx := hord.2.1 _ (List.getElem_mem hk')
  obtain ⟨x, hx2⟩ : ∃ x : Nat, (ofL how g)[k] = (x : Int) := ⟨((ofL how g)[k]).toNat, by omega⟩
  obtain ⟨a, ha⟩ : ∃ a : Nat, (a : Int) = leastL (worthW how (runS how (begS g) i).g (runS how (begS g) i).t) (runS how (begS g) i).t := ⟨_, Int.toNat_of_nonneg hl.1⟩
  have hrun : runS how (begS g) (i + 1) = takeS how (runS how (begS g) i) (leastL (worthW how (runS how (begS g) i).g (runS how (begS g) i).t) (runS how (begS g) i).t) := rfl
  have hlaE : (leastUp (worthW how (runS how (begS g) i).g (runS how (begS g) i).t) (runS how (begS g) i).t (runS how (begS g) i).t.length).1 = (a : Int) := ha.symm
  rw [← ha] at hat hl hrun
  rw [hlaE] at hla
  have htx : (runS how (begS g) i).t.getD x false = false := by
    rw [Bool.eq_false_iff]
    intro h
    rw [runS_got hr (by omega), ofL_take h3 hr (by omega)] at h
    obtain ⟨j, hj, e⟩ := List.getElem_of_mem h
    rw [List.length_take] at hj
    rw [List.getElem_take, ← hx2] at e
    exact (List.pairwise_iff_getElem.1 hord.2.2) j k (by omega) hk' (by omega) e
  have hta : (runS how (begS g) i).t.getD a false = false := by simpa using hl.2.2
  have htl := hok.tlen
  refine ⟨a, x, hi', hk', hat, hx2, by omega, by omega, ⟨hta, htx, ?_⟩, hrun⟩
  have h5 := hla.2 x (by omega) htx
  rcases h5 with h5 | ⟨h5, h6⟩
  · exact .inl h5
  · exact .inr ⟨h5, by omega⟩

end Go.Proofs.YtflibcfecnhjgaaDoor

namespace Go.Proofs.YtflibcfecnhjgaaDoor
set_option linter.unusedVariables false
set_option linter.unusedSimpArgs false

/-- Each point has at most one smaller one beside it. -/
structure Forest (M : List (List Bool)) : Prop where
  ok : MatOk M
  one : ∀ x y z, atM M x y = true → atM M x z = true → y < x → z < x → y = z

/-- What is left of M once those of L went. -/
def LeftM (M M' : List (List Bool)) (L : List Int) : Prop := M'.length = M.length ∧ MatOk M' ∧ ∀ x y : Nat, atM M' x y = true ↔ atM M x y = true ∧ (x : Int) ∉ L ∧ (y : Int) ∉ L

theorem LeftM.start {M : List (List Bool)} (h : MatOk M) : LeftM M M [] := ⟨rfl, h, fun x y => by simp⟩

/-- A point that has at most one beside it goes, and joins nothing. -/
theorem LeftM.go {M M' M'' : List (List Bool)} {L : List Int} {a : Nat} (h : LeftM M M' L) (hg : GoOk M' M'' a) (h1 : ∀ y z, atM M' a y = true → atM M' a z = true → y = z) : LeftM M M'' (L ++ [(a : Int)]) := by
  refine ⟨hg.len.trans h.1, hg.ok, fun x y => ?_⟩
  rw [hg.at_]
  simp only [List.mem_append, List.mem_singleton, not_or]
  have key : (atM M' x y = true ∨ x ≠ y ∧ atM M' a x = true ∧ atM M' a y = true) ↔ atM M' x y = true :=
    ⟨fun h2 => h2.elim id (fun ⟨hne, h3, h4⟩ => absurd (h1 x y h3 h4) hne), .inl⟩
  rw [key, h.2.2]
  constructor
  · rintro ⟨⟨h2, h3, h4⟩, h5, h6⟩
    exact ⟨h2, ⟨h3, fun e => h5 (by omega)⟩, h4, fun e => h6 (by omega)⟩
  · rintro ⟨h2, ⟨h3, h5⟩, h4, h6⟩
    exact ⟨⟨h2, h3, h4⟩, fun e => h5 (by omega), fun e => h6 (by omega)⟩

theorem nb_few {M : List (List Bool)} (hm : MatOk M) {a : Nat} (h1 : ∀ y z, atM M a y = true → atM M a z = true → y = z) : (nbL (graphR M) (a : Int)).length ≤ 1 := by
  rcases Nat.lt_or_ge 1 (nbL (graphR M) (a : Int)).length with h | h
  · have hasc := List.pairwise_iff_getElem.1 (nbL_asc (graphR M) (a : Int)) 0 1 (by omega) h (by omega)
    have m0 := mem_nbL.1 (List.getElem_mem (show 0 < (nbL (graphR M) (a : Int)).length by omega))
    have m1 := mem_nbL.1 (List.getElem_mem h)
    obtain ⟨_, y, _, hy, e0⟩ := m0
    obtain ⟨_, z, _, hz, e1⟩ := m1
    rw [Int.toNat_natCast, graphR_at hm.wide] at hy hz
    have := h1 y z hy hz
    omega
  · exact h

theorem few_nb {M : List (List Bool)} (hm : MatOk M) {a : Nat} (h : (nbL (graphR M) (a : Int)).length ≤ 1) : ∀ y z, atM M a y = true → atM M a z = true → y = z := fun y z hy hz => by
  have hmem : ∀ x : Nat, atM M a x = true → (x : Int) ∈ nbL (graphR M) (a : Int) := fun x hx => by
    rw [mem_nbL', graphR_len, ptB_nat, ptB_nat]
    simp only [Int.toNat_natCast, graphR_at hm.wide, decide_eq_true_eq]
    exact ⟨(atM_lt hm.wide hx).1, (atM_lt hm.wide hx).2, hx⟩
  obtain ⟨i, hi, e1⟩ := List.getElem_of_mem (hmem y hy)
  obtain ⟨j, hj, e2⟩ := List.getElem_of_mem (hmem z hz)
  have : i = j := by omega
  subst this
  omega

/-- Of what is left of a graph without rings the greatest point has at most one beside it. -/
theorem leaf_few {M M' : List (List Bool)} {L : List Int} (hf : Forest M) (h : LeftM M M' L) {x : Nat} (hmax : ∀ y : Nat, y < M.length → (y : Int) ∉ L → y ≤ x) : ∀ y z, atM M' x y = true → atM M' x z = true → y = z := fun y z hy hz => by
  have hy2 := (h.2.2 x y).1 hy
  have hz2 := (h.2.2 x z).1 hz
  have hyl := (atM_lt hf.ok.wide hy2.1).2
  have hzl := (atM_lt hf.ok.wide hz2.1).2
  have h1 := hmax y hyl hy2.2.2
  have h2 := hmax z hzl hz2.2.2
  have e1 : y ≠ x := fun e => by subst e; have := hf.ok.irr y; rw [this] at hy2; exact absurd hy2.1 (by decide)
  have e2 : z ≠ x := fun e => by subst e; have := hf.ok.irr z; rw [this] at hz2; exact absurd hz2.1 (by decide)
  exact hf.one x y z hy2.1 hz2.1 (by omega) (by omega)

/-- There is a greatest point that is left. -/
theorem max_left {n : Nat} {L : List Int} (h : ∃ y : Nat, y < n ∧ (y : Int) ∉ L) : ∃ x : Nat, x < n ∧ (x : Int) ∉ L ∧ ∀ y : Nat, y < n → (y : Int) ∉ L → y ≤ x := by
  induction n with
  | zero => obtain ⟨y, hy, _⟩ := h; omega
  | succ n ih =>
    by_cases hn : (n : Int) ∈ L
    · obtain ⟨y, hy, hy2⟩ := h
      have hyn : y < n := by
        rcases Nat.lt_or_ge y n with h' | h'
        · exact h'
        · have : y = n := by omega
          subst this
          exact absurd hn hy2
      obtain ⟨x, h1, h2, h3⟩ := ih ⟨y, hyn, hy2⟩
      refine ⟨x, by omega, h2, fun z hz hz2 => ?_⟩
      rcases Nat.lt_or_ge z n with h' | h'
      · exact h3 z h' hz2
      · have : z = n := by omega
        subst this
        exact absurd hn hz2
    · exact ⟨n, by omega, hn, fun y hy _ => by omega⟩

/-- No three points are beside each other. -/
theorem no_three {M : List (List Bool)} (hf : Forest M) {a b c : Nat} (h1 : atM M a b = true) (h2 : atM M a c = true) (h3 : atM M b c = true) : False := by
  have s1 := hf.ok.sym _ _ h1
  have s2 := hf.ok.sym _ _ h2
  have s3 := hf.ok.sym _ _ h3
  have hab : a ≠ b := fun e => by subst e; rw [hf.ok.irr] at h1; cases h1
  have hac : a ≠ c := fun e => by subst e; rw [hf.ok.irr] at h2; cases h2
  have hbc : b ≠ c := fun e => by subst e; rw [hf.ok.irr] at h3; cases h3
  by_cases e1 : b < a ∧ c < a
  · exact hbc (hf.one a b c h1 h2 e1.1 e1.2)
  · by_cases e2 : a < b ∧ c < b
    · exact hac (hf.one b a c s1 h3 e2.1 e2.2)
    · have e3 : a < c ∧ b < c := by omega
      exact hab (hf.one c a b s2 s3 e3.1 e3.2)

/-- By Fill, and Degree: who goes has at most one beside it. -/
theorem tree_few {M M' : List (List Bool)} {how : Int} (h12 : how = 1 ∨ how = 2) (hf : Forest M) {s : Srch} {a : Nat} {L : List Int} (hs : SameS s M') (hl : LeftM M M' L) (hgt : ∀ i : Nat, s.t.getD i false = true ↔ (i : Int) ∈ L) (hta : s.t.getD a false = false) (ha : a < M.length)
    (hle : ∀ x : Nat, x < M.length → s.t.getD x false = false → worthW how s.g s.t (a : Int) ≤ worthW how s.g s.t (x : Int)) : ∀ y z, atM M' a y = true → atM M' a z = true → y = z := by
  have hm' := hl.2.1
  have hnot : ∀ x : Nat, s.t.getD x false = false ↔ (x : Int) ∉ L := fun x => by rw [← hgt]; simp
  obtain ⟨x, hx, hxL, hmax⟩ := max_left ⟨a, ha, (hnot a).1 hta⟩
  have htx := (hnot x).2 hxL
  have hlf := leaf_few hf hl hmax
  have h1 := hle x hx htx
  rcases h12 with rfl | rfl
  · -- Fill: the greatest has no pair; so neither has a
    have hwx := hs.worth htx true
    have hwa := hs.worth hta true
    have e : (if (true : Bool) = true then (1 : Int) else 2) = 1 := rfl
    rw [e] at hwx hwa
    have hmx : docW true M' (x : Int) = 0 := by
      show missN (graphR M') (x : Int) = 0
      have hnx := nb_few hm' hlf
      unfold missN
      have := apUp_len (graphR M') (nbL (graphR M') (x : Int)) (nbL (graphR M') (x : Int)).length
      rcases Nat.eq_zero_or_pos (nbL (graphR M') (x : Int)).length with h0 | h0
      · rw [h0]; rfl
      · have h01 : (nbL (graphR M') (x : Int)).length = 1 := by omega
        rw [h01, apUp_succ, List.length_append]
        have := apRow_len (graphR M') (nbL (graphR M') (x : Int)) 0 0
        have e0 : (apUp (graphR M') (nbL (graphR M') (x : Int)) 0).length = 0 := rfl
        omega
    have hma : missN (graphR M') (a : Int) = 0 := by
      have : (docW true M' (a : Int) : Int) ≤ 0 := by rw [hwa]; rw [← hwx, hmx] at h1; simpa using h1
      have h9 : docW true M' (a : Int) = missN (graphR M') (a : Int) := rfl
      omega
    intro y z hy hz
    by_cases hyz : y = z
    · exact hyz
    · exfalso
      have hmem : ∀ v : Nat, atM M' a v = true → (v : Int) ∈ nbL (graphR M') (a : Int) := fun v hv => by
        rw [mem_nbL', graphR_len, ptB_nat, ptB_nat]
        simp only [Int.toNat_natCast, graphR_at hm'.wide, decide_eq_true_eq]
        exact ⟨(atM_lt hm'.wide hv).1, (atM_lt hm'.wide hv).2, hv⟩
      obtain ⟨i, hi, e1⟩ := List.getElem_of_mem (hmem y hy)
      obtain ⟨j, hj, e2⟩ := List.getElem_of_mem (hmem z hz)
      have hij : i ≠ j := fun e => by subst e; omega
      have hnil : apUp (graphR M') (nbL (graphR M') (a : Int)) (nbL (graphR M') (a : Int)).length = [] := List.length_eq_zero_iff.1 hma
      have hyl : y < (graphR M').length := by rw [graphR_len]; exact (atM_lt hm'.wide hy).2
      have hzl : z < (graphR M').length := by rw [graphR_len]; exact (atM_lt hm'.wide hz).2
      have key : atM M' y z = true := by
        cases hb : atM M' y z with
        | true => rfl
        | false =>
          exfalso
          have hb' : atM M' z y = false := by
            rw [Bool.eq_false_iff]; intro h; have := hm'.sym _ _ h; rw [hb] at this; cases this
          rcases Nat.lt_or_gt_of_ne hij with h5 | h5
          · have := (mem_apUp (g := graphR M') (Nat.le_refl _)).2 ⟨j, i, hj, hi, h5, hj, rfl, rfl, by rw [e1, e2, besI_nat hzl hyl, graphR_at hm'.wide]; exact hb'⟩
            rw [hnil] at this
            cases this
          · have := (mem_apUp (g := graphR M') (Nat.le_refl _)).2 ⟨i, j, hi, hj, h5, hi, rfl, rfl, by rw [e1, e2, besI_nat hyl hzl, graphR_at hm'.wide]; exact hb⟩
            rw [hnil] at this
            cases this
      exact no_three hf ((hl.2.2 _ _).1 hy).1 ((hl.2.2 _ _).1 hz).1 ((hl.2.2 _ _).1 key).1
  · have hwx := hs.worth htx false
    have hwa := hs.worth hta false
    have e : (if (false : Bool) = true then (1 : Int) else 2) = 2 := rfl
    rw [e] at hwx hwa
    have hnx := nb_few hm' hlf
    have e1 : docW false M' (x : Int) = (nbL (graphR M') (x : Int)).length := rfl
    have e2 : docW false M' (a : Int) = (nbL (graphR M') (a : Int)).length := rfl
    exact few_nb hm' (by omega)

end Go.Proofs.YtflibcfecnhjgaaDoor

namespace Go.Proofs.YtflibcfecnhjgaaDoor
open Go.RowKit
set_option linter.unusedVariables false
set_option linter.unusedSimpArgs false
set_option maxRecDepth 20000

/-- How many of l are points ahead of k. -/
def headN (l : List Int) (k : Nat) : Nat := l.countP fun x => decide (0 ≤ x ∧ x < (k : Int))
theorem headN_zero (l : List Int) : headN l 0 = 0 := by
  unfold headN
  rw [List.countP_eq_zero]
  intro x _
  simp
theorem headN_succ (l : List Int) (k : Nat) : headN l (k + 1) = headN l k + l.count (k : Int) := by
  unfold headN
  induction l with
  | nil => rfl
  | cons x r ih =>
    rw [List.countP_cons, List.countP_cons, List.count_cons, ih]
    have e : (if decide (0 ≤ x ∧ x < ((k + 1 : Nat) : Int)) = true then 1 else 0) = (if decide (0 ≤ x ∧ x < (k : Int)) = true then 1 else 0) + (if (x == (k : Int)) = true then 1 else 0) := by
      simp only [decide_eq_true_eq, beq_iff_eq]
      split <;> split <;> split <;> omega
    omega

theorem headN_ones {l : List Int} {k : Nat} (h : ∀ j : Nat, j < k → l.count (j : Int) = 1) : headN l k = k := by
  induction k with
  | zero => exact headN_zero l
  | succ k ih => rw [headN_succ, ih (fun j hj => h j (by omega)), h k (by omega)]

theorem headN_few {l : List Int} (hnd : ∀ a, l.count a ≤ 1) (k : Nat) : headN l k ≤ k ∧ ((∃ j : Nat, j < k ∧ l.count (j : Int) ≠ 1) → headN l k < k) := by
  induction k with
  | zero => exact ⟨by rw [headN_zero]; omega, fun ⟨j, hj, _⟩ => by omega⟩
  | succ k ih =>
    have h1 := hnd (k : Int)
    rw [headN_succ]
    refine ⟨by omega, fun ⟨j, hj, h2⟩ => ?_⟩
    by_cases hjk : j < k
    · have := ih.2 ⟨j, hjk, h2⟩
      omega
    · obtain rfl : j = k := by omega
      omega

/-- An order has each point just once. -/
theorem ord_counts {l : List Int} : ordB (l.length : Int) l = true ↔ ∀ j : Nat, j < l.length → l.count (j : Int) = 1 := by
  rw [ordB_iff]
  constructor
  · rintro ⟨_, h1, h2⟩ j hj
    have hc : ∀ a, l.count a ≤ 1 := fun a => List.nodup_iff_count.1 h2 a
    have hall : headN l l.length = l.length := by
      unfold headN
      rw [List.countP_eq_length]
      intro x hx
      simpa using h1 x hx
    by_cases h3 : l.count (j : Int) = 1
    · exact h3
    · have := (headN_few hc l.length).2 ⟨j, hj, h3⟩
      omega
  · intro h
    have hs := headN_ones h
    have hall : ∀ x ∈ l, 0 ≤ x ∧ x < (l.length : Int) := by
      unfold headN at hs
      rw [List.countP_eq_length] at hs
      intro x hx
      simpa using hs x hx
    refine ⟨rfl, hall, List.nodup_iff_count.2 fun a => ?_⟩
    by_cases ha : a ∈ l
    · have h1 := hall a ha
      have h2 := h a.toNat (by omega)
      have e : ((a.toNat : Nat) : Int) = a := by omega
      rw [e] at h2
      omega
    · rw [List.count_eq_zero.2 ha]; omega

theorem count_take {l : List Int} {m : Nat} (hm : m < l.length) (a : Int) : (l.take (m + 1)).count a = if l[m] = a then (l.take m).count a + 1 else (l.take m).count a := by
  rw [List.take_succ_eq_append_getElem hm, List.count_append, List.count_singleton]
  simp only [beq_iff_eq]
  split <;> omega

set_option maxHeartbeats 4000000 in
theorem refValid_any {n : Int} {l : List Int} {v : Value} {w : World} (hl : Ints w v l) (hlen : l.length < 100000000000) :
    Calls Tryd.prog 23 #[.int .i64 n, v] w fun e w' => e = .returned (.bool (ordB n l)) ∧ Below w.heap.size w w' := by
  obtain ⟨a, c, rfl, hla, hca⟩ := hl.form
  unfold maxLen at hca
  have HL := hide hl
  clear hl
  by_cases hn : (l.length : Int) = n
  · subst hn
    go_enter Tryd.func23, Tryd.ntmps23
    go_wp2
    go_loop [5] (fun i => ∃ k : Nat, k ≤ l.length ∧ i = .int .i64 k ∧ Hid (∀ j : Nat, j < k → l.count (j : Int) = 1)) (fun i => l.length - (intOf i).toNat)
    case atStart => exact ⟨0, by omega, rfl, hide (fun j hj => by omega)⟩
    case round =>
      obtain ⟨k, hk, rfl, HK⟩ := hrel
      by_cases hkl : k < l.length
      · go_wp2
        go_loop [6, 7] (fun t i => ∃ m : Nat, m ≤ l.length ∧ i = .int .i64 m ∧ t = .int .i64 ((l.take m).count (k : Int) : Nat)) (fun _ i => l.length - (intOf i).toNat)
        case atStart => exact ⟨0, by omega, rfl, by simp⟩
        case round =>
          obtain ⟨m, hm, rfl, rfl⟩ := hrel
          by_cases hml : m < l.length
          · obtain ⟨bl, ol, e1, q1⟩ := (unhide HL).at hml
            subst e1
            have hct := count_take hml (k : Int)
            have hle : (l.take m).count (k : Int) ≤ m := Nat.le_trans List.count_le_length (by rw [List.length_take]; omega)
            obtain ⟨C, hC⟩ : ∃ C, C = (l.take m).count (k : Int) := ⟨_, rfl⟩
            obtain ⟨C', hC'⟩ : ∃ C, C = (l.take (m + 1)).count (k : Int) := ⟨_, rfl⟩
            rw [← hC, ← hC'] at hct
            rw [← hC] at hle ⊢
            have HC' := hide hC'
            generalize l[m] = x at *
            clear hC hC'
            by_cases hx : x = (k : Int)
            · rw [if_pos hx] at hct
              subst hx
              have HCT := hide hct
              clear hct
              go_wp2
              go_round
              case rel => exact ⟨m + 1, by omega, by go_num, by rw [← unhide HC', unhide HCT]; go_num⟩
              case measure => simp [intOf]; omega
            · rw [if_neg hx] at hct
              have hne : (x == (k : Int)) = false := by simpa using hx
              have HCT := hide hct
              clear hct
              go_wp2
              go_round
              case rel => exact ⟨m + 1, by omega, by go_num, by rw [← unhide HC', unhide HCT]⟩
              case measure => simp [intOf]; omega
          · have e : l.take m = l := List.take_of_length_le (by omega)
            rw [e]
            by_cases h1 : l.count (k : Int) = 1
            · have HK2 := hide (show ∀ j : Nat, j < k + 1 → l.count (j : Int) = 1 from fun j hj => by
                rcases Nat.lt_or_ge j k with h2 | h2
                · exact unhide HK j h2
                · obtain rfl : j = k := by omega
                  exact h1)
              rw [h1]
              clear h1
              go_wp2
              go_round
              case rel => exact ⟨k + 1, by omega, by go_num, HK2⟩
              case measure => simp [intOf]; omega
            · have HF := hide (show ordB (l.length : Int) l = false from by
                rw [Bool.eq_false_iff]
                intro h
                exact h1 (ord_counts.1 h k hkl))
              have hne : (((l.count (k : Int) : Nat) : Int) != 1) = true := by simp; omega
              go_wp2
              go_ret
              exact ⟨by rw [unhide HF]; rfl, Below.refl _ _⟩
      · obtain rfl : k = l.length := by omega
        have HV := hide (ord_counts.2 (unhide HK))
        go_wp2
        go_ret
        exact ⟨by rw [unhide HV]; rfl, Below.refl _ _⟩
  · have hv : ordB n l = false := by
      rw [Bool.eq_false_iff]
      intro h
      exact hn (ordB_iff.1 h).1
    rw [hv]
    have hne : ((l.length : Int) == n) = false := by simpa using hn
    go_enter Tryd.func23, Tryd.ntmps23
    go_wp2
    go_ret
    exact ⟨rfl, Below.refl _ _⟩

end Go.Proofs.YtflibcfecnhjgaaDoor

namespace Go.Proofs.YtflibcfecnhjgaaDoor
set_option linter.unusedVariables false
set_option linter.unusedSimpArgs false

/-- With each point that was chosen the smaller ones beside it were. -/
def Shut (M : List (List Bool)) (t : List Bool) : Prop := ∀ x y : Nat, atM M x y = true → y < x → t.getD x false = true → t.getD y false = true

theorem shut_few {M : List (List Bool)} (hf : Forest M) {t : List Bool} (hs : Shut M t) {a : Nat} (ha : t.getD a false = false) : ∀ y z, atM M a y = true → t.getD y false = true → atM M a z = true → t.getD z false = true → y = z ∧ y < a := fun y z hy hty hz htz => by
  have key : ∀ v, atM M a v = true → t.getD v false = true → v < a := fun v hv htv => by
    rcases Nat.lt_trichotomy v a with h | h | h
    · exact h
    · subst h; rw [hf.ok.irr] at hv; cases hv
    · have := hs v a (hf.ok.sym _ _ hv) h htv
      rw [ha] at this; cases this
  exact ⟨hf.one a y z hy hz (key y hy hty) (key z hz htz), key y hy hty⟩

theorem shut_next {M : List (List Bool)} (hf : Forest M) {s : Srch} {a : Nat} (hsg : s.g = graphR M) (htl : s.t.length = M.length) (hs : Shut M s.t) (ha : s.t.getD a false = false) (hal : a < M.length)
    (hle : ∀ x : Nat, x < M.length → s.t.getD x false = false → cardW s.g s.t (a : Int) < cardW s.g s.t (x : Int) ∨ (cardW s.g s.t (a : Int) = cardW s.g s.t (x : Int) ∧ (a : Int) ≤ (x : Int))) : Shut M (s.t.set a true) := by
  intro x y hxy hyx hx
  by_cases hya : y = a
  · subst hya; exact getD_set_eq (by omega) _
  · rw [getD_set_ne hya]
    by_cases hxa : x = a
    · subst hxa
      cases hty : s.t.getD y false with
      | true => rfl
      | false =>
        exfalso
        have hyl := (atM_lt hf.ok.wide hxy).2
        have hnone : besT s.g s.t (x : Int) true = [] := by
          refine List.eq_nil_iff_forall_not_mem.2 (fun v hv => ?_)
          obtain ⟨⟨h1, h2, h3⟩, h4⟩ := mem_besT.1 hv
          rw [Int.toNat_natCast, hsg, graphR_at hf.ok.wide] at h3
          have h5 := (shut_few hf hs ha v.toNat v.toNat h3 h4 h3 h4).2
          have h6 := hf.one x v.toNat y h3 hxy h5 hyx
          rw [h6] at h4
          rw [hty] at h4
          cases h4
        have hfa : cardW s.g s.t (x : Int) = 0 := by unfold cardW; rw [hnone]; rfl
        have hfy : cardW s.g s.t (y : Int) ≤ 0 := by unfold cardW; omega
        rcases hle y hyl hty with h | ⟨_, h⟩
        · omega
        · omega
    · rw [getD_set_ne hxa] at hx
      exact hs x y hxy hyx hx

theorem shut_run {M : List (List Bool)} (hf : Forest M) (hl : M.length ≤ 40) {k : Nat} (hk : k ≤ M.length) : Shut M (runS 3 (begS (graphR M)) k).t := by
  have hr := graphR_right hf.ok hl
  have hgl := graphR_len M
  induction k with
  | zero =>
    intro x y _ _ h
    exfalso
    have := (runS_got (how := 3) hr (Nat.zero_le _) x).1 h
    simp [runS, begS] at this
  | succ k ih =>
    have hok := (begS_ok hr).run (how := 3) (show k ≤ (graphR M).length by omega)
    have hl2 := least_ok (f := worthW 3 (runS 3 (begS (graphR M)) k).g (runS 3 (begS (graphR M)) k).t) (t := (runS 3 (begS (graphR M)) k).t) (by have := hok.left; omega)
    have hla := leastUp_least (worthW 3 (runS 3 (begS (graphR M)) k).g (runS 3 (begS (graphR M)) k).t) (runS 3 (begS (graphR M)) k).t (runS 3 (begS (graphR M)) k).t.length hl2.1
    have e : (runS 3 (begS (graphR M)) (k + 1)).t = (runS 3 (begS (graphR M)) k).t.set (leastL (worthW 3 (runS 3 (begS (graphR M)) k).g (runS 3 (begS (graphR M)) k).t) (runS 3 (begS (graphR M)) k).t).toNat true := rfl
    rw [e]
    have hsg : (runS 3 (begS (graphR M)) k).g = graphR M := runS3_g _ _
    have htl := hok.tlen
    have ih2 := ih (by omega)
    generalize runS 3 (begS (graphR M)) k = s at *
    obtain ⟨a, ha⟩ : ∃ a : Nat, (a : Int) = leastL (worthW 3 s.g s.t) s.t := ⟨_, Int.toNat_of_nonneg hl2.1⟩
    have hE : (leastUp (worthW 3 s.g s.t) s.t s.t.length).1 = (a : Int) := ha.symm
    rw [← ha] at hl2 ⊢
    rw [hE] at hla
    have hta : s.t.getD a false = false := by simpa using hl2.2.2
    rw [Int.toNat_natCast]
    exact shut_next hf hsg (by omega) ih2 hta (by omega) (fun x hx htx => hla.2 x (by omega) htx)

theorem runS3_o (s : Srch) (k : Nat) : (runS 3 s (k + 1)).o = leastL (worthW 3 (runS 3 s k).g (runS 3 s k).t) (runS 3 s k).t :: (runS 3 s k).o := rfl

theorem runS3_drop (s : Srch) (k j : Nat) : (runS 3 s (k + j)).o.drop j = (runS 3 s k).o := by
  induction j with
  | zero => rfl
  | succ j ih =>
    have e : k + (j + 1) = (k + j) + 1 := by omega
    rw [e, runS3_o, List.drop_succ_cons]
    exact ih

/-- By Card: who goes has at most one beside it that is left. -/
theorem card_few {M M' : List (List Bool)} (hf : Forest M) (hl : M.length ≤ 40) {i a : Nat} (hi : i < M.length) (hi' : i < (ofL 3 (graphR M)).length) (ha : (ofL 3 (graphR M))[i] = (a : Int)) (h : LeftM M M' ((ofL 3 (graphR M)).take i)) : ∀ y z, atM M' a y = true → atM M' a z = true → y = z := by
  have hr := graphR_right hf.ok hl
  have hgl := graphR_len M
  have hdr := runS3_drop (begS (graphR M)) (M.length - 1 - i) (i + 1)
  have e1 : M.length - 1 - i + (i + 1) = (graphR M).length := by omega
  rw [e1] at hdr
  have hdr : (ofL 3 (graphR M)).drop (i + 1) = (runS 3 (begS (graphR M)) (M.length - 1 - i)).o := hdr
  have hord := ofL_ord (how := 3) hr
  have hlen := ofL_len (how := 3) hr
  have hnd := (ordB_iff.1 hord).2.2
  have hmark : ∀ y : Nat, atM M' a y = true → atM M a y = true ∧ (runS 3 (begS (graphR M)) (M.length - 1 - i)).t.getD y false = true := fun y hy => by
    have hy2 := (h.2.2 a y).1 hy
    refine ⟨hy2.1, ?_⟩
    rw [runS_got hr (by omega), ← hdr]
    have hyl := (atM_lt hf.ok.wide hy2.1).2
    have hmem : (y : Int) ∈ ofL 3 (graphR M) := by
      have hc := (ord_counts (l := ofL 3 (graphR M))).1 (by rw [hlen]; exact hord) y (by omega)
      exact List.count_pos_iff.1 (by omega)
    have hsp : ofL 3 (graphR M) = (ofL 3 (graphR M)).take i ++ ((ofL 3 (graphR M))[i] :: (ofL 3 (graphR M)).drop (i + 1)) := by rw [List.getElem_cons_drop, List.take_append_drop]
    rw [hsp, List.mem_append, List.mem_cons, ha] at hmem
    rcases hmem with hm | hm | hm
    · exact absurd hm hy2.2.2
    · exfalso
      have : y = a := by omega
      subst this
      rw [hf.ok.irr] at hy2
      exact absurd hy2.1 (by decide)
    · exact hm
  have hta : (runS 3 (begS (graphR M)) (M.length - 1 - i)).t.getD a false = false := by
    rw [Bool.eq_false_iff]
    intro h'
    rw [runS_got hr (by omega), ← hdr] at h'
    obtain ⟨j, hj, e⟩ := List.getElem_of_mem h'
    rw [List.length_drop] at hj
    rw [List.getElem_drop, ← ha] at e
    exact (List.pairwise_iff_getElem.1 hnd) i (i + 1 + j) hi' (by omega) (by omega) e.symm
  intro y z hy hz
  have h1 := hmark y hy
  have h2 := hmark z hz
  exact (shut_few hf (shut_run hf hl (by omega)) hta y z h1.1 h1.2 h2.1 h2.2).1

/-- What is carried through the law's loop. -/
structure TreeIn (how : Int) (M M' : List (List Bool)) (i : Nat) : Prop where
  left : LeftM M M' ((ofL how (graphR M)).take i)
  same : how ≠ 3 → SameS (runS how (begS (graphR M)) i) M'

theorem TreeIn.start {how : Int} {M : List (List Bool)} (h : MatOk M) : TreeIn how M M 0 := ⟨LeftM.start h, fun _ => SameS.start h⟩

theorem TreeIn.few {how : Int} (h123 : how = 1 ∨ how = 2 ∨ how = 3) {M M' : List (List Bool)} (hf : Forest M) (hl : M.length ≤ 40) {i : Nat} (h : TreeIn how M M' i) (hi : i < M.length) :
    ∃ (a : Nat) (hi' : i < (ofL how (graphR M)).length), (ofL how (graphR M))[i] = (a : Int) ∧ a < M.length ∧ (nbL (graphR M') (a : Int)).length ≤ 1 ∧ ∀ M'', GoOk M' M'' a → TreeIn how M M'' (i + 1) := by
  have hr := graphR_right hf.ok hl
  have hgl := graphR_len M
  have hlen := ofL_len (how := how) hr
  have hi' : i < (ofL how (graphR M)).length := by omega
  by_cases h3 : how = 3
  · subst h3
    have hx := (ordB_iff.1 (ofL_ord (how := 3) hr)).2.1 _ (List.getElem_mem hi')
    obtain ⟨a, ha⟩ : ∃ a : Nat, (ofL 3 (graphR M))[i] = (a : Int) := ⟨((ofL 3 (graphR M))[i]).toNat, by omega⟩
    have hfew := card_few hf hl hi hi' ha h.left
    refine ⟨a, hi', ha, by omega, nb_few h.left.2.1 hfew, fun M'' hg => ⟨?_, fun h => absurd rfl h⟩⟩
    rw [List.take_succ_eq_append_getElem hi', ha]
    exact h.left.go hg hfew
  · obtain ⟨a, _, _, _, ha, _, hal, _, hgo, hrun⟩ := goes_ok h3 hr (Nat.le_refl i) (show i < (graphR M).length by omega)
    have hs := h.same h3
    have hok := (begS_ok hr).run (how := how) (show i ≤ (graphR M).length by omega)
    have hgot : ∀ j : Nat, (runS how (begS (graphR M)) i).t.getD j false = true ↔ (j : Int) ∈ (ofL how (graphR M)).take i := fun j => by
      rw [runS_got hr (by omega), ofL_take h3 hr (by omega)]
    have hat := ofL_at h3 hr (show i < (graphR M).length by omega) hi'
    have hl2 := least_ok (f := worthW how (runS how (begS (graphR M)) i).g (runS how (begS (graphR M)) i).t) (t := (runS how (begS (graphR M)) i).t) (by have := hok.left; omega)
    have hla := leastUp_least (worthW how (runS how (begS (graphR M)) i).g (runS how (begS (graphR M)) i).t) (runS how (begS (graphR M)) i).t (runS how (begS (graphR M)) i).t.length hl2.1
    have hE : (leastUp (worthW how (runS how (begS (graphR M)) i).g (runS how (begS (graphR M)) i).t) (runS how (begS (graphR M)) i).t (runS how (begS (graphR M)) i).t.length).1 = (a : Int) := by rw [← ha, hat]; rfl
    rw [hE] at hla
    have htl := hok.tlen
    have h12 : how = 1 ∨ how = 2 := by
      rcases h123 with h | h | h
      · exact .inl h
      · exact .inr h
      · exact absurd h h3
    have hfew := tree_few h12 hf hs h.left hgot hgo.ta (by omega) (fun x hx htx => by
      rcases hla.2 x (by omega) htx with h5 | ⟨h5, _⟩
      · omega
      · omega)
    refine ⟨a, hi', ha, by omega, nb_few h.left.2.1 hfew, fun M'' hg => ⟨?_, fun _ => ?_⟩⟩
    · rw [List.take_succ_eq_append_getElem hi', ha]
      exact h.left.go hg hfew
    · rw [hrun]
      exact hs.go hok.right hg (by rw [hok.glen]; omega) hgo.ta h3

end Go.Proofs.YtflibcfecnhjgaaDoor

namespace Go.Proofs.YtflibcfecnhjgaaDoor.orderTrees
open Go.RowKit Go.ChangeShapes Go.WideShapes Go.ChangeAt
set_option linter.unusedVariables false
set_option linter.unusedSimpArgs false
set_option maxRecDepth 20000

theorem in_wf {n : Int} (h : InI64 n) : (Lit.int .i64 n).wf = true := by
  unfold InI64 at h
  simp [Lit.wf, IntKind.min, IntKind.max, IntKind.signed, IntKind.bits]
  omega

/-- The law's truths so far: without rings, and no point from i on has any beside it. -/
structure TreeTo (M : List (List Bool)) (n i : Nat) : Prop where
  forest : Forest M
  len : M.length = n
  few : ∀ x y, atM M x y = true → x < i ∧ y < i

theorem TreeTo.start (n : Nat) : TreeTo (falses n n) n 1 :=
  ⟨⟨MatOk.falses n, fun x y z h => by rw [atM_falses] at h; cases h⟩, by simp [falses], fun x y h => by rw [atM_falses] at h; cases h⟩
theorem TreeTo.skip {M : List (List Bool)} {n i : Nat} (h : TreeTo M n i) : TreeTo M n (i + 1) :=
  ⟨h.forest, h.len, fun x y hxy => by have := h.few x y hxy; omega⟩
theorem TreeTo.put {M : List (List Bool)} {n i k : Nat} (h : TreeTo M n i) (hk : k < i) (hi : i < n) : TreeTo (setM (setM M i k) k i) n (i + 1) := by
  have hl := h.len
  have hok := h.forest.ok.join (a := i) (b := k) (by omega) (by omega) (by omega)
  have w1 : ∀ r ∈ setM M i k, r.length = M.length := fun r hr => by
    unfold setM at hr
    rcases List.mem_or_eq_of_mem_set hr with hr | hr
    · exact h.forest.ok.wide r hr
    · subst hr
      have : M.getD i [] = M[i]'(by omega) := by rw [List.getD_eq_getElem?_getD, List.getElem?_eq_getElem (by omega)]; rfl
      rw [List.length_set, this]; exact h.forest.ok.wide _ (List.getElem_mem _)
  have hat : ∀ x y, atM (setM (setM M i k) k i) x y = true ↔ atM M x y = true ∨ (x = i ∧ y = k) ∨ (x = k ∧ y = i) := fun x y => by
    rw [atM_set w1 (by simp [setM]; omega) (by omega), atM_set h.forest.ok.wide (by omega) (by omega), or_assoc]
  refine ⟨⟨hok, fun x y z hy hz h1 h2 => ?_⟩, by simp [setM, hl], fun x y hxy => ?_⟩
  · rw [hat] at hy hz
    rcases hy with hy | hy
    · rcases hz with hz | hz
      · exact h.forest.one x y z hy hz h1 h2
      · have := h.few x y hy
        omega
    · rcases hz with hz | hz
      · have := h.few x z hz
        omega
      · omega
  · rw [hat] at hxy
    rcases hxy with hxy | hxy
    · have := h.few x y hxy; omega
    · omega

set_option maxHeartbeats 2000000 in
theorem walk {l0 : List Int} {v0 : Value} {l1 : Int} {v1 : Value} {w : World} (hT : TabD w) (i0 : Ints w v0 l0) (m0 : ∀ n ∈ l0, InI64 n) (i1 : v1 = .int .i64 l1) (m1 : InI64 l1) :
    Calls Tryd.prog 7 #[v0, v1] w fun e w' => e = .returned (.bool true) ∧ Below w.heap.size w w' := by
  subst i1
  clear m0 m1
  have HT := hide (fun W (hb : Below w.heap.size w W) => hT.below hb)
  have HI := hide (fun W (hb : Below w.heap.size w W) => i0.below hb)
  have HSH := hide (shown9_any hT)
  obtain ⟨a0, c0, rfl, hl0, hc0⟩ := i0.form
  unfold maxLen at hc0
  obtain ⟨m, hm⟩ : ∃ m : Nat, m = min l0.length 11 := ⟨_, rfl⟩
  have hm11 : m ≤ 11 := by omega
  have hml : m ≤ l0.length := by omega
  have hmin : ∀ W ts t, (Builtin.min_ ts t #[.int .i64 (l0.length : Int), .int .i64 11]).run Tryd.prog W = .ok (.int .i64 (m : Int)) W := fun W ts t => by rw [run_min_int2]; split <;> (congr 2; omega)
  obtain ⟨N, hN⟩ : ∃ N, N = m + 1 := ⟨_, rfl⟩
  have hN1 : (m : Int) + 1 = (N : Int) := by omega
  have hNb : 0 < N ∧ N ≤ 12 ∧ N ≤ l0.length + 1 := by omega
  obtain ⟨hN0, hN12, hNl⟩ := hNb
  clear hT i0 hm hN
  go_enter Tryd.func7, Tryd.ntmps7
  go_wp2_with fail
  refine (unhide HSH).mono ?_
  rintro e w1 ⟨rfl, hb1⟩
  have HB1 := hide hb1
  have HE := hide (empty_any N (by omega) w1)
  have hz1 := hb1.size
  clear hb1 HSH
  go_wp2_with fail
  refine (unhide HE).mono ?_
  rintro e w2 ⟨u, bs0, rfl, hM2, hb2⟩
  obtain ⟨au, cu, rfl, hul, hum⟩ := hM2.form
  have hfl : (falses N N).length = N := by simp [falses]
  rw [hfl] at hM2 hul ⊢
  unfold maxLen at hum
  have HM2 := hide hM2
  have HB2 := hide ((unhide HB1).trans (hb2.mono hz1))
  have hlt2 := fun b (hb : b ∈ bs0) => (hM2.lt hb).2
  have hz12 := hb2.size
  clear hM2 hb2 HE HB1 hmin hml hN1 hm11 hfl
  go_wp2
  go_loopw [8] (fun i wr => ∃ (k : Nat) (M : List (List Bool)), 0 < k ∧ k ≤ N ∧ i = .int .i64 k ∧ OwnMat w1.heap.size wr (.slice au N cu) N M bs0 ∧ Hid (TreeTo M N k) ∧ Below w.heap.size w wr ∧ w2.heap.size ≤ wr.heap.size) (fun i _ => N - (intOf i).toNat)
  case atStart => exact ⟨1, _, by omega, by omega, rfl, unhide HM2, hide (TreeTo.start N), unhide HB2, Nat.le_refl _⟩
  case round =>
    clear HM2 HB2
    obtain ⟨i, M, hi0, hi, rfl, hown, HTT, hbel, h2x⟩ := hrel
    rename World => wr
    have hzr := hbel.size
    have hMl := (unhide HTT).len
    by_cases hiN : i < N
    · obtain ⟨j, rfl⟩ : ∃ j, i = j + 1 := ⟨i - 1, by omega⟩
      have hjl : j < l0.length := by omega
      obtain ⟨bl, ol, e1, q1⟩ := (unhide HI wr hbel).at hjl
      subst e1
      generalize l0[j] = y at *
      have hK := rndN_lt (x := y) (n := j + 1 + 1) (by omega)
      have hKe := rndN_eq (x := y) (n := j + 1 + 1) (by omega)
      generalize rndN y (j + 1 + 1) = K at *
      have hq1 : (bits .and .i64 y 65535).tmod ((j : Int) + 1 + 1) = (K : Int) := by
        rw [show ((j + 1 + 1 : Nat) : Int) = (j : Int) + 1 + 1 by omega] at hKe; exact hKe
      have hjI : ((j + 1 : Nat) : Int) < (N : Int) := by omega
      clear hKe
      by_cases hKi : K < j + 1
      · obtain ⟨bu, ou, ra, e2, c1, c2, c3⟩ := hown.at (i := j + 1) (k := K) (by omega) (by omega)
        subst e2
        obtain ⟨⟨u1, d1⟩, f1, hown2, hb2⟩ := hown.set (i := j + 1) (k := K) (by omega) (by omega) c3
        have hl2 : (setM M (j + 1) K).length = N := by simp [setM, hMl]
        obtain ⟨bu', ou', rb, e3, c4, c5, c6⟩ := hown2.at (i := K) (k := j + 1) (by omega) (by omega)
        cases e3
        obtain ⟨⟨u2, d2⟩, f2, hown3, hb3⟩ := hown2.set (i := K) (k := j + 1) (by omega) (by omega) c6
        have HF := hide (And.intro hown3 (hbel.trans ((hb2.trans hb3).mono (by omega))))
        have HT2 := hide ((unhide HTT).put hKi hiN)
        clear hown hown2 hown3 hb2 hb3 hbel c2 c5 c3 c6 hl2 HTT
        go_wp2
        go_roundw
        case rel => exact ⟨j + 1 + 1, _, by omega, by omega, by go_num, (unhide HF).1, HT2, (unhide HF).2, by first | exact h2x | (simp; omega)⟩
        case measure => simp [intOf]; omega
      · have HF := hide (And.intro hown hbel)
        have HT2 := hide (unhide HTT).skip
        have hKi' : ¬ (K : Int) < (j : Int) + 1 := by omega
        clear hown hbel HTT
        go_wp2
        go_roundw
        case rel => exact ⟨j + 1 + 1, M, by omega, by omega, by go_num, (unhide HF).1, HT2, (unhide HF).2, by first | exact h2x | (simp; omega)⟩
        case measure => simp [intOf]; omega
    · obtain rfl : i = N := by omega
      have hf := (unhide HTT).forest
      have hM3 : OwnMat w1.heap.size wr (.slice au M.length cu) M.length M bs0 := by rw [hMl]; exact hown
      have HRG := hide (refGraph_any hM3 (by omega))
      have HG := hide (graphR_right hf.ok (by omega))
      have hGl := graphR_len M
      have hC2 := MatC.of hM3
      obtain ⟨bs, hbs⟩ : ∃ bs, bs = bs0.map fun b => (b, M.length) := ⟨_, rfl⟩
      rw [← hbs] at hC2
      have HLT := hide (fun (p : Nat × Nat) (hp : p ∈ bs) => (show w1.heap.size ≤ p.1 ∧ p.1 < w2.heap.size from ⟨(hC2.lt hp).1, by
        rw [hbs] at hp
        obtain ⟨b, hb, rfl⟩ := List.mem_map.1 hp
        exact hlt2 b hb⟩))
      have HCC := hide (fun W (hb : Below wr.heap.size wr W) => hC2.below hb)
      have hr := rndN_lt (x := l1) (n := 3) (by decide)
      have hre := rndN_eq (x := l1) (n := 3) (by decide)
      generalize rndN l1 3 = r at *
      have hq0 : (bits .and .i64 l1 65535).tmod 3 = (r : Int) := hre
      obtain ⟨H, hH⟩ : ∃ H : Int, H = (r : Int) + 1 := ⟨_, rfl⟩
      have hq1 : (r : Int) + 1 = H := hH.symm
      have hq2 : (1 : Int) + (r : Int) = H := by omega
      have h123 : H = 1 ∨ H = 2 ∨ H = 3 := by omega
      have HWF := hide (in_wf (n := H) (by unfold InI64; omega))
      have HST := hide (TreeIn.start (how := H) hf.ok)
      have HFEW := hide (fun (i : Nat) (M' : List (List Bool)) (h : TreeIn H M M' i) (hi : i < M.length) => h.few h123 hf (by omega) hi)
      have hor := ofL_ord (how := H) (unhide HG)
      rw [hGl] at hor
      have HOR := hide hor
      have HOF := hide (fun (x : Value) W (hg : Words W x (graphR M)) (ht : TabD W) => of_any (how := H) hg (unhide HG) ht (unhide HWF) h123)
      have HBE := hide hbel
      obtain ⟨o, hoo⟩ : ∃ o, o = ofL H (graphR M) := ⟨_, rfl⟩
      rw [← hoo] at HOR HFEW HOF
      have hol : o.length = M.length := by have := (ordB_iff.1 hor).1; rw [hoo]; omega
      have HOL := hide hol
      have HML := hide hMl
      have h2r : w2.heap.size ≤ wr.heap.size := h2x
      have h1r : w1.heap.size ≤ wr.heap.size := by omega
      rw [hMl] at HRG HCC HOL HFEW
      clear hf hM3 hC2 hbs hre hH h123 hor hoo hol hown hbel HTT hMl hGl hlt2 HI
      go_wp2_with fail
      refine (unhide HRG).mono ?_
      rintro e w3 ⟨x, rfl, hown3, hb3⟩
      have hB3 := (unhide HBE).trans (hb3.mono hzr)
      have HOF3 := hide (unhide HOF x w3 (Seq.of_own hown3) (unhide HT w3 hB3))
      have HB3 := hide hb3
      have HBW3 := hide hB3
      have hz3 := hb3.size
      clear hown3 hb3 hB3 HRG HOF HT
      go_wp2_with fail
      refine (unhide HOF3).mono ?_
      rintro e w4 ⟨v4, rfl, ho4, hb4⟩
      obtain ⟨a4, c4, rfl, hc4, hm4⟩ := (Seq.of_own ho4).form
      unfold maxLen at hm4
      rw [unhide HOL] at hc4
      have HV := hide (refValid_any (n := (i : Int)) (Seq.of_own ho4) (by rw [unhide HOL]; omega))
      have hHO : OwnI w3.heap.size w4 (.slice a4 o.length c4) o := ho4
      have HO4 := hide hHO
      have HB4 := hide ((unhide HBW3).trans (hb4.mono (unhide HBW3).size))
      have HB34 := hide ((unhide HB3).trans (hb4.mono hz3))
      clear ho4 hb4 HOF3 hHO
      have HORi := unhide HOR
      rw [unhide HML] at HORi
      rw [HORi] at HV
      clear HORi
      go_wp2_with fail
      refine (unhide HV).mono ?_
      rintro e w5 ⟨rfl, hb5⟩
      have hO5 : OwnI w3.heap.size w5 (.slice a4 o.length c4) o := own_below (unhide HO4) hb5
      have HO5 := hide hO5
      have HC5 := hide (unhide HCC w5 ((unhide HB34).trans (hb5.mono (unhide HB34).size)))
      have HB5 := hide ((unhide HB4).trans (hb5.mono (unhide HB4).size))
      have h35 : w2.heap.size ≤ w5.heap.size := by have := ((unhide HB34).trans (hb5.mono (unhide HB34).size)).size; omega
      have h23 : w2.heap.size ≤ w3.heap.size := by omega
      rw [unhide HOL] at HO5 ⊢
      clear hO5 hb5 HV HO4 HB4 HB34 HCC hq0 hq1 hq2 hr
      go_wp2
      go_loopw [12] (fun q wr => ∃ (k : Nat) (M' : List (List Bool)), k ≤ i ∧ q = .int .i64 k ∧ MatC w1.heap.size wr (.slice au i cu) i M' bs ∧ Hid (TreeIn H M M' k) ∧ OwnI w3.heap.size wr (.slice a4 i c4) o ∧ Below w.heap.size w wr ∧ w2.heap.size ≤ wr.heap.size) (fun q _ => i - (intOf q).toNat)
      case atStart => exact ⟨0, M, by omega, rfl, unhide HC5, HST, unhide HO5, unhide HB5, h35⟩
      case round =>
        clear HC5 HO5 HB5 h35 HST
        obtain ⟨k, M', hk, rfl, hC, HS, ho, hbel, h2y⟩ := hrel
        rename World => wq
        by_cases hki : k < i
        · obtain ⟨a, hi', ha, hal, hfew, hnext⟩ := unhide HFEW k M' (unhide HS) hki
          have hM'l : M'.length = i := by rw [(unhide HS).left.1, unhide HML]
          have hM' : MatOk M' := (unhide HS).left.2.1
          have hCM : MatC w1.heap.size wq (.slice au i cu) M'.length M' bs := by rw [hM'l]; exact hC
          have HNB := hide (refNbC_any (a := (a : Int)) hCM (by omega))
          have HGO := hide (fun W (hb : Below wq.heap.size wq W) => refGo_any (hCM.below hb) hM' (by omega) (by rw [hM'l]; exact hal : a < M'.length) (by have := hb.size; omega : w1.heap.size ≤ W.heap.size))
          rw [hM'l] at HGO
          obtain ⟨b4, o4, e4, q1⟩ := (Seq.of_own ho).at hi'
          subst e4
          rw [ha] at q1
          have HQ := hide (fun W (hb : Below wq.heap.size wq W) => And.intro (Below.cell_of hb q1) (own_below ho hb))
          have HNX := hide hnext
          have HBQ := hide hbel
          have hkI : (k : Int) < (i : Int) := by omega
          have hzq := hbel.size
          clear hC ho hbel ha hnext hCM hM' HS hM'l
          go_wp2_with fail
          refine (unhide HNB).mono ?_
          rintro e w6 ⟨vn, rfl, hn6, hb6⟩
          obtain ⟨an, cn, rfl, _, _⟩ := (Seq.of_own hn6).form
          have hfew' : ¬ (1 : Int) < ((nbL (graphR M') (a : Int)).length : Int) := by omega
          obtain ⟨q3, ho6⟩ := unhide HQ w6 hb6
          have HGO6 := hide (unhide HGO w6 hb6)
          have HO6 := hide ho6
          have HB6 := hide ((unhide HBQ).trans (hb6.mono hzq))
          have h26 : w2.heap.size ≤ w6.heap.size := by have := hb6.size; omega
          have hz6 := (unhide HB6).size
          generalize nbL (graphR M') (a : Int) = NL at *
          clear hn6 hb6 HNB HQ q1 ho6 hfew HGO HBQ
          go_wp2_with fail
          refine (unhide HGO6).mono ?_
          rintro e w8 ⟨M2, rfl, hC8, hgo8, hk8⟩
          have ho8 := own_keeps (unhide HO6) hk8 (fun g hg ⟨p, hp, e⟩ => by
            have h5 := ((unhide HO6).lt g hg).1
            have h6 := (unhide HLT p hp).2
            omega)
          have hb8 : Below w.heap.size w6 w8 := hk8.to (fun g ⟨p, hp, e⟩ => by rw [← e]; have := (unhide HLT p hp).1; omega) hz6
          have HF := hide (show MatC w1.heap.size w8 (.slice au i cu) i M2 bs ∧ TreeIn H M M2 (k + 1) ∧ OwnI w3.heap.size w8 (.slice (some ⟨b4, o4, none⟩) i c4) o ∧ Below w.heap.size w w8 ∧ w2.heap.size ≤ w8.heap.size from
            ⟨hC8, unhide HNX M2 hgo8, ho8, (unhide HB6).trans hb8, by have := hk8.size; omega⟩)
          clear hC8 hgo8 hk8 ho8 hb8 HO6 HGO6 HB6 HNX
          go_wp2
          go_roundw
          case rel => exact ⟨k + 1, M2, by omega, by go_num, (unhide HF).1, hide (unhide HF).2.1, (unhide HF).2.2.1, (unhide HF).2.2.2.1, (unhide HF).2.2.2.2⟩
          case measure => simp [intOf]; omega
        · obtain rfl : k = i := by omega
          clear hC ho
          go_wp2
          go_ret
          exact ⟨rfl, hbel⟩

set_option maxRecDepth 100000 in
theorem lifted (os : Os) (started : os.Started) (H : Type) (enc : TypeId × Value → H) :
    ReturnsInHanded {} Tryd.checked os 7 .any (fun w args => (Rows.orderTreesSpec.pre enc Tryd.prog Tryd.f7 [] false w args ∧ laidMetH Tryd.prog laidIn w) ∧ sizedMet enc Tryd.prog Tryd.f7 (OpenSpec.ofChange Rows.orderTreesSpec) false w args)
      (Rows.orderTreesSpec.post enc Tryd.prog Tryd.f7 false true false false) := by
  refine returnsInHanded_of_change_and (C := Tryd.checked) (X := fun w _ => laidMetH Tryd.prog laidIn w) (fun _ _ _ hh h => h.of_heap hh) own started (by kernel_rfl) Tryd.func7
    (ChangeSpec.witness_shaped (enc := enc) (C := Tryd.checked) (os := os) (X := fun w _ => laidMetH Tryd.prog laidIn w) false (World.doorLaid Tryd.prog doorN os) #[.slice none 0 0, .int .i64 0] 8 rfl (World.shaped_of_RefB (by kernel_rfl) (by kernel_rfl)) (by kernel_rfl) (by kernel_rfl) (by kernel_rfl) (door_met os _)) ?_
  intro W base args ds gs before hval0 hW _ _ hL _
  have hval : ∀ (j : Nat) t v, Tryd.f7.params[j]? = some t → args[j]? = some v → Value.okWide Tryd.prog W .any base t v := hval0
  have hW' := hW
  obtain ⟨p, q, hA0, hV, rfl, hfz, hnd⟩ := hW
  have hA : DataW.TrodAll enc Tryd.prog W 0 (fun _ => true) true Tryd.f7.params.toList args.toList ds p := hA0
  rw [Tryd.params7] at hA hval
  obtain ⟨v0, vs0, d0, ds0, p0, q0, hargs, rfl, rfl, h0, r0⟩ := trodAll_cons hA
  obtain ⟨v1, vs1, d1, ds1, p1, q1, rfl, rfl, rfl, h1, r1⟩ := trodAll_cons r0
  obtain ⟨rfl, rfl, rfl⟩ := trodAll_nil r1
  obtain rfl : args = #[v0, v1] := by cases args; simp_all
  obtain ⟨rfl, rfl⟩ := trodVars_none hV
  obtain ⟨l0, i0, m0⟩ := read_ints h0 (okWide_slice Tryd.underlying39 (hval 0 39 v0 rfl rfl))
  have lt0 : ∀ x ∈ p0, x.block < W.heap.size := by obtain ⟨m, hm⟩ := h0; exact DataW.trod_lt m _ _ _ hm
  obtain ⟨l1, i1, m1⟩ := read_int h1 (hval 1 3 v1 rfl rfl)
  have lt1 : ∀ x ∈ p1, x.block < W.heap.size := by obtain ⟨m, hm⟩ := h1; exact DataW.trod_lt m _ _ _ hm
  clear hA0 hval0
  refine (walk (tabs_of hL) i0 m0 i1 m1).mono fun e W' ⟨he, bel⟩ => ?_
  subst he
  exact ⟨_, rfl, _, _, _, [], _, [], hW', trodAll_mk1 (shut_bool Tryd.underlying4 _), (trodAll_cons_mk (Below.trod laidOut (by kernel_rfl) (of_decide_eq_true (by kernel_rfl)) h0 bel lt0) (trodAll_cons_mk (Below.trod laidOut (by kernel_rfl) (of_decide_eq_true (by kernel_rfl)) h1 bel lt1) trodAll_mk0)), rfl, bel.frame _, fun h => by cases h⟩

theorem over : Rows.orderTreesRow.holds Tryd.pinned (OpenSpec.ofChange Rows.orderTreesSpec) :=
  OpenClaim.holds_of_wide 7 Tryd.f7 rfl rfl rfl rfl rfl rfl rfl ⟨rfl, rfl, rfl, rfl, rfl⟩ rfl rfl rfl rfl rfl (by kernel_rfl) Tryd.func7 (by kernel_rfl)
    (of_decide_eq_true (by kernel_rfl)) (by unfold Func.isWrapper; first | (rw [if_pos (by decide +kernel)]; kernel_rfl) | (rw [if_neg (by decide +kernel)]; exact ⟨rfl, rfl⟩))
    (fun os started H enc _ => lifted os started H enc)

/-- The statement: the tied card. -/
theorem proved : Rows.OrderTreesCardSaid :=
  Claim7.holds_tied_plain_at .later [] [.data] true (true, "8f2d994e21dbfdcf108bf958dff57fcf320e77d1f440c1e17c51dcce542cbe3a") false
    over (fun _ h => by cases h) (by kernel_rfl) (fun _ h => by cases h) orderTrees_row_tie rfl ⟨rfl, rfl⟩ (by kernel_rfl) rfl
    (fun f fn hf hfn => by
      obtain rfl : f = 7 := Option.some.inj ((show Tryd.prog.funcNamed "arborist/arboristlaw09.OrderTrees" = some 7 by kernel_rfl).symm.trans hf) |>.symm
      obtain rfl : fn = Tryd.f7 := (Option.some.inj (Tryd.func7.symm.trans hfn)).symm
      exact ⟨by kernel_rfl, fun j t ht => by
        rw [Tryd.params7] at ht
        have hm : t ∈ [39, 3] := by simpa using Array.mem_of_getElem? ht
        have hall : ([39, 3].all fun u => !Tryd.prog.wantsStandIn u) = true := by kernel_rfl
        exact (show Tryd.prog.wantsStandIn t = false by simpa using List.all_eq_true.1 hall t hm)⟩)
    (by kernel_rfl)

#print axioms proved
end Go.Proofs.YtflibcfecnhjgaaDoor.orderTrees
