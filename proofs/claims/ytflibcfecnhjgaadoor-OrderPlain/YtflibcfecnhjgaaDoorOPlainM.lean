/-
  Orders of graphs where none is beside any, or each beside each: plain mathematics.
-/
import Derived.Test.YtflibcfecnhjgaaDoorOMath
import Derived.Test.YtflibcfecnhjgaaDoorGReach
import Derived.Test.YtflibcfecnhjgaaDoorSets
namespace Go.Proofs.YtflibcfecnhjgaaDoor
set_option linter.unusedVariables false
set_option linter.unusedSimpArgs false

/-- The first k of n are marked. -/
def tK (n k : Nat) : List Bool := List.replicate k true ++ List.replicate (n - k) false
theorem tK_len {n k : Nat} (h : k ≤ n) : (tK n k).length = n := by simp [tK]; omega
theorem tK_at {n k : Nat} (h : k ≤ n) (i : Nat) : (tK n k).getD i false = decide (i < k) := by
  unfold tK
  rw [List.getD_eq_getElem?_getD, List.getElem?_append]
  by_cases h1 : i < k
  · rw [if_pos (by simpa using h1), List.getElem?_replicate, if_pos h1]; simp [h1]
  · rw [if_neg (by simpa using h1), List.getElem?_replicate]
    split <;> simp [h1]
theorem tK_set {n k : Nat} (h : k < n) : (tK n k).set k true = tK n (k + 1) := by
  refine List.ext_getElem (by simp [tK]; omega) (fun i h1 h2 => ?_)
  have e1 := tK_at (show k ≤ n by omega) i
  have e2 := tK_at (show k + 1 ≤ n by omega) i
  rw [List.getD_eq_getElem?_getD, List.getElem?_eq_getElem h2] at e2
  rw [List.length_set] at h1
  rw [List.getD_eq_getElem?_getD, List.getElem?_eq_getElem h1] at e1
  rw [List.getElem_set]
  have e1 : (tK n k)[i] = decide (i < k) := e1
  have e2 : (tK n (k + 1))[i] = decide (i < k + 1) := e2
  rw [e2]
  split
  · rename_i e; subst e; simp
  · rename_i e
    rw [e1, decide_eq_decide]; omega

theorem ptsL_snoc (n : Nat) : ptsL (n + 1) = ptsL n ++ [(n : Int)] := by simp [ptsL, List.range_succ]

/-- Where all that are left are worth the same, and nothing is joined, points go by their numbers. -/
theorem plain_run {how : Int} {g : List Nat} (hw : ∀ k i : Nat, k ≤ i → i < g.length → worthW how g (tK g.length k) (i : Int) = worthW how g (tK g.length k) (k : Int))
    (hj : how ≠ 3 → ∀ k : Nat, k < g.length → apartL g (tK g.length (k + 1)) (k : Int) = []) {k : Nat} (hk : k ≤ g.length) :
    runS how (begS g) k = ⟨g, tK g.length k, if how = 3 then (ptsL k).reverse else ptsL k⟩ := by
  induction k with
  | zero =>
    show begS g = _
    unfold begS tK
    split <;> simp [ptsL]
  | succ k ih =>
    have e : runS how (begS g) (k + 1) = nextS how (runS how (begS g) k) := rfl
    rw [e, ih (by omega)]
    have hl := least_ok (f := worthW how g (tK g.length k)) (t := tK g.length k) (by
      unfold leftN
      refine List.countP_pos_iff.2 ⟨false, ?_, rfl⟩
      unfold tK
      rw [List.mem_append, List.mem_replicate, List.mem_replicate]
      exact .inr ⟨by omega, rfl⟩)
    have hla := leastUp_least (worthW how g (tK g.length k)) (tK g.length k) (tK g.length k).length hl.1
    rw [tK_len (by omega)] at hl hla
    have hE : (leastUp (worthW how g (tK g.length k)) (tK g.length k) g.length).1 = leastL (worthW how g (tK g.length k)) (tK g.length k) := by unfold leastL; rw [tK_len (by omega)]
    rw [hE] at hla
    obtain ⟨a, ha⟩ : ∃ a : Nat, (a : Int) = leastL (worthW how g (tK g.length k)) (tK g.length k) := ⟨_, Int.toNat_of_nonneg hl.1⟩
    unfold nextS
    simp only
    rw [← ha] at hl hla ⊢
    rw [Int.toNat_natCast, tK_at (by omega)] at hl
    have hak : k ≤ a := by simpa using hl.2.2
    have h2 := hla.2 k (by omega) (by rw [tK_at (by omega)]; simp)
    have h3 := hw k a hak (by omega)
    have : a = k := by
      rcases h2 with h2 | ⟨_, h2⟩
      · omega
      · omega
    subst this
    unfold takeS
    rw [Int.toNat_natCast]
    simp only
    rw [tK_set (by omega)]
    by_cases h : how = 3
    · rw [if_pos h, if_pos h, if_pos h, ptsL_snoc, List.reverse_append]; rfl
    · rw [if_neg h, if_neg h, if_neg h, hj h a (by omega), ptsL_snoc]; rfl

theorem plain_of {how : Int} {g : List Nat} (hw : ∀ k i : Nat, k ≤ i → i < g.length → worthW how g (tK g.length k) (i : Int) = worthW how g (tK g.length k) (k : Int))
    (hj : how ≠ 3 → ∀ k : Nat, k < g.length → apartL g (tK g.length (k + 1)) (k : Int) = []) : ofL how g = if how = 3 then (ptsL g.length).reverse else ptsL g.length := by
  unfold ofL
  rw [plain_run hw hj (Nat.le_refl _)]

/-- None is beside any. -/
theorem none_of (how : Int) (n : Nat) : ofL how (List.replicate n 0) = if how = 3 then (ptsL n).reverse else ptsL n := by
  have hb : ∀ t a c, besT (List.replicate n 0) t a c = [] := fun t a c => by
    refine List.eq_nil_iff_forall_not_mem.2 (fun v hv => ?_)
    obtain ⟨⟨_, _, h⟩, _⟩ := mem_besT.1 hv
    rw [bes_replicate] at h; cases h
  have ha : ∀ t a, apartL (List.replicate n 0) t a = [] := fun t a => by unfold apartL; rw [hb]; rfl
  have hw : ∀ t a, worthW how (List.replicate n 0) t a = 0 := fun t a => by
    unfold worthW fillW degW cardW
    rw [ha, hb, hb]
    split
    · rfl
    · split <;> rfl
  have := plain_of (how := how) (g := List.replicate n 0) (fun k i _ _ => by rw [hw, hw]) (fun _ k _ => ha _ _)
  rw [List.length_replicate] at this
  exact this

/-- Each is beside each. -/
structure WholeG (g : List Nat) : Prop where
  right : RightG g
  at_ : ∀ x y, besB g x y = true ↔ x < g.length ∧ y < g.length ∧ x ≠ y

theorem len_range_ge (n k i : Nat) : ((List.range n).filter fun x => decide (k ≤ x ∧ x ≠ i)).length = (n - k) - (if k ≤ i ∧ i < n then 1 else 0) := by
  induction n with
  | zero => simp
  | succ n ih =>
    rw [List.range_succ, List.filter_append, List.length_append, ih, List.filter_cons, List.filter_nil]
    have e : (if decide (k ≤ n ∧ n ≠ i) = true then [n] else []).length = if k ≤ n ∧ n ≠ i then 1 else 0 := by
      by_cases h : k ≤ n ∧ n ≠ i
      · rw [if_pos (by simpa using h), if_pos h]; rfl
      · rw [if_neg (by simpa using h), if_neg h]; rfl
    rw [e]
    split <;> split <;> split <;> omega
theorem len_range_lt (n k : Nat) : ((List.range n).filter fun x => decide (x < k)).length = min n k := by
  induction n with
  | zero => simp
  | succ n ih =>
    rw [List.range_succ, List.filter_append, List.length_append, ih, List.filter_cons, List.filter_nil]
    by_cases h : n < k
    · rw [if_pos (by simpa using h)]; simp only [List.length_cons, List.length_nil]; omega
    · rw [if_neg (by simpa using h)]; simp only [List.length_nil]; omega

theorem besT_count {g : List Nat} {t : List Bool} {v : Nat} {c : Bool} (hv : v < g.length) : (besT g t (v : Int) c).length = ((List.range g.length).filter fun k => besB g v k && (t.getD k false == c)).length := by
  unfold besT nbL
  rw [if_pos (by rw [ptB_nat]; simpa using hv), List.filter_map, List.length_map, List.filter_filter]
  simp only [Int.toNat_natCast]
  congr 1
  refine List.filter_congr (fun k hk => ?_)
  simp only [Function.comp]
  have : (Int.ofNat k).toNat = k := rfl
  rw [this, Bool.and_comm]

theorem whole_deg {g : List Nat} (h : WholeG g) {k i : Nat} (hki : k ≤ i) (hi : i < g.length) : (besT g (tK g.length k) (i : Int) false).length = g.length - k - 1 := by
  rw [besT_count hi]
  have e : ((List.range g.length).filter fun x => besB g i x && ((tK g.length k).getD x false == false)) = ((List.range g.length).filter fun x => decide (k ≤ x ∧ x ≠ i)) := by
    refine List.filter_congr (fun x hx => ?_)
    rw [List.mem_range] at hx
    rw [tK_at (by omega), Bool.eq_iff_iff, Bool.and_eq_true, h.at_]
    simp
    omega
  rw [e, len_range_ge, if_pos ⟨hki, hi⟩]
theorem whole_card {g : List Nat} (h : WholeG g) {k i : Nat} (hki : k ≤ i) (hi : i < g.length) : (besT g (tK g.length k) (i : Int) true).length = k := by
  rw [besT_count hi]
  have e : ((List.range g.length).filter fun x => besB g i x && ((tK g.length k).getD x false == true)) = ((List.range g.length).filter fun x => decide (x < k)) := by
    refine List.filter_congr (fun x hx => ?_)
    rw [List.mem_range] at hx
    rw [tK_at (by omega), Bool.eq_iff_iff, Bool.and_eq_true, h.at_]
    simp
    omega
  rw [e, len_range_lt]
  omega

theorem whole_apart {g : List Nat} (h : WholeG g) (t : List Bool) (a : Int) : apartL g t a = [] := by
  unfold apartL
  have hasc := List.pairwise_iff_getElem.1 (besT_asc g t a false)
  refine List.eq_nil_iff_forall_not_mem.2 (fun p hp => ?_)
  obtain ⟨b, c⟩ := p
  obtain ⟨i, j, hi, hj, hji, _, rfl, rfl, hb⟩ := (mem_apUp (Nat.le_refl _)).1 hp
  obtain ⟨⟨_, h1, _⟩, _⟩ := mem_besT.1 (List.getElem_mem hi)
  obtain ⟨⟨_, h2, _⟩, _⟩ := mem_besT.1 (List.getElem_mem hj)
  have h3 := hasc j i hj hi hji
  rw [besI_eq, h1, h2, Bool.true_and, Bool.true_and] at hb
  have h4 := ptB_iff.1 h1
  have h5 := ptB_iff.1 h2
  have := (h.at_ (besT g t a false)[i].toNat (besT g t a false)[j].toNat).2 ⟨by omega, by omega, by omega⟩
  rw [hb] at this
  cases this

theorem whole_of {g : List Nat} (h : WholeG g) (how : Int) : ofL how g = if how = 3 then (ptsL g.length).reverse else ptsL g.length := by
  refine plain_of (fun k i hki hi => ?_) (fun _ k hk => whole_apart h _ _)
  unfold worthW fillW degW cardW
  rw [whole_apart h, whole_apart h, whole_deg h hki hi, whole_deg h (Nat.le_refl k) (by omega), whole_card h hki hi, whole_card h (Nat.le_refl k) (by omega)]

/-- The bits ahead of m, but i. -/
def butN (i : Nat) : Nat → Nat
  | 0 => 0
  | m + 1 => if m = i then butN i m else butN i m ||| 2 ^ m
theorem butN_test (i m k : Nat) : (butN i m).testBit k = decide (k < m ∧ k ≠ i) := by
  induction m with
  | zero => simp [butN]
  | succ m ih =>
    unfold butN
    split
    · rename_i e
      rw [ih, decide_eq_decide]; omega
    · rename_i e
      rw [Nat.testBit_or, ih, Nat.testBit_two_pow, Bool.eq_iff_iff, Bool.or_eq_true]
      simp only [decide_eq_true_eq]
      omega
theorem butN_lt {i m : Nat} (h : m ≤ 64) : butN i m < 18446744073709551616 := lt64_of_test h (fun k hk => by rw [butN_test, decide_eq_true_eq] at hk; exact hk.1)

/-- The graph in which each of n is beside each. -/
def wholeN (n k : Nat) : List Nat := (List.range k).map fun i => butN i n
theorem wholeN_succ (n k : Nat) : wholeN n (k + 1) = wholeN n k ++ [butN k n] := by simp [wholeN, List.range_succ]
theorem wholeN_len (n k : Nat) : (wholeN n k).length = k := by simp [wholeN]
theorem wholeN_bes (n : Nat) (x y : Nat) : besB (wholeN n n) x y = true ↔ x < n ∧ y < n ∧ x ≠ y := by
  unfold besB
  rw [List.getD_eq_getElem?_getD]
  rcases Nat.lt_or_ge x n with h | h
  · rw [List.getElem?_eq_getElem (by rw [wholeN_len]; exact h), Option.getD_some]
    simp only [wholeN, List.getElem_map, List.getElem_range]
    rw [butN_test, decide_eq_true_eq]
    omega
  · rw [List.getElem?_eq_none (by rw [wholeN_len]; exact h)]
    simp
    omega
theorem whole_ok {n : Nat} (h : n ≤ 40) : WholeG (wholeN n n) := by
  have hb := wholeN_bes n
  refine ⟨⟨by rw [wholeN_len]; exact h, fun x hx => ?_, fun a b hab => ?_, fun a => ?_, fun a b hab => ?_⟩, fun x y => by rw [wholeN_len]; exact hb x y⟩
  · obtain ⟨i, _, rfl⟩ := List.mem_map.1 hx
    exact butN_lt (by omega)
  · rw [wholeN_len]; exact ((hb a b).1 hab).2.1
  · rw [Bool.eq_false_iff]; intro h'; exact ((hb a a).1 h').2.2 rfl
  · rw [hb] at hab ⊢; omega

end Go.Proofs.YtflibcfecnhjgaaDoor
