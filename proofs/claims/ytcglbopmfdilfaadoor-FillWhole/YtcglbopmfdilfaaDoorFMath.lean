/-
  Points go in an order, each joins those beside it that are left: plain mathematics.
-/
import Derived.Test.YtcglbopmfdilfaaDoorOGoM
import Derived.Test.YtcglbopmfdilfaaDoorOValid
namespace Go.Proofs.YtcglbopmfdilfaaDoor
set_option linter.unusedVariables false
set_option linter.unusedSimpArgs false

theorem joinPs_all {g : List Nat} (hr : RightG g) (t : List Bool) (a : Int) : joinPs g (apartL g t a) = joinN g (besT g t a false) := by
  have hn : g.length ≤ 64 := by have := hr.few; omega
  refine graph_ext (by rw [joinPs_len, joinN_len]) (fun x y => ?_)
  rw [Bool.eq_iff_iff, joinPs_bes hn, joinN_bes hn, Bool.or_eq_true, decide_eq_true_eq]
  unfold apartL
  constructor
  · rintro (h | ⟨h1, h2, h3, ⟨b, c⟩, hp, h4⟩)
    · exact .inl h
    · obtain ⟨i, j, hi, hj, hji, _, rfl, rfl, _⟩ := (mem_apUp (Nat.le_refl _)).1 hp
      refine .inr ⟨h1, h2, ?_, ?_, h3⟩
      · rcases h4 with ⟨e1, e2⟩ | ⟨e1, e2⟩
        · exact e1 ▸ List.getElem_mem hi
        · exact e2 ▸ List.getElem_mem hj
      · rcases h4 with ⟨e1, e2⟩ | ⟨e1, e2⟩
        · exact e2 ▸ List.getElem_mem hj
        · exact e1 ▸ List.getElem_mem hi
  · rintro (h | ⟨h1, h2, h3, h4, h5⟩)
    · exact .inl h
    · by_cases hb : besB g x y = true
      · exact .inl hb
      · have hbf : besB g x y = false := by simpa using hb
        have hbf' : besB g y x = false := by rw [Bool.eq_false_iff]; intro h'; exact hb (hr.sym _ _ h')
        refine .inr ⟨h1, h2, h5, ?_⟩
        obtain ⟨i, hi, e1⟩ := List.getElem_of_mem h3
        obtain ⟨j, hj, e2⟩ := List.getElem_of_mem h4
        have hij : i ≠ j := fun e => by subst e; exact h5 (by omega)
        have b1 : besI g (x : Int) (y : Int) = false := by rw [besI_eq]; simp [hbf]
        have b2 : besI g (y : Int) (x : Int) = false := by rw [besI_eq]; simp [hbf']
        rcases Nat.lt_or_ge j i with h6 | h6
        · exact ⟨((x : Int), (y : Int)), (mem_apUp (Nat.le_refl _)).2 ⟨i, j, hi, hj, h6, hi, e1.symm, e2.symm, b1⟩, .inl ⟨rfl, rfl⟩⟩
        · exact ⟨((y : Int), (x : Int)), (mem_apUp (Nat.le_refl _)).2 ⟨j, i, hj, hi, by omega, hj, e2.symm, e1.symm, b2⟩, .inr ⟨rfl, rfl⟩⟩

/-- A point goes. -/
def goS (s : Srch) (a : Int) : Srch := takeS 1 s a
theorem goS_g {s : Srch} (hr : RightG s.g) (a : Nat) : (goS s (a : Int)).g = joinN s.g (besT s.g s.t (a : Int) false) := by
  unfold goS takeS
  rw [if_neg (by decide)]
  simp only [Int.toNat_natCast]
  have eap : apartL s.g (s.t.set a true) (a : Int) = apartL s.g s.t (a : Int) := by unfold apartL; rw [besT_gone hr]
  rw [eap, joinPs_all hr]
theorem goS_t (s : Srch) (a : Int) : (goS s a).t = s.t.set a.toNat true := rfl
/-- So many of an order went. -/
def elimU (g : List Nat) (o : List Int) : Nat → Srch
  | 0 => begS g
  | k + 1 => goS (elimU g o k) (o.getD k 0)
/-- It, and those beside it that are left. -/
def bagS (s : Srch) (a : Int) : List Int := (ptsL s.g.length).filter fun x => x == a || (besT s.g s.t a false).contains x
def bagsU (g : List Nat) (o : List Int) (k : Nat) : List (List Int) := (List.range k).map fun i => bagS (elimU g o i) (o.getD i 0)
/-- What an order joins. -/
def fillG (g : List Nat) (o : List Int) : List Nat := (elimU g o o.length).g
theorem bagsU_succ (g : List Nat) (o : List Int) (k : Nat) : bagsU g o (k + 1) = bagsU g o k ++ [bagS (elimU g o k) (o.getD k 0)] := by simp [bagsU, List.range_succ]
theorem bagsU_len (g : List Nat) (o : List Int) (k : Nat) : (bagsU g o k).length = k := by simp [bagsU]
theorem bagS_asc (s : Srch) (a : Int) : (bagS s a).Pairwise (· < ·) := (ptsL_asc _).filter _
theorem bagS_len (s : Srch) (a : Int) : (bagS s a).length ≤ s.g.length := Nat.le_trans (List.length_filter_le _ _) (by rw [ptsL_len]; exact Nat.le_refl _)

/-- The point that goes at a turn. -/
def ptO (o : List Int) (i : Nat) : Nat := (o.getD i 0).toNat
theorem ord_len {n : Nat} {o : List Int} (h : ordB (n : Int) o = true) : o.length = n := by have := (ordB_iff.1 h).1; omega
theorem ord_at {n : Nat} {o : List Int} (h : ordB (n : Int) o = true) {i : Nat} (hi : i < n) : o.getD i 0 = (ptO o i : Int) ∧ ptO o i < n := by
  have hl := ord_len h
  have e : o.getD i 0 = o[i] := by rw [List.getD_eq_getElem?_getD, List.getElem?_eq_getElem (by omega)]; rfl
  have := (ordB_iff.1 h).2.1 o[i] (List.getElem_mem _)
  unfold ptO
  rw [e]
  constructor <;> omega
theorem ord_inj {n : Nat} {o : List Int} (h : ordB (n : Int) o = true) {i j : Nat} (hi : i < n) (hj : j < n) (e : ptO o i = ptO o j) : i = j := by
  have hl := ord_len h
  have e1 := (ord_at h hi).1
  have e2 := (ord_at h hj).1
  rw [← e] at e2
  have e3 : ∀ k (hk : k < o.length), o.getD k 0 = o[k] := fun k hk => by rw [List.getD_eq_getElem?_getD, List.getElem?_eq_getElem hk]; rfl
  rw [e3 i (by omega)] at e1
  rw [e3 j (by omega)] at e2
  have hn := List.pairwise_iff_getElem.1 (ordB_iff.1 h).2.2
  rcases Nat.lt_trichotomy i j with h1 | h1 | h1
  · exact absurd (e1.trans e2.symm) (hn i j (by omega) (by omega) h1)
  · exact h1
  · exact absurd (e2.trans e1.symm) (hn j i (by omega) (by omega) h1)
theorem ord_sur {n : Nat} {o : List Int} (h : ordB (n : Int) o = true) {a : Nat} (ha : a < n) : ∃ i, i < n ∧ ptO o i = a := by
  have hl := ord_len h
  have hm : (a : Int) ∈ o := by
    apply Classical.byContradiction
    intro hno
    have hle := nodupI_len ((a : Int) :: o) (ptsL n) (List.nodup_cons.2 ⟨hno, (ordB_iff.1 h).2.2⟩) (fun x hx => by
      rcases List.mem_cons.1 hx with rfl | hx
      · exact mem_ptsL.2 (by rw [ptB_nat]; simpa using ha)
      · exact mem_ptsL.2 (ptB_iff.2 ((ordB_iff.1 h).2.1 x hx)))
    rw [ptsL_len, List.length_cons] at hle
    omega
  obtain ⟨i, hi, e⟩ := List.getElem_of_mem hm
  refine ⟨i, by omega, ?_⟩
  unfold ptO
  rw [List.getD_eq_getElem?_getD, List.getElem?_eq_getElem hi, Option.getD_some, e]
  rfl

/-- How it stands when so many went. -/
structure ElimOk (n : Nat) (o : List Int) (k : Nat) (s : Srch) : Prop where
  right : RightG s.g
  glen : s.g.length = n
  tlen : s.t.length = n
  gone : ∀ i, i < n → (s.t.getD (ptO o i) false = true ↔ i < k)

theorem elim_ok {g : List Nat} {o : List Int} (hr : RightG g) (ho : ordB (g.length : Int) o = true) {k : Nat} (hk : k ≤ g.length) : ElimOk g.length o k (elimU g o k) := by
  induction k with
  | zero => exact ⟨hr, rfl, by simp [elimU, begS], fun i hi => by
      have : (begS g).t.getD (ptO o i) false = false := by
        unfold begS
        rw [List.getD_eq_getElem?_getD, List.getElem?_replicate]; split <;> rfl
      rw [show elimU g o 0 = begS g from rfl, this]; simp⟩
  | succ k ih =>
    have h := ih (by omega)
    obtain ⟨e1, e2⟩ := ord_at ho (show k < g.length by omega)
    have es : elimU g o (k + 1) = goS (elimU g o k) (ptO o k : Int) := by rw [← e1]; rfl
    rw [es]
    refine ⟨by rw [goS_g h.right]; exact right_join h.right _, by rw [goS_g h.right, joinN_len]; exact h.glen, by rw [goS_t, List.length_set]; exact h.tlen, fun i hi => ?_⟩
    rw [goS_t, Int.toNat_natCast]
    by_cases hik : i = k
    · subst hik
      rw [getD_set_eq (by rw [h.tlen]; exact e2)]
      simp
    · rw [getD_set_ne (fun e => hik (ord_inj ho hi (by omega) e)), h.gone i hi]
      omega

/-- Who is beside whom, by turns, when k went. -/
def besE (g : List Nat) (o : List Int) (k i j : Nat) : Bool := besB (elimU g o k).g (ptO o i) (ptO o j)
theorem mem_besTE {g : List Nat} {o : List Int} (hr : RightG g) (ho : ordB (g.length : Int) o = true) {k i : Nat} (hk : k < g.length) (hi : i < g.length) :
    (ptO o i : Int) ∈ besT (elimU g o k).g (elimU g o k).t (ptO o k : Int) false ↔ k < i ∧ besE g o k k i = true := by
  have h := elim_ok hr ho (show k ≤ g.length by omega)
  have e1 := (ord_at ho hk).2
  have e2 := (ord_at ho hi).2
  rw [mem_besT, ptB_nat, ptB_nat, h.glen]
  simp only [Int.toNat_natCast, decide_eq_true_eq]
  have hg := h.gone i hi
  constructor
  · rintro ⟨⟨_, _, h1⟩, h2⟩
    have : ¬ i < k := fun h3 => by rw [hg.2 h3] at h2; cases h2
    have hne : i ≠ k := fun e => by subst e; rw [h.right.irr] at h1; cases h1
    exact ⟨by omega, h1⟩
  · rintro ⟨h1, h2⟩
    refine ⟨⟨e1, e2, h2⟩, ?_⟩
    rw [Bool.eq_false_iff]
    intro h3
    have := hg.1 h3
    omega
theorem besE_succ {g : List Nat} {o : List Int} (hr : RightG g) (ho : ordB (g.length : Int) o = true) {k i j : Nat} (hk : k < g.length) (hi : i < g.length) (hj : j < g.length) :
    besE g o (k + 1) i j = true ↔ besE g o k i j = true ∨ (i ≠ j ∧ k < i ∧ k < j ∧ besE g o k k i = true ∧ besE g o k k j = true) := by
  have h := elim_ok hr ho (show k ≤ g.length by omega)
  have e0 := (ord_at ho hk).1
  have e1 := (ord_at ho hi).2
  have e2 := (ord_at ho hj).2
  have es : (elimU g o (k + 1)).g = joinN (elimU g o k).g (besT (elimU g o k).g (elimU g o k).t (ptO o k : Int) false) := by rw [← goS_g h.right, ← e0]; rfl
  unfold besE
  rw [es, joinN_bes (by have := h.right.few; omega), Bool.or_eq_true, decide_eq_true_eq, mem_besTE hr ho hk hi, mem_besTE hr ho hk hj, h.glen]
  have hne : ptO o i ≠ ptO o j ↔ i ≠ j := ⟨fun h e => h (by rw [e]), fun h e => h (ord_inj ho hi hj e)⟩
  rw [hne]
  unfold besE
  constructor
  · rintro (h | ⟨_, _, ⟨h1, h2⟩, ⟨h3, h4⟩, h5⟩)
    · exact .inl h
    · exact .inr ⟨h5, h1, h3, h2, h4⟩
  · rintro (h | ⟨h5, h1, h3, h2, h4⟩)
    · exact .inl h
    · exact .inr ⟨e1, e2, ⟨h1, h2⟩, ⟨h3, h4⟩, h5⟩
theorem besE_mono {g : List Nat} {o : List Int} (hr : RightG g) (ho : ordB (g.length : Int) o = true) {i j : Nat} (hi : i < g.length) (hj : j < g.length) (k : Nat) : ∀ d, k + d ≤ g.length → besE g o k i j = true → besE g o (k + d) i j = true
  | 0, _, h => h
  | d + 1, hd, h => (besE_succ hr ho (show k + d < g.length by omega) hi hj).2 (.inl (besE_mono hr ho hi hj k d (by omega) h))
theorem besE_stop {g : List Nat} {o : List Int} (hr : RightG g) (ho : ordB (g.length : Int) o = true) {i j : Nat} (hi : i < g.length) (hj : j < g.length) : ∀ d, i + d ≤ g.length → besE g o (i + d) i j = true → besE g o i i j = true
  | 0, _, h => h
  | d + 1, hd, h => by
    rcases (besE_succ hr ho (show i + d < g.length by omega) hi hj).1 h with h1 | h1
    · exact besE_stop hr ho hi hj d (by omega) h1
    · omega
/-- Who is beside whom, by turns, in the end. -/
def besF (g : List Nat) (o : List Int) (i j : Nat) : Bool := besB (fillG g o) (ptO o i) (ptO o j)
theorem besF_eq {g : List Nat} {o : List Int} (ho : ordB (g.length : Int) o = true) (i j : Nat) : besF g o i j = besE g o g.length i j := by
  unfold besF besE fillG; rw [ord_len ho]
theorem besF_at {g : List Nat} {o : List Int} (hr : RightG g) (ho : ordB (g.length : Int) o = true) {i j : Nat} (hi : i < g.length) (hj : j < g.length) : besF g o i j = besE g o i i j := by
  rw [Bool.eq_iff_iff, besF_eq ho]
  obtain ⟨d, hd⟩ : ∃ d, g.length = i + d := ⟨g.length - i, by omega⟩
  constructor
  · intro h; rw [hd] at h; exact besE_stop hr ho hi hj d (by omega) h
  · intro h; rw [hd]; exact besE_mono hr ho hi hj i d (by omega) h

/-- An order by which nothing is joined. -/
def PeoG (g : List Nat) (o : List Int) : Prop := ∀ k i j, k < i → k < j → i ≠ j → i < g.length → j < g.length → besB g (ptO o k) (ptO o i) = true → besB g (ptO o k) (ptO o j) = true → besB g (ptO o i) (ptO o j) = true

theorem fill_ok {g : List Nat} {o : List Int} (hr : RightG g) (ho : ordB (g.length : Int) o = true) : RightG (fillG g o) ∧ (fillG g o).length = g.length := by
  have h := elim_ok hr ho (Nat.le_refl g.length)
  unfold fillG
  rw [ord_len ho]
  exact ⟨h.right, h.glen⟩
theorem fill_peo {g : List Nat} {o : List Int} (hr : RightG g) (ho : ordB (g.length : Int) o = true) : PeoG (fillG g o) o := by
  intro k i j hki hkj hij hi hj h1 h2
  rw [(fill_ok hr ho).2] at hi hj
  have hk : k < g.length := by omega
  have a1 : besE g o k k i = true := by rw [← besF_at hr ho hk hi]; exact h1
  have a2 : besE g o k k j = true := by rw [← besF_at hr ho hk hj]; exact h2
  have a3 := (besE_succ hr ho hk hi hj).2 (.inr ⟨hij, hki, hkj, a1, a2⟩)
  obtain ⟨d, hd⟩ : ∃ d, g.length = k + 1 + d := ⟨g.length - (k + 1), by omega⟩
  have a4 := besE_mono hr ho hi hj (k + 1) d (by omega) a3
  rw [← hd, ← besF_eq ho] at a4
  exact a4
theorem fill_mono {g : List Nat} {o : List Int} (hr : RightG g) (ho : ordB (g.length : Int) o = true) {x y : Nat} (h : besB g x y = true) : besB (fillG g o) x y = true := by
  have hy := hr.pts _ _ h
  have hx := hr.pts _ _ (hr.sym _ _ h)
  obtain ⟨i, hi, rfl⟩ := ord_sur ho hx
  obtain ⟨j, hj, rfl⟩ := ord_sur ho hy
  have := besE_mono hr ho hi hj 0 g.length (by omega) h
  rw [Nat.zero_add, ← besF_eq ho] at this
  exact this
theorem fill_least {g H : List Nat} {o : List Int} (hr : RightG g) (ho : ordB (g.length : Int) o = true) (hl : H.length = g.length) (hg : ∀ x y, besB g x y = true → besB H x y = true) (hp : PeoG H o) {x y : Nat} (h : besB (fillG g o) x y = true) : besB H x y = true := by
  have hR := fill_ok hr ho
  have hy := hR.1.pts _ _ h
  have hx := hR.1.pts _ _ (hR.1.sym _ _ h)
  rw [hR.2] at hx hy
  obtain ⟨i, hi, rfl⟩ := ord_sur ho hx
  obtain ⟨j, hj, rfl⟩ := ord_sur ho hy
  have key : ∀ k, k ≤ g.length → ∀ i j, i < g.length → j < g.length → besE g o k i j = true → besB H (ptO o i) (ptO o j) = true := by
    intro k
    induction k with
    | zero => intro _ i j hi hj h; exact hg _ _ h
    | succ k ih =>
      intro hk i j hi hj h
      rcases (besE_succ hr ho (by omega) hi hj).1 h with h1 | ⟨h1, h2, h3, h4, h5⟩
      · exact ih (by omega) i j hi hj h1
      · exact hp k i j h2 h3 h1 (by omega) (by omega) (ih (by omega) k i (by omega) hi h4) (ih (by omega) k j (by omega) hj h5)
  exact key g.length (Nat.le_refl _) i j hi hj (by rw [← besF_eq ho]; exact h)
/-- Nothing is joined just by such an order. -/
theorem fill_id {g : List Nat} {o : List Int} (hr : RightG g) (ho : ordB (g.length : Int) o = true) : fillG g o = g ↔ PeoG g o := by
  constructor
  · intro e
    have := fill_peo hr ho
    rw [e] at this
    exact this
  · intro hp
    refine graph_ext (fill_ok hr ho).2 (fun x y => ?_)
    rw [Bool.eq_iff_iff]
    exact ⟨fun h => fill_least hr ho rfl (fun _ _ h => h) hp h, fun h => fill_mono hr ho h⟩
theorem fill_twice {g : List Nat} {o : List Int} (hr : RightG g) (ho : ordB (g.length : Int) o = true) : fillG (fillG g o) o = fillG g o :=
  (fill_id (fill_ok hr ho).1 (by rw [(fill_ok hr ho).2]; exact ho)).2 (fill_peo hr ho)

/-- Who is in a bag. -/
theorem mem_bag {g : List Nat} {o : List Int} (hr : RightG g) (ho : ordB (g.length : Int) o = true) {k : Nat} (hk : k < g.length) {x : Int} :
    x ∈ bagS (elimU g o k) (o.getD k 0) ↔ ∃ j, j < g.length ∧ x = (ptO o j : Int) ∧ (j = k ∨ (k < j ∧ besF g o k j = true)) := by
  have h := elim_ok hr ho (show k ≤ g.length by omega)
  obtain ⟨e0, e1⟩ := ord_at ho hk
  unfold bagS
  rw [e0, List.mem_filter, mem_ptsL, ptB_iff, h.glen, Bool.or_eq_true, beq_iff_eq, List.contains_iff_mem]
  constructor
  · rintro ⟨⟨h1, h2⟩, h3⟩
    obtain ⟨j, hj, e⟩ := ord_sur ho (show x.toNat < g.length by omega)
    have ex : x = (ptO o j : Int) := by omega
    subst ex
    refine ⟨j, hj, rfl, ?_⟩
    rcases h3 with h3 | h3
    · exact .inl (ord_inj ho hj hk (by omega))
    · have := (mem_besTE hr ho hk hj).1 h3
      exact .inr ⟨this.1, by rw [besF_at hr ho hk hj]; exact this.2⟩
  · rintro ⟨j, hj, rfl, h3⟩
    have e2 := (ord_at ho hj).2
    refine ⟨by omega, ?_⟩
    rcases h3 with rfl | ⟨h3, h4⟩
    · exact .inl rfl
    · exact .inr ((mem_besTE hr ho hk hj).2 ⟨h3, by rw [← besF_at hr ho hk hj]; exact h4⟩)

theorem bags_at (g : List Nat) (o : List Int) {n k : Nat} (hk : k < n) : (bagsU g o n).getD k [] = bagS (elimU g o k) (o.getD k 0) := by
  unfold bagsU
  rw [List.getD_eq_getElem?_getD, List.getElem?_map, List.getElem?_range hk]
  rfl

end Go.Proofs.YtcglbopmfdilfaaDoor
