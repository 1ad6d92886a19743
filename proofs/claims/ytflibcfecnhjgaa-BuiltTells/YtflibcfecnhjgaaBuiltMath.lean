/-
  Plain mathematics of layer 7: all rows of values, and how they are gone through down and up. Nothing of the program is spoken of here.
-/
import Derived.Test.YtflibcfecnhjgaaLists
namespace Go.Proofs.Ytflibcfecnhjgaa
set_option linter.unusedVariables false
set_option linter.unusedSimpArgs false

/-- All rows that have one value of each of these lists, the less ones first. -/
def fullL : List (List Int) → List (List Int)
  | [] => [[]]
  | d :: ds => d.flatMap fun x => (fullL ds).map (x :: ·)

/-- One list more, as the document has it. -/
def moreR (out : List (List Int)) (d : List Int) : List (List Int) := out.flatMap fun r => d.map fun x => r ++ [x]

theorem fold_more : ∀ (ls : List (List Int)) (out : List (List Int)), ls.foldl moreR out = out.flatMap fun r => (fullL ls).map (r ++ ·)
  | [], out => by
    simp only [List.foldl_nil, fullL, List.map_cons, List.map_nil, List.append_nil]
    induction out with
    | nil => rfl
    | cons x l ih => simp [List.flatMap_cons, ← ih]
  | d :: ls, out => by
    rw [List.foldl_cons, fold_more ls, moreR, List.flatMap_assoc]
    congr 1
    funext r
    simp only [fullL, List.flatMap_map, List.map_flatMap, List.map_map]
    congr 1
    funext x
    congr 1
    funext y
    simp

theorem fold_full (ls : List (List Int)) : ls.foldl moreR [[]] = fullL ls := by
  rw [fold_more]; simp

theorem full_len : ∀ (ls : List (List Int)), ∀ t ∈ fullL ls, t.length = ls.length
  | [], t, h => by simp [fullL] at h; simp [h]
  | d :: ls, t, h => by
    simp only [fullL, List.mem_flatMap, List.mem_map] at h
    obtain ⟨x, hx, r, hr, rfl⟩ := h
    simp [full_len ls r hr]

theorem mem_full : ∀ (ls : List (List Int)) (t : List Int), t ∈ fullL ls ↔ t.length = ls.length ∧ ∀ i (h : i < t.length) (h' : i < ls.length), t[i] ∈ ls[i]
  | [], t => by
    simp only [fullL, List.mem_singleton, List.length_nil]
    constructor
    · rintro rfl; simp
    · rintro ⟨h, _⟩; exact List.length_eq_zero_iff.1 h
  | d :: ls, t => by
    simp only [fullL, List.mem_flatMap, List.mem_map]
    constructor
    · rintro ⟨x, hx, r, hr, rfl⟩
      obtain ⟨h1, h2⟩ := (mem_full ls r).1 hr
      refine ⟨by simp [h1], fun i hi hi' => ?_⟩
      cases i with
      | zero => exact hx
      | succ i => simp only [List.getElem_cons_succ]; exact h2 i _ _
    · rintro ⟨h1, h2⟩
      cases t with
      | nil => simp at h1
      | cons x r =>
        refine ⟨x, h2 0 (by simp) (by simp), r, (mem_full ls r).2 ⟨by simpa using h1, fun i hi hi' => ?_⟩, rfl⟩
        have := h2 (i + 1) (by simp; omega) (by simp; omega)
        simpa using this

/-- How many there are, is told by the product. -/
def prodN : List (List Int) → Nat
  | [] => 1
  | d :: ds => d.length * prodN ds

theorem full_count : ∀ ls : List (List Int), (fullL ls).length = prodN ls
  | [] => rfl
  | d :: ls => by
    simp only [fullL, prodN, List.length_flatMap, List.length_map, full_count ls]
    induction d with
    | nil => simp
    | cons x l ih => simp [ih, Nat.add_mul]; omega

abbrev AscR (ll : List (List Int)) : Prop := ll.Pairwise fun x y => cmpL x y < 0

theorem full_asc : ∀ (ls : List (List Int)), (∀ d ∈ ls, d.Pairwise (· < ·)) → AscR (fullL ls)
  | [], _ => by simp [fullL, AscR]
  | d :: ls, h => by
    have ih := full_asc ls fun x hx => h x (by simp [hx])
    have hd := h d (by simp)
    simp only [fullL]
    clear h
    induction d with
    | nil => simp [AscR]
    | cons x l il =>
      rw [List.pairwise_cons] at hd
      rw [List.flatMap_cons, AscR, List.pairwise_append]
      refine ⟨?_, il hd.2, ?_⟩
      · rw [List.pairwise_map]
        exact ih.imp fun h => by simpa [cmpL] using h
      · intro a ha b hb
        simp only [List.mem_map, List.mem_flatMap] at ha hb
        obtain ⟨r, _, rfl⟩ := ha
        obtain ⟨y, hy, s, _, rfl⟩ := hb
        have := hd.1 y hy
        unfold cmpL
        rw [if_neg (by omega)]
        simp [cmpI, this]

/-- What is left of going through, where 'up' comes to level i: p is the row as it stands, nx the places that come next. -/
def upR (ls : List (List Int)) (p : List Int) (nx : List Nat) : Nat → List (List Int)
  | 0 => []
  | i + 1 => (((ls.getD i []).drop (nx.getD i 0)).flatMap fun x => (fullL (ls.drop (i + 1))).map (p.take i ++ x :: ·)) ++ upR ls p nx i

/-- .. where 'down' comes to it. -/
def downR (ls : List (List Int)) (p : List Int) (nx : List Nat) (i : Nat) : List (List Int) := (fullL (ls.drop i)).map (p.take i ++ ·) ++ upR ls p nx i

/-- upR speaks of what lies below its level alone. -/
theorem upR_congr {ls : List (List Int)} {p q : List Int} {nx ny : List Nat} : ∀ i, (∀ k, k < i → p.getD k 0 = q.getD k 0) → (∀ k, k < i → nx.getD k 0 = ny.getD k 0) → i ≤ p.length → i ≤ q.length → upR ls p nx i = upR ls q ny i
  | 0, _, _, _, _ => rfl
  | i + 1, h1, h2, h3, h4 => by
    have hp : p.take i = q.take i := by
      apply List.ext_getElem
      · simp; omega
      · intro k hk hk'
        simp only [List.length_take] at hk hk'
        have := h1 k (by omega)
        rw [List.getElem_take, List.getElem_take]
        simpa [List.getD_eq_getElem?_getD, show k < p.length by omega, show k < q.length by omega] using this
    simp only [upR, hp, h2 i (by omega), upR_congr i (fun k hk => h1 k (by omega)) (fun k hk => h2 k (by omega)) (by omega) (by omega)]

/-- Down, at the last level: the row as it stands, then up. -/
theorem down_end {ls : List (List Int)} {p : List Int} {nx : List Nat} (h : p.length = ls.length) : downR ls p nx ls.length = p :: upR ls p nx ls.length := by
  have : ls.drop ls.length = [] := by simp
  rw [downR, this, ← h]
  simp [fullL]

/-- Down, at another level: the next place is 0, and along. -/
theorem down_next {ls : List (List Int)} {p : List Int} {nx : List Nat} {i : Nat} (h : i < ls.length) (hn : i < nx.length) (hp : i < p.length) : downR ls p nx i = upR ls p (nx.set i 0) (i + 1) := by
  unfold downR
  rw [upR, List.drop_eq_getElem_cons h, fullL, upR_congr i (q := p) (ny := nx.set i 0) (fun _ _ => rfl) (fun k hk => by simp [List.getD_eq_getElem?_getD, List.getElem?_set, show ¬ i = k by omega]) (by omega) (by omega)]
  congr 1
  rw [List.map_flatMap]
  simp [List.getD_eq_getElem?_getD, h, hn, List.map_map, Function.comp_def]

/-- Along, where no value is left: up. -/
theorem along_end {ls : List (List Int)} {p : List Int} {nx : List Nat} {i : Nat} (h : (ls.getD i []).length ≤ nx.getD i 0) : upR ls p nx (i + 1) = upR ls p nx i := by
  rw [upR, List.drop_eq_nil_of_le h]; rfl

/-- Along, with one value more: down. -/
theorem along_next {ls : List (List Int)} {p : List Int} {nx : List Nat} {i k : Nat} (hi : i < p.length) (hn : i < nx.length) (hk : nx.getD i 0 = k) (h : k < (ls.getD i []).length) :
    upR ls p nx (i + 1) = downR ls (p.set i ((ls.getD i [])[k])) (nx.set i (k + 1)) (i + 1) := by
  unfold downR
  rw [upR, upR]
  have e1 : (nx.set i (k + 1)).getD i 0 = k + 1 := by simp [List.getD_eq_getElem?_getD, hn]
  have e2 : (p.set i ((ls.getD i [])[k])).take i = p.take i := by rw [List.take_set, List.set_eq_of_length_le (by simp; omega)]
  have e3 : (p.set i ((ls.getD i [])[k])).take (i + 1) = p.take i ++ [(ls.getD i [])[k]] := by
    rw [List.take_succ_eq_append_getElem (by simp; omega), e2]
    simp
  rw [hk, e1, e2, e3, List.drop_eq_getElem_cons h, List.flatMap_cons, List.append_assoc]
  rw [upR_congr i (p := p) (q := p.set i ((ls.getD i [])[k])) (nx := nx) (ny := nx.set i (k + 1)) (fun j hj => by simp [List.getD_eq_getElem?_getD, List.getElem?_set, show ¬ i = j by omega]) (fun j hj => by simp [List.getD_eq_getElem?_getD, List.getElem?_set, show ¬ i = j by omega]) (by omega) (by simp; omega)]
  simp

/-- How long going on takes at most, where 'up' comes to level i. -/
def downT (ls : List (List Int)) : Nat := match ls with
  | [] => 1
  | d :: ds => d.length * (downT ds + 3) + 4
def upT (ls : List (List Int)) (nx : List Nat) : Nat → Nat
  | 0 => 1
  | i + 1 => ((ls.getD i []).length - nx.getD i 0) * (downT (ls.drop (i + 1)) + 3) + 3 + upT ls nx i

theorem upT_congr {ls : List (List Int)} {nx ny : List Nat} : ∀ i, (∀ k, k < i → nx.getD k 0 = ny.getD k 0) → upT ls nx i = upT ls ny i
  | 0, _ => rfl
  | i + 1, h => by simp only [upT, h i (by omega), upT_congr i (fun k hk => h k (by omega))]

/-- The times: of down, along, up. -/
def tDown (ls : List (List Int)) (nx : List Nat) (i : Nat) : Nat := downT (ls.drop i) + 1 + upT ls nx i

theorem down_next_t {ls : List (List Int)} {nx : List Nat} {i : Nat} (h : i < ls.length) (hn : i < nx.length) : upT ls (nx.set i 0) (i + 1) < tDown ls nx i := by
  unfold tDown
  rw [upT, List.drop_eq_getElem_cons h, downT, upT_congr i (ny := nx) (fun k hk => by simp [List.getD_eq_getElem?_getD, List.getElem?_set, show ¬ i = k by omega])]
  simp [List.getD_eq_getElem?_getD, h, hn] <;> omega

theorem along_end_t (ls : List (List Int)) (nx : List Nat) (i : Nat) : upT ls nx i + 2 < upT ls nx (i + 1) := by
  rw [upT]; omega

theorem along_next_t {ls : List (List Int)} {nx : List Nat} {i k : Nat} (hn : i < nx.length) (hk : nx.getD i 0 = k) (h : k < (ls.getD i []).length) : tDown ls (nx.set i (k + 1)) (i + 1) < upT ls nx (i + 1) := by
  unfold tDown
  rw [upT, upT, hk, upT_congr i (nx := nx.set i (k + 1)) (ny := nx) (fun k hk => by simp [List.getD_eq_getElem?_getD, List.getElem?_set, show ¬ i = k by omega])]
  have e1 : (nx.set i (k + 1)).getD i 0 = k + 1 := by simp [List.getD_eq_getElem?_getD, hn]
  rw [e1]
  obtain ⟨m, hm⟩ : ∃ m, (ls.getD i []).length - k = m + 1 := ⟨(ls.getD i []).length - k - 1, by omega⟩
  have hm' : (ls.getD i []).length - (k + 1) = m := by omega
  rw [hm, hm', Nat.add_mul]
  omega

end Go.Proofs.Ytflibcfecnhjgaa
