/-
  Graphs as lists of numbers whose bits say who is beside whom: plain mathematics, nothing of the program is spoken of here.
-/
import Derived.Test.YtcglbopmfdilfaaDoorLists
import Derived.Laws.BitsAllLaws
namespace Go.Proofs.YtcglbopmfdilfaaDoor
set_option linter.unusedVariables false
set_option linter.unusedSimpArgs false

abbrev W64 (g : List Nat) : Prop := ∀ x ∈ g, x < 18446744073709551616

/-- Is a one of n points? -/
def ptB (n : Nat) (a : Int) : Bool := decide (0 ≤ a) && decide (a < (n : Int))
theorem ptB_iff {n : Nat} {a : Int} : ptB n a = true ↔ 0 ≤ a ∧ a < (n : Int) := by simp [ptB]
theorem ptB_nat {n k : Nat} : ptB n (k : Int) = decide (k < n) := by
  rw [Bool.eq_iff_iff, ptB_iff, decide_eq_true_eq]; omega

/-- The bit of a point; 0 of what is none. -/
def bitN (n : Nat) (a : Int) : Nat := if ptB n a = true then 2 ^ a.toNat else 0

theorem bitN_test (n : Nat) (a : Int) (i : Nat) : (bitN n a).testBit i = decide (i < n ∧ a = (i : Int)) := by
  unfold bitN
  split
  · rename_i h
    have h := ptB_iff.1 h
    rw [Nat.testBit_two_pow, Bool.eq_iff_iff, decide_eq_true_eq, decide_eq_true_eq]
    omega
  · rename_i h
    rw [ptB_iff] at h
    rw [Nat.zero_testBit, eq_comm, decide_eq_false_iff_not]
    omega

theorem bitN_lt {n : Nat} (hn : n ≤ 64) (a : Int) : bitN n a < 18446744073709551616 := by
  unfold bitN
  split
  · rename_i h
    have h := ptB_iff.1 h
    have : 2 ^ a.toNat < 2 ^ 64 := Nat.pow_lt_pow_right (by decide) (by omega)
    simpa using this
  · decide

def bitsN (n : Nat) (l : List Int) : Nat := l.foldl (fun s a => s ||| bitN n a) 0

theorem bitsN_snoc (n : Nat) (l : List Int) (a : Int) : bitsN n (l ++ [a]) = bitsN n l ||| bitN n a := by simp [bitsN]

theorem bitsN_test (n : Nat) (l : List Int) (i : Nat) : (bitsN n l).testBit i = decide (i < n ∧ (i : Int) ∈ l) := by
  have key : ∀ (l : List Int) (s : Nat), (l.foldl (fun s a => s ||| bitN n a) s).testBit i = (s.testBit i || decide (i < n ∧ (i : Int) ∈ l)) := by
    intro l
    induction l with
    | nil => intro s; simp
    | cons a l ih =>
      intro s
      rw [List.foldl_cons, ih, Nat.testBit_or, bitN_test, Bool.or_assoc]
      congr 1
      rw [Bool.eq_iff_iff, Bool.or_eq_true, decide_eq_true_eq, decide_eq_true_eq, decide_eq_true_eq, List.mem_cons]
      constructor
      · rintro (⟨h1, h2⟩ | ⟨h1, h2⟩)
        · exact ⟨h1, .inl h2.symm⟩
        · exact ⟨h1, .inr h2⟩
      · rintro ⟨h1, h2 | h2⟩
        · exact .inl ⟨h1, h2.symm⟩
        · exact .inr ⟨h1, h2⟩
  have := key l 0
  simpa [bitsN] using this

theorem lt64_of_test {x n : Nat} (hn : n ≤ 64) (h : ∀ i, x.testBit i = true → i < n) : x < 18446744073709551616 := by
  have : x < 2 ^ 64 := Nat.lt_pow_two_of_testBit x (fun i hi => by
    cases hx : x.testBit i with
    | false => rfl
    | true => have := h i hx; omega)
  simpa using this

theorem test_lt64 {x i : Nat} (h : x < 18446744073709551616) (ht : x.testBit i = true) : i < 64 := by
  rcases Nat.lt_or_ge i 64 with h1 | h1
  · exact h1
  · have h2 : x < 2 ^ i := Nat.lt_of_lt_of_le h (by have := Nat.pow_le_pow_right (show 0 < 2 by decide) h1; simpa using this)
    rw [Nat.testBit_lt_two_pow h2] at ht
    cases ht

theorem bitsN_lt {n : Nat} (hn : n ≤ 64) (l : List Int) : bitsN n l < 18446744073709551616 :=
  lt64_of_test hn (fun i hi => by rw [bitsN_test, decide_eq_true_eq] at hi; exact hi.1)

/-- Bits of x that are not bits of y. -/
theorem andNot_test {x y i : Nat} (hx : x < 18446744073709551616) (hy : y < 18446744073709551616) : (x &&& (18446744073709551615 - y)).testBit i = (x.testBit i && !y.testBit i) := by
  rw [Nat.testBit_and]
  by_cases hi : i < 64
  · have h1 : (18446744073709551615 - y).testBit i = !y.testBit i := by
      have := Nat.testBit_two_pow_sub_succ (n := 64) (x := y) (by simpa using hy) i
      have e : 2 ^ 64 - (y + 1) = 18446744073709551615 - y := by have : (2 : Nat) ^ 64 = 18446744073709551616 := by decide
                                                                 omega
      rw [e] at this
      rw [this]
      simp [hi]
    rw [h1]
  · have : x.testBit i = false := by
      cases hb : x.testBit i with
      | false => rfl
      | true => exact absurd (test_lt64 hx hb) hi
    rw [this]
    rfl

def andNot64 (x y : Nat) : Nat := x &&& (18446744073709551615 - y)
theorem andNot64_lt {x y : Nat} (hx : x < 18446744073709551616) : andNot64 x y < 18446744073709551616 := Nat.lt_of_le_of_lt Nat.and_le_left hx
theorem andNot64_test {x y i : Nat} (hx : x < 18446744073709551616) (hy : y < 18446744073709551616) : (andNot64 x y).testBit i = (x.testBit i && !y.testBit i) := andNot_test hx hy

theorem or64_lt {x y : Nat} (hx : x < 18446744073709551616) (hy : y < 18446744073709551616) : x ||| y < 18446744073709551616 := by
  have := Nat.or_lt_two_pow (n := 64) (by simpa using hx) (by simpa using hy)
  simpa using this
theorem and64_lt {x y : Nat} (hx : x < 18446744073709551616) : x &&& y < 18446744073709551616 := Nat.lt_of_le_of_lt Nat.and_le_left hx

/-- Who is beside whom. -/
def besB (g : List Nat) (a b : Nat) : Bool := (g.getD a 0).testBit b
/-- .. of any numbers. -/
def besI (g : List Nat) (a b : Int) : Bool := ptB g.length a && (g.getD a.toNat 0 &&& bitN g.length b != 0)

theorem and_pow_ne (x k : Nat) : (x &&& 2 ^ k != 0) = x.testBit k := by
  rw [nat_bit, Nat.testBit_eq_decide_div_mod_eq]
  have hp : 0 < 2 ^ k := Nat.two_pow_pos k
  rcases Nat.mod_two_eq_zero_or_one (x / 2 ^ k) with h | h
  · rw [h]; simp
  · rw [h]; simp

theorem besI_eq (g : List Nat) (a b : Int) : besI g a b = (ptB g.length a && (ptB g.length b && besB g a.toNat b.toNat)) := by
  unfold besI bitN besB
  cases h : ptB g.length b
  · simp
  · rw [if_pos rfl, and_pow_ne]; simp

/-- The points beside a. -/
def nbL (g : List Nat) (a : Int) : List Int := if ptB g.length a = true then ((List.range g.length).filter fun k => besB g a.toNat k).map Int.ofNat else []

theorem mem_nbL {g : List Nat} {a x : Int} : x ∈ nbL g a ↔ ptB g.length a = true ∧ ∃ k : Nat, k < g.length ∧ besB g a.toNat k = true ∧ x = (k : Int) := by
  unfold nbL
  split
  · rename_i h
    simp only [List.mem_map, List.mem_filter, List.mem_range]
    constructor
    · rintro ⟨k, ⟨h1, h2⟩, rfl⟩
      exact ⟨h, k, h1, h2, rfl⟩
    · rintro ⟨_, k, h1, h2, rfl⟩
      exact ⟨k, ⟨h1, h2⟩, rfl⟩
  · rename_i h
    simp [h]

theorem mem_nbL' {g : List Nat} {a x : Int} : x ∈ nbL g a ↔ ptB g.length a = true ∧ ptB g.length x = true ∧ besB g a.toNat x.toNat = true := by
  rw [mem_nbL]
  constructor
  · rintro ⟨h, k, h1, h2, rfl⟩
    exact ⟨h, by rw [ptB_nat]; simpa using h1, by simpa using h2⟩
  · rintro ⟨h, h1, h2⟩
    have := ptB_iff.1 h1
    exact ⟨h, x.toNat, by omega, h2, by omega⟩

theorem nbL_asc (g : List Nat) (a : Int) : (nbL g a).Pairwise (· < ·) := by
  unfold nbL
  split
  · rw [List.pairwise_map]
    refine List.Pairwise.filter _ ?_
    refine List.pairwise_lt_range.imp ?_
    intro a b h
    exact Int.ofNat_lt.2 h
  · exact List.Pairwise.nil

/-- The points. -/
def ptsL (n : Nat) : List Int := (List.range n).map Int.ofNat
theorem ptsL_len (n : Nat) : (ptsL n).length = n := by simp [ptsL]
theorem ptsL_at {n k : Nat} (h : k < (ptsL n).length) : (ptsL n)[k] = (k : Int) := by simp [ptsL]
theorem mem_ptsL {n : Nat} {x : Int} : x ∈ ptsL n ↔ ptB n x = true := by
  rw [ptB_iff, ptsL, List.mem_map]
  constructor
  · rintro ⟨k, h, rfl⟩
    rw [List.mem_range] at h
    exact ⟨Int.natCast_nonneg k, Int.ofNat_lt.2 h⟩
  · rintro ⟨h1, h2⟩
    exact ⟨x.toNat, List.mem_range.2 (by omega), by show ((x.toNat : Nat) : Int) = x; omega⟩

/-- Are all of l points, each beside all others of it? -/
def clqB (g : List Nat) (l : List Int) : Bool := l.all fun a => ptB g.length a && l.all fun b => a == b || besB g a.toNat b.toNat

/-- .. as the program asks. -/
def clqS (g : List Nat) (all : Nat) (l : List Int) : Bool := l.all fun a => ptB g.length a && (andNot64 (andNot64 all (bitN g.length a)) (g.getD a.toNat 0) == 0)

theorem zero_iff_test (x : Nat) : (x == 0) = true ↔ ∀ i, x.testBit i = false := by
  rw [beq_iff_eq]
  constructor
  · rintro rfl i; exact Nat.zero_testBit i
  · intro h
    exact Nat.eq_of_testBit_eq (fun i => by rw [h i, Nat.zero_testBit])

theorem getD_lt {g : List Nat} (hw : W64 g) (k : Nat) : g.getD k 0 < 18446744073709551616 := by
  rw [List.getD_eq_getElem?_getD]
  cases h : g[k]? with
  | none => simp
  | some x => simpa using hw x (List.mem_of_getElem? h)

theorem clq_eq {g : List Nat} (hw : W64 g) (hn : g.length ≤ 64) (l : List Int) : clqS g (bitsN g.length l) l = clqB g l := by
  rw [Bool.eq_iff_iff]
  unfold clqS clqB
  simp only [List.all_eq_true, Bool.and_eq_true]
  have key : ∀ a, ptB g.length a = true → (∀ b ∈ l, ptB g.length b = true) → ((andNot64 (andNot64 (bitsN g.length l) (bitN g.length a)) (g.getD a.toNat 0) == 0) = true ↔ ∀ b ∈ l, (a == b || besB g a.toNat b.toNat) = true) := by
    intro a ha hp
    have ha' := ptB_iff.1 ha
    rw [zero_iff_test]
    have e : ∀ i, (andNot64 (andNot64 (bitsN g.length l) (bitN g.length a)) (g.getD a.toNat 0)).testBit i = ((decide (i < g.length ∧ (i : Int) ∈ l) && !decide (i < g.length ∧ a = (i : Int))) && !besB g a.toNat i) := by
      intro i
      rw [andNot64_test (andNot64_lt (bitsN_lt hn l)) (getD_lt hw _), andNot64_test (bitsN_lt hn l) (bitN_lt hn a), bitsN_test, bitN_test]
      rfl
    constructor
    · intro h b hb
      have hb' := ptB_iff.1 (hp b hb)
      have h1 := h b.toNat
      rw [e] at h1
      have e1 : ((b.toNat : Nat) : Int) = b := by omega
      rw [e1] at h1
      have e2 : decide (b.toNat < g.length ∧ b ∈ l) = true := by simp only [decide_eq_true_eq]; exact ⟨by omega, hb⟩
      rw [e2] at h1
      simp only [Bool.true_and] at h1
      cases hbes : besB g a.toNat b.toNat with
      | true => simp
      | false =>
        rw [hbes] at h1
        simp at h1
        simp [h1.2]
    · intro h i
      rw [e]
      by_cases hi : i < g.length ∧ (i : Int) ∈ l
      · have h1 := h _ hi.2
        rw [Bool.or_eq_true] at h1
        rcases h1 with h1 | h1
        · have : a = (i : Int) := by simpa using h1
          simp [this, hi.1]
        · have e3 : ((i : Int)).toNat = i := by omega
          rw [e3] at h1
          simp [h1]
      · simp [hi]
  constructor
  · intro h
    have hp : ∀ b ∈ l, ptB g.length b = true := fun b hb => (h b hb).1
    intro a ha
    exact ⟨hp a ha, (key a (hp a ha) hp).1 (h a ha).2⟩
  · intro h
    have hp : ∀ b ∈ l, ptB g.length b = true := fun b hb => (h b hb).1
    intro a ha
    exact ⟨hp a ha, (key a (hp a ha) hp).2 (h a ha).2⟩

/-- All of a list are joined. -/
def joinN (g : List Nat) (l : List Int) : List Nat := g.mapIdx fun i x => if (i : Int) ∈ l then x ||| andNot64 (bitsN g.length l) (bitN g.length i) else x

theorem joinN_len (g : List Nat) (l : List Int) : (joinN g l).length = g.length := by simp [joinN]
theorem joinN_w64 {g : List Nat} (hw : W64 g) (hn : g.length ≤ 64) (l : List Int) : W64 (joinN g l) := by
  intro x hx
  obtain ⟨i, hi, rfl⟩ := List.getElem_of_mem hx
  simp only [joinN, List.getElem_mapIdx]
  have hx0 : g[i]'(by rwa [joinN_len] at hi) < 18446744073709551616 := hw _ (List.getElem_mem _)
  split
  · exact or64_lt hx0 (andNot64_lt (bitsN_lt hn l))
  · exact hx0

theorem besB_lt {g : List Nat} {a k : Nat} (h : besB g a k = true) : a < g.length := by
  rcases Nat.lt_or_ge a g.length with h1 | h1
  · exact h1
  · unfold besB at h
    rw [List.getD_eq_getElem?_getD, List.getElem?_eq_none h1] at h
    simp at h

theorem joinN_bes {g : List Nat} (hn : g.length ≤ 64) (l : List Int) (a b : Nat) :
    besB (joinN g l) a b = (besB g a b || decide (a < g.length ∧ b < g.length ∧ (a : Int) ∈ l ∧ (b : Int) ∈ l ∧ a ≠ b)) := by
  rcases Nat.lt_or_ge a g.length with h1 | h1
  · have e : (joinN g l).getD a 0 = if (a : Int) ∈ l then g[a] ||| andNot64 (bitsN g.length l) (bitN g.length a) else g[a] := by
      rw [List.getD_eq_getElem?_getD, List.getElem?_eq_getElem (by rw [joinN_len]; exact h1)]
      simp [joinN]
    have e2 : g.getD a 0 = g[a] := by rw [List.getD_eq_getElem?_getD, List.getElem?_eq_getElem h1]; rfl
    unfold besB
    rw [e, e2]
    split
    · rename_i h2
      rw [Nat.testBit_or, andNot64_test (bitsN_lt hn l) (bitN_lt hn _), bitsN_test, bitN_test]
      congr 1
      rw [Bool.eq_iff_iff]
      simp only [Bool.and_eq_true, Bool.not_eq_true', decide_eq_true_eq, decide_eq_false_iff_not]
      constructor
      · rintro ⟨⟨h3, h4⟩, h5⟩
        exact ⟨h1, h3, h2, h4, fun e => h5 ⟨h3, by rw [e]⟩⟩
      · rintro ⟨_, h3, _, h4, h5⟩
        exact ⟨⟨h3, h4⟩, fun h => h5 (by have := h.2; omega)⟩
    · rename_i h2
      simp [h2]
  · have h3 : besB (joinN g l) a b = false := by
      cases h : besB (joinN g l) a b with
      | false => rfl
      | true => have := besB_lt h; rw [joinN_len] at this; omega
    have h4 : besB g a b = false := by
      cases h : besB g a b with
      | false => rfl
      | true => have := besB_lt h; omega
    rw [h3, h4]
    simp; omega

/-- A right graph. -/
structure RightG (g : List Nat) : Prop where
  few : g.length ≤ 40
  w64 : W64 g
  pts : ∀ a b, besB g a b = true → b < g.length
  irr : ∀ a, besB g a a = false
  sym : ∀ a b, besB g a b = true → besB g b a = true

/-- Two graphs are the same, if they have as many points, and the same are beside each other. -/
theorem graph_ext {g h : List Nat} (hl : g.length = h.length) (hb : ∀ a b, besB g a b = besB h a b) : g = h := by
  apply List.ext_getElem hl
  intro i h1 h2
  apply Nat.eq_of_testBit_eq
  intro k
  have := hb i k
  unfold besB at this
  rw [List.getD_eq_getElem?_getD, List.getD_eq_getElem?_getD, List.getElem?_eq_getElem h1, List.getElem?_eq_getElem h2] at this
  exact this

theorem bes_replicate (n a b : Nat) : besB (List.replicate n 0) a b = false := by
  unfold besB
  rw [List.getD_eq_getElem?_getD, List.getElem?_replicate]
  split <;> simp

theorem right_new (n : Nat) (hn : n ≤ 40) : RightG (List.replicate n 0) :=
  ⟨by simpa using hn, (fun x hx => by rw [List.eq_of_mem_replicate hx]; decide), (fun a b h => by rw [bes_replicate] at h; cases h), (fun a => bes_replicate _ _ _), (fun a b h => by rw [bes_replicate] at h; cases h)⟩

theorem right_join {g : List Nat} (h : RightG g) (l : List Int) : RightG (joinN g l) := by
  have hn : g.length ≤ 64 := by have := h.few; omega
  refine ⟨by rw [joinN_len]; exact h.few, joinN_w64 h.w64 hn l, fun a b hb => ?_, fun a => ?_, fun a b hb => ?_⟩
  · rw [joinN_bes hn, Bool.or_eq_true, decide_eq_true_eq] at hb
    rw [joinN_len]
    rcases hb with hb | hb
    · exact h.pts _ _ hb
    · exact hb.2.1
  · rw [joinN_bes hn, h.irr]; simp
  · rw [joinN_bes hn, Bool.or_eq_true, decide_eq_true_eq] at hb ⊢
    rcases hb with hb | ⟨h1, h2, h3, h4, h5⟩
    · exact .inl (h.sym _ _ hb)
    · exact .inr ⟨h2, h1, h4, h3, fun e => h5 e.symm⟩

end Go.Proofs.YtcglbopmfdilfaaDoor
