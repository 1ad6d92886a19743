/-
  The turns of the document's Parts: plain mathematics, nothing of the program is spoken of here.
-/
import Derived.Test.YtcglbopmfdilfaaDoorGReach
namespace Go.Proofs.YtcglbopmfdilfaaDoor
set_option linter.unusedVariables false
set_option linter.unusedSimpArgs false

theorem getD_setv {S : List Bool} {b : Nat} (hb : b < S.length) (v : Bool) (i : Nat) : (S.set b v).getD i false = if i = b then v else S.getD i false := by
  rw [List.getD_eq_getElem?_getD, List.getD_eq_getElem?_getD, List.getElem?_set]
  by_cases h : b = i
  · subst h; simp [hb]
  · rw [if_neg h, if_neg (fun e => h e.symm)]

theorem set_same {S : List Bool} {b : Nat} (hb : b < S.length) : S.set b (S.getD b false) = S := by
  refine List.ext_getElem (by simp) (fun i h1 h2 => ?_)
  rw [List.getElem_set]
  split
  · rename_i e; subst e
    rw [List.getD_eq_getElem?_getD, List.getElem?_eq_getElem hb]; rfl
  · rfl

theorem count_more : ∀ {S : List Bool} {b : Nat}, b < S.length → S.getD b false = false → (S.set b true).count true = S.count true + 1
  | [], b, h, _ => by simp at h
  | x :: S, 0, _, h => by
    have : x = false := by simpa using h
    subst this
    simp
  | x :: S, b + 1, h, h0 => by
    have ih := count_more (S := S) (b := b) (by simpa using h) (by simpa using h0)
    rw [List.set_cons_succ, List.count_cons, List.count_cons, ih]
    omega

/-- Whoever is beside one that is in, is in. -/
def Closed (g : List Nat) (L : List Bool) : Prop := ∀ x y, L.getD x false = true → besB g x y = true → L.getD y false = true

/-- After so many turns. -/
structure Turned (g : List Nat) (i : Nat) (L : List Bool) (t : Nat) : Prop where
  len : L.length = g.length
  snd : ∀ x, L.getD x false = true → Reach g i x
  has : L.getD i false = true
  far : Closed g L ∨ t + 1 ≤ L.count true

/-- Within a turn. -/
structure Turning (g : List Nat) (i : Nat) (L0 L : List Bool) (a b : Nat) : Prop where
  len : L.length = g.length
  snd : ∀ x, L.getD x false = true → Reach g i x
  mono : ∀ x, L0.getD x false = true → L.getD x false = true
  more : L0.count true < L.count true ∨ (L = L0 ∧ ∀ x y, (x < a ∨ x = a ∧ y < b) → L.getD x false = true → besB g x y = true → L.getD y false = true)

theorem Turned.start {g : List Nat} {i : Nat} (hi : i < g.length) : Turned g i ((List.replicate g.length false).set i true) 0 := by
  have hl : i < (List.replicate g.length false).length := by simpa using hi
  have h0 : ∀ x, (List.replicate g.length false).getD x false = false := fun x => by
    rw [List.getD_eq_getElem?_getD, List.getElem?_replicate]; split <;> rfl
  refine ⟨by simp, fun x hx => ?_, ?_, .inr ?_⟩
  · rw [getD_setv hl, h0] at hx
    split at hx
    · rename_i e; subst e; exact .refl hi
    · cases hx
  · rw [getD_setv hl, if_pos rfl]
  · rw [count_more hl (h0 i)]; omega

theorem Turned.turn {g : List Nat} {i t : Nat} {L : List Bool} (h : Turned g i L t) : Turning g i L L 0 0 :=
  ⟨h.len, h.snd, fun _ h => h, .inr ⟨rfl, fun x y h => by omega⟩⟩

theorem Turning.row {g : List Nat} (hr : RightG g) {i a : Nat} {L0 L : List Bool} (h : Turning g i L0 L a g.length) : Turning g i L0 L (a + 1) 0 := by
  refine ⟨h.len, h.snd, h.mono, ?_⟩
  rcases h.more with h1 | ⟨h1, h2⟩
  · exact .inl h1
  · exact .inr ⟨h1, fun x y hxy hx hb => h2 x y (by have := hr.pts _ _ hb; omega) hx hb⟩

theorem Turning.next {g : List Nat} {i a b : Nat} {L0 L : List Bool} (h : Turning g i L0 L a b) (hb : b < g.length) {v : Bool} (hv : v = (L.getD b false || (L.getD a false && besB g a b))) : Turning g i L0 (L.set b v) a (b + 1) := by
  have hbl : b < L.length := by rw [h.len]; exact hb
  cases hs : L.getD b false with
  | true =>
    have e : L.set b v = L := by
      have := set_same hbl
      rw [hs] at this
      rw [hv, hs]; exact this
    rw [e]
    refine ⟨h.len, h.snd, h.mono, ?_⟩
    rcases h.more with h1 | ⟨h1, h2⟩
    · exact .inl h1
    · refine .inr ⟨h1, fun x y hxy hx hbe => ?_⟩
      by_cases hy : y = b
      · rw [hy]; exact hs
      · exact h2 x y (by omega) hx hbe
  | false =>
    rw [hs, Bool.false_or] at hv
    cases hvv : v with
    | false =>
      have e : L.set b false = L := by
        have := set_same hbl
        rw [hs] at this; exact this
      rw [e]
      refine ⟨h.len, h.snd, h.mono, ?_⟩
      rcases h.more with h1 | ⟨h1, h2⟩
      · exact .inl h1
      · refine .inr ⟨h1, fun x y hxy hx hbe => ?_⟩
        by_cases hy : x = a ∧ y = b
        · obtain ⟨rfl, rfl⟩ := hy
          rw [hvv, hx, hbe] at hv; cases hv
        · exact h2 x y (by omega) hx hbe
    | true =>
      rw [hvv] at hv
      have hab := hv.symm
      rw [Bool.and_eq_true] at hab
      have hc := count_more hbl hs
      refine ⟨by simp [h.len], fun x hx => ?_, fun x hx => ?_, .inl ?_⟩
      · rw [getD_setv hbl] at hx
        split at hx
        · rename_i e; subst e; exact (h.snd a hab.1).step hab.2
        · exact h.snd x hx
      · rw [getD_setv hbl]
        split
        · rfl
        · exact h.mono x hx
      · rw [hc]
        rcases h.more with h1 | ⟨h1, _⟩
        · omega
        · rw [h1]; omega

theorem Turned.all {g : List Nat} {i t : Nat} {L : List Bool} (h : Turned g i L t) (hc : Closed g L) {x : Nat} (hx : Reach g i x) : L.getD x false = true := by
  induction hx with
  | refl _ => exact h.has
  | step _ hb ih => exact hc _ _ ih hb

theorem Turning.done {g : List Nat} {i t : Nat} {L0 L : List Bool} (h0 : Turned g i L0 t) (h : Turning g i L0 L g.length 0) : Turned g i L (t + 1) := by
  refine ⟨h.len, h.snd, h.mono _ h0.has, ?_⟩
  rcases h.more with h1 | ⟨h1, h2⟩
  · rcases h0.far with h3 | h3
    · exact .inl fun x y hx hb => h.mono _ (h0.all h3 ((h.snd x hx).step hb))
    · exact .inr (by omega)
  · exact .inl fun x y hx hb => h2 x y (.inl (besB_lt hb)) hx hb

theorem Turned.iff {g : List Nat} {i : Nat} {L : List Bool} (h : Turned g i L g.length) (x : Nat) : L.getD x false = true ↔ Reach g i x := by
  refine ⟨h.snd x, h.all ?_⟩
  rcases h.far with h1 | h1
  · exact h1
  · have := List.count_le_length (a := true) (l := L)
    rw [h.len] at this
    omega

/-- Those that are in, ahead of m. -/
def inL (L : List Bool) (m : Nat) : List Int := ((List.range m).filter fun k => L.getD k false).map Int.ofNat
theorem inL_zero (L : List Bool) : inL L 0 = [] := rfl
theorem inL_yes {L : List Bool} {m : Nat} (h : L.getD m false = true) : inL L (m + 1) = inL L m ++ [(m : Int)] := by
  unfold inL
  rw [List.range_succ, List.filter_append, List.map_append]
  simp only [List.filter_cons, List.filter_nil, h, if_true]
  rfl
theorem inL_no {L : List Bool} {m : Nat} (h : L.getD m false = false) : inL L (m + 1) = inL L m := by
  unfold inL
  rw [List.range_succ, List.filter_append, List.map_append]
  simp only [List.filter_cons, List.filter_nil, h]
  simp
theorem inL_len (L : List Bool) (m : Nat) : (inL L m).length ≤ m := by
  unfold inL
  rw [List.length_map]
  exact Nat.le_trans (List.length_filter_le _ _) (by simp)
theorem inL_comp {g : List Nat} {i : Nat} {L : List Bool} (h : Turned g i L g.length) : inL L g.length = compL g i := by
  unfold inL compL ptsL
  rw [List.filter_map]
  congr 1
  refine List.filter_congr (fun x _ => ?_)
  rw [Bool.eq_iff_iff]
  simp only [Function.comp, decide_eq_true_eq]
  exact h.iff x

/-- Seen anew: those ahead of m that are in. -/
def SeenUp (S L S' : List Bool) (m : Nat) : Prop := S'.length = S.length ∧ ∀ x, S'.getD x false = true ↔ S.getD x false = true ∨ (x < m ∧ L.getD x false = true)
theorem SeenUp.start (S L : List Bool) : SeenUp S L S 0 := ⟨rfl, fun x => by simp⟩
theorem SeenUp.yes {S L S' : List Bool} {m : Nat} (h : SeenUp S L S' m) (hm : m < S.length) (hl : L.getD m false = true) : SeenUp S L (S'.set m true) (m + 1) := by
  refine ⟨by simp [h.1], fun x => ?_⟩
  rw [getD_setv (by rw [h.1]; exact hm)]
  split
  · rename_i e; subst e
    exact ⟨fun _ => .inr ⟨by omega, hl⟩, fun _ => rfl⟩
  · rename_i e
    rw [h.2]
    have : x < m + 1 ↔ x < m := by omega
    rw [this]
theorem SeenUp.no {S L S' : List Bool} {m : Nat} (h : SeenUp S L S' m) (hl : L.getD m false = false) : SeenUp S L S' (m + 1) := by
  refine ⟨h.1, fun x => ?_⟩
  rw [h.2]
  by_cases e : x = m
  · subst e; rw [hl]; simp only [Bool.false_eq_true, and_false]
  · have : x < m + 1 ↔ x < m := by omega
    rw [this]
theorem SeenUp.done {g : List Nat} {i : Nat} {S L S' : List Bool} (h : SeenUp S L S' g.length) (ht : Turned g i L g.length) (hr : RightG g) (x : Nat) : S'.getD x false = true ↔ S.getD x false = true ∨ Reach g i x := by
  rw [h.2, ht.iff]
  constructor
  · rintro (h1 | ⟨_, h1⟩)
    · exact .inl h1
    · exact .inr h1
  · rintro (h1 | h1)
    · exact .inl h1
    · exact .inr ⟨h1.to_lt hr, h1⟩

end Go.Proofs.YtcglbopmfdilfaaDoor
