/-
  The document's Go: mathematics, and its contract.
-/
import Derived.Test.YtcglbopmfdilfaaDoorGRefs
import Derived.Test.YtcglbopmfdilfaaDoorGRefP
import Derived.Test.YtcglbopmfdilfaaDoorOMath
import Derived.Test.YtcglbopmfdilfaaDoorUntil
namespace Go.Proofs.YtcglbopmfdilfaaDoor
open Go.RowKit
set_option linter.unusedVariables false
set_option linter.unusedSimpArgs false
set_option maxRecDepth 20000

/-- One truth is written. -/
def setMv (M : List (List Bool)) (i k : Nat) (y : Bool) : List (List Bool) := M.set i ((M.getD i []).set k y)
theorem setMv_len (M : List (List Bool)) (i k : Nat) (y : Bool) : (setMv M i k y).length = M.length := by simp [setMv]
theorem setMv_wide {M : List (List Bool)} {n i k : Nat} {y : Bool} (hw : ∀ r ∈ M, r.length = n) (hi : i < M.length) : ∀ r ∈ setMv M i k y, r.length = n := by
  intro q hq
  unfold setMv at hq
  rcases List.mem_or_eq_of_mem_set hq with hq | hq
  · exact hw q hq
  · subst hq
    have : M.getD i [] = M[i] := by rw [List.getD_eq_getElem?_getD, List.getElem?_eq_getElem hi]; rfl
    rw [List.length_set, this]; exact hw _ (List.getElem_mem _)
theorem atM_setv {M : List (List Bool)} {n i k : Nat} {y : Bool} (hw : ∀ r ∈ M, r.length = n) (hi : i < M.length) (hk : k < n) (a b : Nat) : atM (setMv M i k y) a b = if a = i ∧ b = k then y else atM M a b := by
  unfold atM setMv
  have e1 : ∀ L : List (List Bool), L.getD a [] = (L[a]?).getD [] := fun L => List.getD_eq_getElem?_getD
  rw [e1 (M.set _ _), List.getElem?_set]
  by_cases e : i = a
  · subst e
    have hr : M.getD i [] = M[i] := by rw [List.getD_eq_getElem?_getD, List.getElem?_eq_getElem hi]; rfl
    rw [if_pos rfl, if_pos hi, Option.getD_some, getD_setv (by rw [hr, hw _ (List.getElem_mem hi)]; exact hk)]
    by_cases e2 : b = k
    · simp [e2]
    · simp [e2]
  · rw [if_neg e, ← List.getD_eq_getElem?_getD, if_neg (fun h => e h.1.symm)]

theorem OwnMat.setv {B : Nat} {w : World} {v : Value} {n : Nat} {M : List (List Bool)} {bs : List Nat} (h : OwnMat B w v n M bs) {i k r : Nat} (hi : i < M.length) (hk : k < n) (hr : bs[i]? = some r) (y : Bool) :
    (∃ u, w.cell? ⟨r, k, none⟩ = some u) ∧ w.frozen? ⟨r, k, none⟩ = false ∧ OwnMat B (w.setCell ⟨r, k, none⟩ (.bool y)) v n (setMv M i k y) bs ∧ Below B w (w.setCell ⟨r, k, none⟩ (.bool y)) := by
  have hib : i < bs.length := by rw [h.len]; exact hi
  have er : bs[i] = r := by rw [List.getElem?_eq_getElem hib] at hr; simpa using hr
  have hw := h.wide _ (List.getElem_mem hi)
  have hrow := h.rows i hib hi
  rw [er] at hrow
  obtain ⟨h1, h2, h3, h4⟩ := own_setB hrow hw.symm (i := k) (by omega) y
  have gr := grown_setG w r k (.bool y)
  refine ⟨h1, h2, ⟨by simp [setMv, h.len], ?_, fun j hj hj' => ?_, fun q hq => ?_, h.nod, h.apart⟩, h4⟩
  · refine own_same h.outer (fun b hb => gr.block b (h.outer.lt b hb).2 (fun e => ?_))
    injection e with e
    subst e
    exact h.apart b (by rw [← er]; exact List.getElem_mem _) hb
  · unfold setMv at hj' ⊢
    rw [List.getElem_set]
    by_cases e : i = j
    · subst e
      rw [if_pos rfl, er]
      have : M.getD i [] = M[i] := by rw [List.getD_eq_getElem?_getD, List.getElem?_eq_getElem hi]; rfl
      rw [this]
      exact h3
    · rw [if_neg e]
      have hjm : j < M.length := by simpa using hj'
      refine own_same (h.rows j hj hjm) (fun b hb => gr.block b ((h.rows j hj hjm).lt b hb).2 (fun e2 => ?_))
      injection e2 with e2
      have e3 : bs[j] = b := by simpa [Value.ownBlock] using hb
      have : bs[i] = bs[j] := by omega
      exact e (nodupN_inj h.nod hib hj this)
  · unfold setMv at hq
    rcases List.mem_or_eq_of_mem_set hq with hq | hq
    · exact h.wide q hq
    · subst hq
      have : M.getD i [] = M[i] := by rw [List.getD_eq_getElem?_getD, List.getElem?_eq_getElem hi]; rfl
      rw [List.length_set, this]; exact hw


/-- So far: all pairs of the first i of L, and of the i-th those with the first k, are joined. -/
def JoinTo (M M' : List (List Bool)) (L : List Int) (i k : Nat) : Prop := M'.length = M.length ∧ (∀ r ∈ M', r.length = M.length) ∧
  ∀ x y : Nat, atM M' x y = true ↔ atM M x y = true ∨ ∃ (p q : Nat) (hp : p < L.length) (hq : q < L.length), p ≠ q ∧ L[p] = (x : Int) ∧ L[q] = (y : Int) ∧ (p < i ∨ (p = i ∧ q < k))

theorem JoinTo.start {M : List (List Bool)} {L : List Int} (hw : ∀ r ∈ M, r.length = M.length) : JoinTo M M L 0 0 :=
  ⟨rfl, hw, fun x y => ⟨.inl, fun h => by
    rcases h with h | ⟨p, q, hp, hq, hne, h1, h2, h3⟩
    · exact h
    · omega⟩⟩
theorem JoinTo.row {M M' : List (List Bool)} {L : List Int} {i : Nat} (h : JoinTo M M' L i L.length) : JoinTo M M' L (i + 1) 0 := by
  refine ⟨h.1, h.2.1, fun x y => ?_⟩
  rw [h.2.2 x y]
  constructor
  · rintro (h1 | ⟨p, q, hp, hq, hne, h1, h2, h3⟩)
    · exact .inl h1
    · exact .inr ⟨p, q, hp, hq, hne, h1, h2, by omega⟩
  · rintro (h1 | ⟨p, q, hp, hq, hne, h1, h2, h3⟩)
    · exact .inl h1
    · exact .inr ⟨p, q, hp, hq, hne, h1, h2, by omega⟩
theorem JoinTo.skip {M M' : List (List Bool)} {L : List Int} {i : Nat} (h : JoinTo M M' L i i) : JoinTo M M' L i (i + 1) := by
  refine ⟨h.1, h.2.1, fun x y => ?_⟩
  rw [h.2.2 x y]
  constructor
  · rintro (h1 | ⟨p, q, hp, hq, hne, h1, h2, h3⟩)
    · exact .inl h1
    · exact .inr ⟨p, q, hp, hq, hne, h1, h2, by omega⟩
  · rintro (h1 | ⟨p, q, hp, hq, hne, h1, h2, h3⟩)
    · exact .inl h1
    · exact .inr ⟨p, q, hp, hq, hne, h1, h2, by omega⟩
theorem JoinTo.put {M M' : List (List Bool)} {L : List Int} {i k a b : Nat} (h : JoinTo M M' L i k) (hi : i < L.length) (hk : k < L.length) (hne : i ≠ k) (ha : L[i] = (a : Int)) (hb : L[k] = (b : Int)) (ha2 : a < M.length) (hb2 : b < M.length) : JoinTo M (setMv M' a b true) L i (k + 1) := by
  refine ⟨by rw [setMv_len]; exact h.1, setMv_wide h.2.1 (by rw [h.1]; exact ha2), fun x y => ?_⟩
  rw [atM_setv h.2.1 (by rw [h.1]; exact ha2) hb2]
  split
  · rename_i e
    obtain ⟨rfl, rfl⟩ := e
    refine ⟨fun _ => .inr ⟨i, k, hi, hk, hne, ha, hb, .inr ⟨rfl, by omega⟩⟩, fun _ => rfl⟩
  · rename_i e
    rw [h.2.2 x y]
    constructor
    · rintro (h1 | ⟨p, q, hp, hq, hne, h1, h2, h3⟩)
      · exact .inl h1
      · exact .inr ⟨p, q, hp, hq, hne, h1, h2, by omega⟩
    · rintro (h1 | ⟨p, q, hp, hq, hne2, h1, h2, h3⟩)
      · exact .inl h1
      · refine .inr ⟨p, q, hp, hq, hne2, h1, h2, ?_⟩
        by_cases h4 : p = i ∧ q = k
        · obtain ⟨rfl, rfl⟩ := h4
          exact absurd ⟨by omega, by omega⟩ e
        · omega

/-- So far: a is beside none of the first i of L any more. -/
def CutTo (M M' : List (List Bool)) (L : List Int) (a i : Nat) : Prop := M'.length = M.length ∧ (∀ r ∈ M', r.length = M.length) ∧
  ∀ x y : Nat, atM M' x y = true ↔ atM M x y = true ∧ ¬ (x = a ∧ (y : Int) ∈ L.take i) ∧ ¬ (y = a ∧ (x : Int) ∈ L.take i)
theorem CutTo.start {M : List (List Bool)} {L : List Int} {a : Nat} (hw : ∀ r ∈ M, r.length = M.length) : CutTo M M L a 0 := ⟨rfl, hw, fun x y => by simp⟩
theorem CutTo.put {M M' : List (List Bool)} {L : List Int} {a i b : Nat} (h : CutTo M M' L a i) (hi : i < L.length) (hb : L[i] = (b : Int)) (ha2 : a < M.length) (hb2 : b < M.length) : CutTo M (setMv (setMv M' a b false) b a false) L a (i + 1) := by
  have w1 := setMv_wide (k := b) (y := false) h.2.1 (by rw [h.1]; exact ha2)
  have l1 := setMv_len M' a b false
  refine ⟨by rw [setMv_len, l1]; exact h.1, setMv_wide w1 (by rw [l1, h.1]; exact hb2), fun x y => ?_⟩
  rw [atM_setv w1 (by rw [l1, h.1]; exact hb2) ha2, atM_setv h.2.1 (by rw [h.1]; exact ha2) hb2, List.take_succ_eq_append_getElem hi, hb]
  simp only [List.mem_append, List.mem_singleton]
  split
  · rename_i e
    obtain ⟨rfl, rfl⟩ := e
    simp
  · rename_i e1
    split
    · rename_i e
      obtain ⟨rfl, rfl⟩ := e
      simp
    · rename_i e2
      rw [h.2.2 x y]
      constructor
      · rintro ⟨h1, h2, h3⟩
        refine ⟨h1, fun ⟨h4, h5⟩ => ?_, fun ⟨h4, h5⟩ => ?_⟩
        · rcases h5 with h5 | h5
          · exact h2 ⟨h4, h5⟩
          · exact e2 ⟨h4, by omega⟩
        · rcases h5 with h5 | h5
          · exact h3 ⟨h4, h5⟩
          · exact e1 ⟨by omega, h4⟩
      · rintro ⟨h1, h2, h3⟩
        exact ⟨h1, fun ⟨h4, h5⟩ => h2 ⟨h4, .inl h5⟩, fun ⟨h4, h5⟩ => h3 ⟨h4, .inl h5⟩⟩

/-- A point went. -/
structure GoOk (M M' : List (List Bool)) (a : Nat) : Prop where
  len : M'.length = M.length
  ok : MatOk M'
  at_ : ∀ x y : Nat, atM M' x y = true ↔ (atM M x y = true ∨ (x ≠ y ∧ atM M a x = true ∧ atM M a y = true)) ∧ x ≠ a ∧ y ≠ a

theorem GoOk.of {M M1 M2 : List (List Bool)} {a : Nat} (hm : MatOk M) (ha : a < M.length) (h1 : JoinTo M M1 (nbL (graphR M) (a : Int)) (nbL (graphR M) (a : Int)).length 0) (h2 : CutTo M1 M2 (nbL (graphR M) (a : Int)) a (nbL (graphR M) (a : Int)).length) : GoOk M M2 a := by
  have hmem : ∀ x : Nat, (x : Int) ∈ nbL (graphR M) (a : Int) ↔ atM M a x = true := fun x => by
    rw [mem_nbL', graphR_len, ptB_nat, ptB_nat]
    simp only [Int.toNat_natCast, graphR_at hm.wide, decide_eq_true_eq]
    constructor
    · exact fun h => h.2.2
    · exact fun h => ⟨ha, (atM_lt hm.wide h).2, h⟩
  have hj : ∀ x y : Nat, atM M1 x y = true ↔ atM M x y = true ∨ (x ≠ y ∧ atM M a x = true ∧ atM M a y = true) := fun x y => by
    rw [h1.2.2 x y]
    constructor
    · rintro (h | ⟨p, q, hp, hq, hne, e1, e2, _⟩)
      · exact .inl h
      · refine .inr ⟨fun e => ?_, (hmem x).1 (e1 ▸ List.getElem_mem hp), (hmem y).1 (e2 ▸ List.getElem_mem hq)⟩
        subst e
        have hasc := List.pairwise_iff_getElem.1 (nbL_asc (graphR M) (a : Int))
        rcases Nat.lt_or_gt_of_ne hne with h4 | h4
        · have := hasc p q hp hq h4; omega
        · have := hasc q p hq hp h4; omega
    · rintro (h | ⟨hne, hx, hy⟩)
      · exact .inl h
      · obtain ⟨p, hp, e1⟩ := List.getElem_of_mem ((hmem x).2 hx)
        obtain ⟨q, hq, e2⟩ := List.getElem_of_mem ((hmem y).2 hy)
        exact .inr ⟨p, q, hp, hq, fun e => by subst e; exact hne (by omega), e1, e2, .inl hp⟩
  have hat : ∀ x y : Nat, atM M2 x y = true ↔ (atM M x y = true ∨ (x ≠ y ∧ atM M a x = true ∧ atM M a y = true)) ∧ x ≠ a ∧ y ≠ a := fun x y => by
    rw [h2.2.2 x y, List.take_of_length_le (Nat.le_refl _), hj, hmem, hmem]
    constructor
    · rintro ⟨h, h3, h4⟩
      refine ⟨h, fun e => ?_, fun e => ?_⟩
      · subst e
        rcases h with h | ⟨_, h, _⟩
        · exact h3 ⟨rfl, h⟩
        · rw [hm.irr] at h; cases h
      · subst e
        rcases h with h | ⟨_, _, h⟩
        · exact h4 ⟨rfl, hm.sym _ _ h⟩
        · rw [hm.irr] at h; cases h
    · rintro ⟨h, h3, h4⟩
      exact ⟨h, fun e => h3 e.1, fun e => h4 e.1⟩
  have hl : M2.length = M.length := h2.1.trans h1.1
  refine ⟨hl, ⟨fun r hr => by rw [hl, ← h1.1]; exact h2.2.1 r hr, fun x => ?_, fun x y h => ?_⟩, hat⟩
  · cases hx : atM M2 x x with
    | false => rfl
    | true =>
      rcases ((hat x x).1 hx).1 with h | h
      · rw [hm.irr] at h; cases h
      · exact absurd rfl h.1
  · rw [hat] at h ⊢
    refine ⟨?_, h.2.2, h.2.1⟩
    rcases h.1 with h | ⟨h3, h4, h5⟩
    · exact .inl (hm.sym _ _ h)
    · exact .inr ⟨fun e => h3 e.symm, h5, h4⟩

end Go.Proofs.YtcglbopmfdilfaaDoor
