/-
  Rows of truths in memory; the contracts of the document's Empty, and of made.
-/
import Derived.Test.YtcglbopmfdilfaaDoorGOwn
import Derived.Test.YtcglbopmfdilfaaDoorGReach
import Derived.Test.YtcglbopmfdilfaaDoorGJoin
namespace Go.Proofs.YtcglbopmfdilfaaDoor
open Go.RowKit
set_option linter.unusedVariables false
set_option linter.unusedSimpArgs false
set_option maxRecDepth 20000

theorem nodupN_inj {l : List Nat} (h : l.Nodup) {i j : Nat} (hi : i < l.length) (hj : j < l.length) (e : l[i] = l[j]) : i = j := by
  have hp := List.pairwise_iff_getElem.1 h
  rcases Nat.lt_trichotomy i j with h1 | h1 | h1
  · exact absurd e (hp i j hi hj h1)
  · exact h1
  · exact absurd e.symm (hp j i hj hi h1)

abbrev rowV (n b : Nat) : Value := .slice (some ⟨b, 0, none⟩) n n

/-- The call's own rows of n truths each, every row in a block of its own. -/
structure OwnMat (B : Nat) (w : World) (v : Value) (n : Nat) (M : List (List Bool)) (bs : List Nat) : Prop where
  len : bs.length = M.length
  outer : w.ownsRow B 55 1 v bs.length (bs.map (rowV n))
  rows : ∀ i (h : i < bs.length) (h' : i < M.length), OwnB B w (rowV n bs[i]) M[i]
  wide : ∀ r ∈ M, r.length = n
  nod : bs.Nodup
  apart : ∀ b ∈ bs, v.ownBlock ≠ some b

theorem OwnMat.nil {B : Nat} {w : World} {v : Value} {n : Nat} (h : w.ownsRow B 55 1 v 0 []) : OwnMat B w v n [] [] :=
  ⟨rfl, h, fun i h => by simp at h, fun r h => by simp at h, List.nodup_nil, fun b h => by simp at h⟩

theorem OwnMat.lt {B : Nat} {w : World} {v : Value} {n : Nat} {M : List (List Bool)} {bs : List Nat} (h : OwnMat B w v n M bs) {b : Nat} (hb : b ∈ bs) : B ≤ b ∧ b < w.heap.size := by
  obtain ⟨i, hi, rfl⟩ := List.getElem_of_mem hb
  exact (h.rows i hi (by rw [← h.len]; exact hi)).lt _ rfl

theorem OwnMat.below {B : Nat} {w w' : World} {v : Value} {n : Nat} {M : List (List Bool)} {bs : List Nat} (h : OwnMat B w v n M bs) (hb : Below w.heap.size w w') : OwnMat B w' v n M bs :=
  ⟨h.len, own_below h.outer hb, fun i hi hi' => own_below (h.rows i hi hi') hb, h.wide, h.nod, h.apart⟩

theorem OwnMat.form {B : Nat} {w : World} {v : Value} {n : Nat} {M : List (List Bool)} {bs : List Nat} (h : OwnMat B w v n M bs) : ∃ a c, v = .slice a M.length c ∧ M.length ≤ c ∧ c ≤ maxLen := by
  obtain ⟨a, c, e, h1, h2⟩ := (Seq.of_own (enc := rowV n) h.outer).form
  rw [h.len] at e h1
  exact ⟨a, c, e, h1, h2⟩

/-- The cells of a row's slice, and of one of its truths. -/
theorem OwnMat.at {B : Nat} {w : World} {a : Option Addr} {n m c : Nat} {M : List (List Bool)} {bs : List Nat} (h : OwnMat B w (.slice a m c) n M bs) {i k : Nat} (hi : i < M.length) (hk : k < n) :
    ∃ b o r, a = some ⟨b, o, none⟩ ∧ w.cell? ⟨b, o + i, none⟩ = some (rowV n r) ∧ w.cell? ⟨r, k, none⟩ = some (.bool ((M.getD i []).getD k false)) ∧ bs[i]? = some r := by
  have hib : i < bs.length := by rw [h.len]; exact hi
  obtain ⟨b, o, e, hc⟩ := (Seq.of_own (enc := rowV n) h.outer).at hib
  have hr := Seq.of_own (h.rows i hib hi)
  have hw := h.wide _ (List.getElem_mem hi)
  obtain ⟨b2, o2, e2, hc2⟩ := hr.at (k := k) (by omega)
  cases e2
  refine ⟨b, o, bs[i], e, hc, ?_, by simp [hib]⟩
  rw [Nat.zero_add] at hc2
  rw [hc2]
  congr 2
  rw [List.getD_eq_getElem?_getD, List.getD_eq_getElem?_getD, List.getElem?_eq_getElem hi]
  simp only [Option.getD_some]
  rw [List.getElem?_eq_getElem (by omega)]
  rfl

/-- One truth is written. -/
def setM (M : List (List Bool)) (i k : Nat) : List (List Bool) := M.set i ((M.getD i []).set k true)

theorem OwnMat.set {B : Nat} {w : World} {v : Value} {n : Nat} {M : List (List Bool)} {bs : List Nat} (h : OwnMat B w v n M bs) {i k r : Nat} (hi : i < M.length) (hk : k < n) (hr : bs[i]? = some r) :
    (∃ u, w.cell? ⟨r, k, none⟩ = some u) ∧ w.frozen? ⟨r, k, none⟩ = false ∧ OwnMat B (w.setCell ⟨r, k, none⟩ (.bool true)) v n (setM M i k) bs ∧ Below B w (w.setCell ⟨r, k, none⟩ (.bool true)) := by
  have hib : i < bs.length := by rw [h.len]; exact hi
  have er : bs[i] = r := by rw [List.getElem?_eq_getElem hib] at hr; simpa using hr
  have hw := h.wide _ (List.getElem_mem hi)
  have hrow := h.rows i hib hi
  rw [er] at hrow
  obtain ⟨h1, h2, h3, h4⟩ := own_setB hrow hw.symm (i := k) (by omega) true
  have gr := grown_setG w r k (.bool true)
  refine ⟨h1, h2, ⟨by simp [setM, h.len], ?_, fun j hj hj' => ?_, fun q hq => ?_, h.nod, h.apart⟩, h4⟩
  · refine own_same h.outer (fun b hb => gr.block b (h.outer.lt b hb).2 (fun e => ?_))
    injection e with e
    subst e
    exact h.apart b (by rw [← er]; exact List.getElem_mem _) hb
  · unfold setM at hj' ⊢
    rw [List.getElem_set]
    by_cases e : i = j
    · subst e
      rw [if_pos rfl, er]
      have : M.getD i [] = M[i] := by rw [List.getD_eq_getElem?_getD, List.getElem?_eq_getElem hi]; rfl
      rw [this]
      exact h3
    · rw [if_neg e]
      have hjm : j < M.length := by simpa using hj'
      refine own_same (h.rows j hj hjm) (fun b hb => gr.block b ((h.rows j hj hjm).lt b hb).2 (fun e2 => ?_))
      injection e2 with e2
      have e3 : bs[j] = b := by simpa [Value.ownBlock] using hb
      have : bs[i] = bs[j] := by omega
      exact e (nodupN_inj h.nod hib hj this)
  · unfold setM at hq
    rcases List.mem_or_eq_of_mem_set hq with hq | hq
    · exact h.wide q hq
    · subst hq
      have : M.getD i [] = M[i] := by rw [List.getD_eq_getElem?_getD, List.getElem?_eq_getElem hi]; rfl
      rw [List.length_set, this]; exact hw

/-- A truth, by two numbers. -/
def atM (M : List (List Bool)) (i k : Nat) : Bool := (M.getD i []).getD k false

theorem atM_set {M : List (List Bool)} {n i k : Nat} (hw : ∀ r ∈ M, r.length = n) (hi : i < M.length) (hk : k < n) (a b : Nat) : atM (setM M i k) a b = true ↔ atM M a b = true ∨ (a = i ∧ b = k) := by
  unfold atM setM
  have e1 : ∀ L : List (List Bool), L.getD a [] = (L[a]?).getD [] := fun L => List.getD_eq_getElem?_getD
  rw [e1 (M.set _ _), List.getElem?_set]
  by_cases e : i = a
  · subst e
    have hr : M.getD i [] = M[i] := by rw [List.getD_eq_getElem?_getD, List.getElem?_eq_getElem hi]; rfl
    rw [if_pos rfl, if_pos hi, Option.getD_some, getD_set (by rw [hr, hw _ (List.getElem_mem hi)]; exact hk)]
    simp
  · rw [if_neg e, ← List.getD_eq_getElem?_getD]
    constructor
    · exact .inl
    · rintro (h | ⟨h, _⟩)
      · exact h
      · exact absurd h.symm e

/-- Truths that are a graph's. -/
structure MatOk (M : List (List Bool)) : Prop where
  wide : ∀ r ∈ M, r.length = M.length
  irr : ∀ a, atM M a a = false
  sym : ∀ a b, atM M a b = true → atM M b a = true

def falses (n k : Nat) : List (List Bool) := List.replicate k (List.replicate n false)
theorem atM_falses (n k a b : Nat) : atM (falses n k) a b = false := by
  unfold atM falses
  have e1 : ∀ L : List (List Bool), L.getD a [] = (L[a]?).getD [] := fun L => List.getD_eq_getElem?_getD
  rw [e1, List.getElem?_replicate]
  split
  · rw [Option.getD_some, List.getD_eq_getElem?_getD, List.getElem?_replicate]; split <;> rfl
  · rfl
theorem MatOk.falses (n : Nat) : MatOk (falses n n) :=
  ⟨fun r hr => by unfold Go.Proofs.YtcglbopmfdilfaaDoor.falses at hr ⊢; rw [List.eq_of_mem_replicate hr]; simp, (fun a => atM_falses _ _ _ _), (fun a b h => by rw [atM_falses] at h; cases h)⟩

theorem MatOk.join {M : List (List Bool)} {a b : Nat} (h : MatOk M) (ha : a < M.length) (hb : b < M.length) (hne : a ≠ b) : MatOk (setM (setM M a b) b a) := by
  have w1 : ∀ r ∈ setM M a b, r.length = M.length := fun r hr => by
    unfold setM at hr
    rcases List.mem_or_eq_of_mem_set hr with hr | hr
    · exact h.wide r hr
    · subst hr
      have : M.getD a [] = M[a] := by rw [List.getD_eq_getElem?_getD, List.getElem?_eq_getElem ha]; rfl
      rw [List.length_set, this]; exact h.wide _ (List.getElem_mem _)
  have l1 : (setM M a b).length = M.length := by simp [setM]
  have key : ∀ x y, atM (setM (setM M a b) b a) x y = true ↔ atM M x y = true ∨ (x = a ∧ y = b) ∨ (x = b ∧ y = a) := fun x y => by
    rw [atM_set w1 (by omega) (by omega), atM_set h.wide ha hb, or_assoc]
  refine ⟨fun r hr => ?_, fun x => ?_, fun x y hxy => ?_⟩
  · have l2 : (setM (setM M a b) b a).length = M.length := by simp [setM]
    rw [l2]
    generalize hM1 : setM M a b = M1 at *
    unfold setM at hr
    rcases List.mem_or_eq_of_mem_set hr with hr | hr
    · exact w1 r hr
    · subst hr
      have hbl : b < M1.length := by omega
      have : M1.getD b [] = M1[b] := by rw [List.getD_eq_getElem?_getD, List.getElem?_eq_getElem hbl]; rfl
      rw [List.length_set, this]; exact w1 _ (List.getElem_mem _)
  · cases hx : atM (setM (setM M a b) b a) x x with
    | false => rfl
    | true =>
      rcases (key x x).1 hx with h1 | ⟨h1, h2⟩ | ⟨h1, h2⟩
      · rw [h.irr] at h1; cases h1
      · omega
      · omega
  · rw [key] at hxy ⊢
    rcases hxy with h1 | ⟨h1, h2⟩ | ⟨h1, h2⟩
    · exact .inl (h.sym _ _ h1)
    · exact .inr (.inr ⟨h2, h1⟩)
    · exact .inr (.inl ⟨h2, h1⟩)

end Go.Proofs.YtcglbopmfdilfaaDoor
