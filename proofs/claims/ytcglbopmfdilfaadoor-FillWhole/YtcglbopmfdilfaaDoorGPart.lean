/-
  The contract of partFrom.
-/
import Derived.Test.YtcglbopmfdilfaaDoorGNbr
import Derived.Test.YtcglbopmfdilfaaDoorGReach
import Derived.Test.YtcglbopmfdilfaaDoorGClq
import Derived.Test.YtcglbopmfdilfaaDoorGJoin
import Derived.Test.YtcglbopmfdilfaaDoorGOwn
import Derived.Test.YtcglbopmfdilfaaDoorLibSortI
namespace Go.Proofs.YtcglbopmfdilfaaDoor
open Go.RowKit
set_option linter.unusedVariables false
set_option linter.unusedSimpArgs false
set_option maxRecDepth 20000

theorem Bfs.comp {g : List Nat} {S0 S : List Bool} {a : Nat} {P : List Int} (hr : RightG g) (h : Bfs g S0 a S P) (hd : ∀ k : Nat, (k : Int) ∈ P ↔ Reach g a k) : sortI P = compL g a := by
  have hnod : (sortI P).Nodup := by unfold sortI; exact (List.mergeSort_perm P _).nodup_iff.2 h.nod
  have hasc : Asc (sortI P) := by
    have h1 := sortI_up P
    rw [List.Nodup] at hnod
    exact (h1.and hnod).imp (fun ⟨h2, h3⟩ => by omega)
  refine Asc.ext hasc (compL_asc _ _) (fun x => ?_)
  rw [sortI_mem, mem_compL hr]
  constructor
  · intro hx
    obtain ⟨k, rfl, hk⟩ := h.mem x hx
    exact ⟨k, rfl, hk⟩
  · rintro ⟨k, rfl, hk⟩
    exact (hd k).2 hk

/-- The inner loop's part of the search. -/
structure BfsIn (g : List Nat) (S0 : List Bool) (a k : Nat) (p : Int) (N : List Int) (S : List Bool) (P : List Int) (m : Nat) : Prop where
  bfs : Bfs g S0 a S P
  gone : GoneTo g S P k
  at_ : P.getD k 0 = p
  lt : k < P.length
  told : ∀ i (h : i < N.length), i < m → S.getD (N[i]).toNat false = true

theorem GoneTo.grow {g : List Nat} {S : List Bool} {P : List Int} {k : Nat} (h : GoneTo g S P k) (hk : k ≤ P.length) {b : Nat} (hb : b < S.length) : GoneTo g (S.set b true) (P ++ [(b : Int)]) k := by
  intro i hi x hx
  have e : (P ++ [(b : Int)]).getD i 0 = P.getD i 0 := by
    rw [List.getD_eq_getElem?_getD, List.getD_eq_getElem?_getD, List.getElem?_append_left (by omega)]
  rw [e] at hx
  exact (getD_set hb _).2 (.inl (h i hi x hx))

theorem BfsIn.skip {g : List Nat} {S0 : List Bool} {a k : Nat} {p : Int} {N : List Int} {S : List Bool} {P : List Int} {m : Nat} (h : BfsIn g S0 a k p N S P m) (hm : m < N.length) (hs : S.getD (N[m]).toNat false = true) : BfsIn g S0 a k p N S P (m + 1) :=
  ⟨h.bfs, h.gone, h.at_, h.lt, fun i hi him => by
    rcases Nat.lt_or_ge i m with h1 | h1
    · exact h.told i hi h1
    · obtain rfl : i = m := by omega
      exact hs⟩

theorem BfsIn.add {g : List Nat} {S0 : List Bool} {a k : Nat} {p : Int} {N : List Int} {S : List Bool} {P : List Int} {m b : Nat} (hr : RightG g) (h : BfsIn g S0 a k p N S P m) (hm : m < N.length) (hN : N = nbL g p) (hb : N[m] = (b : Int)) (hs : S.getD b false = false) :
    BfsIn g S0 a k p N (S.set b true) (P ++ [(b : Int)]) (m + 1) := by
  have hmem : (b : Int) ∈ nbL g p := by rw [← hN, ← hb]; exact List.getElem_mem _
  obtain ⟨h1, h2, h3⟩ := mem_nbL'.1 hmem
  have hp := ptB_iff.1 h1
  have hpP : p ∈ P := by
    have := h.at_
    rw [List.getD_eq_getElem?_getD, List.getElem?_eq_getElem h.lt] at this
    rw [← this]; exact List.getElem_mem _
  have ep : ((p.toNat : Nat) : Int) = p := by omega
  have hbS : b < S.length := by rw [h.bfs.len]; have := ptB_iff.1 h2; omega
  have h3 : besB g p.toNat b = true := by simpa using h3
  refine ⟨h.bfs.add hr (p := p.toNat) (by rw [ep]; exact hpP) h3 hs, h.gone.grow (Nat.le_of_lt h.lt) hbS, ?_, by simp; have := h.lt; omega, fun i hi him => ?_⟩
  · rw [List.getD_eq_getElem?_getD, List.getElem?_append_left h.lt, ← List.getD_eq_getElem?_getD]; exact h.at_
  · rcases Nat.lt_or_ge i m with h5 | h5
    · exact (getD_set hbS _).2 (.inl (h.told i hi h5))
    · obtain rfl : i = m := by omega
      refine (getD_set hbS _).2 (.inr ?_)
      rw [hb]; rfl

theorem BfsIn.next {g : List Nat} {S0 : List Bool} {a k : Nat} {p : Int} {N : List Int} {S : List Bool} {P : List Int} (h : BfsIn g S0 a k p N S P N.length) (hN : N = nbL g p) : GoneTo g S P (k + 1) := by
  intro i hi x hx
  rcases Nat.lt_or_ge i k with h1 | h1
  · exact h.gone i h1 x hx
  · obtain rfl : i = k := by omega
    rw [h.at_, ← hN] at hx
    obtain ⟨j, hj, rfl⟩ := List.getElem_of_mem hx
    exact h.told j hj hj

end Go.Proofs.YtcglbopmfdilfaaDoor
