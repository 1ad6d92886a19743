/-
  What is handed in, as our own words have it: slices of numbers, slices of such slices.
-/
import Derived.Test.YtcglbopmfdilfaaDoorApp2
import Derived.ProofKit
import Derived.OpenShut
import Derived.ShutString
import Derived.ChangeOld
import Derived.Deep.Matrix
namespace Go.Proofs.YtcglbopmfdilfaaDoor
open Go.RowKit Go.ChangeShapes Go.WideShapes Go.ChangeAt
set_option linter.unusedVariables false
set_option linter.unusedSimpArgs false

theorem own : ownKnob Tryd.prog.godebug = none := by kernel_rfl
theorem laidOut : laidOutB Tryd.prog = true := by kernel_rfl

def InI64 (n : Int) : Prop := -9223372036854775808 ≤ n ∧ n ≤ 9223372036854775807

theorem wf_in {n : Int} (h : (Lit.int .i64 n).wf = true) : InI64 n := by unfold InI64; simpa [Lit.wf, IntKind.min, IntKind.max, IntKind.signed, IntKind.bits] using h

theorem ints_of {w : World} {x : Addr} {len cap : Nat} {zs : List Int} (hl : len ≤ cap) (hm : cap ≤ maxLen) (hz : zs.length = cap) (hcell : ∀ i, i < zs.length → w.cell? (x.add i) = some (.int .i64 (zs.getD i 0))) : Ints w (.slice (some x) len cap) (zs.take len) := by
  have hspot : 0 < zs.length → x.spot = none := by
    intro h
    have := hcell 0 h
    simp only [Addr.add, if_true, World.cell?] at this
    split at this
    · split at this
      · cases this
      · rename_i hs; cases hx : x.spot with
        | none => rfl
        | some y => rw [hx] at hs; simp at hs
    · cases this
  refine ⟨some x, cap, by rw [List.length_take, Nat.min_eq_left (by omega)], by simp; omega, hm, by simp, ?_, fun i y hi => ⟨x, rfl, ?_⟩⟩
  · intro x' hx' hne
    cases hx'
    refine hspot ?_
    cases zs with
    | nil => simp at hne
    | cons _ _ => simp
  · have hil : i < len := by
      rcases Nat.lt_or_ge i len with h | h
      · exact h
      · rw [List.getElem?_eq_none (by simp; omega)] at hi; cases hi
    have := hcell i (by omega)
    rw [addr_add (hspot (by omega))] at this
    rw [List.getElem?_take, if_pos hil] at hi
    rw [this, List.getD_eq_getElem?_getD, hi]
    rfl

theorem read_ints {H : Type} {enc : TypeId × Value → H} {W : World} {v : Value} {d : DataW H} {ps : List MemPlace} {base : Nat} {held : Bool} (h : DataW.Trod enc Tryd.prog W base (fun _ => true) held 23 v d ps) (hv : ∃ a n c, v = .slice a n c) :
    ∃ l, Ints W v l ∧ ∀ n ∈ l, InI64 n := by
  obtain ⟨a, n, c, rfl⟩ := hv
  obtain ⟨fuel, hf⟩ := h
  rcases open_ints Tryd.underlying23 Tryd.underlying3 (by kernel_rfl) hf with ⟨hcs, _⟩ | ⟨x, l, c', zs, hcs, _, hl, hm, hz, _, hcell, hwz⟩
  · simp [Value.cells] at hcs
    obtain ⟨rfl, rfl, rfl⟩ := hcs
    exact ⟨[], Seq.nil _ _, by simp⟩
  · simp [Value.cells] at hcs
    obtain ⟨rfl, rfl, rfl⟩ := hcs
    exact ⟨zs.take n, ints_of hl hm (by simpa using hz) hcell, fun k hk => wf_in (hwz k (List.mem_of_mem_take hk))⟩

theorem row_form {w : World} {a : Option Addr} {n c : Nat} {z : List Int} (h1 : n ≤ c) (h2 : c ≤ maxLen) (h3 : z.length = c) (h4 : a = none → c = 0) (h5 : ∀ a', a = some a' → ∀ k, k < c → w.cell? (a'.add k) = some (.int .i64 (z.getD k 0))) : Ints w (.slice a n c) (z.take n) := by
  cases a with
  | none =>
    have := h4 rfl
    subst this
    have hz : z = [] := List.length_eq_zero_iff.1 h3
    subst hz
    have hn : n = 0 := by omega
    subst hn
    exact Seq.nil _ _
  | some x => exact ints_of h1 h2 h3 (fun i hi => h5 x rfl i (by omega))

theorem read_tups {H : Type} {enc : TypeId × Value → H} {W : World} {v : Value} {d : DataW H} {ps : List MemPlace} {base : Nat} {held : Bool} (h : DataW.Trod enc Tryd.prog W base (fun _ => true) held 22 v d ps) (hv : ∃ a n c, v = .slice a n c) :
    ∃ ll, Tups W v ll ∧ ∀ l ∈ ll, ∀ n ∈ l, InI64 n := by
  obtain ⟨a, n, c, rfl⟩ := hv
  obtain ⟨fuel, hf⟩ := h
  rcases Go.Deep.open_int_rows Tryd.underlying22 Tryd.underlying23 Tryd.underlying3 (by kernel_rfl) (by kernel_rfl) hf with ⟨hcs, _⟩ | ⟨x, len, cap, A, L, C, Z, hcs, _, hl, hm, _, hr⟩
  · simp [Value.cells] at hcs
    obtain ⟨rfl, rfl, rfl⟩ := hcs
    exact ⟨[], ⟨[], Seq.nil _ _, rfl, fun i h => by simp at h⟩, by simp⟩
  · simp [Value.cells] at hcs
    obtain ⟨rfl, rfl, rfl⟩ := hcs
    have hspot : 0 < c → x.spot = none := by
      intro h
      have := (hr 0 h).1
      simp only [Addr.add, if_true, World.cell?] at this
      split at this
      · split at this
        · cases this
        · rename_i hs; cases hx : x.spot with
          | none => rfl
          | some y => rw [hx] at hs; simp at hs
      · cases this
    refine ⟨(List.range n).map fun r => (Z r).take (L r), ⟨(List.range n).map fun r => .slice (A r) (L r) (C r), ⟨some x, c, by simp, by simpa using hl, hm, by simp, ?_, fun i y hi => ⟨x, rfl, ?_⟩⟩, by simp, ?_⟩, ?_⟩
    · intro x' hx' hne
      cases hx'
      refine hspot ?_
      cases n with
      | zero => simp at hne
      | succ k => omega
    · have hin : i < n := by
        rcases Nat.lt_or_ge i n with h | h
        · exact h
        · rw [List.getElem?_eq_none (by simpa using h)] at hi; cases hi
      have := (hr i (by omega)).1
      rw [addr_add (hspot (by omega))] at this
      simp [hin] at hi
      rw [this, ← hi]
      rfl
    · intro i hi hi'
      have hin : i < n := by simpa using hi
      obtain ⟨_, k1, k2, k3, k4, k5, k6⟩ := hr i (by omega)
      simp only [List.getElem_map, List.getElem_range]
      exact row_form k1 k2 k3 k5 (fun a' ha' => (k6 a' ha').2)
    · intro l hl' k hk
      simp only [List.mem_map, List.mem_range] at hl'
      obtain ⟨r, hr', rfl⟩ := hl'
      obtain ⟨_, k1, k2, k3, k4, k5, k6⟩ := hr r (by omega)
      exact wf_in (k4 k (List.mem_of_mem_take hk))

/-- 't[:min(len(t), K)]', as the walk writes its length. -/
theorem Seq.cut {α : Type} {enc : α → Value} {w : World} {a : Option Addr} {n cap : Nat} {l : List α} (h : Seq enc w (.slice a n cap) l) (K : Nat) : Seq enc w (.slice a (min (l.length : Int) (K : Int)).toNat cap) (l.take K) := by
  have e : (min (l.length : Int) (K : Int)).toNat = min l.length K := by omega
  have e2 : l.take K = l.take (min l.length K) := by rw [List.take_eq_take_iff]; omega
  rw [e, e2]
  exact h.take (by omega)

end Go.Proofs.YtcglbopmfdilfaaDoor
