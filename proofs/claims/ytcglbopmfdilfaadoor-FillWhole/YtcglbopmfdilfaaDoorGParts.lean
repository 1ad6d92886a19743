/-
  The contract of Parts.
-/
import Derived.Test.YtcglbopmfdilfaaDoorGPart2
namespace Go.Proofs.YtcglbopmfdilfaaDoor
open Go.RowKit
set_option linter.unusedVariables false
set_option linter.unusedSimpArgs false
set_option maxRecDepth 20000

/-- The call's own rows, none of which lies ahead of N. -/
def OwnTG (N B : Nat) (w : World) (v : Value) (ll : List (List Int)) : Prop :=
  ∃ vs : List Value, OwnV B w v vs ∧ vs.length = ll.length ∧ ∀ i (h : i < vs.length) (h' : i < ll.length), Ints w vs[i] ll[i] ∧ Apart vs[i] ll[i] v ∧ ∀ g, vs[i].ownBlock = some g → N ≤ g

theorem OwnTG.nil (N B : Nat) (w : World) : OwnTG N B w (.slice none 0 0) [] := ⟨[], own_nilV _ _, rfl, fun i h => by simp at h⟩
theorem OwnTG.ownT {N B : Nat} {w : World} {v : Value} {ll : List (List Int)} (h : OwnTG N B w v ll) : OwnT B w v ll := by
  obtain ⟨vs, h1, h2, h3⟩ := h
  exact ⟨vs, h1, h2, fun i hi hi' => ⟨(h3 i hi hi').1, (h3 i hi hi').2.1⟩⟩
theorem OwnTG.lt {N B : Nat} {w : World} {v : Value} {ll : List (List Int)} (h : OwnTG N B w v ll) (b : Nat) (hb : v.ownBlock = some b) : B ≤ b ∧ b < w.heap.size := by
  obtain ⟨vs, h1, _⟩ := h
  exact h1.lt b hb

theorem OwnTG.keeps {N B vb : Nat} {w w' : World} {v : Value} {ll : List (List Int)} (h : OwnTG N B w v ll) (hk : Keeps (fun b => b = vb) w w') (hN : vb < N) (hv : v.ownBlock ≠ some vb) : OwnTG N B w' v ll := by
  obtain ⟨vs, h1, h2, h3⟩ := h
  refine ⟨vs, own_same h1 (fun b hb => hk.block b (h1.lt b hb).2 (fun e => hv (by rw [← e]; exact hb))), h2, fun i hi hi' => ?_⟩
  obtain ⟨k1, k2, k3⟩ := h3 i hi hi'
  exact ⟨hk.seq k1 (fun _ g hg e => by have := k3 g hg; have e : g = vb := e; omega), k2, k3⟩

theorem OwnTG.snoc {N B : Nat} {w w' : World} {v v' u : Value} {vs : List Value} {ll : List (List Int)} {l : List Int} (hlen : vs.length = ll.length)
    (h3 : ∀ i (h : i < vs.length) (h' : i < ll.length), Ints w vs[i] ll[i] ∧ Apart vs[i] ll[i] v ∧ ∀ g, vs[i].ownBlock = some g → N ≤ g) (hu : Ints w u l) (ha : Apart u l v) (hx : ∀ g, u.ownBlock = some g → N ≤ g) (hown : OwnV B w' v' (vs ++ [u])) (g : Grew B w w' v v') : OwnTG N B w' v' (ll ++ [l]) := by
  refine ⟨vs ++ [u], hown, by simp [hlen], fun i hi hi' => ?_⟩
  by_cases hiv : i < vs.length
  · have hil : i < ll.length := by omega
    rw [List.getElem_append_left hiv, List.getElem_append_left hil]
    have := h3 i hiv hil
    exact ⟨this.1.grew g this.2.1, this.2.1.grew this.1 g, this.2.2⟩
  · have e : i = vs.length := by simp at hi; omega
    subst e
    rw [List.getElem_append_right (by omega), List.getElem_append_right (by omega)]
    simp only [hlen, Nat.sub_self, List.getElem_cons_zero]
    exact ⟨hu.grew g ha, ha.grew hu g, hx⟩

theorem wp_app_tupG {w : World} {ops : Array Oper} {rest : List Oper} {o : Oper} {a : Act} {Q : Exit → Act → World → Prop} (hgd : o.guard = none) (s x : Operand)
    (ho : o.op = .call { callee := .builtin .append, args := #[s, x], argTypes := #[22, 22] }) {N B : Nat} {v u : Value} {ll : List (List Int)} {l : List Int} (hown : OwnTG N B w v ll) (hu : Ints w u l) (ha : Apart u l v) (hx0 : ∀ g, u.ownBlock = some g → N ≤ g) (hs : a.eval s = v) (hB : B ≤ w.heap.size)
    (hx : a.eval x = .slice (some ⟨w.heap.size, 0, none⟩) 1 1) (hlen : ll.length < 100000000000)
    (h : ∀ v' w', OwnTG N B w' v' (ll ++ [l]) → Grew B w w' v v' → wpList Tryd.prog ops Q rest (a.put o.dst v') w') :
    wpList Tryd.prog ops Q (o :: rest) a (w.alloc (.cells #[u] 23)) := by
  obtain ⟨vs, h1, h2, h3⟩ := hown
  exact wp_app_row hgd s x ho h1 hs hB hx hu.one (by omega) fun v' w' k1 k2 => h v' w' (OwnTG.snoc h2 h3 hu ha hx0 k1 k2) k2

end Go.Proofs.YtcglbopmfdilfaaDoor
