/-
  The contracts of slices.Concat at two rows of rows, of Union, and of the document's Union.
-/
import Derived.Test.YtafpecdmaogohaaGreatRelBox
namespace Go.Proofs.YtafpecdmaogohaaGreat
open Go.RowKit
set_option linter.unusedVariables false
set_option linter.unusedSimpArgs false
set_option maxRecDepth 20000

/-- 't[:0]'. -/
theorem run_cut0 (a : Option Addr) (len cap : Nat) (w : World) :
    (Instr.slice 23 (.slice a len cap) none (some (.int .i64 0)) none).run Tryz.prog w = .ok (.slice a 0 cap) w := run_cutV a len cap 0 0 rfl (Nat.zero_le _) w

/-- A slice of two rows of rows. -/
theorem two_cells {w : World} {va vb : Value} {b : Nat} {t : TypeId} (h : w.heap[b]? = some (.cells #[va, vb] t (0, 0))) : w.cell? ⟨b, 0, none⟩ = some va ∧ w.cell? ⟨b, 0 + 1, none⟩ = some vb := by
  constructor <;> (simp only [World.cell?, h]; simp)

theorem OwnT.app {B : Nat} {w w' : World} {v v' : Value} {ll : List (List Int)} {vs us : List Value} {mm : List (List Int)} (h : OwnT B w v ll) (hvs : OwnV B w v vs) (hl : us.length = mm.length) (hu : ∀ i (h : i < us.length) (h' : i < mm.length), Ints w us[i] mm[i] ∧ Apart us[i] mm[i] v)
    (hown : OwnV B w' v' (vs ++ us)) (g : Grew B w w' v v') : OwnT B w' v' (ll ++ mm) := by
  obtain ⟨vs0, h1, h2, h3⟩ := h
  have e : vs0 = vs := (Seq.of_own (enc := id) (B := B) (e := 22) (l := vs0) (by simpa using h1)).unique (Seq.of_own (enc := id) (B := B) (e := 22) (l := vs) (by simpa using hvs)) (by
    obtain ⟨_, c1, e1, _, _⟩ := (Seq.of_own (enc := id) (B := B) (e := 22) (l := vs0) (by simpa using h1)).form
    obtain ⟨_, c2, e2, _, _⟩ := (Seq.of_own (enc := id) (B := B) (e := 22) (l := vs) (by simpa using hvs)).form
    rw [e1] at e2; injection e2)
  subst e
  refine ⟨vs0 ++ us, hown, by simp [h2, hl], fun i hi hi' => ?_⟩
  by_cases hiv : i < vs0.length
  · have hil : i < ll.length := by omega
    rw [List.getElem_append_left hiv, List.getElem_append_left hil]
    have := h3 i hiv hil
    exact ⟨this.1.grew g this.2, this.2.grew this.1 g⟩
  · have hiu : i - vs0.length < us.length := by simp at hi; omega
    have him : i - ll.length < mm.length := by simp at hi'; omega
    rw [List.getElem_append_right (by omega), List.getElem_append_right (by omega)]
    have := hu (i - vs0.length) hiu (by omega)
    simp only [h2] at this ⊢
    exact ⟨this.1.grew g this.2, this.2.grew this.1 g⟩

/-- Older rows are appended to the call's own. -/
theorem op_app_tups {w0 w : World} {o : Oper} {a : Act} {K : Act → World → Prop} {Q : Exit → Act → World → Prop} (s x : Operand)
    (ho : o.op = .call { callee := .builtin .append, args := #[s, x], argTypes := #[23, 23] }) {B : Nat} {v u : Value} {ll mm : List (List Int)} (hown : OwnT B w v ll) (hu : Tups w0 u mm) (hb : Below w0.heap.size w0 w) (hB0 : w0.heap.size ≤ B) (hs : a.eval s = v) (hB : B ≤ w.heap.size)
    (hx : a.eval x = u) (hlen : ll.length + mm.length < 100000000000)
    (h : ∀ v' w', OwnT B w' v' (ll ++ mm) → Grew B w w' v v' → K (a.put o.dst v') w') :
    o.wp Tryz.prog a w K Q := by
  have hown0 := hown
  obtain ⟨vs, h1, h2, h3⟩ := hown
  obtain ⟨us, k1, k2, k3⟩ := hu
  refine op_app_rows s x ho h1 hs hB (k1.below hb) hx (fun y hy => ?_) (by omega) fun v' w' q1 q2 => h v' w' ?_ q2
  · obtain ⟨i, hi, rfl⟩ := List.getElem_of_mem hy
    exact (k3 i hi (by omega)).one
  · exact OwnT.app hown0 h1 k2 (fun i hi hi' => ⟨(k3 i hi hi').below hb, (k3 i hi hi').apart (New.of_own h1) hB0⟩) q1 q2

theorem wp_app_tups {w0 w : World} {ops : Array Oper} {rest : List Oper} {o : Oper} {a : Act} {Q : Exit → Act → World → Prop} (hgd : o.guard = none) (s x : Operand)
    (ho : o.op = .call { callee := .builtin .append, args := #[s, x], argTypes := #[23, 23] }) {B : Nat} {v u : Value} {ll mm : List (List Int)} (hown : OwnT B w v ll) (hu : Tups w0 u mm) (hb : Below w0.heap.size w0 w) (hB0 : w0.heap.size ≤ B) (hs : a.eval s = v) (hB : B ≤ w.heap.size)
    (hx : a.eval x = u) (hlen : ll.length + mm.length < 100000000000)
    (h : ∀ v' w', OwnT B w' v' (ll ++ mm) → Grew B w w' v v' → wpList Tryz.prog ops Q rest (a.put o.dst v') w') :
    wpList Tryz.prog ops Q (o :: rest) a w :=
  wpList_plain hgd fun _ hK => op_app_tups s x ho hown hu hb hB0 hs hB hx hlen fun v' w' h1 h2 => hK _ _ (h v' w' h1 h2)

/-- The rows of both. -/
def unionL (la lb : List (List Int)) : List (List Int) := sortL (la ++ lb)

end Go.Proofs.YtafpecdmaogohaaGreat
