/-
  Contracts as the laws of layer 2 want them.
-/
import Derived.Test.YtafpecdmaogohaaGreatLawShown2
import Derived.Test.YtafpecdmaogohaaGreatLawSmall
import Derived.Test.YtafpecdmaogohaaGreatFrame2
namespace Go.Proofs.YtafpecdmaogohaaGreat
open Go.RowKit
set_option linter.unusedVariables false
set_option linter.unusedSimpArgs false
set_option maxRecDepth 20000

theorem RelV.ints {w : World} {x y : Value} {s : List Int} {ll : List (List Int)} (h : RelV w (.agg #[x, y]) s ll) : Ints w x s := by obtain ⟨_, _, e, h, _⟩ := h; cases e; exact h
theorem RelV.tups {w : World} {x y : Value} {s : List Int} {ll : List (List Int)} (h : RelV w (.agg #[x, y]) s ll) : Tups w y ll := by obtain ⟨_, _, e, _, h⟩ := h; cases e; exact h

/-- The fields of a struct value. -/
theorem run_rows (a a' : Option Addr) (n n' c c' : Nat) (w : World) : (Instr.field 29 (.agg #[.slice a n c, .slice a' n' c']) 1).run Tryz.prog w = .ok (.slice a' n' c') w := by kernel_rfl
theorem run_scheme (a a' : Option Addr) (n n' c c' : Nat) (w : World) : (Instr.field 29 (.agg #[.slice a n c, .slice a' n' c']) 0).run Tryz.prog w = .ok (.slice a n c) w := by kernel_rfl

/-- A relation as Small makes them. -/
structure Good (s : List Int) (ll : List (List Int)) : Prop where
  asc : Asc s
  pos : ∀ x ∈ s, 0 ≤ x
  asl : AscL ll
  wide : ∀ t ∈ ll, t.length = s.length
  slen : s.length ≤ 1000
  llen : ll.length ≤ 5000

theorem good_small (sc : List Int) (rows : List (List Int)) : Good (smallS sc) (smallR sc rows) :=
  ⟨smallS_asc sc, fun x hx => (smallS_mem hx).1, smallR_asc sc rows, fun t ht => smallR_wide ht, by have := smallS_len sc; omega, by have := smallR_len sc rows; omega⟩

theorem ascB_iff : ∀ l : List (List Int), ascB l = true ↔ AscL l
  | [] => by simp [ascB, AscL]
  | [x] => by simp [ascB, AscL]
  | x :: y :: r => by
    have ih := ascB_iff (y :: r)
    simp only [ascB, Bool.and_eq_true, decide_eq_true_eq, ih, AscL, List.pairwise_cons]
    constructor
    · rintro ⟨h, h1, h2⟩
      refine ⟨?_, h1, h2⟩
      intro z hz
      rcases List.mem_cons.1 hz with rfl | hz
      · exact h
      · exact cmpL_trans h (h1 z hz)
    · rintro ⟨h, h1, h2⟩
      exact ⟨h y (by simp), h1, h2⟩

theorem headB_of {s : List Int} (h : ∀ x ∈ s, 0 ≤ x) : headB s = true := by
  cases s with
  | nil => rfl
  | cons x r => simpa [headB] using h x (by simp)

theorem Good.right {s : List Int} {ll : List (List Int)} (h : Good s ll) : rightL s ll = true := by
  unfold rightL rightS wideB
  rw [(risB_iff s).2 h.asc, headB_of h.pos, (ascB_iff ll).2 h.asl]
  simp only [Bool.and_true, Bool.true_and, List.all_eq_true, decide_eq_true_eq]
  exact fun t ht => by rw [h.wide t ht]

theorem Good.none {s : List Int} {ll : List (List Int)} (h : Good s ll) : Good s [] :=
  ⟨h.asc, h.pos, by simp [AscL], by simp, h.slen, by simp⟩

theorem project_rel {s vars : List Int} {ll : List (List Int)} {v vv : Value} {w : World} (h : RelV w v s ll) (hv : Ints w vv vars) (g : Good s ll) (hvl : vars.length < 100000000) :
    Calls Tryz.prog 31 #[v, vv] w fun e w' => ∃ u, e = .returned u ∧ RelV w' u (meetL s vars) (projL s ll vars) ∧ Below w.heap.size w w' :=
  project_any h hv (Asc.nodup g.asc) (by have := g.llen; omega) (by have := g.slen; omega) hvl

theorem union_good {s : List Int} {ll ll' : List (List Int)} (g : Good s ll) (g' : Good s ll') (hl : ll.length + ll'.length ≤ 5000) : Good s (unionL ll ll') := by
  have hm : ∀ t, t ∈ unionL ll ll' ↔ t ∈ ll ++ ll' := (sortL_spec _).2
  refine ⟨g.asc, g.pos, (sortL_spec _).1, fun t ht => ?_, g.slen, ?_⟩
  · rcases List.mem_append.1 ((hm t).1 ht) with h | h
    · exact g.wide t h
    · exact g'.wide t h
  · have := sortL_le (ll ++ ll'); simp at this; unfold unionL; omega

theorem mem_union {ll ll' : List (List Int)} {t : List Int} : t ∈ unionL ll ll' ↔ t ∈ ll ∨ t ∈ ll' := by
  unfold unionL; rw [(sortL_spec _).2, List.mem_append]
theorem asc_union (ll ll' : List (List Int)) : AscL (unionL ll ll') := (sortL_spec _).1

theorem union_nil {ll : List (List Int)} (h : AscL ll) : unionL ll [] = ll := by unfold unionL; rw [List.append_nil]; exact sortL_asc h
theorem nil_union {ll : List (List Int)} (h : AscL ll) : unionL [] ll = ll := sortL_asc h

end Go.Proofs.YtafpecdmaogohaaGreat
