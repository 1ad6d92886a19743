/-
  The contract of Join.
-/
import Derived.Test.YtcglbopmfdilfaaDoorGJoin
namespace Go.Proofs.YtcglbopmfdilfaaDoor
open Go.RowKit
set_option linter.unusedVariables false
set_option linter.unusedSimpArgs false
set_option maxRecDepth 20000

/-- A literal of one-cell values that lies in a block. -/
theorem gLit_at {α : Type} {enc : α → Value} {W : World} {b n : Nat} {c : Array Value} {e : TypeId} {fr : Nat × Nat} {l : List α} (h : W.heap[b]? = some (.cells c e fr)) (hc : c.toList = l.map enc) (hn : n = l.length) (hs : n ≤ 1000) : Seq enc W (.slice (some ⟨b, 0, none⟩) n n) l := by
  subst hn
  refine ⟨_, _, rfl, Nat.le_refl _, by unfold maxLen; omega, by simp, by rintro x h _; cases h; rfl, fun i y hi => ⟨_, rfl, ?_⟩⟩
  have e1 : c.toList[i]? = (l.map enc)[i]? := by rw [hc]
  rw [List.getElem?_map, hi] at e1
  simp only [World.cell?, h]
  simpa using e1

set_option maxHeartbeats 4000000 in
theorem join_any {g : List Nat} {a b : Int} {x : Value} {w : World} (hg : Words w x g) (hn : g.length ≤ 64) (hw : W64 g) :
    Calls Tryd.prog 55 #[.agg #[x], .int .i64 a, .int .i64 b] w fun e w' => ∃ y, e = .returned (.agg #[y]) ∧ OwnW w.heap.size w' y (joinN g [a, b]) ∧ Below w.heap.size w w' := by
  obtain ⟨W1, hW1⟩ : ∃ W, W = (w.alloc (.cells #[x] 29)).alloc (.cells #[.slice none 0 0] 29) := ⟨_, rfl⟩
  have hb1 : Below w.heap.size w W1 := by rw [hW1]; exact ((Below.refl _ _).alloc (Nat.le_refl _) _).alloc (by simp) _
  have hz1 : W1.heap.size = w.heap.size + 2 := by rw [hW1]; simp
  have hx1 : BoxG W1 w.heap.size x := by rw [hW1]; exact (BoxG.new w x).below ((Below.refl _ _).alloc (Nat.le_refl _) _) (by simp)
  have hx2 : BoxG W1 (w.heap.size + 1) (.slice none 0 0) := by rw [hW1]; have := BoxG.new (w.alloc (.cells #[x] 29)) (.slice none 0 0); simpa using this
  have HCL := hide (cloneW_any (hg.below hb1) (by omega))
  have HX2 := hide hx2
  have y0 := hx1.cell
  have HB := hide hb1
  have HW1 := hide hW1
  obtain ⟨ax, cx, rfl, hlx, hcx⟩ := hg.form
  clear hb1 hx1 hg hW1 hx2
  go_enter Tryd.func55, Tryd.ntmps55
  go_wp2_with fail
  rw [← unhide HW1]
  go_wp2_with fail
  refine (unhide HCL).mono ?_
  rintro e w2 ⟨y, rfl, hown2, hb2⟩
  obtain ⟨ay, cy, rfl, hly, hcy⟩ := (Seq.of_own hown2).form
  unfold maxLen at hcy
  have hz2 := hb2.size
  have hx3 := BoxG.new w2 (.slice ay g.length cy)
  have hb3 : Below w2.heap.size w2 ((w2.alloc (.cells #[.slice ay g.length cy] 29)).alloc (.cells #[.int .i64 a, .int .i64 b] 3)) := ((Below.refl _ _).alloc (Nat.le_refl _) _).alloc (by simp) _
  have hl3 : Ints ((w2.alloc (.cells #[.slice ay g.length cy] 29)).alloc (.cells #[.int .i64 a, .int .i64 b] 3)) (.slice (some ⟨w2.heap.size + 1, 0, none⟩) 2 2) [a, b] := by
    have := heap_alloc_new (w2.alloc (.cells #[.slice ay g.length cy] 29)) (.cells #[.int .i64 a, .int .i64 b] 3)
    rw [World.size_alloc] at this
    exact gLit_at this rfl rfl (by simp)
  have hap : Apart (.slice (some ⟨w2.heap.size + 1, 0, none⟩) 2 2) [a, b] (.slice ay g.length cy) := fun _ g' h1 h2 => by
    have h3 := hown2.lt g' h2
    simp [Value.ownBlock] at h1
    omega
  have hlt := fun b hb => hown2.lt b hb
  have hj := joinAll_any (own_below hown2 hb3) hn hw hl3 hap (by simp; omega)
  have HJ := hide hj
  have HX3 := hide (hx3.below ((Below.refl _ (w2.alloc (.cells #[.slice ay g.length cy] 29))).alloc (Nat.le_refl _) (.cells #[.int .i64 a, .int .i64 b] 3)) (by simp))
  have HB3 := hide (hb2.trans (hb3.mono hz2))
  have HLT := hide hlt
  clear HCL HW1 y0 hj hl3 hap hb3 hown2 hb2 hlt hx3
  go_wp2_with fail
  refine (unhide HJ).mono ?_
  rintro e w4 ⟨rfl, hown4, hb4, hk4⟩
  have hw4 : w2.heap.size + 2 ≤ w4.heap.size := by have := hk4.size; simpa using this
  have q1 := hk4.cell (unhide HX3).cell (fun e => by have := (unhide HLT _ e).2; simp at this)
  have hBW : Below W1.heap.size W1 w4 := (unhide HB3).trans hb4
  have q2 := ((unhide HX2).below hBW (by omega)).cell
  have q3 := ((unhide HX2).below hBW (by omega)).frozen
  have hst := ownsRow_setCell_below hown4 (a := ⟨w.heap.size + 1, 0, none⟩) (by show w.heap.size + 1 < W1.heap.size; omega) (.slice ay g.length cy)
  have HST := hide hst
  have HBW := hide ((unhide HB).trans (hBW.mono (by omega)))
  clear hst hown4 hb4 hk4 hBW HJ HX3 HB3 HLT
  go_wp2
  refine bodyPost_ret (v := .agg #[.slice ay g.length cy]) (by simp [results, Tryd.results55, go_sem, q2]) rfl ⟨_, rfl, own_mono (unhide HST) (by omega), (unhide HBW).setCell (Nat.le_succ _) _⟩

end Go.Proofs.YtcglbopmfdilfaaDoor
