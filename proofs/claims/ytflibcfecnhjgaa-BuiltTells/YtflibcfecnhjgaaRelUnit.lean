/-
  The contract of Unit.
-/
import Derived.Test.YtflibcfecnhjgaaRelRight
import Derived.Test.YtflibcfecnhjgaaApp3
namespace Go.Proofs.Ytflibcfecnhjgaa
open Go.RowKit
set_option linter.unusedVariables false
set_option linter.unusedSimpArgs false
set_option maxRecDepth 20000

theorem litI_at {W : World} {b n : Nat} {c : Array Value} {e : TypeId} {fr : Nat × Nat} {l : List Int} (h : W.heap[b]? = some (.cells c e fr)) (hc : c.toList = l.map (Value.int .i64)) (hn : n = l.length) (hs : n ≤ 1000) : Ints W (.slice (some ⟨b, 0, none⟩) n n) l := by
  subst hn
  refine ⟨_, _, rfl, Nat.le_refl _, by unfold maxLen; omega, by simp, by rintro x h _; cases h; rfl, fun i y hi => ⟨_, rfl, ?_⟩⟩
  have e1 : c.toList[i]? = (l.map (Value.int .i64))[i]? := by rw [hc]
  rw [List.getElem?_map, hi] at e1
  simp only [World.cell?, h]
  simpa using e1

theorem litT_at {W : World} {b n : Nat} {c : Array Value} {e : TypeId} {fr : Nat × Nat} {vs : List Value} (h : W.heap[b]? = some (.cells c e fr)) (hc : c.toList = vs) (hn : n = vs.length) (hs : n ≤ 1000) : Seq id W (.slice (some ⟨b, 0, none⟩) n n) vs := by
  subst hn
  refine ⟨_, _, rfl, Nat.le_refl _, by unfold maxLen; omega, by simp, by rintro x h _; cases h; rfl, fun i y hi => ⟨_, rfl, ?_⟩⟩
  have e1 : c.toList[i]? = vs[i]? := by rw [hc]
  rw [hi] at e1
  simp only [World.cell?, h]
  simpa using e1

theorem alloc_at (w : World) (o : Obj) (k : Nat) : (w.alloc o).heap[k]? = if k = w.heap.size then some o else w.heap[k]? := by
  by_cases h : k = w.heap.size
  · subst h; rw [if_pos rfl]; exact heap_alloc_new w o
  · rw [if_neg h]
    unfold World.alloc
    rw [Array.getElem?_push, if_neg h]

end Go.Proofs.Ytflibcfecnhjgaa
