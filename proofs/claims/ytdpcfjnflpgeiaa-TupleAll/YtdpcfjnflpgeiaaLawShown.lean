/-
  The contract of shown: it answers true.
-/
import Derived.Test.YtdpcfjnflpgeiaaTupSort
import Derived.Test.YtdpcfjnflpgeiaaTupPick
import Derived.Test.YtdpcfjnflpgeiaaTupMrg
namespace Go.Proofs.Ytdpcfjnflpgeiaa
open Go.RowKit
set_option linter.unusedVariables false
set_option linter.unusedSimpArgs false
set_option maxRecDepth 20000

theorem lit_at {W : World} {b n : Nat} {c : Array Value} {e : TypeId} {fr : Nat × Nat} {l : List Int} (h : W.heap[b]? = some (.cells c e fr)) (hc : c.toList = l.map (Value.int .i64)) (hn : n = l.length) (hs : n ≤ 1000) : Ints W (.slice (some ⟨b, 0, none⟩) n n) l := by
  subst hn
  refine ⟨_, _, rfl, Nat.le_refl _, by unfold maxLen; omega, by simp, by rintro x h _; cases h; rfl, fun i y hi => ⟨_, rfl, ?_⟩⟩
  have e1 : c.toList[i]? = (l.map (Value.int .i64))[i]? := by rw [hc]
  rw [List.getElem?_map, hi] at e1
  simp only [World.cell?, h]
  simpa using e1

theorem litV_at {W : World} {b n : Nat} {c : Array Value} {e : TypeId} {fr : Nat × Nat} {vs : List Value} (h : W.heap[b]? = some (.cells c e fr)) (hc : c.toList = vs) (hn : n = vs.length) (hs : n ≤ 1000) : Seq id W (.slice (some ⟨b, 0, none⟩) n n) vs := by
  subst hn
  refine ⟨_, _, rfl, Nat.le_refl _, by unfold maxLen; omega, by simp, by rintro x h _; cases h; rfl, fun i y hi => ⟨_, rfl, ?_⟩⟩
  have e1 : c.toList[i]? = vs[i]? := by rw [hc]
  rw [hi] at e1
  simp only [World.cell?, h]
  simpa using e1

theorem b1 (w : World) (o : Obj) : Below w.heap.size w (w.alloc o) := (Below.refl _ _).alloc (Nat.le_refl _) _
theorem b2 (w : World) (o p : Obj) : Below w.heap.size w ((w.alloc o).alloc p) := (b1 w o).alloc (by simp) _
theorem h1 (w : World) (o : Obj) : (w.alloc o).heap[w.heap.size]? = some o := heap_alloc_new w o
theorem ho {w : World} {o : Obj} {k : Nat} (h : k < w.heap.size) : (w.alloc o).heap[k]? = w.heap[k]? := Below.heap_alloc _ _ _ h
theorem h2 (w : World) (o p : Obj) : ((w.alloc o).alloc p).heap[w.heap.size]? = some o := by rw [ho (by simp)]; exact h1 w o
theorem h2' (w : World) (o p : Obj) : ((w.alloc o).alloc p).heap[w.heap.size + 1]? = some p := by have := h1 (w.alloc o) p; simpa using this

theorem mrg_shown1 : mrg kNot [] [3] = [] := by simp [mrg, kNot]
theorem mrg_shown2 : mrg kNot [3] [] = [3] := by simp [mrg, kNot]

set_option maxHeartbeats 4000000 in
theorem shown_any (w : World) : Calls Try.prog 12 #[] w fun e w' => e = .returned (.bool true) ∧ Below w.heap.size w w' := by
  have hsort : sortL [[2], [1, 5], [2]] = [[1, 5], [2]] := by decide
  have hlow : lowN [[1, 5], [2]] [2] = 1 := by decide
  have hat : isAt [[1, 5], [2]] [2] 1 = true := by decide
  have hasc : AscL [[1, 5], [2]] := by decide
  have hcmp : cmpL [1] [1, 0] = -1 := by decide
  have hpick : pickL [4, 5] [1, 7] = [5] := by decide
  have hr1 : risB [1, 2] = true := by decide
  have hr2 : risB [1, 1] = false := by decide
  have H := hide (And.intro hsort (And.intro hlow (And.intro hat (And.intro hasc (And.intro hcmp (And.intro hpick (And.intro hr1 hr2)))))))
  clear hsort hlow hat hasc hcmp hpick hr1 hr2
  go_enter Try.func12, Try.ntmps12
  go_wp2_with fail
  refine (sort_any (ll := [[2], [1, 5], [2]]) ⟨[.slice (some ⟨w.heap.size, 0, none⟩) 1 1, .slice (some ⟨w.heap.size + 1, 0, none⟩) 2 2, .slice (some ⟨w.heap.size + 1 + 1, 0, none⟩) 1 1], litV_at (by have := h1 (((w.alloc (.cells #[.int .i64 2] 3)).alloc (.cells #[.int .i64 1, .int .i64 5] 3)).alloc (.cells #[.int .i64 2] 3)) (.cells #[.slice (some ⟨w.heap.size, 0, none⟩) 1 1, .slice (some ⟨w.heap.size + 1, 0, none⟩) 2 2, .slice (some ⟨w.heap.size + 1 + 1, 0, none⟩) 1 1] 23); simpa using this) rfl rfl (by simp), rfl, ?_⟩ (by decide) (by decide)).mono ?_
  · intro i hi hi'
    match i, hi, hi' with
    | 0, _, _ => exact lit_at (by rw [ho (by simp; omega), ho (by simp; omega), ho (by simp)]; exact h1 _ _) rfl rfl (by simp)
    | 1, _, _ => exact lit_at (by rw [ho (by simp), ho (by simp)]; exact h2' _ _ _) rfl rfl (by simp)
    | 2, _, _ => exact lit_at (by rw [ho (by simp)]; have := h2' (w.alloc (.cells #[.int .i64 2] 3)) (.cells #[.int .i64 1, .int .i64 5] 3) (.cells #[.int .i64 2] 3); simpa using this) rfl rfl (by simp)
  rintro e w1 ⟨vl, rfl, hl, hn, hb⟩
  have hB1 : Below w.heap.size w w1 := (((b2 w _ _).alloc (by simp; omega) _).alloc (by simp; omega) _).trans (hb.mono (by simp; omega))
  rw [(unhide H).1] at hl
  obtain ⟨la, lc, hle, _, _⟩ := hl.form
  rw [hle] at hl ⊢
  have hz1 := hB1.size
  clear hb hn hle
  go_wp2_with fail
  refine (Calls.toBelow (find_any (hl.below (b1 _ _)) (lit_at (l := [2]) (h1 _ _) rfl rfl (by simp)) (unhide H).2.2.2.1 (by decide))).mono ?_
  rintro e w2 ⟨rfl, hb⟩
  rw [(unhide H).2.1, (unhide H).2.2.1]
  have hB2 : Below w.heap.size w w2 := (hB1.alloc hz1 _).trans (hb.mono (by simp; omega))
  have hz2 := hB2.size
  clear hb hl hB1 hz1
  go_wp2_with fail
  refine (Calls.toBelow (compare_any (lit_at (l := [1]) (h2 _ _ _) rfl rfl (by simp)) (lit_at (l := [1, 0]) (h2' _ _ _) rfl rfl (by simp)))).mono ?_
  rintro e w3 ⟨rfl, hb⟩
  rw [(unhide H).2.2.2.2.1]
  have hB3 : Below w.heap.size w w3 := ((hB2.alloc hz2 _).alloc (by simp; omega) _).trans (hb.mono (by simp; omega))
  have hz3 := hB3.size
  clear hb hB2 hz2
  go_wp2_with fail
  refine (pick_any (lit_at (l := [4, 5]) (h2 _ _ _) rfl rfl (by simp)) (lit_at (l := [1, 7]) (h2' _ _ _) rfl rfl (by simp)) (by simp)).mono ?_
  rintro e w4 ⟨vp, rfl, hp, hnp, hb⟩
  rw [(unhide H).2.2.2.2.2.1] at hp
  obtain ⟨pa, pc, hpe, _, _⟩ := hp.form
  rw [hpe]
  have hB4 : Below w.heap.size w w4 := ((hB3.alloc hz3 _).alloc (by simp; omega) _).trans (hb.mono (by simp; omega))
  have hz4 := hB4.size
  clear hb hB3 hz3 hpe hp hnp
  go_wp2_with fail
  refine (Calls.toBelow (rising_any (lit_at (l := [1, 2]) (h1 _ _) rfl rfl (by simp)))).mono ?_
  rintro e w5 ⟨rfl, hb⟩
  rw [(unhide H).2.2.2.2.2.2.1]
  have hB5 : Below w.heap.size w w5 := (hB4.alloc hz4 _).trans (hb.mono (by simp; omega))
  have hz5 := hB5.size
  clear hb hB4 hz4
  go_wp2_with fail
  refine (Calls.toBelow (rising_any (lit_at (l := [1, 1]) (h1 _ _) rfl rfl (by simp)))).mono ?_
  rintro e w6 ⟨rfl, hb⟩
  rw [(unhide H).2.2.2.2.2.2.2]
  have hB6 : Below w.heap.size w w6 := (hB5.alloc hz5 _).trans (hb.mono (by simp; omega))
  have hz6 := hB6.size
  clear hb hB5 hz5
  go_wp2_with fail
  refine (within_any (Seq.nil _ _) (lit_at (l := [3]) (h1 _ _) rfl rfl (by simp)) (by simp)).mono ?_
  rintro e w7 ⟨rfl, hb⟩
  rw [mrg_shown1]
  have hB7 : Below w.heap.size w w7 := (hB6.alloc hz6 _).trans (hb.mono (by simp; omega))
  have hz7 := hB7.size
  clear hb hB6 hz6
  go_wp2_with fail
  refine (within_any (lit_at (l := [3]) (h1 _ _) rfl rfl (by simp)) (Seq.nil _ _) (by simp)).mono ?_
  rintro e w8 ⟨rfl, hb⟩
  rw [mrg_shown2]
  have hB8 : Below w.heap.size w w8 := (hB7.alloc hz7 _).trans (hb.mono (by simp; omega))
  clear hb hB7 hz7
  go_wp2
  go_ret
  exact ⟨rfl, hB8⟩

end Go.Proofs.Ytdpcfjnflpgeiaa
