/-
  Union of unlike schemes; the contract of the document's Union.
-/
import Derived.Test.YtcndapakkkaojaaGreatDoorRelUnion
namespace Go.Proofs.YtcndapakkkaojaaGreatDoor
open Go.RowKit
set_option linter.unusedVariables false
set_option linter.unusedSimpArgs false
set_option maxRecDepth 20000

set_option maxHeartbeats 4000000 in
theorem union_no {s s' : List Int} {ll ll' : List (List Int)} {v v' : Value} {w : World} (h : RelV w v s ll) (h' : RelV w v' s' ll') (hs : s ≠ s') :
    Calls Tryz.prog 28 #[v, v'] w fun e w' => e = .returned (.tuple #[.agg #[.slice none 0 0, .slice none 0 0], .int .i64 1]) ∧ Below w.heap.size w w' := by
  obtain ⟨a, ca, b, cb, rfl, k1, k2, k3, k4, hs1, ht1⟩ := h.form
  obtain ⟨a', ca', b', cb', rfl, k1', k2', k3', k4', hs2, ht2⟩ := h'.form
  unfold maxLen at k2 k4 k2' k4'
  obtain ⟨W0, hW0⟩ : ∃ W, W = ((w.alloc (.cells #[.slice a s.length ca, .slice b ll.length cb] 27)).alloc (.cells #[.slice a' s'.length ca', .slice b' ll'.length cb'] 27)).alloc (.cells #[.slice none 0 0, .slice none 0 0] 27) := ⟨_, rfl⟩
  have hb0 : Below w.heap.size w W0 := by rw [hW0]; exact (b2x w _ _).alloc (by simp; omega) _
  have hbx2 : Box W0 (w.heap.size + 1 + 1) (.slice none 0 0) (.slice none 0 0) := by
    rw [hW0]; have := Box.new ((w.alloc (.cells #[.slice a s.length ca, .slice b ll.length cb] 27)).alloc (.cells #[.slice a' s'.length ca', .slice b' ll'.length cb'] 27)) (.slice none 0 0) (.slice none 0 0); simpa using this
  have HE := hide (Calls.toBelow (equal_any (hs1.below hb0) (hs2.below hb0)))
  rw [show sameL s s' = false by simpa [sameL] using hs] at HE
  have HW0 := hide hW0
  have hzw := hb0.size
  clear h h' hW0 hs
  go_enter Tryz.func28, Tryz.ntmps28
  go_wp2_with fail
  rw [← unhide HW0]
  refine (unhide HE).mono ?_
  rintro e w1 ⟨rfl, hb1⟩
  replace hbx2 := hbx2.belowH hb1
  have hbel1 := hb0.trans (hb1.mono hzw)
  have hd0 := hbx2.cell0
  have hd1 := hbx2.cell1
  have hg0 := hbx2.frozen 0
  have hg1 := hbx2.frozen 1
  clear HE
  go_wp2
  refine bodyPost_ret (v := .tuple #[.agg #[.slice none 0 0, .slice none 0 0], .int .i64 1]) (by simp [results, Tryz.results28, go_sem, hd0, hd1]) rfl ⟨rfl, below_store hbel1 (by omega) _ _⟩

theorem ownT_push {B : Nat} {wr W : World} (hB : B ≤ wr.heap.size) (h4 : W.heap = wr.heap.push (.cells #[] 22)) : OwnT B W (.slice (some ⟨wr.heap.size, 0, none⟩) 0 0) [] := ⟨[], own_pushV hB h4, rfl, fun i h => by simp at h⟩
theorem apartA {α : Type} {B : Nat} {w : World} {u : Value} {l : List α} (h : New B w u) : Apart u l (.slice (some ⟨w.heap.size, 0, none⟩) 0 0) := fun _ g h1 h2 => by
  have := h g h1
  have e : w.heap.size = g := by simpa [Value.ownBlock] using h2
  omega
theorem apartB {α : Type} {B n : Nat} {w : World} {u : Value} {l : List α} (h : New B w u) (hB : n < B) : Apart u l (.slice (some ⟨n, 0, none⟩) 0 0) := fun _ g h1 h2 => by
  have := h g h1
  have e : n = g := by simpa [Value.ownBlock] using h2
  omega

end Go.Proofs.YtcndapakkkaojaaGreatDoor
