/-
  The contract of Union, with where the rows lie.
-/
import Derived.Test.YtmppialileoimaaRelUnion
namespace Go.Proofs.Ytmppialileoimaa
open Go.RowKit
set_option linter.unusedVariables false
set_option linter.unusedSimpArgs false
set_option maxRecDepth 20000

set_option maxHeartbeats 4000000 in
theorem union_new {s s' : List Int} {ll ll' : List (List Int)} {v v' : Value} {w : World} (h : RelV w v s ll) (h' : RelV w v' s' ll') (hs : s = s') (hl : ll.length < 10000) (hl' : ll'.length < 10000) (hsl : s.length < 100000000) (hrw : ∀ t ∈ ll ++ ll', t.length < 100000000) :
    Calls Try.prog 29 #[v, v'] w fun e w' => ∃ x y, e = .returned (.tuple #[.agg #[x, y], .int .i64 0]) ∧ RelV w' (.agg #[x, y]) s (unionL ll ll') ∧ New w.heap.size w' y ∧ Below w.heap.size w w' := by
  obtain ⟨a, ca, b, cb, rfl, k1, k2, k3, k4, hs1, ht1⟩ := h.form
  obtain ⟨a', ca', b', cb', rfl, k1', k2', k3', k4', hs2, ht2⟩ := h'.form
  unfold maxLen at k2 k4 k2' k4'
  obtain ⟨W0, hW0⟩ : ∃ W, W = ((w.alloc (.cells #[.slice a s.length ca, .slice b ll.length cb] 25)).alloc (.cells #[.slice a' s'.length ca', .slice b' ll'.length cb'] 25)).alloc (.cells #[.slice none 0 0, .slice none 0 0] 25) := ⟨_, rfl⟩
  have hb0 : Below w.heap.size w W0 := by rw [hW0]; exact (b2x w _ _).alloc (by simp; omega) _
  have hbx0 : Box W0 w.heap.size (.slice a s.length ca) (.slice b ll.length cb) := by rw [hW0]; exact ((Box.new w _ _).push _).push _
  have hbx1 : Box W0 (w.heap.size + 1) (.slice a' s'.length ca') (.slice b' ll'.length cb') := by
    rw [hW0]; have := (Box.new (w.alloc (.cells #[.slice a s.length ca, .slice b ll.length cb] 25)) (.slice a' s'.length ca') (.slice b' ll'.length cb')).push (.cells #[.slice none 0 0, .slice none 0 0] 25); simpa using this
  have hbx2 : Box W0 (w.heap.size + 1 + 1) (.slice none 0 0) (.slice none 0 0) := by
    rw [hW0]; have := Box.new ((w.alloc (.cells #[.slice a s.length ca, .slice b ll.length cb] 25)).alloc (.cells #[.slice a' s'.length ca', .slice b' ll'.length cb'] 25)) (.slice none 0 0) (.slice none 0 0); simpa using this
  have HE := hide (Calls.toBelow (equal_any (hs1.below hb0) (hs2.below hb0)))
  rw [sameL_iff.2 hs] at HE
  have HW0 := hide hW0
  have hzw := hb0.size
  have HRW := hide hrw
  clear h h' hW0 hs hrw
  go_enter Try.func29, Try.ntmps29
  go_wp2_with fail
  rw [← unhide HW0]
  refine (unhide HE).mono ?_
  rintro e w1 ⟨rfl, hb1⟩
  replace hbx0 := hbx0.belowH hb1
  replace hbx1 := hbx1.belowH hb1
  replace hbx2 := hbx2.belowH hb1
  have hbel1 := hb0.trans (hb1.mono hzw)
  have hc01 := hbx0.cell1
  have hc11 := hbx1.cell1
  have hc00 := hbx0.cell0
  have hb2 := (Below.refl w1.heap.size w1).alloc (Nat.le_refl _) (.cells #[.slice b ll.length cb, .slice b' ll'.length cb'] 23)
  have HC := hide (concat_any ((ht1.below hbel1).below hb2) ((ht2.below hbel1).below hb2) (heap_alloc_new w1 _) (by omega) (by omega))
  clear HE
  go_wp2_with fail
  refine (unhide HC).mono ?_
  rintro e w2 ⟨vc, rfl, hvc, _, hb3⟩
  have hb3' : Below w1.heap.size w1 w2 := hb2.trans (hb3.mono (by simp))
  have HS := hide (sort_any hvc (by simp; omega) (unhide HRW))
  replace hbx0 := hbx0.belowH hb3'
  replace hbx2 := hbx2.belowH hb3'
  have hbel2 := hbel1.trans (hb3'.mono (by have := hb1.size; omega))
  have hd00 := hbx0.cell0
  clear HC hvc hc01 hc11 hc00 hb3
  go_wp2_with fail
  refine (unhide HS).mono ?_
  rintro e w3 ⟨u3, rfl, hu3, hun3, hb4⟩
  obtain ⟨va, vc', hve, _, _⟩ := hu3.form
  rw [hve] at hu3 hun3 ⊢
  replace hbx0 := hbx0.belowH hb4
  replace hbx2 := hbx2.belowH hb4
  have hbel3 := hbel2.trans (hb4.mono (by have := hbel2.size; omega))
  have he00 := hbx0.cell0
  have HCL := hide (cloneI_any (hs1.below hbel3) hsl)
  clear HS hve hd00
  go_wp2_with fail
  refine (unhide HCL).mono ?_
  rintro e w4 ⟨u4, rfl, hu4, hb5⟩
  have hi4 := Seq.of_own hu4
  obtain ⟨ua, uc, hue, _, _⟩ := hi4.form
  rw [hue] at hi4 ⊢
  have hz2 := hbx2.lt
  have hz3 : w.heap.size + 1 + 1 < w2.heap.size := by
    have := (hbx2.lt)
    have h1 := hbel2.size
    have h5 := hb3'.size
    have h6 := hb1.size
    have h7 : w.heap.size + 1 + 1 < W0.heap.size := by rw [unhide HW0]; simp
    omega
  replace hbx2 := hbx2.belowH hb5
  have hd0 := hbx2.cell0
  have hd1 := hbx2.cell1
  have hg0 := hbx2.frozen 0
  have hg1 := hbx2.frozen 1
  have hbl := hbel3.trans (hb5.mono (by have := hbel3.size; omega))
  have ht4 := hu3.below hb5
  clear HCL hue hu4 he00
  go_wp2
  have hfin := rel_store hbx2.boxS hd0 hi4 ht4 (hun3.ne hz3)
  refine bodyPost_ret (v := .tuple #[.agg #[.slice ua s.length uc, .slice va (sortL (ll ++ ll')).length vc'], .int .i64 0]) (by simp [results, Try.results29, go_sem, hd0, hd1]) rfl ⟨_, _, rfl, hfin, ?_, below_store hbl (by omega) _ _⟩
  intro g hg
  have h1 := hun3 g hg
  have h2 := hb5.size
  have h3 := hbel2.size
  simp only [World.size_setCell]
  omega

end Go.Proofs.Ytmppialileoimaa
