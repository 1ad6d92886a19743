/-
  Union of unlike schemes; the contract of the document's Union.
-/
import Derived.Test.YtmppialileoimaaRelUnion
namespace Go.Proofs.Ytmppialileoimaa
open Go.RowKit
set_option linter.unusedVariables false
set_option linter.unusedSimpArgs false
set_option maxRecDepth 20000

set_option maxHeartbeats 4000000 in
theorem union_no {s s' : List Int} {ll ll' : List (List Int)} {v v' : Value} {w : World} (h : RelV w v s ll) (h' : RelV w v' s' ll') (hs : s ≠ s') :
    Calls Try.prog 29 #[v, v'] w fun e w' => e = .returned (.tuple #[.agg #[.slice none 0 0, .slice none 0 0], .int .i64 1]) ∧ Below w.heap.size w w' := by
  obtain ⟨a, ca, b, cb, rfl, k1, k2, k3, k4, hs1, ht1⟩ := h.form
  obtain ⟨a', ca', b', cb', rfl, k1', k2', k3', k4', hs2, ht2⟩ := h'.form
  unfold maxLen at k2 k4 k2' k4'
  obtain ⟨W0, hW0⟩ : ∃ W, W = ((w.alloc (.cells #[.slice a s.length ca, .slice b ll.length cb] 25)).alloc (.cells #[.slice a' s'.length ca', .slice b' ll'.length cb'] 25)).alloc (.cells #[.slice none 0 0, .slice none 0 0] 25) := ⟨_, rfl⟩
  have hb0 : Below w.heap.size w W0 := by rw [hW0]; exact (b2x w _ _).alloc (by simp; omega) _
  have hbx2 : Box W0 (w.heap.size + 1 + 1) (.slice none 0 0) (.slice none 0 0) := by
    rw [hW0]; have := Box.new ((w.alloc (.cells #[.slice a s.length ca, .slice b ll.length cb] 25)).alloc (.cells #[.slice a' s'.length ca', .slice b' ll'.length cb'] 25)) (.slice none 0 0) (.slice none 0 0); simpa using this
  have HE := hide (Calls.toBelow (equal_any (hs1.below hb0) (hs2.below hb0)))
  rw [show sameL s s' = false by simpa [sameL] using hs] at HE
  have HW0 := hide hW0
  have hzw := hb0.size
  clear h h' hW0 hs
  go_enter Try.func29, Try.ntmps29
  go_wp2_with fail
  rw [← unhide HW0]
  refine (unhide HE).mono ?_
  rintro e w1 ⟨rfl, hb1⟩
  replace hbx2 := hbx2.belowH hb1
  have hbel1 := hb0.trans (hb1.mono hzw)
  have hd0 := hbx2.cell0
  have hd1 := hbx2.cell1
  have hg0 := hbx2.frozen 0
  have hg1 := hbx2.frozen 1
  clear HE
  go_wp2
  refine bodyPost_ret (v := .tuple #[.agg #[.slice none 0 0, .slice none 0 0], .int .i64 1]) (by simp [results, Try.results29, go_sem, hd0, hd1]) rfl ⟨rfl, below_store hbel1 (by omega) _ _⟩

theorem ownT_push {B : Nat} {wr W : World} (hB : B ≤ wr.heap.size) (h4 : W.heap = wr.heap.push (.cells #[] 22)) : OwnT B W (.slice (some ⟨wr.heap.size, 0, none⟩) 0 0) [] := ⟨[], own_pushV hB h4, rfl, fun i h => by simp at h⟩
theorem apartA {α : Type} {B : Nat} {w : World} {u : Value} {l : List α} (h : New B w u) : Apart u l (.slice (some ⟨w.heap.size, 0, none⟩) 0 0) := fun _ g h1 h2 => by
  have := h g h1
  have e : w.heap.size = g := by simpa [Value.ownBlock] using h2
  omega
theorem apartB {α : Type} {B n : Nat} {w : World} {u : Value} {l : List α} (h : New B w u) (hB : n < B) : Apart u l (.slice (some ⟨n, 0, none⟩) 0 0) := fun _ g h1 h2 => by
  have := h g h1
  have e : n = g := by simpa [Value.ownBlock] using h2
  omega

set_option maxHeartbeats 8000000 in
theorem refUnion_any {s s' : List Int} {ll ll' : List (List Int)} {v v' : Value} {w : World} (h : RelV w v s ll) (h' : RelV w v' s' ll') (hl : ll.length < 10000) (hl' : ll'.length < 10000) (hsl : s.length < 100000000) (hrw : ∀ t ∈ ll ++ ll', t.length < 100000000) :
    Calls Try.prog 31 #[v, v'] w fun e w' => ∃ u, e = .returned u ∧ RelV w' u s (unionL ll ll') ∧ Below w.heap.size w w' := by
  obtain ⟨a, ca, b, cb, rfl, k1, k2, k3, k4, hs1, ht1⟩ := h.form
  obtain ⟨a', ca', b', cb', rfl, k1', k2', k3', k4', hs2, ht2⟩ := h'.form
  unfold maxLen at k2 k4 k2' k4'
  obtain ⟨W0, hW0⟩ : ∃ W, W = ((w.alloc (.cells #[.slice a s.length ca, .slice b ll.length cb] 25)).alloc (.cells #[.slice a' s'.length ca', .slice b' ll'.length cb'] 25)).alloc (.cells #[.slice none 0 0, .slice none 0 0] 25) := ⟨_, rfl⟩
  have hb0 : Below w.heap.size w W0 := by rw [hW0]; exact (b2x w _ _).alloc (by simp; omega) _
  have hbx0 : Box W0 w.heap.size (.slice a s.length ca) (.slice b ll.length cb) := by rw [hW0]; exact ((Box.new w _ _).push _).push _
  have hbx1 : Box W0 (w.heap.size + 1) (.slice a' s'.length ca') (.slice b' ll'.length cb') := by
    rw [hW0]; have := (Box.new (w.alloc (.cells #[.slice a s.length ca, .slice b ll.length cb] 25)) (.slice a' s'.length ca') (.slice b' ll'.length cb')).push (.cells #[.slice none 0 0, .slice none 0 0] 25); simpa using this
  have hbx2 : Box W0 (w.heap.size + 1 + 1) (.slice none 0 0) (.slice none 0 0) := by
    rw [hW0]; have := Box.new ((w.alloc (.cells #[.slice a s.length ca, .slice b ll.length cb] 25)).alloc (.cells #[.slice a' s'.length ca', .slice b' ll'.length cb'] 25)) (.slice none 0 0) (.slice none 0 0); simpa using this
  have HW0 := hide hW0
  have hzw := hb0.size
  have HZ0 := hide (show W0.heap.size = w.heap.size + 3 by rw [hW0]; simp)
  have HCP := hide (fun W (hb : Below W0.heap.size W0 W) => refCopy_any (w := W) ((hs1.below hb0).below hb) (by omega))
  have HT1 := hide (ht1.below hb0)
  have HT2 := hide (ht2.below hb0)
  have HRW := hide hrw
  have HK := hide (fun W (hb : Below W0.heap.size W0 W) => And.intro (hbx0.belowH hb).cell0 (And.intro (hbx0.belowH hb).cell1 (hbx1.belowH hb).cell1))
  have HKS := hide (fun W x y (hb : Below W0.heap.size W0 W) => by
    have hb' : Below (w.heap.size + 1 + 1) W0 ((W.setCell ⟨w.heap.size + 1 + 1, 0, none⟩ x).setCell ⟨w.heap.size + 1 + 1, 1, none⟩ y) := below_store (hb.mono (by have := unhide HZ0; omega)) (Nat.le_refl _) x y
    exact And.intro (hbx0.below hb' (by omega)).cell0 (And.intro (hbx0.below hb' (by omega)).cell1 (hbx1.below hb' (by omega)).cell1))
  have HB2 := hide (fun W (hb : Below W0.heap.size W0 W) => hbx2.belowH hb)
  have hbR := Below.refl W0.heap.size W0
  clear h h' hW0 hrw hs1 hs2 ht1 ht2
  go_enter Try.func31, Try.ntmps31
  go_wp2_with fail
  rw [← unhide HW0]
  go_region_held3 (fun W => W.cell? ⟨w.heap.size, 0, none⟩ = some (.slice a s.length ca) ∧ W.cell? ⟨w.heap.size, 1, none⟩ = some (.slice b ll.length cb) ∧ W.cell? ⟨w.heap.size + 1, 1, none⟩ = some (.slice b' ll'.length cb')) (first | exact unhide HKS _ _ _ hB7 | exact unhide HK _ (by first | exact hB7 | exact hB6 | exact hB5 | exact hB4 | exact hB3.alloc hB3.size _ | exact hB3 | exact hbR | exact below_push rfl rfl rfl rfl | exact below_same rfl rfl rfl rfl) | go_keep)
    (first
      | (go_at_call 52; refine (unhide HCP _ (by first | exact hbR | exact below_push rfl rfl rfl rfl | exact below_same rfl rfl rfl rfl)).mono ?_; rintro e w3 ⟨u3, rfl, hu3, hun3, hb3⟩; obtain ⟨ua, uc, hue, _, _⟩ := hu3.form; rw [hue] at hu3 hun3 ⊢; clear hue; have hB3 : Below W0.heap.size W0 w3 := Below.trans (by first | exact hbR | exact below_push rfl rfl rfl rfl | exact below_same rfl rfl rfl rfl) (hb3.mono (by first | exact Nat.le_refl _ | simp)))
      | (refine step_of rfl (op_app_tups (.tmp 8) (.tmp 10) rfl (B := W0.heap.size) (ll := []) (by first | exact ownT_push hB3.size rfl | exact OwnT.below (ownT_push (wr := W0) (Nat.le_refl _) rfl) hb3) (unhide HT1) (by first | exact hB3 | exact below_then hB3 (below_push rfl rfl rfl rfl)) (Nat.le_refl _) rfl (by first | exact hB3.size | (simp; have := hB3.size; omega)) rfl (by simp; omega) ?_); intro v5 w5 hown5 hgrew5; have hB5 : Below W0.heap.size W0 w5 := Below.trans (by first | exact hB3 | exact below_then hB3 (below_push rfl rfl rfl rfl)) hgrew5.below; have hu5 : Ints w5 (.slice ua s.length uc) s ∧ Apart (.slice ua s.length uc) s v5 := (by first | exact ⟨Seq.grew (hu3.below (by exact below_push rfl rfl rfl rfl)) hgrew5 (apartA hun3), Apart.grew (apartA hun3) (hu3.below (by exact below_push rfl rfl rfl rfl)) hgrew5⟩ | exact ⟨Seq.grew hu3 hgrew5 (apartB hun3 (by simp)), Apart.grew (apartB hun3 (by simp)) hu3 hgrew5⟩))
      | (refine step_of rfl (op_app_tups (.tmp 11) (.tmp 13) rfl hown5 (unhide HT2) hB5 (Nat.le_refl _) rfl hB5.size rfl (by simp; omega) ?_); intro v6 w6 hown6 hgrew6; have hB6 : Below W0.heap.size W0 w6 := hB5.trans hgrew6.below; have hu6 := hu5.1.grew hgrew6 hu5.2)
      | (go_at_call 44; refine (refSort_any hown6.tups (by simp; omega) (by simpa using unhide HRW)).mono ?_; rintro e w7 ⟨u7, rfl, hu7, hun7, hb7⟩; obtain ⟨ra, rc, hre, _, _⟩ := hu7.form; rw [hre] at hu7 hun7 ⊢; clear hre; have hB7 : Below W0.heap.size W0 w7 := hB6.trans (hb7.mono hB6.size); have hb2 := unhide HB2 _ hB7; have hd0 := hb2.cell0; have hd1 := hb2.cell1; have hg0 := hb2.frozen 0; have hg1 := hb2.frozen 1))
  all_goals
    have hbl := hb0.trans (hB7.mono hzw)
    have hu7' := hu6.below hb7
    have hz6 : w.heap.size + 1 + 1 < w6.heap.size := by have := hB6.size; have := unhide HZ0; omega
    go_wp2
    have hfin := rel_store hb2.boxS hd0 hu7' hu7 (hun7.ne hz6)
    refine bodyPost_ret (v := .agg #[.slice ua s.length uc, .slice ra (sortL (ll ++ ll')).length rc]) (by simp [results, Try.results31, go_sem, hd0, hd1]) rfl ⟨_, rfl, hfin, below_store hbl (by omega) _ _⟩

end Go.Proofs.Ytmppialileoimaa
