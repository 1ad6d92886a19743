/-
  The contract of Agree.
-/
import Derived.Test.YtcndapakkkaojaaGreatDoorJoinSemi
namespace Go.Proofs.YtcndapakkkaojaaGreatDoor
open Go.RowKit
set_option linter.unusedVariables false
set_option linter.unusedSimpArgs false
set_option maxRecDepth 20000

theorem agree_same {s u : List Int} {la lb : List (List Int)} {n m : Nat} (g : Fine s la n) (g' : Fine u lb m) : sameR (meetL s (meetL s u)) (projL s la (meetL s u)) (meetL u (meetL s u)) (projL u lb (meetL s u)) = agreeB s la u lb := by
  have e1 : projL s la (meetL s u) = projL s la u := proj_congr (meet_meet g.asc)
  have e2 : projL u lb (meetL s u) = projL u lb s := proj_congr (by rw [meet_meet' g.asc g'.asc, meetS_comm g.asc g'.asc])
  rw [Bool.eq_iff_iff, sameR_iff, e1, e2, meet_meet g.asc, meet_meet' g.asc g'.asc]
  unfold agreeB
  simp

set_option maxHeartbeats 8000000 in
theorem agree_any {s u : List Int} {la lb : List (List Int)} {n m : Nat} {v v' : Value} {w : World} (h : RelV w v s la) (h' : RelV w v' u lb) (g : Fine s la n) (g' : Fine u lb m) (hn : n ≤ 5000) (hm : m ≤ 5000) :
    Calls Tryz.prog 19 #[v, v'] w fun e w' => e = .returned (.bool (agreeB s la u lb)) ∧ Below w.heap.size w w' := by
  obtain ⟨a, ca, b, cb, rfl, k1, k2, k3, k4, hs1, ht1⟩ := h.form
  obtain ⟨a', ca', b', cb', rfl, k1', k2', k3', k4', hs2, ht2⟩ := h'.form
  unfold maxLen at k2 k4 k2' k4'
  obtain ⟨W0, hW0⟩ : ∃ W, W = (w.alloc (.cells #[.slice a s.length ca, .slice b la.length cb] 27)).alloc (.cells #[.slice a' u.length ca', .slice b' lb.length cb'] 27) := ⟨_, rfl⟩
  have hb0 : Below w.heap.size w W0 := by rw [hW0]; exact b2x w _ _
  have hbx0 : Box W0 w.heap.size (.slice a s.length ca) (.slice b la.length cb) := by rw [hW0]; exact (Box.new w _ _).push _
  have hbx1 : Box W0 (w.heap.size + 1) (.slice a' u.length ca') (.slice b' lb.length cb') := by
    rw [hW0]; have := Box.new (w.alloc (.cells #[.slice a s.length ca, .slice b la.length cb] 27)) (.slice a' u.length ca') (.slice b' lb.length cb'); simpa using this
  have hsl := g.slen
  have hul := g'.slen
  have HM := hide (meet_any (hs1.below hb0) (hs2.below hb0) (by omega))
  rw [mrg_and g.asc g'.asc] at HM
  have HW0 := hide hW0
  have hzw := hb0.size
  have hblen : (meetL s u).length ≤ s.length := meetL_le s u
  have HE := hide (agree_same g g')
  have G := hide (g.good hn)
  have G' := hide (g'.good hm)
  have HR1 := hide (fun W (hb : Below w.heap.size w W) => h.below hb)
  have HR2 := hide (fun W (hb : Below w.heap.size w W) => h'.below hb)
  generalize agreeB s la u lb = q at HE ⊢
  clear h h' hW0 hs1 hs2 ht1 ht2 g g'
  go_enter Tryz.func19, Tryz.ntmps19
  go_wp2_with fail
  rw [← unhide HW0]
  refine (unhide HM).mono ?_
  rintro e w1 ⟨v1, rfl, hm1, hn1, hb1⟩
  obtain ⟨ma, mc, rfl, _, _⟩ := hm1.form
  replace hbx0 := hbx0.belowH hb1
  replace hbx1 := hbx1.belowH hb1
  have hbel1 := hb0.trans (hb1.mono hzw)
  generalize meetL s u = both at *
  have HP1 := hide (fun W (hb : Below w1.heap.size w1 W) => project_rel (unhide HR1 _ (hbel1.trans (hb.mono hbel1.size))) (hm1.below hb) (unhide G) (by omega))
  have HP2 := hide (fun W (hb : Below w1.heap.size w1 W) => project_rel (unhide HR2 _ (hbel1.trans (hb.mono hbel1.size))) (hm1.below hb) (unhide G') (by omega))
  have HK := hide (fun W (hb : Below w1.heap.size w1 W) => And.intro (And.intro (hbx0.belowH hb).cell0 (hbx0.belowH hb).cell1) (And.intro (hbx1.belowH hb).cell0 (hbx1.belowH hb).cell1))
  have hbR := Below.refl w1.heap.size w1
  clear HM hn1 hb1 hm1 hbx0 hbx1
  go_wp2
  go_region_held3 (fun W => (W.cell? ⟨w.heap.size, 0, none⟩ = some (.slice a s.length ca) ∧ W.cell? ⟨w.heap.size, 1, none⟩ = some (.slice b la.length cb)) ∧ (W.cell? ⟨w.heap.size + 1, 0, none⟩ = some (.slice a' u.length ca') ∧ W.cell? ⟨w.heap.size + 1, 1, none⟩ = some (.slice b' lb.length cb')))
    (first | exact unhide HK _ (by first | exact hB3 | exact hB2 | exact hB1 | exact hbR | exact below_same rfl rfl rfl rfl))
    (first
      | (go_at_call 25; refine (same_rel (h1.below hb2) h2).mono ?_; rintro e w4 ⟨rfl, hb3⟩; have hB3 := below_then hB2 hb3)
      | (go_at_call 26; refine (unhide HP2 _ hB1).mono ?_; rintro e w3 ⟨u2, rfl, h2, hb2⟩; obtain ⟨a2, c2, b2, d2, e2, _, _, _, _, _, _⟩ := h2.form; rw [e2] at h2 ⊢; clear e2; have hB2 : Below w1.heap.size w1 w3 := below_then hB1 hb2)
      | (go_at_call 26; refine (unhide HP1 _ (by first | exact hbR | exact below_same rfl rfl rfl rfl)).mono ?_; rintro e w2 ⟨u1, rfl, h1, hb1⟩; obtain ⟨a1, c1, b1, d1, e1, _, _, _, _, _, _⟩ := h1.form; rw [e1] at h1 ⊢; clear e1; have hB1 : Below w1.heap.size w1 w2 := below_then (by first | exact hbR | exact below_same rfl rfl rfl rfl) hb1))
  all_goals
    go_wp2
    go_ret
    exact ⟨by have e := unhide HE; subst e; rfl, hbel1.trans (hB3.mono hbel1.size)⟩

end Go.Proofs.YtcndapakkkaojaaGreatDoor
