/-
  The contracts of the document's Semijoin and Agree.
-/
import Derived.Test.YtoiokplgkanepaaGreatDoorRefJoin3
import Derived.Test.YtoiokplgkanepaaGreatDoorRelProj
import Derived.Test.YtoiokplgkanepaaGreatDoorRelBox
import Derived.Test.YtoiokplgkanepaaGreatDoorJoinMath
namespace Go.Proofs.YtoiokplgkanepaaGreatDoor
open Go.RowKit
set_option linter.unusedVariables false
set_option linter.unusedSimpArgs false
set_option maxRecDepth 20000

theorem any_snoc {α : Type} {l : List α} {f : α → Bool} {k : Nat} (hk : k < l.length) : (l.take (k + 1)).any f = ((l.take k).any f || f l[k]) := by
  rw [List.take_succ_eq_append_getElem hk, List.any_append]; simp

/-- Does a row go together with something? -/
def someF (s u : List Int) (lb : List (List Int)) (t : List Int) : Bool := lb.any (fitB s u t)
theorem semi_some (s : List Int) (la : List (List Int)) (u : List Int) (lb : List (List Int)) : semiR s la u lb = la.filter (someF s u lb) := rfl

set_option maxHeartbeats 8000000 in
theorem refSemi_any {s u : List Int} {la lb : List (List Int)} {v v' : Value} {w : World} (h : RelV w v s la) (h' : RelV w v' u lb) (hn : s.Nodup) (hwa : ∀ t ∈ la, t.length = s.length) (hwb : ∀ t ∈ lb, t.length = u.length) (hsl : s.length < 10000) (hlal : la.length < 100000) (hlbl : lb.length < 100000) :
    Calls Tryz.prog 11 #[v, v'] w fun e w' => ∃ x, e = .returned x ∧ RelV w' x s (semiR s la u lb) ∧ Below w.heap.size w w' := by
  obtain ⟨a, ca, b, cb, rfl, k1, k2, k3, k4, hs1, ht1⟩ := h.form
  obtain ⟨a', ca', b', cb', rfl, k1', k2', k3', k4', hs2, ht2⟩ := h'.form
  unfold maxLen at k2 k4 k2' k4'
  obtain ⟨W0, hW0⟩ : ∃ W, W = ((w.alloc (.cells #[.slice a s.length ca, .slice b la.length cb] 27)).alloc (.cells #[.slice a' u.length ca', .slice b' lb.length cb'] 27)).alloc (.cells #[.slice none 0 0, .slice none 0 0] 27) := ⟨_, rfl⟩
  have hb0 : Below w.heap.size w W0 := by rw [hW0]; exact (b2x w _ _).alloc (by simp; omega) _
  have x0 : Box W0 w.heap.size (.slice a s.length ca) (.slice b la.length cb) := by rw [hW0]; exact ((Box.new w _ _).push _).push _
  have x1 : Box W0 (w.heap.size + 1) (.slice a' u.length ca') (.slice b' lb.length cb') := by
    rw [hW0]; have := (Box.new (w.alloc (.cells #[.slice a s.length ca, .slice b la.length cb] 27)) (.slice a' u.length ca') (.slice b' lb.length cb')).push (.cells #[.slice none 0 0, .slice none 0 0] 27); simpa using this
  have x2 : Box W0 (w.heap.size + 1 + 1) (.slice none 0 0) (.slice none 0 0) := by
    rw [hW0]; have := Box.new ((w.alloc (.cells #[.slice a s.length ca, .slice b la.length cb] 27)).alloc (.cells #[.slice a' u.length ca', .slice b' lb.length cb'] 27)) (.slice none 0 0) (.slice none 0 0); simpa using this
  replace hs1 := hs1.below hb0
  replace hs2 := hs2.below hb0
  replace ht1 := ht1.below hb0
  replace ht2 := ht2.below hb0
  have HU := hide (refCopy_any hs1 (by omega))
  have HW0 := hide hW0
  have hz0 := hb0.size
  clear hW0 h h'
  have c00 := x0.cell0
  go_enter Tryz.func11, Tryz.ntmps11
  go_wp2_with fail
  rw [← unhide HW0]
  refine (unhide HU).mono ?_
  rintro e w1 ⟨vJ, rfl, rJ, nJ, hb1⟩
  clear HW0 HU c00
  obtain ⟨ua, uc, hue, _, _⟩ := rJ.form
  rw [hue] at rJ ⊢
  replace x0 := x0.belowH hb1
  replace x1 := x1.belowH hb1
  replace x2 := x2.belowH hb1
  replace hs1 := hs1.below hb1
  replace hs2 := hs2.below hb1
  replace ht1 := ht1.below hb1
  replace ht2 := ht2.below hb1
  have hbw := below_then hb0 hb1
  have hwz : w.heap.size + 1 + 1 < w1.heap.size := x2.lt
  have hbx2 := Box.new w1 (.slice ua s.length uc) (.slice none 0 0)
  have HX := hide (fun W (hb : Below w1.heap.size w1 W) => And.intro (x0.belowH hb) (And.intro (x1.belowH hb) (x2.belowH hb)))
  have HR := hide (fun W (hb : Below w1.heap.size w1 W) => And.intro (hs1.below hb) (And.intro (hs2.below hb) (And.intro (ht1.below hb) (And.intro (ht2.below hb) (rJ.below hb)))))
  have HBW := hide hbw
  have HWA := hide hwa
  have HWB := hide hwb
  have HN := hide hn
  have HSE := hide (semi_some s la u lb)
  have HBX := hide hbx2
  clear x0 x1 x2 hs1 hs2 ht1 ht2 rJ nJ hb0 hb1 hbw hwa hwb hn hue hbx2
  go_wp2
  go_loopw [6, 7, 8] (fun i _ _ wr => ∃ (k : Nat) (v : Value), k ≤ la.length ∧ i = .int .i64 k ∧ Box wr w1.heap.size (.slice ua s.length uc) v ∧ OwnT (w1.heap.size + 1) wr v ((la.take k).filter (someF s u lb)) ∧ Below w1.heap.size w1 wr) (fun i _ _ _ => la.length - (intOf i).toNat)
  case atStart => exact ⟨0, _, by omega, rfl, unhide HBX, OwnT.nil _ _, (Below.refl _ _).alloc (Nat.le_refl _) _⟩
  case round =>
    clear HBX
    obtain ⟨k, vo, hk, rfl, hbo, hown, hbel⟩ := hrel
    rename World => wr
    have hz := hbel.size
    have hz1 := hbo.lt
    have hil : ((la.take k).filter (someF s u lb)).length ≤ k := Nat.le_trans (List.length_filter_le _ _) (List.length_take_le _ _)
    obtain ⟨oa, oc, hoe, _, _⟩ := hown.tups.form
    have hne : vo.ownBlock ≠ some w1.heap.size := fun e => by have := hown.new _ e; omega
    rw [hoe] at hbo hown hne
    clear hoe
    by_cases hkl : k < la.length
    · have HNX := hide (filter_snoc (f := someF s u lb) hkl)
      have c01 := (unhide HX wr hbel).1.cell1
      have HBO := hide hbo
      have HOW := hide hown
      have HBL := hide hbel
      clear hbo hown hbel
      generalize (la.take k).filter (someF s u lb) = L at *
      go_wp2
      go_loopw [7, 8] (fun sm i wq => ∃ k2 : Nat, k2 ≤ lb.length ∧ i = .int .i64 k2 ∧ sm = .bool ((lb.take k2).any (fitB s u la[k])) ∧ Below wr.heap.size wr wq) (fun _ i _ => lb.length - (intOf i).toNat)
      case atStart => exact ⟨0, by omega, rfl, by simp, Below.refl _ _⟩
      case round =>
        clear c01
        obtain ⟨k2, hk2, rfl, rfl, hbq⟩ := hrel
        rename World => wq
        have hbq1 := (unhide HBL).trans (hbq.mono hz)
        obtain ⟨x0, x1, x2⟩ := unhide HX wq hbq1
        obtain ⟨hs1, hs2, ht1, ht2, rJ⟩ := unhide HR wq hbq1
        have c00 := x0.cell0
        have c01 := x0.cell1
        have c10 := x1.cell0
        have c11 := x1.cell1
        obtain ⟨_, _, t1b, t2b, _⟩ := unhide HR w1 (Below.refl _ _)
        obtain ⟨ba, oa1, ua1, rfl, hub1, hia1⟩ := t1b.at hkl
        have hua := Below.cell_of hbq1 hub1
        have hia := hia1.below hbq1
        obtain ⟨ia, ic, rfl, _, _⟩ := hia.form
        have hzq := hbq1.size
        by_cases hlt2 : k2 < lb.length
        · obtain ⟨bb, ob, ub, rfl, hub2, hib1⟩ := t2b.at hlt2
          have hub := Below.cell_of hbq1 hub2
          have hib := hib1.below hbq1
          have HF := hide (fun n => refFit_any (hs1.drewN n) (hia.drewN n) (hs2.drewN n) (hib.drewN n) (unhide HN) (unhide HWA _ (List.getElem_mem _)) (unhide HWB _ (List.getElem_mem _)))
          have HAX := hide (any_snoc (f := fitB s u la[k]) hlt2)
          generalize (lb.take k2).any (fitB s u la[k]) = q at *
          generalize fitB s u la[k] lb[k2] = f at *
          have HBQ := hide hbq
          clear t1b t2b x0 x1 x2 hs1 hs2 ht1 ht2 rJ hia hib hia1 hib1 hub1 hub2 hbq hbq1
          cases q with
          | true =>
            go_wp2
            go_quiet (fail)
            go_wp2
            go_roundw
            case rel => exact ⟨k2 + 1, by omega, by go_num, by rw [unhide HAX]; rfl, Below.drewN1 (unhide HBQ) _⟩
            case measure => simp [intOf]; omega
          | false =>
            go_wp2
            go_quiet ((go_at_call 28; exact Calls.quiet_of (unhide HF _)))
            go_wp2
            go_roundw
            case rel => exact ⟨k2 + 1, by omega, by go_num, by rw [unhide HAX]; first | rfl | simp, Below.drewN1 (unhide HBQ) _⟩
            case measure => simp [intOf]; omega
        · have hke : k2 = lb.length := by omega
          subst hke
          have hq : ((lb.take lb.length).any (fitB s u la[k])) = someF s u lb la[k] := by rw [List.take_length]; rfl
          rw [hq]
          generalize someF s u lb la[k] = q at *
          have hrow : la[k].length < 100000000 := by rw [unhide HWA _ (List.getElem_mem _)]; omega
          have HCP := hide (fun W (hb : Below wq.heap.size wq W) => refCopy_any (w := W) (hia.below hb) (by omega))
          have hbo := (unhide HBO).belowH hbq
          have hown := (unhide HOW).below hbq
          have hbR := Below.refl wq.heap.size wq
          have HBQ := hide hbq1
          have hco1 := hbo.cell1
          have hz2 := hbo.lt
          clear t1b t2b x0 x1 x2 hs1 hs2 ht1 ht2 rJ hia1 hub1 hbq hq hbq1 HOW HBO HBL
          cases q with
          | false =>
            have HN2 := hide (by simpa using unhide HNX)
            clear HNX HCP hia
            go_wp2
            go_roundw
            case rel => exact ⟨k + 1, _, by omega, by go_num, hbo, by rw [unhide HN2]; exact hown, unhide HBQ⟩
            case measure => simp [intOf]; omega
          | true =>
            have HN2 := hide (by simpa using unhide HNX)
            clear HNX hia
            go_wp2
            go_region_law ((first | (refine step_of rfl ?_; go_simp; go_at_call 33; refine (unhide HCP _ (by first | exact hbR | exact below_same rfl rfl rfl rfl)).mono ?_; rintro e w2 ⟨u2, rfl, hu2, hun2, hb2'⟩; obtain ⟨va, vc, hve, _, _⟩ := hu2.form; rw [hve] at hu2 hun2 ⊢; clear hve; have hb2 : Below wq.heap.size wq w2 := below_then (by first | exact hbR | exact below_same rfl rfl rfl rfl) hb2'; have hcx := (hbo.belowH hb2).cell1; have hcy := cell_push hcx; clear hb2') | (refine step_of rfl (op_app_tup (.tmp 47) (.tmp 54) rfl (hown.below hb2) hu2 (fun _ => (Sep.of_new hown.new (Nat.le_refl _) hun2).symm) rfl (Nat.le_trans hz2 hb2.size) rfl (by omega) ?_); intro v' w4 hown4 hgrew; obtain ⟨na, nn, nc, hne4⟩ := hown4.sl; rw [hne4] at hown4 hgrew ⊢; clear hne4; have hbo4 := (hbo.belowH hb2).grew hgrew hne; have hq0 := hbo4.cell1; have hq1 := hbo4.frozen 1; have hn4 := hown4.new.ne (b := w1.heap.size) (by omega))))
            all_goals
              go_wp2
              go_roundw
              case rel => exact ⟨k + 1, _, by omega, by go_num, hbo4.set1 _, by rw [unhide HN2]; exact hown4.setBox hbo4.boxS hn4 _ _, (((unhide HBQ).trans (hb2.mono hzq)).trans (hgrew.below.mono (by omega))).setCell (Nat.le_refl _) _⟩
              case measure => simp [intOf]; omega
    · have hkk : k = la.length := by omega
      subst hkk
      rw [List.take_length, ← unhide HSE] at hown hbo hil hne
      obtain ⟨V, hV⟩ : ∃ V, V = semiR s la u lb := ⟨_, rfl⟩
      rw [← hV] at hown hbo hil hne
      have HV := hide hV
      clear hV
      obtain ⟨x0, x1, x2⟩ := unhide HX wr hbel
      have c01 := x0.cell1
      have hco0 := hbo.cell0
      have hco1 := hbo.cell1
      have htf := hown.tups
      have hd0 := x2.cell0
      have hd1 := x2.cell1
      have hg0 := x2.frozen 0
      have hg1 := x2.frozen 1
      have hbs := x2.boxS
      have hu3 := (unhide HR wr hbel).2.2.2.2
      have hnf : (Value.slice oa V.length oc).ownBlock ≠ some (w.heap.size + 1 + 1) := fun e => by have := hown.new _ e; omega
      have hbl := (unhide HBW).trans (hbel.mono (by omega))
      clear hown x0 x1 x2
      go_wp2
      have hfin := rel_store hbs hd0 hu3 htf hnf
      refine bodyPost_ret (v := .agg #[.slice ua s.length uc, .slice oa V.length oc]) (by simp [results, Tryz.results11, go_sem, hd0, hd1]) rfl ⟨_, rfl, by rw [← unhide HV]; exact hfin, below_store hbl (by omega) _ _⟩

set_option maxHeartbeats 8000000 in
theorem refAgree_any {s u : List Int} {la lb : List (List Int)} {n m : Nat} {v v' : Value} {w : World} (h : RelV w v s la) (h' : RelV w v' u lb) (g : Fine s la n) (g' : Fine u lb m) (hn : n ≤ 5000) (hm : m ≤ 5000) :
    Calls Tryz.prog 13 #[v, v'] w fun e w' => e = .returned (.bool (agreeB s la u lb)) ∧ Below w.heap.size w w' := by
  obtain ⟨a, ca, b, cb, rfl, k1, k2, k3, k4, hs1, ht1⟩ := h.form
  obtain ⟨a', ca', b', cb', rfl, k1', k2', k3', k4', hs2, ht2⟩ := h'.form
  unfold maxLen at k2 k4 k2' k4'
  obtain ⟨W0, hW0⟩ : ∃ W, W = (w.alloc (.cells #[.slice a s.length ca, .slice b la.length cb] 27)).alloc (.cells #[.slice a' u.length ca', .slice b' lb.length cb'] 27) := ⟨_, rfl⟩
  have hb0 : Below w.heap.size w W0 := by rw [hW0]; exact b2x w _ _
  have hbx0 : Box W0 w.heap.size (.slice a s.length ca) (.slice b la.length cb) := by rw [hW0]; exact (Box.new w _ _).push _
  have hbx1 : Box W0 (w.heap.size + 1) (.slice a' u.length ca') (.slice b' lb.length cb') := by
    rw [hW0]; have := Box.new (w.alloc (.cells #[.slice a s.length ca, .slice b la.length cb] 27)) (.slice a' u.length ca') (.slice b' lb.length cb'); simpa using this
  have hsl := g.slen
  have hul := g'.slen
  have hll := g.llen
  have hlm := g'.llen
  have HE := hide (show sameR (meetL s u) (projL s la u) (meetL u s) (projL u lb s) = agreeB s la u lb by
    rw [Bool.eq_iff_iff, sameR_iff, meetS_comm g.asc g'.asc]; unfold agreeB; simp)
  have HP1 := hide (fun W (hb : Below W0.heap.size W0 W) => refProject_any (h.below (below_then hb0 hb)) (hs2.below (below_then hb0 hb)) (by omega) (by omega))
  have HP2 := hide (fun W (hb : Below W0.heap.size W0 W) => refProject_any (h'.below (below_then hb0 hb)) (hs1.below (below_then hb0 hb)) (by omega) (by omega))
  have HK := hide (fun W (hb : Below W0.heap.size W0 W) => And.intro (And.intro (hbx0.belowH hb).cell0 (hbx0.belowH hb).cell1) (And.intro (hbx1.belowH hb).cell0 (hbx1.belowH hb).cell1))
  have hbR := Below.refl W0.heap.size W0
  have HW0 := hide hW0
  generalize agreeB s la u lb = q at HE ⊢
  clear h h' hW0 hs1 hs2 ht1 ht2 g g' hbx0 hbx1
  go_enter Tryz.func13, Tryz.ntmps13
  go_wp2
  rw [← unhide HW0]
  go_region_held3 (fun W => (W.cell? ⟨w.heap.size, 0, none⟩ = some (.slice a s.length ca) ∧ W.cell? ⟨w.heap.size, 1, none⟩ = some (.slice b la.length cb)) ∧ (W.cell? ⟨w.heap.size + 1, 0, none⟩ = some (.slice a' u.length ca') ∧ W.cell? ⟨w.heap.size + 1, 1, none⟩ = some (.slice b' lb.length cb')))
    (first | exact unhide HK _ (by first | exact hB3 | exact hB2 | exact hB1 | exact hbR | exact below_same rfl rfl rfl rfl))
    (first
      | (go_at_call 9; refine (refSame_rel (r1.below hb2) r2).mono ?_; rintro e w5 ⟨rfl, hb3⟩; have hB3 : Below W0.heap.size W0 w5 := below_then hB2 hb3)
      | (go_at_call 36; refine (unhide HP2 _ hB1).mono ?_; rintro e w4 ⟨y2, rfl, r2, hb2⟩; obtain ⟨p2, p3, p4, p5, e2, _, _, _, _, _, _⟩ := r2.form; rw [e2] at r2 ⊢; clear e2; have hB2 : Below W0.heap.size W0 w4 := below_then hB1 hb2)
      | (go_at_call 36; refine (unhide HP1 _ (by first | exact hbR | exact below_same rfl rfl rfl rfl)).mono ?_; rintro e w3 ⟨y1, rfl, r1, hb1⟩; obtain ⟨o2, o3, o4, o5, e1, _, _, _, _, _, _⟩ := r1.form; rw [e1] at r1 ⊢; clear e1; have hB1 : Below W0.heap.size W0 w3 := below_then (by first | exact hbR | exact below_same rfl rfl rfl rfl) hb1))
  all_goals
    go_wp2
    go_ret
    exact ⟨by have e := unhide HE; subst e; rfl, below_then hb0 hB3⟩

end Go.Proofs.YtoiokplgkanepaaGreatDoor
