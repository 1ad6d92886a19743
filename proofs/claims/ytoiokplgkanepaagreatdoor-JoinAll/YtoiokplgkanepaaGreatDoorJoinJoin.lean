/-
  The contracts of Semijoin, Agree and Join.
-/
import Derived.Test.YtoiokplgkanepaaGreatDoorConcat
import Derived.Test.YtoiokplgkanepaaGreatDoorJoinProg
import Derived.Test.YtoiokplgkanepaaGreatDoorJoinShelf
import Derived.Test.YtoiokplgkanepaaGreatDoorJoinMath
namespace Go.Proofs.YtoiokplgkanepaaGreatDoor
open Go.RowKit Go.Maps Go.WideMaps
set_option linter.unusedVariables false
set_option linter.unusedSimpArgs false
set_option maxRecDepth 20000

theorem ShelfV.form {w : World} {v : Value} {ps : List Int} {lb : List (List Int)} (h : ShelfV w v ps lb) : ∃ mb ra rn rc, v = .agg #[.map (some mb), .slice ra rn rc] := by
  obtain ⟨b, n, rv, D, ks, gs, rfl, _, _, h4, _⟩ := h
  obtain ⟨ra, rc, rfl, _, _⟩ := h4.form
  exact ⟨b, ra, _, rc, rfl⟩

theorem BoxM.belowH {w w' : World} {b : Nat} {x y : Value} (h : BoxM w b x y) (hb : Below w.heap.size w w') : BoxM w' b x y := h.grown (row := none) ⟨hb.os, hb.tape, hb.output, hb.size, fun k hk _ => hb.block k hk⟩ (by simp)
theorem BoxM.new (w : World) (x y : Value) : BoxM (w.alloc (.cells #[x, y] 48)) w.heap.size x y := heap_alloc_new w _

theorem any_len {α : Type} (p : α → Bool) (l : List α) : l.any p = decide (0 < (l.filter p).length) := by
  induction l with
  | nil => rfl
  | cons x r ih => by_cases h : p x <;> simp [List.filter_cons, h, ih]


set_option maxHeartbeats 16000000 in
theorem semijoin_any {s u : List Int} {la lb : List (List Int)} {n m : Nat} {v v' : Value} {w : World} (h : RelV w v s la) (h' : RelV w v' u lb) (g : Fine s la n) (g' : Fine u lb m) (hn : n < 100000) (hm : m < 100000) :
    Calls Tryz.prog 10 #[v, v'] w fun e w' => ∃ x, e = .returned x ∧ RelV w' x s (semiR s la u lb) ∧ Below w.heap.size w w' := by
  obtain ⟨a, ca, b, cb, rfl, k1, k2, k3, k4, hs1, ht1⟩ := h.form
  obtain ⟨a', ca', b', cb', rfl, k1', k2', k3', k4', hs2, ht2⟩ := h'.form
  unfold maxLen at k2 k4 k2' k4'
  obtain ⟨W0, hW0⟩ : ∃ W, W = ((w.alloc (.cells #[.slice a s.length ca, .slice b la.length cb] 27)).alloc (.cells #[.slice a' u.length ca', .slice b' lb.length cb'] 27)).alloc (.cells #[.slice none 0 0, .slice none 0 0] 27) := ⟨_, rfl⟩
  have hb0 : Below w.heap.size w W0 := by rw [hW0]; exact (b2x w _ _).alloc (by simp; omega) _
  have hbx0 : Box W0 w.heap.size (.slice a s.length ca) (.slice b la.length cb) := by rw [hW0]; exact ((Box.new w _ _).push _).push _
  have hbx1 : Box W0 (w.heap.size + 1) (.slice a' u.length ca') (.slice b' lb.length cb') := by
    rw [hW0]; have := (Box.new (w.alloc (.cells #[.slice a s.length ca, .slice b la.length cb] 27)) (.slice a' u.length ca') (.slice b' lb.length cb')).push (.cells #[.slice none 0 0, .slice none 0 0] 27); simpa using this
  have hbx2 : Box W0 (w.heap.size + 1 + 1) (.slice none 0 0) (.slice none 0 0) := by
    rw [hW0]; have := Box.new ((w.alloc (.cells #[.slice a s.length ca, .slice b la.length cb] 27)).alloc (.cells #[.slice a' u.length ca', .slice b' lb.length cb'] 27)) (.slice none 0 0) (.slice none 0 0); simpa using this
  have hsl := g.slen
  have hul := g'.slen
  have hll := Nat.lt_of_le_of_lt g.llen hn
  have hml := Nat.lt_of_le_of_lt g'.llen hm
  have HM := hide (meet_any (hs1.below hb0) (hs2.below hb0) (by omega))
  rw [mrg_and g.asc g'.asc] at HM
  have HW0 := hide hW0
  have hzw := hb0.size
  have HA := hide (fun W (hb : Below w.heap.size w W) => hs1.below hb)
  have HT := hide (fun W (hb : Below w.heap.size w W) => ht1.below hb)
  have HR2 := hide (fun W (hb : Below w.heap.size w W) => h'.below hb)
  have HG := hide g
  have HG' := hide g'
  have hblen : (meetL s u).length ≤ s.length := meetL_le s u
  have HSE := hide (show semiR s la u lb = la.filter fun t => lb.any (fitB s u t) from rfl)
  generalize semiR s la u lb = SR at HSE
  clear h h' hW0 hs1 hs2 ht1 ht2 g g'
  go_enter Tryz.func10, Tryz.ntmps10
  go_wp2_with fail
  rw [← unhide HW0]
  refine (unhide HM).mono ?_
  rintro e w1 ⟨v1, rfl, hm1, hn1, hb1⟩
  obtain ⟨ma, mc, rfl, _, _⟩ := hm1.form
  replace hbx0 := hbx0.belowH hb1
  replace hbx1 := hbx1.belowH hb1
  replace hbx2 := hbx2.belowH hb1
  have hbel1 := hb0.trans (hb1.mono hzw)
  have hc00 := hbx0.cell0
  have HP := hide (placesOf_any (unhide HA _ hbel1) hm1 (asc_le (asc_meetL (unhide HG).asc)) (by omega) (by omega))
  have hzz1 : w.heap.size + 1 + 1 < w1.heap.size := hbx2.lt
  clear HM hn1 hb1
  go_wp2_with fail
  refine (unhide HP).mono ?_
  rintro e w2 ⟨v2, rfl, hm2, hn2, hb2⟩
  obtain ⟨pa, pc, rfl, _, _⟩ := hm2.form
  replace hbx0 := hbx0.belowH hb2
  replace hbx1 := hbx1.belowH hb2
  replace hbx2 := hbx2.belowH hb2
  have hbel2 := hbel1.trans (hb2.mono hbel1.size)
  replace hm1 := hm1.below hb2
  have hc10 := hbx1.cell0
  have hc11 := hbx1.cell1
  have HS := hide (shelve_any (unhide HR2 _ hbel2) hm1 (asc_le (asc_meetL (unhide HG).asc)) (unhide HG').dig (by omega) (by omega) (by omega))
  clear HP hc00 hn2 hb2
  go_wp2_with fail
  refine (unhide HS).mono ?_
  rintro e w3 ⟨us, rfl, hsh, hb3⟩
  obtain ⟨mb, ra, rn, rc, rfl⟩ := hsh.form
  replace hbx0 := hbx0.belowH hb3
  replace hbx2 := hbx2.belowH hb3
  have hbel3 := hbel2.trans (hb3.mono hbel2.size)
  have hpl3 := hm2.below hb3
  have hb5 := (Below.refl w3.heap.size w3).alloc (Nat.le_refl _) (.cells #[.map (some mb), .slice ra rn rc] 48)
  have hbm := BoxM.new w3 (.map (some mb)) (.slice ra rn rc)
  have hsz5 : (w3.alloc (.cells #[.map (some mb), .slice ra rn rc] 48)).heap.size = w3.heap.size + 1 := by simp
  obtain ⟨W5, hW5⟩ : ∃ W, W = w3.alloc (.cells #[.map (some mb), .slice ra rn rc] 48) := ⟨_, rfl⟩
  rw [← hW5] at hb5 hbm hsz5
  have HW5 := hide hW5
  have HSZ5 := hide hsz5
  replace hbx0 := hbx0.belowH hb5
  replace hbx2 := hbx2.belowH hb5
  have hc01 := hbx0.cell1
  have hc01' : (w3.alloc (.cells #[.map (some mb), .slice ra rn rc] 48)).cell? ⟨w.heap.size, 1, none⟩ = some (.slice b la.length cb) := by rw [← hW5]; exact hc01
  have hc02 := cell_push hc01' (.cells #[] 22)
  have hbel5 := hbel3.trans (hb5.mono hbel3.size)
  have HPL := hide (hpl3.below hb5)
  have HSH := hide hsh
  have HB35 := hide hb5
  have HOW := hide (OwnT.lit (w := W5) (Nat.le_refl W5.heap.size))
  have hzz5 : w.heap.size + 1 + 1 < W5.heap.size := hbx2.lt
  have hz5 := hbel5.size
  clear HS hc10 hc11 hm1 hm2 hsh hpl3 hW5 hsz5 hc01 hc01' hb3 hb5
  go_wp2
  rw [← unhide HW5]
  go_loopw [8, 10, 27] (fun v _ i wr => ∃ k : Nat, k ≤ la.length ∧ i = .int .i64 k ∧ OwnT W5.heap.size wr v ((la.take k).filter fun t => lb.any (fitB s u t)) ∧ Below W5.heap.size W5 wr) (fun _ _ i _ => la.length - (intOf i).toNat)
  case atStart => exact ⟨0, by omega, rfl, by have := unhide HOW; rw [unhide HSZ5] at this ⊢; simpa using this, (Below.refl _ _).alloc (Nat.le_refl _) _⟩
  case round =>
    clear hc02 HOW
    obtain ⟨k, hk, rfl, hown, hbel⟩ := hrel
    have hz := hbel.size
    have hil : ((la.take k).filter fun t => lb.any (fitB s u t)).length ≤ k := Nat.le_trans (List.length_filter_le _ _) (List.length_take_le _ _)
    by_cases hkl : k < la.length
    · obtain ⟨bl, ol, ul0, hble, hcl0, hiL0⟩ := (unhide HT _ hbel5).at hkl
      subst hble
      have hcl := Below.cell_of hbel hcl0
      obtain ⟨ia, ic, rfl, _, _⟩ := hiL0.form
      have htw := (unhide HG).wide _ (List.getElem_mem hkl)
      have HN := hide (filter_snoc (f := fun t => lb.any (fitB s u t)) hkl)
      have hap := hide (fun v (hv : New W5.heap.size wr v) => hiL0.apart hv (Nat.le_refl _))
      have HL := hide (like_any (unhide HSH) (below_then (unhide HB35) hbel) (hiL0.below hbel) ((unhide HPL).below hbel) ((unhide HG).dig _ (List.getElem_mem hkl)) (by have := idxL_le s (meetL s u) s.length; omega))
      rw [like_fit (unhide HG).asc (unhide HG').asc htw (unhide HG').wide] at HL
      have HQ := hide (any_len (fitB s u la[k]) lb)
      have hbm' := hbm.belowH hbel
      have hd0 := hbm'.cell0
      have hd1 := hbm'.cell1
      have hiLr := hide (fun W (hb : Below wr.heap.size wr W) => (hiL0.below hbel).below hb)
      generalize lb.any (fitB s u la[k]) = q at HN HQ
      generalize lb.filter (fitB s u la[k]) = F at HL HQ
      generalize (la.take k).filter (fun t => lb.any (fitB s u t)) = L at hown HN hil
      clear hiL0 hcl0 htw hbm'
      go_wp2_with fail
      refine (unhide HL).mono ?_
      rintro e w6 ⟨uF, rfl, hF, hb6⟩
      obtain ⟨fa, fc, rfl, _, _⟩ := hF.form
      have hown6 := hown.below hb6
      have hz6 := hb6.size
      have hnew6 : New W5.heap.size wr _ := hown.new
      clear HL hown hF hd0 hd1 hcl
      by_cases hF0 : 0 < F.length
      · have hq : q = true := by rw [unhide HQ]; simp [hF0]
        subst hq
        have hF1 : (0 : Int) < (F.length : Int) := by omega
        have HN2 := hide (by simpa using unhide HN)
        go_wp2_with (at_builtin; refine wp_app_tup rfl (.tmp 37) (.tmp 39) rfl hown6 (unhide hiLr _ hb6) (unhide hap _ hnew6) rfl (by omega) rfl (by omega) ?_; intro v' w7 hown7 hgrew)
        go_roundw
        case rel => exact ⟨k + 1, by omega, by go_num, by rw [unhide HN2]; exact hown7, (below_then hbel hb6).trans hgrew.below⟩
        case measure => simp [intOf]; omega
      · have hq : q = false := by rw [unhide HQ]; simpa using hF0
        subst hq
        have hF1 : ¬ (0 : Int) < (F.length : Int) := by omega
        have HN2 := hide (by simpa using unhide HN)
        go_wp2
        go_roundw
        case rel => exact ⟨k + 1, by omega, by go_num, by rw [unhide HN2]; exact hown6, below_then hbel hb6⟩
        case measure => simp [intOf]; omega
    · have hkk : k = la.length := by omega
      subst hkk
      rw [List.take_length] at hown hil
      have HSRT := hide (fun W (hb : Below wr.heap.size wr W) => sort_any (hown.tups.below hb) (by omega) (fun t ht => by have := (unhide HG).wide t (List.mem_filter.1 ht).1; have := (unhide HG).slen; omega))
      have HSA := hide (sortL_asc (List.Pairwise.filter (fun t => lb.any (fitB s u t)) (unhide HG).asl))
      rw [unhide HSA, ← unhide HSE] at HSRT
      have hbelr := hbel5.trans (hbel.mono hz5)
      have HCL := hide (cloneI_any (unhide HA _ hbelr) (by omega))
      obtain ⟨xa, xc, hre, _, _⟩ := hown.tups.form
      rw [hre] at HSRT ⊢
      have hbr0 := (hbx0.belowH hbel).cell0
      have hbr2 := hbx2.belowH hbel
      clear hown hre
      go_wp2_with fail
      refine (unhide HCL).mono ?_
      rintro e w7 ⟨u2, rfl, hu2, hb7⟩
      have hi2 := Seq.of_own hu2
      obtain ⟨ua, uc, hue, _, _⟩ := hi2.form
      rw [hue] at hi2 ⊢
      clear HCL hue hu2
      go_wp2_with fail
      refine (unhide HSRT _ hb7).mono ?_
      rintro e w8 ⟨u3, rfl, hu3, hun3, hb8⟩
      obtain ⟨va, vc, hve, _, _⟩ := hu3.form
      rw [hve] at hu3 hun3 ⊢
      have hb78 := below_then hb7 hb8
      have hbr3 := hbr2.belowH hb78
      have hd0 := hbr3.cell0
      have hd1 := hbr3.cell1
      have hg0 := hbr3.frozen 0
      have hg1 := hbr3.frozen 1
      have hi3 := hi2.below hb8
      have hbl := hbelr.trans (hb78.mono hbelr.size)
      have hz7 := hb7.size
      clear HSRT hve hbr0
      go_wp2
      have hfin := rel_store hbr3.boxS hd0 hi3 hu3 (hun3.ne (by omega))
      refine bodyPost_ret (v := .agg #[.slice ua s.length uc, .slice va SR.length vc]) (by simp [results, Tryz.results10, go_sem, hd0, hd1]) rfl ⟨_, rfl, hfin, below_store hbl (by omega) _ _⟩

end Go.Proofs.YtoiokplgkanepaaGreatDoor

namespace Go.Proofs.YtoiokplgkanepaaGreatDoor
open Go.RowKit
set_option linter.unusedVariables false
set_option linter.unusedSimpArgs false
set_option maxRecDepth 20000

theorem agree_same {s u : List Int} {la lb : List (List Int)} {n m : Nat} (g : Fine s la n) (g' : Fine u lb m) : sameR (meetL s (meetL s u)) (projL s la (meetL s u)) (meetL u (meetL s u)) (projL u lb (meetL s u)) = agreeB s la u lb := by
  have e1 : projL s la (meetL s u) = projL s la u := proj_congr (meet_meet g.asc)
  have e2 : projL u lb (meetL s u) = projL u lb s := proj_congr (by rw [meet_meet' g.asc g'.asc, meetS_comm g.asc g'.asc])
  rw [Bool.eq_iff_iff, sameR_iff, e1, e2, meet_meet g.asc, meet_meet' g.asc g'.asc]
  unfold agreeB
  simp

set_option maxHeartbeats 8000000 in
theorem agree_any {s u : List Int} {la lb : List (List Int)} {n m : Nat} {v v' : Value} {w : World} (h : RelV w v s la) (h' : RelV w v' u lb) (g : Fine s la n) (g' : Fine u lb m) (hn : n ≤ 5000) (hm : m ≤ 5000) :
    Calls Tryz.prog 12 #[v, v'] w fun e w' => e = .returned (.bool (agreeB s la u lb)) ∧ Below w.heap.size w w' := by
  obtain ⟨a, ca, b, cb, rfl, k1, k2, k3, k4, hs1, ht1⟩ := h.form
  obtain ⟨a', ca', b', cb', rfl, k1', k2', k3', k4', hs2, ht2⟩ := h'.form
  unfold maxLen at k2 k4 k2' k4'
  obtain ⟨W0, hW0⟩ : ∃ W, W = (w.alloc (.cells #[.slice a s.length ca, .slice b la.length cb] 27)).alloc (.cells #[.slice a' u.length ca', .slice b' lb.length cb'] 27) := ⟨_, rfl⟩
  have hb0 : Below w.heap.size w W0 := by rw [hW0]; exact b2x w _ _
  have hbx0 : Box W0 w.heap.size (.slice a s.length ca) (.slice b la.length cb) := by rw [hW0]; exact (Box.new w _ _).push _
  have hbx1 : Box W0 (w.heap.size + 1) (.slice a' u.length ca') (.slice b' lb.length cb') := by
    rw [hW0]; have := Box.new (w.alloc (.cells #[.slice a s.length ca, .slice b la.length cb] 27)) (.slice a' u.length ca') (.slice b' lb.length cb'); simpa using this
  have hsl := g.slen
  have hul := g'.slen
  have HM := hide (meet_any (hs1.below hb0) (hs2.below hb0) (by omega))
  rw [mrg_and g.asc g'.asc] at HM
  have HW0 := hide hW0
  have hzw := hb0.size
  have hblen : (meetL s u).length ≤ s.length := meetL_le s u
  have HE := hide (agree_same g g')
  have G := hide (g.good hn)
  have G' := hide (g'.good hm)
  have HR1 := hide (fun W (hb : Below w.heap.size w W) => h.below hb)
  have HR2 := hide (fun W (hb : Below w.heap.size w W) => h'.below hb)
  generalize agreeB s la u lb = q at HE ⊢
  clear h h' hW0 hs1 hs2 ht1 ht2 g g'
  go_enter Tryz.func12, Tryz.ntmps12
  go_wp2_with fail
  rw [← unhide HW0]
  refine (unhide HM).mono ?_
  rintro e w1 ⟨v1, rfl, hm1, hn1, hb1⟩
  obtain ⟨ma, mc, rfl, _, _⟩ := hm1.form
  replace hbx0 := hbx0.belowH hb1
  replace hbx1 := hbx1.belowH hb1
  have hbel1 := hb0.trans (hb1.mono hzw)
  generalize meetL s u = both at *
  have HP1 := hide (fun W (hb : Below w1.heap.size w1 W) => project_rel (unhide HR1 _ (hbel1.trans (hb.mono hbel1.size))) (hm1.below hb) (unhide G) (by omega))
  have HP2 := hide (fun W (hb : Below w1.heap.size w1 W) => project_rel (unhide HR2 _ (hbel1.trans (hb.mono hbel1.size))) (hm1.below hb) (unhide G') (by omega))
  have HK := hide (fun W (hb : Below w1.heap.size w1 W) => And.intro (And.intro (hbx0.belowH hb).cell0 (hbx0.belowH hb).cell1) (And.intro (hbx1.belowH hb).cell0 (hbx1.belowH hb).cell1))
  have hbR := Below.refl w1.heap.size w1
  clear HM hn1 hb1 hm1 hbx0 hbx1
  go_wp2
  go_region_held3 (fun W => (W.cell? ⟨w.heap.size, 0, none⟩ = some (.slice a s.length ca) ∧ W.cell? ⟨w.heap.size, 1, none⟩ = some (.slice b la.length cb)) ∧ (W.cell? ⟨w.heap.size + 1, 0, none⟩ = some (.slice a' u.length ca') ∧ W.cell? ⟨w.heap.size + 1, 1, none⟩ = some (.slice b' lb.length cb')))
    (first | exact unhide HK _ (by first | exact hB3 | exact hB2 | exact hB1 | exact hbR | exact below_same rfl rfl rfl rfl))
    (first
      | (go_at_call 34; refine (same_rel (h1.below hb2) h2).mono ?_; rintro e w4 ⟨rfl, hb3⟩; have hB3 := below_then hB2 hb3)
      | (go_at_call 35; refine (unhide HP2 _ hB1).mono ?_; rintro e w3 ⟨u2, rfl, h2, hb2⟩; obtain ⟨a2, c2, b2, d2, e2, _, _, _, _, _, _⟩ := h2.form; rw [e2] at h2 ⊢; clear e2; have hB2 : Below w1.heap.size w1 w3 := below_then hB1 hb2)
      | (go_at_call 35; refine (unhide HP1 _ (by first | exact hbR | exact below_same rfl rfl rfl rfl)).mono ?_; rintro e w2 ⟨u1, rfl, h1, hb1⟩; obtain ⟨a1, c1, b1, d1, e1, _, _, _, _, _, _⟩ := h1.form; rw [e1] at h1 ⊢; clear e1; have hB1 : Below w1.heap.size w1 w2 := below_then (by first | exact hbR | exact below_same rfl rfl rfl rfl) hb1))
  all_goals
    go_wp2
    go_ret
    exact ⟨by have e := unhide HE; subst e; rfl, hbel1.trans (hB3.mono hbel1.size)⟩

end Go.Proofs.YtoiokplgkanepaaGreatDoor

namespace Go.Proofs.YtoiokplgkanepaaGreatDoor
open Go.RowKit Go.Maps Go.WideMaps
set_option linter.unusedVariables false
set_option linter.unusedSimpArgs false
set_option maxRecDepth 20000

set_option maxHeartbeats 40000000 in
theorem join_any {s u : List Int} {la lb : List (List Int)} {n m : Nat} {v v' : Value} {most : Int} {w : World} (h : RelV w v s la) (h' : RelV w v' u lb) (g : Fine s la n) (g' : Fine u lb m) (hn : n < 100000) (hm : m < 100000) (hnm : n * m < 100000) :
    Calls Tryz.prog 7 #[v, v', .int .i64 most] w fun e w' => JoinEnds w.heap.size w' e (joinL s u) (joinR s la u lb) (pairR s la u lb).length most ∧ Below w.heap.size w w' := by
  obtain ⟨a, ca, b, cb, rfl, k1, k2, k3, k4, hs1, ht1⟩ := h.form
  obtain ⟨a', ca', b', cb', rfl, k1', k2', k3', k4', hs2, ht2⟩ := h'.form
  unfold maxLen at k2 k4 k2' k4'
  obtain ⟨W0, hW0⟩ : ∃ W, W = ((w.alloc (.cells #[.slice a s.length ca, .slice b la.length cb] 27)).alloc (.cells #[.slice a' u.length ca', .slice b' lb.length cb'] 27)).alloc (.cells #[.slice none 0 0, .slice none 0 0] 27) := ⟨_, rfl⟩
  have hb0 : Below w.heap.size w W0 := by rw [hW0]; exact (b2x w _ _).alloc (by simp; omega) _
  have hbx0 : Box W0 w.heap.size (.slice a s.length ca) (.slice b la.length cb) := by rw [hW0]; exact ((Box.new w _ _).push _).push _
  have hbx1 : Box W0 (w.heap.size + 1) (.slice a' u.length ca') (.slice b' lb.length cb') := by
    rw [hW0]; have := (Box.new (w.alloc (.cells #[.slice a s.length ca, .slice b la.length cb] 27)) (.slice a' u.length ca') (.slice b' lb.length cb')).push (.cells #[.slice none 0 0, .slice none 0 0] 27); simpa using this
  have hbx2 : Box W0 (w.heap.size + 1 + 1) (.slice none 0 0) (.slice none 0 0) := by
    rw [hW0]; have := Box.new ((w.alloc (.cells #[.slice a s.length ca, .slice b la.length cb] 27)).alloc (.cells #[.slice a' u.length ca', .slice b' lb.length cb'] 27)) (.slice none 0 0) (.slice none 0 0); simpa using this
  have hsl := g.slen
  have hul := g'.slen
  have hll := Nat.lt_of_le_of_lt g.llen hn
  have hml := Nat.lt_of_le_of_lt g'.llen hm
  have hrows : (progR s la u lb).length < 100000 := Nat.lt_of_le_of_lt (Nat.le_trans (pairs_le s u la lb) (Nat.mul_le_mul g.llen g'.llen)) hnm
  have HMK := hide (prog_make g g')
  have HPL := hide (prog_len s u lb la)
  have HW0 := hide hW0
  have hzw := hb0.size
  have HA := hide (fun W (hb : Below w.heap.size w W) => hs1.below hb)
  have HB := hide (fun W (hb : Below w.heap.size w W) => hs2.below hb)
  have HT := hide (fun W (hb : Below w.heap.size w W) => ht1.below hb)
  have HR2 := hide (fun W (hb : Below w.heap.size w W) => h'.below hb)
  have HG := hide g
  have HG' := hide g'
  have hblen : (meetL s u).length ≤ s.length := meetL_le s u
  have hrlen : (lessL u s).length ≤ u.length := List.length_filter_le _ _
  generalize joinR s la u lb = JR at HMK ⊢
  rw [← unhide HPL]
  clear h h' hW0 hs1 hs2 ht1 ht2 g g' HPL
  by_cases hneg : most < 0
  · clear HMK HA HB HT HR2
    have hd0 := hbx2.cell0
    have hd1 := hbx2.cell1
    have hg0 := hbx2.frozen 0
    have hg1 := hbx2.frozen 1
    go_enter Tryz.func7, Tryz.ntmps7
    go_wp2
    try rw [← unhide HW0]
    refine bodyPost_ret (v := .tuple #[.agg #[.slice none 0 0, .slice none 0 0], .int .i64 9]) (by simp [results, Tryz.results7, go_sem, hd0, hd1]) rfl ⟨.inr ⟨rfl, by omega⟩, ?_⟩
    first | exact hb0 | exact below_store hb0 (by omega) _ _
  have HMT := hide (fun W (hb : Below W0.heap.size W0 W) => meet_any (unhide HA _ (hb0.trans (hb.mono hzw))) (unhide HB _ (hb0.trans (hb.mono hzw))) (by omega))
  have HWO := hide (fun W (hb : Below W0.heap.size W0 W) => without_any (unhide HB _ (hb0.trans (hb.mono hzw))) (unhide HA _ (hb0.trans (hb.mono hzw))) (by omega))
  rw [mrg_and (unhide HG).asc (unhide HG').asc] at HMT
  rw [mrg_not (unhide HG').asc (unhide HG).asc] at HWO
  have HK := hide (fun W (hb : Below W0.heap.size W0 W) => And.intro (hbx0.belowH hb).cell0 (hbx1.belowH hb).cell0)
  have hbR := Below.refl W0.heap.size W0
  go_enter Tryz.func7, Tryz.ntmps7
  go_wp2
  rw [← unhide HW0]
  go_region_held3 (fun W => W.cell? ⟨w.heap.size, 0, none⟩ = some (.slice a s.length ca) ∧ W.cell? ⟨w.heap.size + 1, 0, none⟩ = some (.slice a' u.length ca'))
    (first | exact unhide HK _ (by first | exact hB2 | exact hB1 | exact hbR | exact below_same rfl rfl rfl rfl))
    (first
      | (go_at_call 21; refine (unhide HWO _ hB1).mono ?_; rintro e w2 ⟨v2, rfl, hm2, _, hb2⟩; obtain ⟨ra, rc, re, _, _⟩ := hm2.form; rw [re] at hm2 ⊢; clear re; have hB2 : Below W0.heap.size W0 w2 := below_then hB1 hb2)
      | (go_at_call 20; refine (unhide HMT _ (by first | exact hbR | exact below_same rfl rfl rfl rfl)).mono ?_; rintro e w1 ⟨v1, rfl, hm1, _, hb1⟩; obtain ⟨ma, mc, me, _, _⟩ := hm1.form; rw [me] at hm1 ⊢; clear me; have hB1 : Below W0.heap.size W0 w1 := below_then (by first | exact hbR | exact below_same rfl rfl rfl rfl) hb1))
  replace hm1 := hm1.below hb2
  replace hbx0 := hbx0.belowH hB2
  replace hbx1 := hbx1.belowH hB2
  replace hbx2 := hbx2.belowH hB2
  have hbel2 := hb0.trans (hB2.mono hzw)
  have hz2 := hbel2.size
  have HP1 := hide (fun W (hb : Below w2.heap.size w2 W) => placesOf_any (unhide HA _ (hbel2.trans (hb.mono hz2))) (hm1.below hb) (asc_le (asc_meetL (unhide HG).asc)) (by omega) (by omega))
  have HP2 := hide (fun W (hb : Below w2.heap.size w2 W) => placesOf_any (unhide HB _ (hbel2.trans (hb.mono hz2))) (hm2.below hb) (asc_le (asc_lessL (unhide HG').asc)) (by omega) (by omega))
  have HK2 := hide (fun W (hb : Below w2.heap.size w2 W) => And.intro (hbx0.belowH hb).cell0 (hbx1.belowH hb).cell0)
  have hbR2 := Below.refl w2.heap.size w2
  clear HMT HWO HK hbR hB1 hB2 hb1 hb2 hb0 hzw
  have hm1' := hide hm1
  have hm2' := hide hm2
  clear hm1 hm2
  go_wp2
  go_region_held3 (fun W => W.cell? ⟨w.heap.size, 0, none⟩ = some (.slice a s.length ca) ∧ W.cell? ⟨w.heap.size + 1, 0, none⟩ = some (.slice a' u.length ca'))
    (first | exact unhide HK2 _ (by first | exact hB4 | exact hB3 | exact hbR2 | exact below_same rfl rfl rfl rfl))
    (first
      | (go_at_call 22; refine (unhide HP2 _ hB3).mono ?_; rintro e w4 ⟨v4, rfl, hp2, _, hb4⟩; obtain ⟨qa, qc, qe, _, _⟩ := hp2.form; rw [qe] at hp2 ⊢; clear qe; have hB4 : Below w2.heap.size w2 w4 := below_then hB3 hb4)
      | (go_at_call 22; refine (unhide HP1 _ (by first | exact hbR2 | exact below_same rfl rfl rfl rfl)).mono ?_; rintro e w3 ⟨v3, rfl, hp1, _, hb3⟩; obtain ⟨pa, pc, pe, _, _⟩ := hp1.form; rw [pe] at hp1 ⊢; clear pe; have hB3 : Below w2.heap.size w2 w3 := below_then (by first | exact hbR2 | exact below_same rfl rfl rfl rfl) hb3))
  replace hp1 := hp1.below hb4
  replace hbx0 := hbx0.belowH hB4
  replace hbx1 := hbx1.belowH hB4
  replace hbx2 := hbx2.belowH hB4
  have hbel4 := hbel2.trans (hB4.mono hz2)
  have hm1 := (unhide hm1').below hB4
  have hm2 := (unhide hm2').below hB4
  have HS := hide (shelve_any (unhide HR2 _ hbel4) hm1 (asc_le (asc_meetL (unhide HG).asc)) (unhide HG').dig (by omega) (by omega) (by omega))
  have hc10 := hbx1.cell0
  have hc11 := hbx1.cell1
  have HP1' := hide hp1
  have HP2' := hide hp2
  have HM2 := hide hm2
  clear HP1 HP2 HK2 hbR2 hB3 hB4 hb3 hb4 hm1 hm2 hm1' hm2' hp1 hp2
  go_wp2_with fail
  refine (unhide HS).mono ?_
  rintro e w5 ⟨us, rfl, hsh, hb5⟩
  obtain ⟨mb, xa, xn, xc, rfl⟩ := hsh.form
  replace hbx0 := hbx0.belowH hb5
  replace hbx2 := hbx2.belowH hb5
  have hbel5 := hbel4.trans (hb5.mono hbel4.size)
  have hb6 := (Below.refl w5.heap.size w5).alloc (Nat.le_refl _) (.cells #[.map (some mb), .slice xa xn xc] 48)
  have hbm := BoxM.new w5 (.map (some mb)) (.slice xa xn xc)
  have hsz6 : (w5.alloc (.cells #[.map (some mb), .slice xa xn xc] 48)).heap.size = w5.heap.size + 1 := by simp
  obtain ⟨W6, hW6⟩ : ∃ W, W = w5.alloc (.cells #[.map (some mb), .slice xa xn xc] 48) := ⟨_, rfl⟩
  rw [← hW6] at hb6 hbm hsz6
  have HW6 := hide hW6
  have HSZ6 := hide hsz6
  replace hbx0 := hbx0.belowH hb6
  replace hbx2 := hbx2.belowH hb6
  have hc01 := hbx0.cell1
  have hc01' : (w5.alloc (.cells #[.map (some mb), .slice xa xn xc] 48)).cell? ⟨w.heap.size, 1, none⟩ = some (.slice b la.length cb) := by rw [← hW6]; exact hc01
  have hc02 := cell_push hc01' (.cells #[] 22)
  have hbel6 := hbel5.trans (hb6.mono hbel5.size)
  have hb46 := below_then hb5 hb6
  have HI1 := hide ((unhide HP1').below hb46)
  have HI2 := hide ((unhide HP2').below hb46)
  rw [rest_right (unhide HG').asc] at HI2
  have HRS := hide ((unhide HM2).below hb46)
  have HSH := hide hsh
  have HB56 := hide hb6
  have HOW := hide (OwnT.lit (w := W6) (Nat.le_refl W6.heap.size))
  have hzz6 : w.heap.size + 1 + 1 < W6.heap.size := hbx2.lt
  have hz6 := hbel6.size
  have hprl : ((lessL u s).map (placeL u)).length ≤ u.length := by rw [List.length_map]; exact hrlen
  have HPT := hide (fun t => show progT s u lb t = (lb.filter (fitB s u t)).map fun v => t ++ pickL v ((lessL u s).map (placeL u)) from rfl)
  have eix := idxL_le u (lessL u s) u.length
  rw [rest_right (unhide HG').asc] at eix
  have eqI : Hid ((idxL u (lessL u s) u.length).length = ((lessL u s).map (placeL u)).length) := hide (by rw [rest_right (unhide HG').asc])
  rw [unhide eqI]
  generalize (lessL u s).map (placeL u) = pr at *
  clear HS hc10 hc11 hsh hW6 hsz6 hc01 hc01' hb5 hb6 hb46 HP1' HP2' HM2 eix eqI
  go_wp2
  rw [← unhide HW6]
  go_loopw [13, 15, 17, 46] (fun v _ _ i wr => ∃ k : Nat, k ≤ la.length ∧ i = .int .i64 k ∧ OwnT W6.heap.size wr v (progR s (la.take k) u lb) ∧ Below W6.heap.size W6 wr ∧ ((progR s (la.take k) u lb).length : Int) ≤ most) (fun _ _ _ i _ => la.length - (intOf i).toNat)
  case atStart => exact ⟨0, by omega, rfl, by have := unhide HOW; rw [unhide HSZ6] at this ⊢; simpa [progR] using this, (Below.refl _ _).alloc (Nat.le_refl _) _, by simp [progR]; omega⟩
  case round =>
    clear hc02 HOW
    obtain ⟨k, hk, rfl, hown, hbel, hmost⟩ := hrel
    have hz := hbel.size
    by_cases hkl : k < la.length
    · obtain ⟨bl, ol, ul0, hble, hcl0, hiL0⟩ := (unhide HT _ hbel6).at hkl
      subst hble
      have hcl := Below.cell_of hbel hcl0
      obtain ⟨ia, ic, rfl, _, _⟩ := hiL0.form
      have htw := (unhide HG).wide _ (List.getElem_mem hkl)
      have HN := hide (prog_snoc (s := s) (u := u) (lb := lb) hkl)
      have HMR := hide (prog_more (s := s) (u := u) (lb := lb) hkl)
      have HL := hide (like_any (unhide HSH) (below_then (unhide HB56) hbel) (hiL0.below hbel) ((unhide HI1).below hbel) ((unhide HG).dig _ (List.getElem_mem hkl)) (by have := idxL_le s (meetL s u) s.length; omega))
      rw [like_fit (unhide HG).asc (unhide HG').asc htw (unhide HG').wide] at HL
      have hbm' := hbm.belowH hbel
      have hd0 := hbm'.cell0
      have hd1 := hbm'.cell1
      have HIL := hide (fun W (hb : Below W6.heap.size W6 W) => hiL0.below hb)
      rw [unhide HPT la[k]] at HN HMR
      have hfl := List.length_filter_le (fitB s u la[k]) lb
      generalize lb.filter (fitB s u la[k]) = F at HL HN HMR hfl
      generalize progR s (la.take k) u lb = L at hown HN HMR hmost
      obtain ⟨t, hte⟩ : ∃ t, t = la[k] := ⟨_, rfl⟩
      rw [← hte] at HN HMR HIL HL hcl
      have htl : t.length ≤ 200 := by rw [hte, htw]; exact hsl
      try rw [← hte]
      clear hiL0 hcl0 htw hbm' hte
      go_wp2_with fail
      refine (unhide HL).mono ?_
      rintro e w7 ⟨uF, rfl, hF, hb7⟩
      obtain ⟨fa, fc, rfl, hf1, hf2⟩ := hF.form
      unfold maxLen at hf2
      have hown7 := hown.below hb7
      have hbel7 := below_then hbel hb7
      have HF := hide (hF.below (unhide HB56))
      clear HL hown hF hd0 hd1 hcl hb7 hbel
      have hwq : W6.heap.size ≤ w7.heap.size := hbel7.size
      go_wp2
      go_loopw [13, 17, 55] (fun v _ i wq => ∃ j : Nat, j ≤ F.length ∧ i = .int .i64 j ∧ OwnT W6.heap.size wq v (L ++ (F.take j).map fun v => t ++ pickL v pr) ∧ Below W6.heap.size W6 wq ∧ ((L ++ (F.take j).map fun v => t ++ pickL v pr).length : Int) ≤ most) (fun _ _ i _ => F.length - (intOf i).toNat)
      case atStart => exact ⟨0, by omega, rfl, by simpa using hown7, hbel7, by simpa using hmost⟩
      case round =>
        clear hown7 hbel7 hmost hwq
        obtain ⟨j, hj, rfl, howq, hbq, hmq⟩ := hrel
        have hzq := hbq.size
        by_cases hjl : j < F.length
        · obtain ⟨bq, oq, uq, hbqe, hcq0, hiQ0⟩ := (unhide HF).at hjl
          subst hbqe
          have hcq := Below.cell_of hbq hcq0
          obtain ⟨ja, jc, rfl, _, _⟩ := hiQ0.form
          have HNJ := hide (show (F.take (j + 1)).map (fun v => t ++ pickL v pr) = (F.take j).map (fun v => t ++ pickL v pr) ++ [t ++ pickL F[j] pr] by rw [List.take_succ_eq_append_getElem hjl, List.map_append]; rfl)
          have hlen : (L ++ (F.take j).map fun v => t ++ pickL v pr).length = L.length + j := by simp; omega
          have hmr := unhide HMR
          rw [List.length_map] at hmr
          have hle9 : (L ++ (F.take j).map fun v => t ++ pickL v pr).length < (progR s la u lb).length := by omega
          have HPK := hide (pick_any (hiQ0.below hbq) ((unhide HI2).below hbq) (by omega))
          have hpk := pick_len F[j] pr
          have HNJ2 := hide (show L ++ (F.take (j + 1)).map (fun v => t ++ pickL v pr) = (L ++ (F.take j).map fun v => t ++ pickL v pr) ++ [t ++ pickL F[j] pr] by rw [unhide HNJ, List.append_assoc])
          have hiT := unhide HIL _ hbq
          generalize pickL F[j] pr = P at *
          obtain ⟨Q, hQe⟩ : ∃ Q, Q = (L ++ (F.take j).map fun v => t ++ pickL v pr) := ⟨_, rfl⟩
          rw [← hQe] at howq hmq hle9 HNJ2
          obtain ⟨ya, yc, hye, _, _⟩ := howq.tups.form
          subst hye
          clear hQe hlen hmr HNJ hiQ0 hcq0
          by_cases heq : (Q.length : Int) = most
          · have heq1 : ((Q.length : Int) == most) = true := by simpa using heq
            have hbq2 := hbx2.belowH hbq
            have hd0 := hbq2.cell0
            have hd1 := hbq2.cell1
            have hg0 := hbq2.frozen 0
            have hg1 := hbq2.frozen 1
            have HEQ := hide heq
            clear howq hiT HPK heq hmq
            go_wp2
            refine bodyPost_ret (v := .tuple #[.agg #[.slice none 0 0, .slice none 0 0], .int .i64 9]) (by simp [results, Tryz.results7, go_sem, hd0, hd1]) rfl ⟨.inr ⟨rfl, by have := unhide HEQ; omega⟩, below_store (hbel6.trans (hbq.mono hz6)) (by omega) _ _⟩
          · have heq1 : ((Q.length : Int) == most) = false := by simpa using heq
            have HEQ := hide heq
            have HOQ := hide howq
            have HTT := hide hiT
            clear howq hiT heq
            go_wp2_with fail
            refine (unhide HPK).mono ?_
            rintro e w8 ⟨vp, rfl, hvp, hnp, hb8⟩
            obtain ⟨za, zc, rfl, _, _⟩ := hvp.form
            have hb9 := (Below.refl w8.heap.size w8).alloc (Nat.le_refl _) (.cells #[.slice ia t.length ic, .slice za P.length zc] 22)
            have HC := hide (concatI_any ((((unhide HTT).below hb8)).below hb9) (hvp.below hb9) (heap_alloc_new w8 _) (by omega) (by omega))
            generalize t ++ P = R at HC HNJ2
            clear HPK hvp hnp hcq
            go_wp2_with fail
            refine (unhide HC).mono ?_
            rintro e w9 ⟨vc, rfl, hvc, hnc, hb10⟩
            obtain ⟨ea, ec, rfl, _, _⟩ := hvc.form
            have hB9 : Below _ _ w9 := below_then hb8 (below_then hb9 hb10)
            have howq9 := (unhide HOQ).below hB9
            have hsep := hide (show Sep _ _ from (Sep.of_new (unhide HOQ).new (show _ ≤ (w8.alloc (.cells #[.slice ia t.length ic, .slice za P.length zc] 22)).heap.size from Nat.le_trans hb8.size (by simp)) hnc).symm)
            have hz9 := hB9.size
            clear HC hnc hb9 hb10 hb8
            go_wp2_with (at_builtin; refine wp_app_tup rfl (.tmp 64) (.tmp 71) rfl howq9 hvc (fun _ => unhide hsep) rfl (by omega) rfl (by omega) ?_; intro v' w10 hown10 hgrew)
            go_roundw
            case rel => exact ⟨j + 1, by omega, by go_num, by rw [unhide HNJ2]; exact hown10, (below_then hbq hB9).trans hgrew.below, by rw [unhide HNJ2, List.length_append]; have := unhide HEQ; simp; omega⟩
            case measure => simp [intOf]; omega
        · have hjj : j = F.length := by omega
          subst hjj
          rw [List.take_length, ← unhide HN] at howq hmq
          go_wp2
          go_roundw
          case rel => exact ⟨k + 1, by omega, by go_num, howq, hbq, hmq⟩
          case measure => simp [intOf]; omega
    · have hkk : k = la.length := by omega
      subst hkk
      rw [List.take_length] at hown hmost
      have hbelr := hbel6.trans (hbel.mono hz6)
      have hbr2 := hbx2.belowH hbel
      have hc0r := (hbx0.belowH hbel).cell0
      have hbl := (Below.refl wr.heap.size wr).alloc (Nat.le_refl _) (.cells #[.slice a s.length ca, .slice ra (lessL u s).length rc] 22)
      have HC := hide (concatI_any ((unhide HA _ hbelr).below hbl) (((unhide HRS).below hbel).below hbl) (heap_alloc_new wr _) (by omega) (by omega))
      obtain ⟨ya, yc, hye, _, _⟩ := hown.tups.form
      have HTU := hide hown.tups
      rw [hye] at HTU ⊢
      have hS2 : (s ++ lessL u s).length ≤ 400 := by rw [List.length_append]; omega
      generalize s ++ lessL u s = S2 at HC HMK hS2
      clear hown hye
      go_wp2_with fail
      refine (unhide HC).mono ?_
      rintro e w7 ⟨vc, rfl, hvc, hnc, hb7⟩
      obtain ⟨ea, ec, rfl, _, _⟩ := hvc.form
      have hB7 : Below wr.heap.size wr w7 := hbl.trans (hb7.mono (by simp))
      obtain ⟨hok, hrise, hmake⟩ := unhide HMK
      have HMA := hide (make_okN hvc ((unhide HTU).below hB7) hrows (by omega) hok)
      rw [hrise, hmake] at HMA
      clear HC hvc hnc hb7 hok hrise hmake HMK hc0r
      go_wp2_with fail
      refine (unhide HMA).mono ?_
      rintro e w8 ⟨x8, y8, rfl, hx8, hx8n, hb8⟩
      obtain ⟨fa, fc, fb, fd, hxe, _, _, _, _, hxi, hxt⟩ := hx8.form
      cases hxe
      have hB8 := below_then hB7 hb8
      have hbr8 := hbr2.belowH hB8
      have hd0 := hbr8.cell0
      have hd1 := hbr8.cell1
      have hg0 := hbr8.frozen 0
      have hg1 := hbr8.frozen 1
      have hblw := hbelr.trans (hB8.mono hbelr.size)
      clear HMA
      go_wp2
      have hfin := rel_store hbr8.boxS hd0 hxi hxt (hx8n _ (by have := hB7.size; omega))
      refine bodyPost_ret (v := .tuple #[.agg #[.slice fa (joinL s u).length fc, .slice fb JR.length fd], .int .i64 0]) (by simp [results, Tryz.results7, go_sem, hd0, hd1]) rfl ⟨.inl ⟨_, _, rfl, hfin, hmost, fun b hb => hx8n b (by have := hB7.size; have := hbelr.size; omega)⟩, below_store hblw (by omega) _ _⟩

end Go.Proofs.YtoiokplgkanepaaGreatDoor
