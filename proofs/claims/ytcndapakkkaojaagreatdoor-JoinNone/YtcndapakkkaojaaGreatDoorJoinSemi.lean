/-
  The contracts of Semijoin and of Agree.
-/
import Derived.Test.YtcndapakkkaojaaGreatDoorJoinShelf
import Derived.Test.YtcndapakkkaojaaGreatDoorJoinMath2
import Derived.Test.YtcndapakkkaojaaGreatDoorJoinConcat
import Derived.Test.YtcndapakkkaojaaGreatDoorTupMrg
namespace Go.Proofs.YtcndapakkkaojaaGreatDoor
open Go.RowKit Go.Maps Go.WideMaps
set_option linter.unusedVariables false
set_option linter.unusedSimpArgs false
set_option maxRecDepth 20000

theorem ShelfV.form {w : World} {v : Value} {ps : List Int} {lb : List (List Int)} (h : ShelfV w v ps lb) : ∃ mb ra rn rc, v = .agg #[.map (some mb), .slice ra rn rc] := by
  obtain ⟨b, n, rv, D, ks, gs, rfl, _, _, h4, _⟩ := h
  obtain ⟨ra, rc, rfl, _, _⟩ := h4.form
  exact ⟨b, ra, _, rc, rfl⟩

theorem BoxM.belowH {w w' : World} {b : Nat} {x y : Value} (h : BoxM w b x y) (hb : Below w.heap.size w w') : BoxM w' b x y := h.grown (row := none) ⟨hb.os, hb.tape, hb.output, hb.size, fun k hk _ => hb.block k hk⟩ (by simp)
theorem BoxM.new (w : World) (x y : Value) : BoxM (w.alloc (.cells #[x, y] 57)) w.heap.size x y := heap_alloc_new w _

theorem any_len {α : Type} (p : α → Bool) (l : List α) : l.any p = decide (0 < (l.filter p).length) := by
  induction l with
  | nil => rfl
  | cons x r ih => by_cases h : p x <;> simp [List.filter_cons, h, ih]

theorem asc_le {l : List Int} (h : Asc l) : l.Pairwise (· ≤ ·) := List.Pairwise.imp (fun h => Int.le_of_lt h) h

set_option maxHeartbeats 16000000 in
theorem semijoin_any {s u : List Int} {la lb : List (List Int)} {n m : Nat} {v v' : Value} {w : World} (h : RelV w v s la) (h' : RelV w v' u lb) (g : Fine s la n) (g' : Fine u lb m) (hn : n < 100000) (hm : m < 100000) :
    Calls Tryz.prog 17 #[v, v'] w fun e w' => ∃ x, e = .returned x ∧ RelV w' x s (semiR s la u lb) ∧ Below w.heap.size w w' := by
  obtain ⟨a, ca, b, cb, rfl, k1, k2, k3, k4, hs1, ht1⟩ := h.form
  obtain ⟨a', ca', b', cb', rfl, k1', k2', k3', k4', hs2, ht2⟩ := h'.form
  unfold maxLen at k2 k4 k2' k4'
  obtain ⟨W0, hW0⟩ : ∃ W, W = ((w.alloc (.cells #[.slice a s.length ca, .slice b la.length cb] 27)).alloc (.cells #[.slice a' u.length ca', .slice b' lb.length cb'] 27)).alloc (.cells #[.slice none 0 0, .slice none 0 0] 27) := ⟨_, rfl⟩
  have hb0 : Below w.heap.size w W0 := by rw [hW0]; exact (b2x w _ _).alloc (by simp; omega) _
  have hbx0 : Box W0 w.heap.size (.slice a s.length ca) (.slice b la.length cb) := by rw [hW0]; exact ((Box.new w _ _).push _).push _
  have hbx1 : Box W0 (w.heap.size + 1) (.slice a' u.length ca') (.slice b' lb.length cb') := by
    rw [hW0]; have := (Box.new (w.alloc (.cells #[.slice a s.length ca, .slice b la.length cb] 27)) (.slice a' u.length ca') (.slice b' lb.length cb')).push (.cells #[.slice none 0 0, .slice none 0 0] 27); simpa using this
  have hbx2 : Box W0 (w.heap.size + 1 + 1) (.slice none 0 0) (.slice none 0 0) := by
    rw [hW0]; have := Box.new ((w.alloc (.cells #[.slice a s.length ca, .slice b la.length cb] 27)).alloc (.cells #[.slice a' u.length ca', .slice b' lb.length cb'] 27)) (.slice none 0 0) (.slice none 0 0); simpa using this
  have hsl := g.slen
  have hul := g'.slen
  have hll := Nat.lt_of_le_of_lt g.llen hn
  have hml := Nat.lt_of_le_of_lt g'.llen hm
  have HM := hide (meet_any (hs1.below hb0) (hs2.below hb0) (by omega))
  rw [mrg_and g.asc g'.asc] at HM
  have HW0 := hide hW0
  have hzw := hb0.size
  have HA := hide (fun W (hb : Below w.heap.size w W) => hs1.below hb)
  have HT := hide (fun W (hb : Below w.heap.size w W) => ht1.below hb)
  have HR2 := hide (fun W (hb : Below w.heap.size w W) => h'.below hb)
  have HG := hide g
  have HG' := hide g'
  have hblen : (meetL s u).length ≤ s.length := meetL_le s u
  have HSE := hide (show semiR s la u lb = la.filter fun t => lb.any (fitB s u t) from rfl)
  generalize semiR s la u lb = SR at HSE
  clear h h' hW0 hs1 hs2 ht1 ht2 g g'
  go_enter Tryz.func17, Tryz.ntmps17
  go_wp2_with fail
  rw [← unhide HW0]
  refine (unhide HM).mono ?_
  rintro e w1 ⟨v1, rfl, hm1, hn1, hb1⟩
  obtain ⟨ma, mc, rfl, _, _⟩ := hm1.form
  replace hbx0 := hbx0.belowH hb1
  replace hbx1 := hbx1.belowH hb1
  replace hbx2 := hbx2.belowH hb1
  have hbel1 := hb0.trans (hb1.mono hzw)
  have hc00 := hbx0.cell0
  have HP := hide (placesOf_any (unhide HA _ hbel1) hm1 (asc_le (asc_meetL (unhide HG).asc)) (by omega) (by omega))
  have hzz1 : w.heap.size + 1 + 1 < w1.heap.size := hbx2.lt
  clear HM hn1 hb1
  go_wp2_with fail
  refine (unhide HP).mono ?_
  rintro e w2 ⟨v2, rfl, hm2, hn2, hb2⟩
  obtain ⟨pa, pc, rfl, _, _⟩ := hm2.form
  replace hbx0 := hbx0.belowH hb2
  replace hbx1 := hbx1.belowH hb2
  replace hbx2 := hbx2.belowH hb2
  have hbel2 := hbel1.trans (hb2.mono hbel1.size)
  replace hm1 := hm1.below hb2
  have hc10 := hbx1.cell0
  have hc11 := hbx1.cell1
  have HS := hide (shelve_any (unhide HR2 _ hbel2) hm1 (asc_le (asc_meetL (unhide HG).asc)) (unhide HG').dig (by omega) (by omega) (by omega))
  clear HP hc00 hn2 hb2
  go_wp2_with fail
  refine (unhide HS).mono ?_
  rintro e w3 ⟨us, rfl, hsh, hb3⟩
  obtain ⟨mb, ra, rn, rc, rfl⟩ := hsh.form
  replace hbx0 := hbx0.belowH hb3
  replace hbx2 := hbx2.belowH hb3
  have hbel3 := hbel2.trans (hb3.mono hbel2.size)
  have hpl3 := hm2.below hb3
  have hb5 := (Below.refl w3.heap.size w3).alloc (Nat.le_refl _) (.cells #[.map (some mb), .slice ra rn rc] 57)
  have hbm := BoxM.new w3 (.map (some mb)) (.slice ra rn rc)
  have hsz5 : (w3.alloc (.cells #[.map (some mb), .slice ra rn rc] 57)).heap.size = w3.heap.size + 1 := by simp
  obtain ⟨W5, hW5⟩ : ∃ W, W = w3.alloc (.cells #[.map (some mb), .slice ra rn rc] 57) := ⟨_, rfl⟩
  rw [← hW5] at hb5 hbm hsz5
  have HW5 := hide hW5
  have HSZ5 := hide hsz5
  replace hbx0 := hbx0.belowH hb5
  replace hbx2 := hbx2.belowH hb5
  have hc01 := hbx0.cell1
  have hc01' : (w3.alloc (.cells #[.map (some mb), .slice ra rn rc] 57)).cell? ⟨w.heap.size, 1, none⟩ = some (.slice b la.length cb) := by rw [← hW5]; exact hc01
  have hc02 := cell_push hc01' (.cells #[] 22)
  have hbel5 := hbel3.trans (hb5.mono hbel3.size)
  have HPL := hide (hpl3.below hb5)
  have HSH := hide hsh
  have HB35 := hide hb5
  have HOW := hide (OwnT.lit (w := W5) (Nat.le_refl W5.heap.size))
  have hzz5 : w.heap.size + 1 + 1 < W5.heap.size := hbx2.lt
  have hz5 := hbel5.size
  clear HS hc10 hc11 hm1 hm2 hsh hpl3 hW5 hsz5 hc01 hc01' hb3 hb5
  go_wp2
  rw [← unhide HW5]
  go_loopw [8, 10, 27] (fun v _ i wr => ∃ k : Nat, k ≤ la.length ∧ i = .int .i64 k ∧ OwnT W5.heap.size wr v ((la.take k).filter fun t => lb.any (fitB s u t)) ∧ Below W5.heap.size W5 wr) (fun _ _ i _ => la.length - (intOf i).toNat)
  case atStart => exact ⟨0, by omega, rfl, by have := unhide HOW; rw [unhide HSZ5] at this ⊢; simpa using this, (Below.refl _ _).alloc (Nat.le_refl _) _⟩
  case round =>
    clear hc02 HOW
    obtain ⟨k, hk, rfl, hown, hbel⟩ := hrel
    have hz := hbel.size
    have hil : ((la.take k).filter fun t => lb.any (fitB s u t)).length ≤ k := Nat.le_trans (List.length_filter_le _ _) (List.length_take_le _ _)
    by_cases hkl : k < la.length
    · obtain ⟨bl, ol, ul0, hble, hcl0, hiL0⟩ := (unhide HT _ hbel5).at hkl
      subst hble
      have hcl := Below.cell_of hbel hcl0
      obtain ⟨ia, ic, rfl, _, _⟩ := hiL0.form
      have htw := (unhide HG).wide _ (List.getElem_mem hkl)
      have HN := hide (filter_snoc (f := fun t => lb.any (fitB s u t)) hkl)
      have hap := hide (fun v (hv : New W5.heap.size wr v) => hiL0.apart hv (Nat.le_refl _))
      have HL := hide (like_any (unhide HSH) (below_then (unhide HB35) hbel) (hiL0.below hbel) ((unhide HPL).below hbel) ((unhide HG).dig _ (List.getElem_mem hkl)) (by have := idxL_le s (meetL s u) s.length; omega))
      rw [like_fit (unhide HG).asc (unhide HG').asc htw (unhide HG').wide] at HL
      have HQ := hide (any_len (fitB s u la[k]) lb)
      have hbm' := hbm.belowH hbel
      have hd0 := hbm'.cell0
      have hd1 := hbm'.cell1
      have hiLr := hide (fun W (hb : Below wr.heap.size wr W) => (hiL0.below hbel).below hb)
      generalize lb.any (fitB s u la[k]) = q at HN HQ
      generalize lb.filter (fitB s u la[k]) = F at HL HQ
      generalize (la.take k).filter (fun t => lb.any (fitB s u t)) = L at hown HN hil
      clear hiL0 hcl0 htw hbm'
      go_wp2_with fail
      refine (unhide HL).mono ?_
      rintro e w6 ⟨uF, rfl, hF, hb6⟩
      obtain ⟨fa, fc, rfl, _, _⟩ := hF.form
      have hown6 := hown.below hb6
      have hz6 := hb6.size
      have hnew6 : New W5.heap.size wr _ := hown.new
      clear HL hown hF hd0 hd1 hcl
      by_cases hF0 : 0 < F.length
      · have hq : q = true := by rw [unhide HQ]; simp [hF0]
        subst hq
        have hF1 : (0 : Int) < (F.length : Int) := by omega
        have HN2 := hide (by simpa using unhide HN)
        go_wp2_with (at_builtin; refine wp_app_tup rfl (.tmp 37) (.tmp 39) rfl hown6 (unhide hiLr _ hb6) (unhide hap _ hnew6) rfl (by omega) rfl (by omega) ?_; intro v' w7 hown7 hgrew)
        go_roundw
        case rel => exact ⟨k + 1, by omega, by go_num, by rw [unhide HN2]; exact hown7, (below_then hbel hb6).trans hgrew.below⟩
        case measure => simp [intOf]; omega
      · have hq : q = false := by rw [unhide HQ]; simpa using hF0
        subst hq
        have hF1 : ¬ (0 : Int) < (F.length : Int) := by omega
        have HN2 := hide (by simpa using unhide HN)
        go_wp2
        go_roundw
        case rel => exact ⟨k + 1, by omega, by go_num, by rw [unhide HN2]; exact hown6, below_then hbel hb6⟩
        case measure => simp [intOf]; omega
    · have hkk : k = la.length := by omega
      subst hkk
      rw [List.take_length] at hown hil
      have HSRT := hide (fun W (hb : Below wr.heap.size wr W) => sort_any (hown.tups.below hb) (by omega) (fun t ht => by have := (unhide HG).wide t (List.mem_filter.1 ht).1; have := (unhide HG).slen; omega))
      have HSA := hide (sortL_asc (List.Pairwise.filter (fun t => lb.any (fitB s u t)) (unhide HG).asl))
      rw [unhide HSA, ← unhide HSE] at HSRT
      have hbelr := hbel5.trans (hbel.mono hz5)
      have HCL := hide (cloneI_any (unhide HA _ hbelr) (by omega))
      obtain ⟨xa, xc, hre, _, _⟩ := hown.tups.form
      rw [hre] at HSRT ⊢
      have hbr0 := (hbx0.belowH hbel).cell0
      have hbr2 := hbx2.belowH hbel
      clear hown hre
      go_wp2_with fail
      refine (unhide HCL).mono ?_
      rintro e w7 ⟨u2, rfl, hu2, hb7⟩
      have hi2 := Seq.of_own hu2
      obtain ⟨ua, uc, hue, _, _⟩ := hi2.form
      rw [hue] at hi2 ⊢
      clear HCL hue hu2
      go_wp2_with fail
      refine (unhide HSRT _ hb7).mono ?_
      rintro e w8 ⟨u3, rfl, hu3, hun3, hb8⟩
      obtain ⟨va, vc, hve, _, _⟩ := hu3.form
      rw [hve] at hu3 hun3 ⊢
      have hb78 := below_then hb7 hb8
      have hbr3 := hbr2.belowH hb78
      have hd0 := hbr3.cell0
      have hd1 := hbr3.cell1
      have hg0 := hbr3.frozen 0
      have hg1 := hbr3.frozen 1
      have hi3 := hi2.below hb8
      have hbl := hbelr.trans (hb78.mono hbelr.size)
      have hz7 := hb7.size
      clear HSRT hve hbr0
      go_wp2
      have hfin := rel_store hbr3.boxS hd0 hi3 hu3 (hun3.ne (by omega))
      refine bodyPost_ret (v := .agg #[.slice ua s.length uc, .slice va SR.length vc]) (by simp [results, Tryz.results17, go_sem, hd0, hd1]) rfl ⟨_, rfl, hfin, below_store hbl (by omega) _ _⟩

end Go.Proofs.YtcndapakkkaojaaGreatDoor
