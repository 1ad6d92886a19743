/-
  The contract of the document's Join.
-/
import Derived.Test.YtoiokplgkanepaaGreatDoorRefFit
import Derived.Test.YtoiokplgkanepaaGreatDoorRefSort
import Derived.Test.YtoiokplgkanepaaGreatDoorRefJoin
import Derived.Test.YtoiokplgkanepaaGreatDoorRelUnion
import Derived.Deep.RegionHeld3
namespace Go.Proofs.YtoiokplgkanepaaGreatDoor
open Go.RowKit
set_option linter.unusedVariables false
set_option linter.unusedSimpArgs false
set_option maxRecDepth 20000

/-- The rows that are made while the outer loop is at i, the inner one at k. -/
def pairK (s : List Int) (la : List (List Int)) (u : List Int) (lb : List (List Int)) (i k : Nat) (t : List Int) : List (List Int) := pairR s (la.take i) u lb ++ ((lb.take k).filter (fitB s u t)).map (bothR s u t)
theorem pairK_zero (s : List Int) (la : List (List Int)) (u : List Int) (lb : List (List Int)) (i : Nat) (t : List Int) : pairK s la u lb i 0 t = pairR s (la.take i) u lb := by simp [pairK]
theorem pairK_end {s : List Int} {la : List (List Int)} {u : List Int} {lb : List (List Int)} {i : Nat} (hi : i < la.length) : pairK s la u lb i lb.length la[i] = pairR s (la.take (i + 1)) u lb := by
  unfold pairK pairR
  rw [List.take_length, List.take_succ_eq_append_getElem hi, List.flatMap_append]
  simp
theorem pairK_yes {s : List Int} {la : List (List Int)} {u : List Int} {lb : List (List Int)} {i k : Nat} {t : List Int} (hk : k < lb.length) (h : fitB s u t lb[k] = true) : pairK s la u lb i (k + 1) t = pairK s la u lb i k t ++ [bothR s u t lb[k]] := by
  unfold pairK
  rw [List.take_succ_eq_append_getElem hk, List.filter_append, List.map_append, List.append_assoc]
  simp [List.filter_cons, h]
theorem pairK_no {s : List Int} {la : List (List Int)} {u : List Int} {lb : List (List Int)} {i k : Nat} {t : List Int} (hk : k < lb.length) (h : fitB s u t lb[k] = false) : pairK s la u lb i (k + 1) t = pairK s la u lb i k t := by
  unfold pairK
  rw [List.take_succ_eq_append_getElem hk, List.filter_append, List.map_append]
  simp [List.filter_cons, h]
theorem pairK_len {s : List Int} {la : List (List Int)} {u : List Int} {lb : List (List Int)} {i k : Nat} {t : List Int} (hi : i ≤ la.length) : (pairK s la u lb i k t).length ≤ (la.length + 1) * lb.length := by
  have h1 : ∀ l : List (List Int), (pairR s l u lb).length ≤ l.length * lb.length := by
    intro l
    induction l with
    | nil => simp [pairR]
    | cons x r ih =>
      have e : pairR s (x :: r) u lb = (lb.filter (fitB s u x)).map (bothR s u x) ++ pairR s r u lb := by simp [pairR]
      have hf := List.length_filter_le (fitB s u x) lb
      rw [e, List.length_append, List.length_map, List.length_cons, Nat.add_mul, Nat.one_mul]
      omega
  unfold pairK
  have h2 := h1 (la.take i)
  have h3 := List.length_filter_le (fitB s u t) (lb.take k)
  have h4 : (la.take i).length * lb.length ≤ la.length * lb.length := Nat.mul_le_mul_right _ (by rw [List.length_take]; omega)
  have h5 : (lb.take k).length ≤ lb.length := by rw [List.length_take]; omega
  rw [List.length_append, List.length_map, Nat.add_mul, Nat.one_mul]
  omega

theorem pair_wide {s u : List Int} {la lb : List (List Int)} {t : List Int} (h : t ∈ pairR s la u lb) : t.length = (joinL s u).length := by
  unfold pairR at h
  obtain ⟨x, _, hx⟩ := List.mem_flatMap.1 h
  obtain ⟨y, _, rfl⟩ := List.mem_map.1 hx
  simp [bothR]
theorem Box.set0' {w : World} {b : Nat} {x y : Value} (h : Box w b x y) (z : Value) : Box (w.setCell ⟨b, 0, none⟩ z) b z y := by
  unfold Box at *
  rw [heap_setCell_same w b 0 _ _ z h]; simp
theorem litN {n : Nat} {w : World} (hn : n = w.heap.size) : OwnT w.heap.size (w.alloc (.cells #[] 22)) (.slice (some ⟨n, 0, none⟩) 0 0) [] := by
  subst hn
  exact OwnT.lit (Nat.le_refl _)

set_option maxHeartbeats 8000000 in
theorem refJoin3_nw {s u : List Int} {la lb : List (List Int)} {v v' : Value} {w : World} (h : RelV w v s la) (h' : RelV w v' u lb) (hn : s.Nodup) (hwa : ∀ t ∈ la, t.length = s.length) (hwb : ∀ t ∈ lb, t.length = u.length) (hsl : s.length < 10000) (hul : u.length < 10000) (hjl : (joinL s u).length < 100000) (hll : (la.length + 1) * lb.length < 100000) (hlal : la.length < 100000) (hlbl : lb.length < 100000) :
    Calls Tryz.prog 8 #[v, v'] w fun e w' => ∃ x y, e = .returned (.agg #[x, y]) ∧ RelV w' (.agg #[x, y]) (joinL s u) (joinR s la u lb) ∧ (∀ b, b < w.heap.size → y.ownBlock ≠ some b) ∧ Below w.heap.size w w' := by
  obtain ⟨a, ca, b, cb, rfl, k1, k2, k3, k4, hs1, ht1⟩ := h.form
  obtain ⟨a', ca', b', cb', rfl, k1', k2', k3', k4', hs2, ht2⟩ := h'.form
  unfold maxLen at k2 k4 k2' k4'
  obtain ⟨W0, hW0⟩ : ∃ W, W = ((w.alloc (.cells #[.slice a s.length ca, .slice b la.length cb] 27)).alloc (.cells #[.slice a' u.length ca', .slice b' lb.length cb'] 27)).alloc (.cells #[.slice none 0 0, .slice none 0 0] 27) := ⟨_, rfl⟩
  have hb0 : Below w.heap.size w W0 := by rw [hW0]; exact (b2x w _ _).alloc (by simp; omega) _
  have x0 : Box W0 w.heap.size (.slice a s.length ca) (.slice b la.length cb) := by rw [hW0]; exact ((Box.new w _ _).push _).push _
  have x1 : Box W0 (w.heap.size + 1) (.slice a' u.length ca') (.slice b' lb.length cb') := by
    rw [hW0]; have := (Box.new (w.alloc (.cells #[.slice a s.length ca, .slice b la.length cb] 27)) (.slice a' u.length ca') (.slice b' lb.length cb')).push (.cells #[.slice none 0 0, .slice none 0 0] 27); simpa using this
  have x2 : Box W0 (w.heap.size + 1 + 1) (.slice none 0 0) (.slice none 0 0) := by
    rw [hW0]; have := Box.new ((w.alloc (.cells #[.slice a s.length ca, .slice b la.length cb] 27)).alloc (.cells #[.slice a' u.length ca', .slice b' lb.length cb'] 27)) (.slice none 0 0) (.slice none 0 0); simpa using this
  replace hs1 := hs1.below hb0
  replace hs2 := hs2.below hb0
  replace ht1 := ht1.below hb0
  replace ht2 := ht2.below hb0
  have HU := hide (refJoin_any hs1 hs2 (by omega))
  have HW0 := hide hW0
  have hz0 := hb0.size
  clear hW0 h h'
  have c00 := x0.cell0
  have c10 := x1.cell0
  go_enter Tryz.func8, Tryz.ntmps8
  go_wp2_with fail
  rw [← unhide HW0]
  refine (unhide HU).mono ?_
  rintro e w1 ⟨vJ, rfl, rJ, nJ, hb1⟩
  clear HW0 HU c00 c10
  obtain ⟨ja, jc, rfl, _, _⟩ := rJ.form
  obtain ⟨J, hJ⟩ : ∃ J, J = joinL s u := ⟨_, rfl⟩
  rw [← hJ] at rJ nJ ⊢
  replace x0 := x0.belowH hb1
  replace x1 := x1.belowH hb1
  replace x2 := x2.belowH hb1
  have HLT1 := hide (show w.heap.size + 1 + 1 < w1.heap.size from x2.lt)
  replace hs1 := hs1.below hb1
  replace hs2 := hs2.below hb1
  replace ht1 := ht1.below hb1
  replace ht2 := ht2.below hb1
  have pb := (Below.refl _ w1).alloc (Nat.le_refl _) (.cells #[.slice ja J.length jc, .slice none 0 0] 27)
  have x5 := Box.new w1 (.slice ja J.length jc) (.slice none 0 0)
  replace x0 := x0.belowH pb
  replace x1 := x1.belowH pb
  replace x2 := x2.belowH pb
  replace hs1 := hs1.below pb
  replace hs2 := hs2.below pb
  replace ht1 := ht1.below pb
  replace ht2 := ht2.below pb
  replace rJ := rJ.below pb
  have hbb := below_then (below_then hb0 hb1) pb
  obtain ⟨Wb, hWb⟩ : ∃ W, W = w1.alloc (.cells #[.slice ja J.length jc, .slice none 0 0] 27) := ⟨_, rfl⟩
  have hz5 : w1.heap.size + 1 = Wb.heap.size := by rw [hWb]; simp
  rw [← hWb] at x0 x1 x2 x5 hs1 hs2 ht1 ht2 rJ hbb
  have HX := hide (fun W (hb : Below Wb.heap.size Wb W) => And.intro (x0.belowH hb) (And.intro (x1.belowH hb) (And.intro (x5.belowH hb) (x2.belowH hb))))
  have HR := hide (fun W (hb : Below Wb.heap.size Wb W) => And.intro (hs1.below hb) (And.intro (hs2.below hb) (And.intro (ht1.below hb) (And.intro (ht2.below hb) (rJ.below hb)))))
  have HWb := hide hWb
  have HBB := hide hbb
  have HJ := hide hJ
  have HWA := hide hwa
  have HWB := hide hwb
  have HN := hide hn
  have HLL := hide hll
  have HZ5 := hide hz5
  have HLT := hide (show w.heap.size + 1 + 1 < Wb.heap.size from x2.lt)
  clear x0 x1 x2 x5 hs1 hs2 ht1 ht2 rJ hbb pb hWb hJ hwa hwb hn hll hb0 hb1 nJ hz5
  go_wp2
  rw [← unhide HWb]
  clear HWb
  go_loopw [6, 7, 8, 9] (fun ov i _ _ wr => ∃ k : Nat, k ≤ la.length ∧ i = .int .i64 k ∧ OwnT Wb.heap.size wr ov (pairR s (la.take k) u lb) ∧ Below Wb.heap.size Wb wr) (fun _ i _ _ _ => la.length - (intOf i).toNat)
  case atStart => exact ⟨0, by omega, rfl, litN (unhide HZ5), (Below.refl _ _).alloc (Nat.le_refl _) _⟩
  case round =>
    have HZ5' := HZ5
    clear HZ5
    obtain ⟨k, hk, rfl, hown, hbr⟩ := hrel
    rename World => wr
    obtain ⟨x0, x1, x5, x2⟩ := unhide HX wr hbr
    have c01 := x0.cell1
    have hown' := hown
    by_cases hlt : k < la.length
    · rw [← pairK_zero s la u lb k la[k]] at hown'
      have HOW := hide hown'
      have HBR := hide hbr
      clear hown hown' x0 x1 x5 x2 hbr
      go_wp2
      go_loopw [6, 8, 9] (fun ov i _ wq => ∃ k2 : Nat, k2 ≤ lb.length ∧ i = .int .i64 k2 ∧ OwnT Wb.heap.size wq ov (pairK s la u lb k k2 la[k]) ∧ Below Wb.heap.size Wb wq) (fun _ i _ _ => lb.length - (intOf i).toNat)
      case atStart => exact ⟨0, by omega, rfl, unhide HOW, unhide HBR⟩
      case round =>
        clear HOW HBR c01
        obtain ⟨k2, hk2, rfl, hown, hbq⟩ := hrel
        rename World => wq
        obtain ⟨x0, x1, x5, x2⟩ := unhide HX wq hbq
        obtain ⟨hs1, hs2, ht1, ht2, rJ⟩ := unhide HR wq hbq
        have c00 := x0.cell0
        have c01 := x0.cell1
        have c10 := x1.cell0
        have c11 := x1.cell1
        have c50 := x5.cell0
        have hzq := hbq.size
        by_cases hlt2 : k2 < lb.length
        · obtain ⟨_, _, t1b, t2b, _⟩ := unhide HR Wb (Below.refl _ _)
          obtain ⟨ba, oa, ua, rfl, hub1, hia1⟩ := t1b.at hlt
          obtain ⟨bb, ob, ub, rfl, hub2, hib1⟩ := t2b.at hlt2
          have hua := Below.cell_of hbq hub1
          have hub := Below.cell_of hbq hub2
          have hia := hia1.below hbq
          have hib := hib1.below hbq
          clear t1b t2b
          have HF := hide (fun n => refFit_any (hs1.drewN n) (hia.drewN n) (hs2.drewN n) (hib.drewN n) (unhide HN) (unhide HWA _ (List.getElem_mem _)) (unhide HWB _ (List.getElem_mem _)))
          cases hf : fitB s u la[k] lb[k2] with
          | false =>
            rw [hf] at HF
            have HNX := hide (pairK_no (s := s) (la := la) (u := u) (i := k) hlt2 hf)
            have HOW := hide hown
            have HBQ := hide hbq
            clear hf hown hbq x0 x1 x5 x2 hs1 hs2 ht1 ht2 rJ hia hib
            go_wp2
            go_quiet ((go_at_call 28; exact Calls.quiet_of (unhide HF _)))
            go_wp2
            go_roundw
            case rel => exact ⟨k2 + 1, by omega, by go_num, by rw [unhide HNX]; exact (unhide HOW).below (Below.drewN _ _), Below.drewN1 (unhide HBQ) _⟩
            case measure => simp [intOf]; omega
          | true =>
            rw [hf] at HF
            have HNX := hide (pairK_yes (s := s) (la := la) (u := u) (i := k) hlt2 hf)
            have hlenK : (pairK s la u lb k k2 la[k]).length < 100000 := Nat.lt_of_le_of_lt (pairK_len hk) (unhide HLL)
            have HK := hide (fun W (hb : Below Wb.heap.size Wb W) => And.intro (unhide HX W hb).1.cell0 (And.intro (unhide HX W hb).1.cell1 (And.intro (unhide HX W hb).2.1.cell0 (And.intro (unhide HX W hb).2.1.cell1 (And.intro (unhide HX W hb).2.2.1.cell0 (And.intro (Below.cell_of hb hub1) (Below.cell_of hb hub2)))))))
            have HBO := hide (fun W (hb : Below Wb.heap.size Wb W) => refBoth_any (unhide HR W hb).1 (hia1.below hb) (unhide HR W hb).2.1 (hib1.below hb) (unhide HR W hb).2.2.2.2 (unhide HWA _ (List.getElem_mem hlt)) (unhide HWB _ (List.getElem_mem hlt2)) (fun x hx => by rw [unhide HJ] at hx; exact mem_joinL.1 hx) (by rw [unhide HJ]; exact hjl))
            have HBR' : Hid (bothR s u la[k] lb[k2] = J.map (bothF s u la[k] lb[k2])) := hide (by rw [unhide HJ]; rfl)
            rw [unhide HBR'] at HNX
            have HOW := hide hown
            have HBQ := hide hbq
            clear hf hown hbq x0 x1 x5 x2 hs1 hs2 ht1 ht2 rJ hia hib hia1 hib1 hub1 hub2 HBR'
            generalize pairK s la u lb k k2 la[k] = L at *
            generalize J.map (bothF s u la[k] lb[k2]) = bt at *
            go_wp2
            go_quiet ((go_at_call 28; exact Calls.quiet_of (unhide HF _)))
            go_wp2
            have hbW := Below.drewN1 (unhide HBQ) nq
            have hownW := (unhide HOW).below (Below.drewN _ nq)
            clear c00 c01 c10 c11 c50 hua hub hzq HOW HBQ HF
            generalize wq.drewN nq = W at *
            go_region_held3 (fun W => W.cell? ⟨w.heap.size, 0, none⟩ = some (.slice a s.length ca) ∧ W.cell? ⟨w.heap.size, 1, none⟩ = some (.slice (some ⟨ba, oa, none⟩) la.length cb) ∧ W.cell? ⟨w.heap.size + 1, 0, none⟩ = some (.slice a' u.length ca') ∧ W.cell? ⟨w.heap.size + 1, 1, none⟩ = some (.slice (some ⟨bb, ob, none⟩) lb.length cb') ∧ W.cell? ⟨w1.heap.size, 0, none⟩ = some (.slice ja J.length jc) ∧ W.cell? ⟨ba, oa + k, none⟩ = some ua ∧ W.cell? ⟨bb, ob + k2, none⟩ = some ub)
              (first | exact unhide HK _ (by first | exact hB5 | exact hB3 | exact hbW | exact below_then hbW (below_same rfl rfl rfl rfl) | exact below_then hB3 (below_push rfl rfl rfl rfl) | exact below_then hB5 (below_same rfl rfl rfl rfl) | exact below_then hB3 (below_same rfl rfl rfl rfl)))
              (first
                | (go_at_call 29; refine (unhide HBO _ (by first | exact hbW | exact below_then hbW (below_same rfl rfl rfl rfl))).mono ?_; rintro e w3 ⟨u3, rfl, hu3, hun3, hb3⟩; obtain ⟨ua3, uc3, hue, _, _⟩ := hu3.form; rw [hue] at hu3 hun3 ⊢; clear hue; have hB3 : Below Wb.heap.size Wb w3 := below_then (by first | exact hbW | exact below_then hbW (below_same rfl rfl rfl rfl)) hb3; have hown3 : OwnT Wb.heap.size w3 _ L := OwnT.below (by first | exact hownW | exact OwnT.below hownW (below_same rfl rfl rfl rfl)) hb3; have hap3 : Sep (.slice ua3 bt.length uc3) _ := (Sep.of_new hownW.new (Nat.le_refl _) hun3).symm)
                | (refine step_of rfl (op_app_tup (.tmp 47) (.tmp 65) rfl hown3 hu3 (fun _ => hap3) rfl hB3.size rfl (by omega) ?_); intro v5 w5 hown5 hgrew5; have hB5 : Below Wb.heap.size Wb w5 := hB3.trans hgrew5.below))
            all_goals
              go_wp2
              go_roundw
              case rel => exact ⟨k2 + 1, by omega, by go_num, by rw [unhide HNX]; exact hown5, hB5⟩
              case measure => simp [intOf]; omega
        · have hke : k2 = lb.length := by omega
          rw [hke, pairK_end hlt] at hown
          have HOW := hide hown
          have HBQ := hide hbq
          clear hown hbq x0 x1 x5 x2 hs1 hs2 ht1 ht2 rJ
          go_wp2
          go_roundw
          case rel => exact ⟨k + 1, by omega, by go_num, unhide HOW, unhide HBQ⟩
          case measure => simp [intOf]; omega
    · have hke : k = la.length := by omega
      rw [hke, List.take_length] at hown
      have HSO := hide (refSort_any hown.tups (by have := pairK_len (s := s) (u := u) (la := la) (lb := lb) (i := la.length) (k := 0) (t := []) (Nat.le_refl _); rw [pairK_zero, List.take_length] at this; have := unhide HLL; omega) (fun t ht => by rw [pair_wide ht]; omega))
      have HBR := hide hbr
      have hlt1 := unhide HLT1
      have hsz := hbr.size
      have hszb : w1.heap.size < Wb.heap.size := by rw [← unhide HZ5']; omega
      have X5 := hide x5
      have X2 := hide x2
      have RJ := hide (unhide HR wr hbr).2.2.2.2
      clear hown hown' x0 x1 x5 x2 hbr
      subst hke
      go_wp2_with fail
      refine (unhide HSO).mono ?_
      rintro e w6 ⟨v6, rfl, h6, n6, hb6⟩
      obtain ⟨ra, rc, hre, _, _⟩ := h6.form
      rw [hre] at h6 n6 ⊢
      clear hre
      have hz6 := hb6.size
      have y5 := (unhide X5).belowH hb6
      have y2 := (unhide X2).belowH hb6
      have rJ6 := (unhide RJ).below hb6
      have hn5 : (Value.slice ra (sortL (pairR s la u lb)).length rc).ownBlock ≠ some w1.heap.size := n6.ne (by omega)
      have hn2 : (Value.slice ra (sortL (pairR s la u lb)).length rc).ownBlock ≠ some (w.heap.size + 1 + 1) := n6.ne (by omega)
      have HNEW := hide (fun b (hb : b < w.heap.size) => show (Value.slice ra (sortL (pairR s la u lb)).length rc).ownBlock ≠ some b from n6.ne (by omega))
      have d50 := y5.cell0
      have d51 := y5.cell1
      have f50 := y5.frozen 0
      have f51 := y5.frozen 1
      have d20 := y2.cell0
      have d21 := y2.cell1
      have f20 := y2.frozen 0
      have f21 := y2.frozen 1
      have hne : w1.heap.size ≠ w.heap.size + 1 + 1 := by omega
      have hne2 : w.heap.size + 1 + 1 ≠ w1.heap.size := by omega
      have z5 := y5.set1 (.slice ra (sortL (pairR s la u lb)).length rc)
      have z2 : Box (w6.setCell ⟨w1.heap.size, 1, none⟩ (.slice ra (sortL (pairR s la u lb)).length rc)) (w.heap.size + 1 + 1) (.slice none 0 0) (.slice none 0 0) := by unfold Box at *; rw [heap_setCell_other w6 ⟨w1.heap.size, 1, none⟩ (w.heap.size + 1 + 1) _ hne2]; exact y2
      have e50 := z5.cell0
      have e51 := z5.cell1
      have e20 := z2.cell0
      have e21 := z2.cell1
      have g20 := z2.frozen 0
      have g21 := z2.frozen 1
      have rJ7 := rJ6.setBox y5.boxS 1 (.slice ra (sortL (pairR s la u lb)).length rc)
      have h7 := h6.setBox y5.boxS hn5 1 (.slice ra (sortL (pairR s la u lb)).length rc)
      have hfin := rel_store z2.boxS z2.cell0 rJ7 h7 hn2
      have z2' := (z2.set0' (.slice ja J.length jc)).set1 (.slice ra (sortL (pairR s la u lb)).length rc)
      have r0 := z2'.cell0
      have r1 := z2'.cell1
      have HBF := hide (below_store ((below_then (below_then (unhide HBB) (unhide HBR)) hb6).setCell (p := ⟨w1.heap.size, 1, none⟩) (show w.heap.size ≤ w1.heap.size by omega) (.slice ra (sortL (pairR s la u lb)).length rc)) (show w.heap.size ≤ w.heap.size + 1 + 1 by omega) (.slice ja J.length jc) (.slice ra (sortL (pairR s la u lb)).length rc))
      have HFIN := hide hfin
      have R0 := hide r0
      have R1 := hide r1
      clear y5 y2 z5 z2 z2' rJ6 rJ7 h6 h7 hfin n6 hn5 hn2 r0 r1
      go_wp2
      have r0 := unhide R0
      have r1 := unhide R1
      refine bodyPost_ret (v := .agg #[.slice ja J.length jc, .slice ra (sortL (pairR s la u lb)).length rc]) (by simp [results, Tryz.results8, go_sem, r0, r1]) rfl ⟨_, _, rfl, ?_, unhide HNEW, unhide HBF⟩
      rw [← unhide HJ]
      exact unhide HFIN

theorem refJoin3_any {s u : List Int} {la lb : List (List Int)} {v v' : Value} {w : World} (h : RelV w v s la) (h' : RelV w v' u lb) (hn : s.Nodup) (hwa : ∀ t ∈ la, t.length = s.length) (hwb : ∀ t ∈ lb, t.length = u.length) (hsl : s.length < 10000) (hul : u.length < 10000) (hjl : (joinL s u).length < 100000) (hll : (la.length + 1) * lb.length < 100000) (hlal : la.length < 100000) (hlbl : lb.length < 100000) :
    Calls Tryz.prog 8 #[v, v'] w fun e w' => ∃ x, e = .returned x ∧ RelV w' x (joinL s u) (joinR s la u lb) ∧ Below w.heap.size w w' :=
  (refJoin3_nw h h' hn hwa hwb hsl hul hjl hll hlal hlbl).mono fun e w' ⟨x, y, h1, h2, _, h4⟩ => ⟨_, h1, h2, h4⟩

end Go.Proofs.YtoiokplgkanepaaGreatDoor
