/-
  The contracts of Filled, Bags, Width.
-/
import Derived.Test.YtcglbopmfdilfaaDoorFElim2
namespace Go.Proofs.YtcglbopmfdilfaaDoor
open Go.RowKit
set_option linter.unusedVariables false
set_option linter.unusedSimpArgs false
set_option maxRecDepth 20000

theorem boxedG (w : World) (x : Value) : ∃ W, W = w.alloc (.cells #[x] 29) ∧ Below w.heap.size w W ∧ W.heap.size = w.heap.size + 1 ∧ BoxG W w.heap.size x :=
  ⟨_, rfl, (Below.refl _ _).alloc (Nat.le_refl _) _, by simp, BoxG.new w x⟩

set_option maxHeartbeats 4000000 in
theorem filled_yes {g : List Nat} {o : List Int} {x vo : Value} {w : World} (hg : Words w x g) (hr : RightG g) (hT : TabD w) (ho : Ints w vo o) (hv : ordB (g.length : Int) o = true) :
    Calls Tryd.prog 14 #[.agg #[x], vo] w fun e w' => ∃ y, e = .returned (.tuple #[.agg #[y], .int .i64 0]) ∧ OwnW w.heap.size w' y (fillG g o) ∧ Below w.heap.size w w' := by
  obtain ⟨ax, cx, rfl, hxl, hxc⟩ := hg.form
  obtain ⟨an, cn, rfl, hnl', hnc⟩ := ho.form
  unfold maxLen at hnc hxc
  obtain ⟨W0, hW0, hbA, hzA, hxA⟩ := boxedG w (.slice ax g.length cx)
  obtain ⟨W1, hW1, hbB, hzB, hx2⟩ := boxedG W0 (.slice none 0 0)
  have hb0 : Below w.heap.size w W1 := hbA.trans (hbB.mono (by omega))
  have hx1 := (hxA.below hbB (by omega)).cell
  have HE := hide (elim_yes (hg.below hb0) hr (hT.below hb0) (ho.below hb0) hv)
  have HX2 := hide (fun W (hb : Below W1.heap.size W1 W) => hx2.below hb (by omega))
  have HB0 := hide hb0
  rw [hW1, hW0] at hx1
  have HW1 := hide (show W1 = (w.alloc (.cells #[.slice ax g.length cx] 29)).alloc (.cells #[.slice none 0 0] 29) by rw [hW1, hW0])
  have hz1 : W1.heap.size = w.heap.size + 2 := by omega
  have HZA := hide hzA
  clear hg hr hT ho hv hbA hxA hbB hx2 hb0 hW0 hW1 hzB hzA
  go_enter Tryd.func14, Tryd.ntmps14
  go_wp2_with fail
  rw [← unhide HW1]
  refine (unhide HE).mono ?_
  rintro e w2 ⟨y, z, rfl, hy, hz, hb2⟩
  obtain ⟨ay, cy, rfl, _, _⟩ := (Seq.of_own hy).form
  obtain ⟨az, cz, rfl, _, _⟩ := hz.tups.form
  obtain ⟨W3, hW3, hb3, hz3, hx3⟩ := boxedG w2 (.slice ay (fillG g o).length cy)
  have hs2 := hb2.size
  have hb13 := hb2.trans (hb3.mono hs2)
  have hx4 := unhide HX2 W3 hb13
  rw [unhide HZA] at hx4
  have c2 := hx4.cell
  have f2 := hx4.frozen
  have c3 := hx3.cell
  have hy3 := own_below hy hb3
  have hys := own_same (w' := W3.setCell ⟨w.heap.size + 1, 0, none⟩ (.slice ay (fillG g o).length cy)) hy3 (fun k hk => heap_setCell_other _ _ _ _ (show k ≠ w.heap.size + 1 from fun e => by have := (hy.lt k hk).1; omega))
  have hbs := Below.setCell (p := ⟨w.heap.size + 1, 0, none⟩) ((unhide HB0).trans (hb13.mono (by omega))) (show w.heap.size ≤ w.heap.size + 1 by omega) (.slice ay (fillG g o).length cy)
  have HF := hide (And.intro (own_mono hys (show w.heap.size ≤ W1.heap.size by omega)) hbs)
  have HW3 := hide hW3
  rw [hW3] at c3 c2 f2 HF
  clear hy hz hb2 hb3 hx3 hb13 hx4 hy3 hys hbs HX2 hx1 HE hW3
  go_wp2
  refine bodyPost_ret (v := .tuple #[.agg #[.slice ay (fillG g o).length cy], .int .i64 0]) (by simp [results, Tryd.results14, go_sem, c2]) rfl ⟨_, rfl, (unhide HF).1, (unhide HF).2⟩

set_option maxHeartbeats 4000000 in
theorem filled_no {g : List Nat} {o : List Int} {x vo : Value} {w : World} (hg : Words w x g) (ho : Ints w vo o) (hol : o.length < 100000000000) (hv : ordB (g.length : Int) o = false) :
    Calls Tryd.prog 14 #[.agg #[x], vo] w fun e w' => e = .returned (.tuple #[.agg #[.slice none 0 0], .int .i64 8]) ∧ Below w.heap.size w w' := by
  obtain ⟨ax, cx, rfl, hxl, hxc⟩ := hg.form
  obtain ⟨an, cn, rfl, hnl', hnc⟩ := ho.form
  unfold maxLen at hnc hxc
  obtain ⟨W0, hW0, hbA, hzA, hxA⟩ := boxedG w (.slice ax g.length cx)
  obtain ⟨W1, hW1, hbB, hzB, hx2⟩ := boxedG W0 (.slice none 0 0)
  have hb0 : Below w.heap.size w W1 := hbA.trans (hbB.mono (by omega))
  have hx1 := (hxA.below hbB (by omega)).cell
  have HE := hide (elim_no (hg.below hb0) (ho.below hb0) hol hv)
  have HX2 := hide (fun W (hb : Below W1.heap.size W1 W) => hx2.below hb (by omega))
  have HB0 := hide hb0
  rw [hW1, hW0] at hx1
  have HW1 := hide (show W1 = (w.alloc (.cells #[.slice ax g.length cx] 29)).alloc (.cells #[.slice none 0 0] 29) by rw [hW1, hW0])
  have hz1 : W1.heap.size = w.heap.size + 2 := by omega
  have HZA := hide hzA
  clear hg ho hv hbA hxA hbB hx2 hb0 hW0 hW1 hzB hzA
  go_enter Tryd.func14, Tryd.ntmps14
  go_wp2_with fail
  rw [← unhide HW1]
  refine (unhide HE).mono ?_
  rintro e w2 ⟨rfl, hb2⟩
  obtain ⟨W3, hW3, hb3, hz3, hx3⟩ := boxedG w2 (.slice none 0 0)
  have hs2 := hb2.size
  have hb13 := hb2.trans (hb3.mono hs2)
  have hx4 := unhide HX2 W3 hb13
  rw [unhide HZA] at hx4
  have c2 := hx4.cell
  have f2 := hx4.frozen
  have c3 := hx3.cell
  have hbs := Below.setCell (p := ⟨w.heap.size + 1, 0, none⟩) ((unhide HB0).trans (hb13.mono (by omega))) (show w.heap.size ≤ w.heap.size + 1 by omega) (.slice none 0 0)
  have HF := hide hbs
  have HW3 := hide hW3
  rw [hW3] at c3 c2 f2 HF
  clear hb2 hb3 hx3 hb13 hx4 hbs HX2 hx1 HE hW3
  go_wp2
  refine bodyPost_ret (v := .tuple #[.agg #[.slice none 0 0], .int .i64 8]) (by simp [results, Tryd.results14, go_sem, c2]) rfl ⟨rfl, unhide HF⟩

set_option maxHeartbeats 4000000 in
theorem bags_yes {g : List Nat} {o : List Int} {x vo : Value} {w : World} (hg : Words w x g) (hr : RightG g) (hT : TabD w) (ho : Ints w vo o) (hv : ordB (g.length : Int) o = true) :
    Calls Tryd.prog 15 #[.agg #[x], vo] w fun e w' => ∃ z, e = .returned (.tuple #[z, .int .i64 0]) ∧ OwnT w.heap.size w' z (bagsU g o g.length) ∧ Below w.heap.size w w' := by
  obtain ⟨ax, cx, rfl, hxl, hxc⟩ := hg.form
  obtain ⟨an, cn, rfl, hnl', hnc⟩ := ho.form
  unfold maxLen at hnc hxc
  obtain ⟨W0, hW0, hbA, hzA, hxA⟩ := boxedG w (.slice ax g.length cx)
  have hx1 := hxA.cell
  have HE := hide (elim_yes (hg.below hbA) hr (hT.below hbA) (ho.below hbA) hv)
  have HB0 := hide hbA
  rw [hW0] at hx1
  have HW0 := hide hW0
  clear hg hr hT ho hv hbA hxA hW0
  go_enter Tryd.func15, Tryd.ntmps15
  go_wp2_with fail
  rw [← unhide HW0]
  refine (unhide HE).mono ?_
  rintro e w2 ⟨y, z, rfl, hy, hz, hb2⟩
  obtain ⟨ay, cy, rfl, _, _⟩ := (Seq.of_own hy).form
  obtain ⟨az, cz, rfl, _, _⟩ := hz.tups.form
  have hs2 := hb2.size
  have hb3 : Below w2.heap.size w2 (w2.alloc (.cells #[.slice ay (fillG g o).length cy] 29)) := (Below.refl _ _).alloc (Nat.le_refl _) _
  have HF := hide (And.intro (hz.below hb3) ((unhide HB0).trans ((hb2.trans (hb3.mono hs2)).mono (by omega))))
  clear hy hz hb2 hb3 hx1 HE
  go_wp2
  go_ret2
  exact ⟨_, rfl, (by obtain ⟨vs, h1, h2⟩ := (unhide HF).1; exact ⟨vs, own_mono h1 (by omega), h2⟩), (unhide HF).2⟩

set_option maxHeartbeats 4000000 in
theorem bags_no {g : List Nat} {o : List Int} {x vo : Value} {w : World} (hg : Words w x g) (ho : Ints w vo o) (hol : o.length < 100000000000) (hv : ordB (g.length : Int) o = false) :
    Calls Tryd.prog 15 #[.agg #[x], vo] w fun e w' => e = .returned (.tuple #[.slice none 0 0, .int .i64 8]) ∧ Below w.heap.size w w' := by
  obtain ⟨ax, cx, rfl, hxl, hxc⟩ := hg.form
  obtain ⟨an, cn, rfl, hnl', hnc⟩ := ho.form
  unfold maxLen at hnc hxc
  obtain ⟨W0, hW0, hbA, hzA, hxA⟩ := boxedG w (.slice ax g.length cx)
  have hx1 := hxA.cell
  have HE := hide (elim_no (hg.below hbA) (ho.below hbA) hol hv)
  have HB0 := hide hbA
  rw [hW0] at hx1
  have HW0 := hide hW0
  clear hg ho hv hbA hxA hW0
  go_enter Tryd.func15, Tryd.ntmps15
  go_wp2_with fail
  rw [← unhide HW0]
  refine (unhide HE).mono ?_
  rintro e w2 ⟨rfl, hb2⟩
  have hs2 := hb2.size
  have hb3 : Below w2.heap.size w2 (w2.alloc (.cells #[.slice none 0 0] 29)) := (Below.refl _ _).alloc (Nat.le_refl _) _
  have HF := hide (((unhide HB0).trans ((hb2.trans (hb3.mono hs2)).mono (by omega))))
  clear hb2 hb3 hx1 HE
  go_wp2
  go_ret2
  exact ⟨rfl, unhide HF⟩

/-- The most numbers that a row has. -/
def mostL (ll : List (List Int)) : Nat := ll.foldl (fun m l => max m l.length) 0
theorem mostL_snoc (ll : List (List Int)) (l : List Int) : mostL (ll ++ [l]) = max (mostL ll) l.length := by simp [mostL]

set_option maxHeartbeats 4000000 in
theorem width_no {g : List Nat} {o : List Int} {x vo : Value} {w : World} (hg : Words w x g) (ho : Ints w vo o) (hol : o.length < 100000000000) (hv : ordB (g.length : Int) o = false) :
    Calls Tryd.prog 16 #[.agg #[x], vo] w fun e w' => e = .returned (.tuple #[.int .i64 0, .int .i64 8]) ∧ Below w.heap.size w w' := by
  obtain ⟨ax, cx, rfl, hxl, hxc⟩ := hg.form
  obtain ⟨an, cn, rfl, hnl', hnc⟩ := ho.form
  unfold maxLen at hnc hxc
  obtain ⟨W0, hW0, hbA, hzA, hxA⟩ := boxedG w (.slice ax g.length cx)
  have hx1 := hxA.cell
  have HE := hide (bags_no (hg.below hbA) (ho.below hbA) hol hv)
  have HB0 := hide hbA
  rw [hW0] at hx1
  have HW0 := hide hW0
  clear hg ho hv hbA hxA hW0
  go_enter Tryd.func16, Tryd.ntmps16
  go_wp2_with fail
  rw [← unhide HW0]
  refine (unhide HE).mono ?_
  rintro e w2 ⟨rfl, hb2⟩
  have HF := hide (((unhide HB0).trans (hb2.mono (by omega))))
  clear hb2 hx1 HE
  go_wp2
  go_ret2
  exact ⟨rfl, unhide HF⟩

set_option maxHeartbeats 4000000 in
theorem width_yes {g : List Nat} {o : List Int} {x vo : Value} {w : World} (hg : Words w x g) (hr : RightG g) (hT : TabD w) (ho : Ints w vo o) (hv : ordB (g.length : Int) o = true) :
    Calls Tryd.prog 16 #[.agg #[x], vo] w fun e w' => e = .returned (.tuple #[.int .i64 ((mostL (bagsU g o g.length) : Int) - 1), .int .i64 0]) ∧ Below w.heap.size w w' := by
  obtain ⟨ax, cx, rfl, hxl, hxc⟩ := hg.form
  obtain ⟨an, cn, rfl, hnl', hnc⟩ := ho.form
  unfold maxLen at hnc hxc
  obtain ⟨W0, hW0, hbA, hzA, hxA⟩ := boxedG w (.slice ax g.length cx)
  have hx1 := hxA.cell
  have HE := hide (bags_yes (hg.below hbA) hr (hT.below hbA) (ho.below hbA) hv)
  have HB0 := hide hbA
  have HLE := hide (fun (k : Nat) (hk : k < g.length) => (show (bagS (elimU g o k) (o.getD k 0)).length ≤ g.length from by
    have h := bagS_len (elimU g o k) (o.getD k 0)
    rw [(elim_ok hr hv (show k ≤ g.length by omega)).glen] at h
    exact h))
  have h40 := hr.few
  rw [hW0] at hx1
  have HW0 := hide hW0
  clear hg hr hT ho hv hbA hxA hW0
  go_enter Tryd.func16, Tryd.ntmps16
  go_wp2_with fail
  rw [← unhide HW0]
  refine (unhide HE).mono ?_
  rintro e w2 ⟨z, rfl, hz, hb2⟩
  have hzt := hz.tups
  obtain ⟨az, cz, rfl, hzl, hzc⟩ := hzt.form
  rw [bagsU_len] at hzl hzt ⊢
  unfold maxLen at hzc
  have HZT := hide hzt
  have HF := hide (((unhide HB0).trans (hb2.mono (by omega))))
  clear hz hb2 hx1 HE hzt
  go_wp2
  go_loopw [8, 22] (fun m i wr => ∃ k : Nat, k ≤ g.length ∧ i = .int .i64 k ∧ m = .int .i64 (mostL (bagsU g o k) : Nat) ∧ mostL (bagsU g o k) ≤ g.length ∧ wr = w2) (fun _ i _ => g.length - (intOf i).toNat)
  case atStart => exact ⟨0, by omega, rfl, rfl, by simp [bagsU, mostL], rfl⟩
  case round =>
    obtain ⟨k, hk, rfl, rfl, hm, rfl⟩ := hrel
    by_cases hkl : k < g.length
    · obtain ⟨b, oo, u, e1, q1, hu⟩ := (unhide HZT).at (show k < (bagsU g o g.length).length by rw [bagsU_len]; exact hkl)
      subst e1
      have e : (bagsU g o g.length)[k]'(by rw [bagsU_len]; exact hkl) = bagS (elimU g o k) (o.getD k 0) := by simp [bagsU]
      rw [e] at hu
      have hsn : mostL (bagsU g o (k + 1)) = max (mostL (bagsU g o k)) (bagS (elimU g o k) (o.getD k 0)).length := by rw [bagsU_succ, mostL_snoc]
      have hle := unhide HLE k hkl
      obtain ⟨au, cu, rfl, hul, huc⟩ := hu.form
      unfold maxLen at huc
      generalize bagS (elimU g o k) (o.getD k 0) = L at *
      generalize mostL (bagsU g o k) = m at *
      have HSN := hide hsn
      clear hu e hsn
      go_wp2
      go_roundw
      case rel => exact ⟨k + 1, by omega, by go_num, by rw [unhide HSN]; congr 1; omega, by rw [unhide HSN]; omega, trivial⟩
      case measure => simp [intOf]; omega
    · obtain rfl : k = g.length := by omega
      go_wp2
      go_ret2
      exact ⟨rfl, unhide HF⟩

set_option maxHeartbeats 1000000 in
theorem equalW_any {la lb : List Nat} {va vb : Value} {w : World} (ha : Words w va la) (hb : Words w vb lb) :
    Calls Tryd.prog 33 #[va, vb] w fun e w' => e = .returned (.bool (decide (la = lb))) ∧ ∃ n, w' = w.drewN n := by
  obtain ⟨a, ca, rfl, hla, hca⟩ := ha.form
  obtain ⟨b, cb, rfl, hlb, hcb⟩ := hb.form
  unfold maxLen at hca hcb
  by_cases hl : la.length = lb.length
  · have hl1 : ((la.length : Int) != (lb.length : Int)) = false := by simp [hl]
    have HL := hide hl
    have hlx : la.length ≤ lb.length := by omega
    clear hl
    go_enter Tryd.func33, Tryd.ntmps33
    go_wp2
    go_loopw [5, 13] (fun _ i wr => ∃ k n : Nat, k ≤ la.length ∧ i = .int .i64 k ∧ wr = w.drewN n ∧ Hid (∀ j (hj : j < la.length) (hj' : j < lb.length), j < k → la[j] = lb[j])) (fun _ i _ => la.length - (intOf i).toNat)
    case atStart => exact ⟨0, 0, by omega, rfl, rfl, hide (fun j hj hj' h => by omega)⟩
    case round =>
      obtain ⟨k, n, hk, rfl, rfl, hc⟩ := hrel
      by_cases hka : k < la.length
      · have hkb : k < lb.length := by omega
        obtain ⟨ba, oa, rfl, hca'⟩ := ha.at hka
        obtain ⟨bb, ob, rfl, hcb'⟩ := hb.at hkb
        clear ha hb
        by_cases he : la[k] = lb[k]
        · have he1 : ((la[k] : Int) != (lb[k] : Int)) = false := by simp [he]
          have Hc : Hid (∀ j (hj : j < la.length) (hj' : j < lb.length), j < k + 1 → la[j] = lb[j]) := hide (fun j hj hj' h => by
            rcases Nat.lt_or_ge j k with e | e
            · exact unhide hc j hj hj' e
            · have : j = k := by omega
              subst this; exact he)
          clear he hc
          go_wp2
          go_quiet (fail)
          go_wp2
          go_roundw
          case rel => exact ⟨k + 1, _, by omega, by go_num, rfl, Hc⟩
          case measure => simp [intOf]; omega
        · have he1 : ((la[k] : Int) != (lb[k] : Int)) = true := by simp; omega
          have HP := hide (show decide (la = lb) = false by simp only [decide_eq_false_iff_not]; intro e; subst e; exact he rfl)
          clear he hc
          go_wp2
          go_quiet (fail)
          go_wp2
          go_ret
          exact ⟨ret_bool (unhide HP).symm, by simp only [World.drewN_drewN]; exact ⟨_, rfl⟩⟩
      · have HP := hide (show decide (la = lb) = true by simp only [decide_eq_true_eq]; exact List.ext_getElem (unhide HL) (fun i h h' => unhide hc i h h' (by omega)))
        clear ha hb hc
        go_wp2
        go_ret
        exact ⟨ret_bool (unhide HP).symm, _, rfl⟩
  · have hl1 : ((la.length : Int) != (lb.length : Int)) = true := by simp; omega
    have HP := hide (show decide (la = lb) = false by simp only [decide_eq_false_iff_not]; exact fun e => hl (by rw [e]))
    clear hl ha hb
    go_enter Tryd.func33, Tryd.ntmps33
    go_wp2
    go_ret
    exact ⟨ret_bool (unhide HP).symm, 0, rfl⟩

end Go.Proofs.YtcglbopmfdilfaaDoor
