/-
  The contract of shown: it answers true.
-/
import Derived.Test.YtmppialileoimaaRefUnion
import Derived.Test.YtmppialileoimaaRefMake
import Derived.Test.YtmppialileoimaaRelUnit
namespace Go.Proofs.Ytmppialileoimaa
open Go.RowKit
set_option linter.unusedVariables false
set_option linter.unusedSimpArgs false
set_option maxRecDepth 20000

theorem shown_rise : riseL [2, 0] = [0, 2] := Asc.ext (riseL_spec _).1 (by decide) fun x => by rw [(riseL_spec _).2]; simp; omega
theorem shown_rise1 : riseL [1, 1] = [1] := Asc.ext (riseL_spec _).1 (by decide) fun x => by rw [(riseL_spec _).2]; simp
theorem shown_ok : makeOk [2, 0] [[5, 1], [5, 1]] = true := by unfold makeOk schemeOk; rw [shown_rise]; decide
theorem shown_no : makeOk [1, 1] [] = false := by unfold makeOk schemeOk; rw [shown_rise1]; decide
theorem shown_rows : makeL [2, 0] [[5, 1], [5, 1]] = [[1, 5]] := by unfold makeL; rw [shown_rise]; decide
theorem shown_right : rightL [0, 2] [[1, 5]] = true := by decide
theorem shown_has : hasL [[1, 5]] [1, 5] = true := by decide
theorem shown_wrong : rightL [1, 0] [] = false := by decide

set_option maxHeartbeats 8000000 in
theorem shown2_any (w : World) : Calls Try.prog 12 #[] w fun e w' => e = .returned (.bool true) ∧ Below w.heap.size w w' := by
  go_enter Try.func12, Try.ntmps12
  go_wp2_with fail
  refine (make_ok (s := [2, 0]) (ll := [[5, 1], [5, 1]]) (litI_at (c := #[.int .i64 2, .int .i64 0]) (e := 3) (fr := (0, 0)) (by simp only [alloc_at, World.size_alloc]; repeat (first | rw [if_pos True.intro] | rw [if_pos rfl] | rw [if_neg (by omega)])) rfl rfl (by simp)) ⟨[.slice (some ⟨w.heap.size + 1, 0, none⟩) 2 2, .slice (some ⟨w.heap.size + 1 + 1, 0, none⟩) 2 2], litT_at (c := #[.slice (some ⟨w.heap.size + 1, 0, none⟩) 2 2, .slice (some ⟨w.heap.size + 1 + 1, 0, none⟩) 2 2]) (e := 22) (fr := (0, 0)) (by simp only [alloc_at, World.size_alloc]; repeat (first | rw [if_pos True.intro] | rw [if_pos rfl] | rw [if_neg (by omega)])) rfl rfl (by simp), rfl, ?_⟩ (by decide) (by decide) shown_ok).mono ?_
  · intro i hi hi'
    match i, hi, hi' with
    | 0, _, _ => exact litI_at (c := #[.int .i64 5, .int .i64 1]) (e := 3) (fr := (0, 0)) (by simp only [alloc_at, World.size_alloc]; repeat (first | rw [if_pos True.intro] | rw [if_pos rfl] | rw [if_neg (by omega)])) rfl rfl (by simp)
    | 1, _, _ => exact litI_at (c := #[.int .i64 5, .int .i64 1]) (e := 3) (fr := (0, 0)) (by simp only [alloc_at, World.size_alloc]; repeat (first | rw [if_pos True.intro] | rw [if_pos rfl] | rw [if_neg (by omega)])) rfl rfl (by simp)
  rintro e w1 ⟨u1, rfl, hr1, hb⟩
  have hB1 : Below w.heap.size w w1 := (((((Below.refl _ w).alloc (Nat.le_refl _) _).alloc (by simp) _).alloc (by simp; omega) _).alloc (by simp; omega) _).trans (hb.mono (by simp; omega))
  rw [shown_rise, shown_rows] at hr1
  obtain ⟨a1, c1, b1', d1, rfl, _, _, _, _, hs1, ht1⟩ := hr1.form
  replace hr1 : RelV w1 (.agg #[.slice a1 2 c1, .slice b1' 1 d1]) [0, 2] [[1, 5]] := hr1
  rw [show Value.slice a1 [(0 : Int), 2].length c1 = .slice a1 2 c1 from rfl, show Value.slice b1' [[(1 : Int), 5]].length d1 = .slice b1' 1 d1 from rfl]
  have hz1 := hB1.size
  clear hb
  have x1 := (Box.new w1 (.slice a1 2 c1) (.slice b1' 1 d1)).push (.cells #[.int .i64 1, .int .i64 1] 3)
  have hB1' : Below w.heap.size w ((w1.alloc (.cells #[.slice a1 2 c1, .slice b1' 1 d1] 25)).alloc (.cells #[.int .i64 1, .int .i64 1] 3)) := (hB1.alloc hz1 _).alloc (by simp; omega) _
  have hz1' := hB1'.size
  go_wp2_with fail
  refine (make_no (s := [1, 1]) (ll := []) (litI_at (c := #[.int .i64 1, .int .i64 1]) (e := 3) (fr := (0, 0)) (by simp only [alloc_at, World.size_alloc]; repeat (first | rw [if_pos True.intro] | rw [if_pos rfl] | rw [if_neg (by omega)])) rfl rfl (by simp)) ⟨[], Seq.nil _ _, rfl, fun i h => by simp at h⟩ (by decide) shown_no).mono ?_
  rintro e w2 ⟨rfl, hb⟩
  replace x1 := x1.belowH hb
  have hr2 : RelV w2 (.agg #[.slice a1 2 c1, .slice b1' 1 d1]) [0, 2] [[1, 5]] := (hr1.below ((b2x w1 _ _))).below hb
  have hB2 := hB1'.trans (hb.mono hz1')
  have hz2 := hB2.size
  clear hb hr1 hs1 ht1 hB1 hB1' hz1 hz1'
  replace x1 := x1.push (.cells #[.slice none 0 0, .slice none 0 0] 25)
  replace hr2 := hr2.below ((Below.refl _ w2).alloc (Nat.le_refl _) (.cells #[.slice none 0 0, .slice none 0 0] 25))
  replace hB2 := hB2.alloc hz2 (.cells #[.slice none 0 0, .slice none 0 0] 25)
  replace hz2 := hB2.size
  go_wp2_with fail
  refine (unit_any _).mono ?_
  rintro e w3 ⟨u3, rfl, hu3, hb⟩
  obtain ⟨a3, c3, b3, d3, rfl, _, _, _, _, _, _⟩ := hu3.form
  rw [show Value.slice a3 ([] : List Int).length c3 = .slice a3 0 c3 from rfl, show Value.slice b3 [([] : List Int)].length d3 = .slice b3 1 d3 from rfl]
  replace x1 := (x1.belowH hb).push (.cells #[.slice a3 0 c3, .slice b3 1 d3] 25)
  replace hr2 := (hr2.below hb).below ((Below.refl _ w3).alloc (Nat.le_refl _) (.cells #[.slice a3 0 c3, .slice b3 1 d3] 25))
  have x3 := Box.new w3 (.slice a3 0 c3) (.slice b3 1 d3)
  have hB3 := (hB2.trans (hb.mono hz2)).alloc (by have := (hB2.trans (hb.mono hz2)).size; exact this) (.cells #[.slice a3 0 c3, .slice b3 1 d3] 25)
  have hz3 := hB3.size
  clear hb hB2 hz2
  have y0 := x1.cell0
  have y1 := x1.cell1
  have y2 := x3.cell0
  have y3 := x3.cell1
  have hr3 := hr2
  obtain ⟨vs, vr, e1, hi, _⟩ := hr3
  cases e1
  obtain ⟨ba, oa, rfl, hca⟩ := hi.at (k := 0) (by decide)
  rw [Nat.add_zero] at hca
  have HR := hide hr2
  clear hi hu3 hr2
  go_wp2_with fail
  refine (right_any (unhide HR)).mono ?_
  rintro e w4 ⟨rfl, hb⟩
  rw [shown_right]
  have hr4 := (unhide HR).below hb
  replace x1 := x1.belowH hb
  replace x3 := x3.belowH hb
  have hB4 := hB3.trans (hb.mono hz3)
  have hz4 := hB4.size
  have z0 := x1.cell0
  have z1 := x1.cell1
  clear HR hB3 hz3 hb y0 y1 y2 y3 hca
  go_wp2_with fail
  refine (has_any (t := [1, 5]) (hr4.below ((Below.refl _ w4).alloc (Nat.le_refl _) _)) (litI_at (c := #[.int .i64 1, .int .i64 5]) (e := 3) (fr := (0, 0)) (heap_alloc_new w4 _) rfl rfl (by simp))).mono ?_
  rintro e w5 ⟨rfl, hb⟩
  rw [shown_has]
  replace x3 := (x3.push _).belowH hb
  have hB5 := (hB4.alloc hz4 _).trans (hb.mono (by simp; omega))
  have hz5 := hB5.size
  have y2 := x3.cell0
  have y3 := x3.cell1
  clear hb hB4 hz4 z0 z1 hr4
  go_wp2_with fail
  refine (right_any (s := [1, 0]) (ll := []) ⟨_, _, rfl, litI_at (c := #[.int .i64 1, .int .i64 0]) (e := 3) (fr := (0, 0)) (heap_alloc_new w5 _) rfl rfl (by simp), ⟨[], Seq.nil _ _, rfl, fun i h => by simp at h⟩⟩).mono ?_
  rintro e w6 ⟨rfl, hb⟩
  rw [shown_wrong]
  have hB6 := (hB5.alloc hz5 _).trans (hb.mono (by simp; omega))
  clear hb
  go_wp2
  go_ret
  exact ⟨rfl, hB6⟩

end Go.Proofs.Ytmppialileoimaa
