/-
  Contracts as the laws of layer 3 want them; the contract of shown.
-/
import Derived.Test.YtcndapakkkaojaaGreatDoorJoinJoin
import Derived.Test.YtcndapakkkaojaaGreatDoorLawSmall3
import Derived.Test.YtcndapakkkaojaaGreatDoorFrame3
import Derived.Test.YtcndapakkkaojaaGreatDoorRelUnit
namespace Go.Proofs.YtcndapakkkaojaaGreatDoor
open Go.RowKit
set_option linter.unusedVariables false
set_option linter.unusedSimpArgs false
set_option maxRecDepth 20000

theorem join_ok {s u : List Int} {la lb : List (List Int)} {n m : Nat} {v v' : Value} {most : Int} {w : World} (h : RelV w v s la) (h' : RelV w v' u lb) (g : Fine s la n) (g' : Fine u lb m) (hn : n < 100000) (hm : m < 100000) (hnm : n * m < 100000) (hmost : ((pairR s la u lb).length : Int) ≤ most) :
    Calls Tryz.prog 14 #[v, v', .int .i64 most] w fun e w' => ∃ x, e = .returned (.tuple #[x, .int .i64 0]) ∧ RelV w' x (joinL s u) (joinR s la u lb) ∧ Below w.heap.size w w' :=
  (join_any h h' g g' hn hm hnm).mono fun e w' ⟨h1, h2⟩ => by
    rcases h1 with ⟨x, e1, h3, _⟩ | ⟨_, h3⟩
    · exact ⟨x, e1, h3, h2⟩
    · omega

theorem join_no {s u : List Int} {la lb : List (List Int)} {n m : Nat} {v v' : Value} {most : Int} {w : World} (h : RelV w v s la) (h' : RelV w v' u lb) (g : Fine s la n) (g' : Fine u lb m) (hn : n < 100000) (hm : m < 100000) (hnm : n * m < 100000) (hmost : most < ((pairR s la u lb).length : Int)) :
    Calls Tryz.prog 14 #[v, v', .int .i64 most] w fun e w' => e = .returned (.tuple #[.agg #[.slice none 0 0, .slice none 0 0], .int .i64 9]) ∧ Below w.heap.size w w' :=
  (join_any h h' g g' hn hm hnm).mono fun e w' ⟨h1, h2⟩ => by
    rcases h1 with ⟨x, e1, h3, h4⟩ | ⟨e1, h3⟩
    · omega
    · exact ⟨e1, h2⟩

theorem agree_q {s u : List Int} {la lb : List (List Int)} {n m : Nat} {v v' : Value} {w : World} {q : Bool} (h : RelV w v s la) (h' : RelV w v' u lb) (g : Fine s la n) (g' : Fine u lb m) (hn : n ≤ 5000) (hm : m ≤ 5000) (hq : agreeB s la u lb = q) :
    Calls Tryz.prog 19 #[v, v'] w fun e w' => e = .returned (.bool q) ∧ Below w.heap.size w w' := by rw [← hq]; exact agree_any h h' g g' hn hm

theorem semi_eq {s u : List Int} {la lb R : List (List Int)} {n m : Nat} {v v' : Value} {w : World} (h : RelV w v s la) (h' : RelV w v' u lb) (g : Fine s la n) (g' : Fine u lb m) (hn : n < 100000) (hm : m < 100000) (e : semiR s la u lb = R) :
    Calls Tryz.prog 17 #[v, v'] w fun e w' => ∃ x, e = .returned x ∧ RelV w' x s R ∧ Below w.heap.size w w' := by rw [← e]; exact semijoin_any h h' g g' hn hm

/-- Join, its answer under letters. -/
theorem join_eq {s u S : List Int} {la lb J : List (List Int)} {n m : Nat} {v v' : Value} {most : Int} {w : World} (h : RelV w v s la) (h' : RelV w v' u lb) (g : Fine s la n) (g' : Fine u lb m) (hn : n < 100000) (hm : m < 100000) (hnm : n * m < 100000) (hmost : ((pairR s la u lb).length : Int) ≤ most) (e1 : joinL s u = S) (e2 : joinR s la u lb = J) :
    Calls Tryz.prog 14 #[v, v', .int .i64 most] w fun e w' => ∃ x, e = .returned (.tuple #[x, .int .i64 0]) ∧ RelV w' x S J ∧ Below w.heap.size w w' := by rw [← e1, ← e2]; exact join_ok h h' g g' hn hm hnm hmost

theorem fine_a : Fine [0] [[1], [2]] 2 := ⟨by simp, by simp, by simp [AscL, cmpL, cmpI], by simp, by simp, by simp, by simp⟩
theorem fine_b : Fine [1] [[5]] 1 := ⟨by simp, by simp, by simp [AscL], by simp, by simp, by simp, by simp⟩
theorem fine_c : Fine [0] [[2]] 1 := ⟨by simp, by simp, by simp [AscL], by simp, by simp, by simp, by simp⟩
theorem ab_meet : meetL [0] [1] = [] := by decide
theorem ab_join : joinL [0] [1] = [0, 1] := Asc.ext (asc_joinL fine_a.asc fine_b.asc) (by simp) fun x => by rw [mem_joinL]; simp
theorem ab_pairs : (pairR [0] [[1], [2]] [1] [[5]]).length = 2 := pair_all ab_meet [[5]] [[1], [2]]
theorem ab_len : (joinR [0] [[1], [2]] [1] [[5]]).length = 2 := (join_len fine_a fine_b).trans ab_pairs
theorem ac_semi : semiR [0] [[1], [2]] [0] [[2]] = [[2]] := by decide
theorem ac_agree : agreeB [0] [[1], [2]] [0] [[2]] = false := by
  cases h : agreeB [0] [[1], [2]] [0] [[2]] with
  | false => rfl
  | true => exact absurd ((agree_iff fine_a fine_c).1 h).1 (by decide)
theorem ab_agree : agreeB [0] [[1], [2]] [1] [[5]] = true := (agree_iff fine_a fine_b).2 (by decide)

theorem lit_rel {W : World} {h1 h2 : Nat} {s : List Int} {ll : List (List Int)} {vs : List Value} (hs : Ints W (.slice (some ⟨h1, 0, none⟩) s.length s.length) s) (hr : W.heap[h2]? = some (.cells vs.toArray 22 (0, 0))) (hl : vs.length = ll.length) (h10 : vs.length ≤ 10) (hi : ∀ i (h : i < vs.length) (h' : i < ll.length), Ints W vs[i] ll[i]) :
    RelV W (.agg #[.slice (some ⟨h1, 0, none⟩) s.length s.length, .slice (some ⟨h2, 0, none⟩) vs.length vs.length]) s ll :=
  ⟨_, _, rfl, hs, vs, litT_at hr (by simp) rfl (by omega), hl, hi⟩

set_option maxHeartbeats 16000000 in
theorem shown3_any (w : World) : Calls Tryz.prog 12 #[] w fun e w' => e = .returned (.bool true) ∧ Below w.heap.size w w' := by
  obtain ⟨W1, hW1⟩ : ∃ W, W = ((((((((w.alloc (.cells #[.int .i64 0] 3)).alloc (.cells #[.int .i64 1] 3)).alloc (.cells #[.int .i64 2] 3)).alloc (.cells #[.slice (some ⟨w.heap.size + 1, 0, none⟩) 1 1, .slice (some ⟨w.heap.size + 1 + 1, 0, none⟩) 1 1] 22)).alloc (.cells #[.slice (some ⟨w.heap.size, 0, none⟩) 1 1, .slice (some ⟨w.heap.size + 1 + 1 + 1, 0, none⟩) 2 2] 27)).alloc (.cells #[.int .i64 1] 3)).alloc (.cells #[.int .i64 5] 3)).alloc (.cells #[.slice (some ⟨w.heap.size + 1 + 1 + 1 + 1 + 1 + 1, 0, none⟩) 1 1] 22)).alloc (.cells #[.slice (some ⟨w.heap.size + 1 + 1 + 1 + 1 + 1, 0, none⟩) 1 1, .slice (some ⟨w.heap.size + 1 + 1 + 1 + 1 + 1 + 1 + 1, 0, none⟩) 1 1] 27) := ⟨_, rfl⟩
  have hB : Below w.heap.size w W1 := by
    rw [hW1]
    exact (((((((((Below.refl _ w).alloc (Nat.le_refl _) _).alloc (by simp) _).alloc (by simp; omega) _).alloc (by simp; omega) _).alloc (by simp; omega) _).alloc (by simp; omega) _).alloc (by simp; omega) _).alloc (by simp; omega) _).alloc (by simp; omega) _
  have key : ∀ k o, (if k = w.heap.size + 1 + 1 + 1 + 1 + 1 + 1 + 1 + 1 then some o else none) = (if k = w.heap.size + 8 then some o else (none : Option Obj)) := fun k o => by rfl
  have at0 : W1.heap[w.heap.size]? = some (.cells #[.int .i64 0] 3 (0, 0)) := by rw [hW1]; simp only [alloc_at, World.size_alloc]; repeat (first | rw [if_pos True.intro] | rw [if_pos rfl] | rw [if_neg (by omega)])
  have at1 : W1.heap[w.heap.size + 1]? = some (.cells #[.int .i64 1] 3 (0, 0)) := by rw [hW1]; simp only [alloc_at, World.size_alloc]; repeat (first | rw [if_pos True.intro] | rw [if_pos rfl] | rw [if_neg (by omega)])
  have at2 : W1.heap[w.heap.size + 1 + 1]? = some (.cells #[.int .i64 2] 3 (0, 0)) := by rw [hW1]; simp only [alloc_at, World.size_alloc]; repeat (first | rw [if_pos True.intro] | rw [if_pos rfl] | rw [if_neg (by omega)])
  have at3 : W1.heap[w.heap.size + 1 + 1 + 1]? = some (.cells #[.slice (some ⟨w.heap.size + 1, 0, none⟩) 1 1, .slice (some ⟨w.heap.size + 1 + 1, 0, none⟩) 1 1] 22 (0, 0)) := by rw [hW1]; simp only [alloc_at, World.size_alloc]; repeat (first | rw [if_pos True.intro] | rw [if_pos rfl] | rw [if_neg (by omega)])
  have at5 : W1.heap[w.heap.size + 1 + 1 + 1 + 1 + 1]? = some (.cells #[.int .i64 1] 3 (0, 0)) := by rw [hW1]; simp only [alloc_at, World.size_alloc]; repeat (first | rw [if_pos True.intro] | rw [if_pos rfl] | rw [if_neg (by omega)])
  have at6 : W1.heap[w.heap.size + 1 + 1 + 1 + 1 + 1 + 1]? = some (.cells #[.int .i64 5] 3 (0, 0)) := by rw [hW1]; simp only [alloc_at, World.size_alloc]; repeat (first | rw [if_pos True.intro] | rw [if_pos rfl] | rw [if_neg (by omega)])
  have at7 : W1.heap[w.heap.size + 1 + 1 + 1 + 1 + 1 + 1 + 1]? = some (.cells #[.slice (some ⟨w.heap.size + 1 + 1 + 1 + 1 + 1 + 1, 0, none⟩) 1 1] 22 (0, 0)) := by rw [hW1]; simp only [alloc_at, World.size_alloc]; repeat (first | rw [if_pos True.intro] | rw [if_pos rfl] | rw [if_neg (by omega)])
  have xa : Box W1 (w.heap.size + 1 + 1 + 1 + 1) (.slice (some ⟨w.heap.size, 0, none⟩) 1 1) (.slice (some ⟨w.heap.size + 1 + 1 + 1, 0, none⟩) 2 2) := by unfold Box; rw [hW1]; simp only [alloc_at, World.size_alloc]; repeat (first | rw [if_pos True.intro] | rw [if_pos rfl] | rw [if_neg (by omega)])
  have xb : Box W1 (w.heap.size + 1 + 1 + 1 + 1 + 1 + 1 + 1 + 1) (.slice (some ⟨w.heap.size + 1 + 1 + 1 + 1 + 1, 0, none⟩) 1 1) (.slice (some ⟨w.heap.size + 1 + 1 + 1 + 1 + 1 + 1 + 1, 0, none⟩) 1 1) := by unfold Box; rw [hW1]; simp only [alloc_at, World.size_alloc]; repeat (first | rw [if_pos True.intro] | rw [if_pos rfl] | rw [if_neg (by omega)])
  have RA : RelV W1 (.agg #[.slice (some ⟨w.heap.size, 0, none⟩) 1 1, .slice (some ⟨w.heap.size + 1 + 1 + 1, 0, none⟩) 2 2]) [0] [[1], [2]] :=
    lit_rel (s := [0]) (vs := [.slice (some ⟨w.heap.size + 1, 0, none⟩) 1 1, .slice (some ⟨w.heap.size + 1 + 1, 0, none⟩) 1 1]) (litI_at at0 rfl rfl (by simp)) at3 rfl (by simp) (fun i hi hi' => by
      match i, hi, hi' with
      | 0, _, _ => exact litI_at (l := [1]) at1 rfl rfl (by simp)
      | 1, _, _ => exact litI_at (l := [2]) at2 rfl rfl (by simp))
  have RB : RelV W1 (.agg #[.slice (some ⟨w.heap.size + 1 + 1 + 1 + 1 + 1, 0, none⟩) 1 1, .slice (some ⟨w.heap.size + 1 + 1 + 1 + 1 + 1 + 1 + 1, 0, none⟩) 1 1]) [1] [[5]] :=
    lit_rel (s := [1]) (vs := [.slice (some ⟨w.heap.size + 1 + 1 + 1 + 1 + 1 + 1, 0, none⟩) 1 1]) (litI_at at5 rfl rfl (by simp)) at7 rfl (by simp) (fun i hi hi' => by
      match i, hi, hi' with
      | 0, _, _ => exact litI_at (l := [5]) at6 rfl rfl (by simp))
  have HW1 := hide hW1
  have HJ := hide (join_ok (most := 2) RA RB fine_a fine_b (by omega) (by omega) (by omega) (by rw [ab_pairs]; decide))
  clear hW1 at0 at1 at2 at3 at5 at6 at7 key
  go_enter Tryz.func12, Tryz.ntmps12
  go_wp2_with fail
  rw [← unhide HW1]
  refine (unhide HJ).mono ?_
  rintro e w1 ⟨u1, rfl, hr1, hb⟩
  obtain ⟨a1, c1, b1, d1, e1, _, _, _, _, _, _⟩ := hr1.form
  rw [ab_join, ab_len] at e1
  have e1' : u1 = .agg #[.slice a1 2 c1, .slice b1 2 d1] := e1
  subst e1'
  replace RA := RA.below hb
  replace RB := RB.below hb
  replace xa := xa.belowH hb
  replace xb := xb.belowH hb
  replace hB := hB.trans (hb.mono hB.size)
  clear hb e1 hr1 HJ
  have pb := (Below.refl _ w1).alloc (Nat.le_refl _) (.cells #[.slice a1 2 c1, .slice b1 2 d1] 27)
  replace RA := RA.below pb
  replace RB := RB.below pb
  replace xa := xa.push (.cells #[.slice a1 2 c1, .slice b1 2 d1] 27)
  replace xb := xb.push (.cells #[.slice a1 2 c1, .slice b1 2 d1] 27)
  have xr := Box.new w1 (.slice a1 2 c1) (.slice b1 2 d1)
  replace hB := below_then hB pb
  clear pb
  have c0_xa := xa.cell0
  have c1_xa := xa.cell1
  have c0_xb := xb.cell0
  have c1_xb := xb.cell1
  have c0_xr := xr.cell0
  have c1_xr := xr.cell1
  go_wp2_with fail
  refine (join_no (most := 1) RA RB fine_a fine_b (by omega) (by omega) (by omega) (by rw [ab_pairs]; decide)).mono ?_
  rintro e w101 ⟨rfl, hb⟩
  replace RA := RA.below hb
  replace RB := RB.below hb
  replace xa := xa.belowH hb
  replace xb := xb.belowH hb
  replace xr := xr.belowH hb
  replace hB := below_then hB hb
  clear hb c0_xa c1_xa c0_xb c1_xb c0_xr c1_xr
  obtain ⟨W4, hW4⟩ : ∃ W, W = (((w101.alloc (.cells #[.slice none 0 0, .slice none 0 0] 27)).alloc (.cells #[.int .i64 0] 3)).alloc (.cells #[.int .i64 2] 3)).alloc (.cells #[.slice (some ⟨w101.heap.size + 1 + 1, 0, none⟩) 1 1] 22) := ⟨_, rfl⟩
  have hb4 : Below w101.heap.size w101 W4 := by rw [hW4]; exact ((((Below.refl _ w101).alloc (Nat.le_refl _) _).alloc (by simp) _).alloc (by simp; omega) _).alloc (by simp; omega) _
  have q0 : W4.heap[w101.heap.size + 1]? = some (.cells #[.int .i64 0] 3 (0, 0)) := by rw [hW4]; simp only [alloc_at, World.size_alloc]; repeat (first | rw [if_pos True.intro] | rw [if_pos rfl] | rw [if_neg (by omega)])
  have q1 : W4.heap[w101.heap.size + 1 + 1]? = some (.cells #[.int .i64 2] 3 (0, 0)) := by rw [hW4]; simp only [alloc_at, World.size_alloc]; repeat (first | rw [if_pos True.intro] | rw [if_pos rfl] | rw [if_neg (by omega)])
  have q2 : W4.heap[w101.heap.size + 1 + 1 + 1]? = some (.cells #[.slice (some ⟨w101.heap.size + 1 + 1, 0, none⟩) 1 1] 22 (0, 0)) := by rw [hW4]; simp only [alloc_at, World.size_alloc]; repeat (first | rw [if_pos True.intro] | rw [if_pos rfl] | rw [if_neg (by omega)])
  have RC : RelV W4 (.agg #[.slice (some ⟨w101.heap.size + 1, 0, none⟩) 1 1, .slice (some ⟨w101.heap.size + 1 + 1 + 1, 0, none⟩) 1 1]) [0] [[2]] :=
    lit_rel (s := [0]) (vs := [.slice (some ⟨w101.heap.size + 1 + 1, 0, none⟩) 1 1]) (litI_at q0 rfl rfl (by simp)) q2 rfl (by simp) (fun i hi hi' => by
      match i, hi, hi' with
      | 0, _, _ => exact litI_at (l := [2]) q1 rfl rfl (by simp))
  have c0a := cell_push (cell_push (cell_push (cell_push xa.cell0 (.cells #[.slice none 0 0, .slice none 0 0] 27)) (.cells #[.int .i64 0] 3)) (.cells #[.int .i64 2] 3)) (.cells #[.slice (some ⟨w101.heap.size + 1 + 1, 0, none⟩) 1 1] 22)
  have c0 := cell_push xa.cell0 (.cells #[.slice none 0 0, .slice none 0 0] 27)
  have c1' := cell_push xa.cell1 (.cells #[.slice none 0 0, .slice none 0 0] 27)
  have HW4 := hide hW4
  replace RA := RA.below hb4
  replace RB := RB.below hb4
  replace xa := xa.belowH hb4
  replace xb := xb.belowH hb4
  replace xr := xr.belowH hb4
  replace hB := below_then hB hb4
  have HS := hide (semi_eq RA RC fine_a fine_c (by omega) (by omega) ac_semi)
  clear hW4 q0 q1 q2 hb4 RC c0a
  go_wp2_with fail
  rw [← unhide HW4]
  refine (unhide HS).mono ?_
  rintro e w5 ⟨u5, rfl, hr5, hb⟩
  obtain ⟨a5, c5, b5, d5, e5, _, _, _, _, _, _⟩ := hr5.form
  have e5' : u5 = .agg #[.slice a5 1 c5, .slice b5 1 d5] := e5
  subst e5'
  replace RA := RA.below hb
  replace RB := RB.below hb
  replace xa := xa.belowH hb
  replace xb := xb.belowH hb
  replace xr := xr.belowH hb
  replace hB := below_then hB hb
  clear hb e5 HS c0 c1' HW4
  have pb := (Below.refl _ w5).alloc (Nat.le_refl _) (.cells #[.slice a5 1 c5, .slice b5 1 d5] 27)
  replace RA := RA.below pb
  replace RB := RB.below pb
  replace hr5 := hr5.below pb
  replace xa := xa.push (.cells #[.slice a5 1 c5, .slice b5 1 d5] 27)
  replace xb := xb.push (.cells #[.slice a5 1 c5, .slice b5 1 d5] 27)
  replace xr := xr.push (.cells #[.slice a5 1 c5, .slice b5 1 d5] 27)
  have xs := Box.new w5 (.slice a5 1 c5) (.slice b5 1 d5)
  replace hB := below_then hB pb
  clear pb
  have c0_xa := xa.cell0
  have c1_xa := xa.cell1
  have c0_xb := xb.cell0
  have c1_xb := xb.cell1
  have c0_xr := xr.cell0
  have c1_xr := xr.cell1
  have c0_xs := xs.cell0
  have c1_xs := xs.cell1
  go_wp2_with fail
  refine (agree_q RA hr5 fine_a fine_c (by omega) (by omega) ac_agree).mono ?_
  rintro e w102 ⟨rfl, hb⟩
  replace RA := RA.below hb
  replace RB := RB.below hb
  replace xa := xa.belowH hb
  replace xb := xb.belowH hb
  replace xr := xr.belowH hb
  replace xs := xs.belowH hb
  replace hB := below_then hB hb
  clear hb c0_xa c1_xa c0_xb c1_xb c0_xr c1_xr c0_xs c1_xs
  have c0_xa := xa.cell0
  have c1_xa := xa.cell1
  have c0_xb := xb.cell0
  have c1_xb := xb.cell1
  have c0_xr := xr.cell0
  have c1_xr := xr.cell1
  have c0_xs := xs.cell0
  have c1_xs := xs.cell1
  go_wp2_with fail
  refine (agree_q RA RB fine_a fine_b (by omega) (by omega) ab_agree).mono ?_
  rintro e w103 ⟨rfl, hb⟩
  replace xa := xa.belowH hb
  replace xb := xb.belowH hb
  replace xr := xr.belowH hb
  replace xs := xs.belowH hb
  replace hB := below_then hB hb
  clear hb c0_xa c1_xa c0_xb c1_xb c0_xr c1_xr c0_xs c1_xs
  go_wp2
  go_ret
  exact ⟨rfl, hB⟩

end Go.Proofs.YtcndapakkkaojaaGreatDoor
