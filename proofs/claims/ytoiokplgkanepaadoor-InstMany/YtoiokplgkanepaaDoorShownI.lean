/-
  The contracts of the laws' shown, and of the document's Same of two empty instances.
-/
import Derived.Test.YtoiokplgkanepaaDoorPrintE
namespace Go.Proofs.YtoiokplgkanepaaDoor
open Go.RowKit
set_option linter.unusedVariables false
set_option linter.unusedSimpArgs false
set_option maxRecDepth 20000

abbrev txt1 : Bytes := [118, 97, 114, 32, 48, 32, 49, 59, 32, 100, 105, 102, 102, 32, 48, 59]
abbrev txt2 : Bytes := [118, 97, 114, 32, 48, 32, 49, 59, 32, 100, 105, 102, 102, 32, 49, 59]
abbrev txt3 : Bytes := [118, 97, 114, 32, 49, 32, 48, 59]
abbrev tks1 : List Tok := [⟨1, [118, 97, 114], 0, 0⟩, ⟨2, [], 0, 4⟩, ⟨2, [], 1, 6⟩, ⟨3, [59], 0, 7⟩, ⟨1, [100, 105, 102, 102], 0, 9⟩, ⟨2, [], 0, 14⟩, ⟨3, [59], 0, 15⟩, ⟨4, [], 0, 16⟩]
abbrev tks2 : List Tok := [⟨1, [118, 97, 114], 0, 0⟩, ⟨2, [], 0, 4⟩, ⟨2, [], 1, 6⟩, ⟨3, [59], 0, 7⟩, ⟨1, [100, 105, 102, 102], 0, 9⟩, ⟨2, [], 1, 14⟩, ⟨3, [59], 0, 15⟩, ⟨4, [], 0, 16⟩]
abbrev tks3 : List Tok := [⟨1, [118, 97, 114], 0, 0⟩, ⟨2, [], 1, 4⟩, ⟨2, [], 0, 6⟩, ⟨3, [59], 0, 7⟩, ⟨4, [], 0, 8⟩]
abbrev ins1 : Ins := ⟨[[0, 1]], [⟨3, [0], [], []⟩], []⟩
theorem sc1 : scanA 0 txt1 = .good tks1 := by decide
theorem sc2 : scanA 0 txt2 = .good tks2 := by decide
theorem sc3 : scanA 0 txt3 = .good tks3 := by decide
theorem ps1 : parseR tks1 = .ok ins1 [⟨4, [], 0, 16⟩] := by decide
theorem ps2 : parseR tks2 = .fault 14 5 := by decide
theorem ps3 : parseR tks3 = .fault 6 6 := by decide

theorem plain1 : PlainI ins1 := ⟨by decide, by
  intro d hd
  simp at hd
  subst hd
  exact ⟨by decide, by intro n hn; simp at hn; omega⟩, by decide, by
  intro c hc
  simp at hc
  subst hc
  exact ⟨⟨3, rfl, by omega, by omega, rfl, rfl⟩, by decide⟩, rfl⟩

def dec1 (n : Int) : Bytes := if n = 0 then [48] else [49]
theorem tells0 : Tells10 dec1 0 := fun W _ => itoa0 W
theorem tells1 : Tells10 dec1 1 := fun W _ => itoa1 W
theorem text1 : textP dec1 ins1 = [118, 97, 114, 32, 48, 32, 49, 59, 10, 100, 105, 102, 102, 32, 48, 59, 10] := by decide

set_option maxHeartbeats 2000000 in
theorem shown6_any (w : World) (T : Tabs w) : Calls Tryd.prog 7 #[] w fun e w' => e = .returned (.bool true) ∧ Below w.heap.size w w' := by
  have H1 := hide (parse_good ⟨txt1.toArray⟩ w T (by decide) sc1)
  have H2 := hide (fun W (hb : Below w.heap.size w W) => parse_good ⟨txt2.toArray⟩ W (T.below hb) (by decide) sc2)
  have H3 := hide (fun W (hb : Below w.heap.size w W) => parse_good ⟨txt3.toArray⟩ W (T.below hb) (by decide) sc3)
  rw [ps1] at H1
  rw [ps2] at H2
  rw [ps3] at H3
  have HT := hide T
  clear T
  go_enter Tryd.func7, Tryd.ntmps7
  go_wp2_with fail
  refine (unhide H1).mono ?_
  rintro e w1 ⟨⟨v, rfl, hv⟩, hb1⟩
  have HV := hide hv
  have hv0 := hv
  obtain ⟨dv, hh, sv, rfl, hdo, ⟨qs, q1, q2, q3, q4⟩, us, s1, s2, s3, s4⟩ := hv0
  obtain ⟨da, dc, rfl, _, _⟩ := hdo.form
  obtain ⟨ha, hc, rfl, _, _⟩ := q1.form
  obtain ⟨sa, sc, rfl, _, _⟩ := s1.form
  have hq1 : qs.length = 1 := q3
  have hu0 : us.length = 0 := s3
  obtain ⟨bb, oo, rfl, k0, kr⟩ := q1.at (i := 0) (by omega)
  clear kr
  have ka := (q4 0 (by omega) (by decide)).1
  rw [ka] at k0
  simp only [Nat.zero_mul, Nat.add_zero, List.getElem_cons_zero, List.length_cons, List.length_nil, Nat.zero_add] at k0 HV
  rw [hq1, hu0] at HV
  simp only [List.length_cons, List.length_nil, Nat.zero_add]
  rw [hq1, hu0]
  have hbA := (Below.refl w1.heap.size w1).alloc (Nat.le_refl _) (.cells #[.slice da 1 dc, .slice (some ⟨bb, oo, none⟩) 1 hc, .slice sa 0 sc] 27)
  have x1 := Box3.new 27 w1 (.slice da 1 dc) (.slice (some ⟨bb, oo, none⟩) 1 hc) (.slice sa 0 sc)
  have hB1 := below_then hb1 hbA
  have HP2 := hide (unhide H2 _ hB1)
  have HBA := hide hbA
  have HB1 := hide hB1
  have X1 := hide x1
  have K0 := hide k0
  clear hv hdo q1 q2 q3 q4 s1 s2 s3 s4 ka hq1 hu0 hbA hB1 x1 hb1 k0 H1 H2
  go_wp2_with fail
  refine (unhide HP2).mono ?_
  rintro e w2 ⟨rfl, hb2⟩
  have hbB := (Below.refl w2.heap.size w2).alloc (Nat.le_refl _) (.cells #[.slice none 0 0, .slice none 0 0, .slice none 0 0] 27)
  have hB2 := below_then (below_then (unhide HB1) hb2) hbB
  have HP3 := hide (unhide H3 _ hB2)
  have HB2 := hide hB2
  have HBB := hide (below_then hb2 hbB)
  clear hbB hB2 hb2 HP2
  go_wp2_with fail
  refine (unhide HP3).mono ?_
  rintro e w3 ⟨rfl, hb3⟩
  have hbC := (Below.refl w3.heap.size w3).alloc (Nat.le_refl _) (.cells #[.slice none 0 0, .slice none 0 0, .slice none 0 0] 27)
  have hB3 := below_then (below_then (unhide HB2) hb3) hbC
  have hBx := below_then (below_then (unhide HBB) hb3) hbC
  have x3 := (unhide X1).keep (grown_below hBx none) (by simp)
  have c0 := x3.cell0; have c1 := x3.cell1; have c2 := x3.cell2
  have c5 := Below.cell_of hBx (Below.cell_of (unhide HBA) (unhide K0))
  have hv3 := ((unhide HV).below (unhide HBA)).below hBx
  have HRT := hide (right_plain hv3 plain1)
  have HPT := hide (fun W hb => print_plain (dec := dec1) (w := W) (hv3.below hb) plain1 ((unhide HT).below (below_then hB3 hb)) (by simp) (by
    intro d hd
    simp at hd
    subst hd
    exact ⟨by simp, by intro n hn; simp at hn; rcases hn with rfl | rfl; exact ⟨tells0, by decide⟩; exact ⟨tells1, by decide⟩⟩) (by
    intro c hc
    simp at hc
    subst hc
    exact ⟨by simp, by intro n hn; simp at hn; subst hn; exact ⟨tells0, by decide⟩⟩))
  rw [text1] at HPT
  have HB3 := hide hB3
  have X3 := hide x3
  clear hbC hB3 hBx x3 hv3 HP3 hb3 HB1 HB2 HBA HBB X1 K0 HV
  go_wp2_with fail
  refine (unhide HRT).mono ?_
  rintro e w4 ⟨rfl, hb4⟩
  have x4 := (unhide X3).keep (grown_below hb4 none) (by simp)
  have d0 := x4.cell0; have d1 := x4.cell1; have d2 := x4.cell2
  clear c0 c1 c2 x4
  go_wp2_with fail
  refine (unhide HPT _ hb4).mono ?_
  rintro e w5 ⟨rfl, hb5⟩
  go_wp2
  go_ret
  exact ⟨rfl, below_then (below_then (unhide HB3) hb4) hb5⟩

set_option maxHeartbeats 1000000 in
theorem tuples_nil {a b : Option Addr} {c d : Nat} {w : World} : Calls Tryd.prog 16 #[.slice a 0 c, .slice b 0 d] w fun e w' => e = .returned (.bool true) ∧ w' = w := by
  go_enter Tryd.func16, Tryd.ntmps16
  go_wp2
  go_loop [5] (fun i => i = .int .i64 0) (fun _ => 0)
  case atStart => rfl
  case round =>
    subst hrel
    go_wp2
    go_ret
    exact ⟨rfl, rfl⟩

set_option maxHeartbeats 1000000 in
theorem same_nil {a1 a2 a3 b1 b2 b3 : Option Addr} {c1 c2 c3 d1 d2 d3 : Nat} {w : World} :
    Calls Tryd.prog 9 #[.agg #[.slice a1 0 c1, .slice a2 0 c2, .slice a3 0 c3], .agg #[.slice b1 0 d1, .slice b2 0 d2, .slice b3 0 d3]] w fun e w' => e = .returned (.bool true) ∧ Below w.heap.size w w' := by
  have HTU := hide (fun W => tuples_nil (a := a1) (b := b1) (c := c1) (d := d1) (w := W))
  have hbA := ((Below.refl w.heap.size w).alloc (Nat.le_refl _) (.cells #[.slice a1 0 c1, .slice a2 0 c2, .slice a3 0 c3] 27)).alloc (by simp) (.cells #[.slice b1 0 d1, .slice b2 0 d2, .slice b3 0 d3] 27)
  have HB := hide hbA
  clear hbA
  go_enter Tryd.func9, Tryd.ntmps9
  go_wp2_with fail
  refine (unhide HTU _).mono ?_
  rintro e w1 ⟨rfl, rfl⟩
  go_wp2
  go_loop [5] (fun i => i = .int .i64 0) (fun _ => 0)
  case atStart => rfl
  case round =>
    subst hrel
    go_wp2
    go_loop [8] (fun i => i = .int .i64 0) (fun _ => 0)
    case atStart => rfl
    case round =>
      subst hrel
      go_wp2
      go_ret
      exact ⟨rfl, unhide HB⟩

end Go.Proofs.YtoiokplgkanepaaDoor
