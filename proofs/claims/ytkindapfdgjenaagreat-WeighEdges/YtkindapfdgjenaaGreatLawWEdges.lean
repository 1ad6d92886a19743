/-
  Proved: WeighEdges answers true for every two weights, and leaves what was handed in as it was. No condition.
-/
import Derived.Test.YtkindapfdgjenaaGreatWEdges
import Derived.Deep.CutRange
import Derived.Deep.RegionHeld3
namespace Go.Proofs.YtkindapfdgjenaaGreat.weighEdges
open Go.RowKit Go.ChangeShapes Go.WideShapes Go.ChangeAt
set_option linter.unusedVariables false
set_option linter.unusedSimpArgs false
set_option maxRecDepth 20000

/-- One operation alone may come up. -/
theorem held_one {P : Program} {md : Region.Mode} {ops : Array Oper} {Q : Exit → Act → World → Prop} {S : World → Prop} {i : Nat} {o : Oper} {n : Nat} {done : Array Bool} {a : Act} {w : World} (hr : Region.ready md ops done = [i]) (ho : ops[i]? = some o) (hwd : Region.wanted o (yielded ops a.tmps) = true)
    (h : ∀ K : Act → World → Prop, Shut (∀ b u, S u → wpAnyH P md ops Q S n (done.setIfInBounds i true) b u → K b u) → Oper.wp P o a w K Q) : wpAnyH P md ops Q S (n + 1) done a w :=
  wpAnyH_all hr (by simp) fun j hj => by
    rw [List.mem_singleton] at hj
    subst hj
    refine wpOp_step ho fun K hK => ?_
    rw [if_pos hwd]
    exact h K fun b u hS hT => hK b u ⟨hS, hT⟩

/-- One of those that may come up. -/
theorem held_op {P : Program} {md : Region.Mode} {ops : Array Oper} {Q : Exit → Act → World → Prop} {S : World → Prop} {i : Nat} {o : Oper} {n : Nat} {done : Array Bool} {a : Act} {w : World} (ho : ops[i]? = some o) (hwd : Region.wanted o (yielded ops a.tmps) = true)
    (h : ∀ K : Act → World → Prop, Shut (∀ b u, S u → wpAnyH P md ops Q S n (done.setIfInBounds i true) b u → K b u) → Oper.wp P o a w K Q) : wpOp P ops Q i (fun a' w' => S w' ∧ wpAnyH P md ops Q S n (done.setIfInBounds i true) a' w') a w := by
  refine wpOp_step ho fun K hK => ?_
  rw [if_pos hwd]
  exact h K fun b u hS hT => hK b u ⟨hS, hT⟩

theorem _root_.Go.Proofs.YtkindapfdgjenaaGreat.WVI.w0 {w : World} {x y : Value} {b : Option Addr} {c : Nat} {a : Int} (h : WVI w (.agg #[x, y, .slice b 1 c]) [] [[]] [a]) : ∃ bb oo, b = some ⟨bb, oo, none⟩ ∧ w.cell? ⟨bb, oo, none⟩ = some (.int .i64 a) := by
  obtain ⟨vs, vr, vw, e, h1, h2, h3⟩ := h
  cases e
  obtain ⟨bb, oo, hq, hc⟩ := h3.at (k := 0) (by simp)
  exact ⟨bb, oo, hq, by simpa using hc⟩
theorem _root_.Go.Proofs.YtkindapfdgjenaaGreat.WVI.new1 {w : World} {x y z : Value} {a : Int} {g : Nat} (h : WVI w (.agg #[x, y, z]) [] [[]] [a]) (e : y.ownBlock = some g) : g < w.heap.size := by
  obtain ⟨vs, vr, vw, e2, h1, h2, h3⟩ := h
  cases e2
  obtain ⟨us, k1, k2, k3⟩ := h2
  exact (k1.inheap (by rintro rfl; simp at k2) g e).2


set_option maxHeartbeats 32000000 in
theorem walk {a b : Int} {v0 v1 : Value} {w : World} (i0 : v0 = .int .i64 a) (m0 : InI64 a) (i1 : v1 = .int .i64 b) (m1 : InI64 b) :
    Calls Tryz.prog 3 #[v0, v1] w fun e w' => e = .returned (.bool true) ∧ Below w.heap.size w w' := by
  subst i0 i1
  unfold InI64 at m0 m1
  have HS := hide (shown4_any w)
  by_cases hin : Fits a ∧ Fits b
  case neg =>
    have hout : a < -4611686018427387904 ∨ (¬ a < -4611686018427387904 ∧ 4611686018427387904 < a) ∨ (¬ a < -4611686018427387904 ∧ ¬ 4611686018427387904 < a ∧ b < -4611686018427387904) ∨ (¬ a < -4611686018427387904 ∧ ¬ 4611686018427387904 < a ∧ ¬ b < -4611686018427387904 ∧ 4611686018427387904 < b) := by unfold Fits at hin; omega
    clear hin
    rcases hout with h1 | ⟨h1, h2⟩ | ⟨h1, h2, h3⟩ | ⟨h1, h2, h3, h4⟩
    all_goals
      go_enter Tryz.func3, Tryz.ntmps3
      go_wp2_with (go_at_call 4; refine (unhide HS).mono ?_; rintro e w1 ⟨rfl, hb1⟩)
      go_ret
      exact ⟨rfl, hb1⟩
  obtain ⟨fa, fb⟩ := hin
  have HFA := hide fa
  have HFB := hide fb
  have a1 : ¬ a < -4611686018427387904 := by unfold Fits at fa; omega
  have a2 : ¬ 4611686018427387904 < a := by unfold Fits at fa; omega
  have b1 : ¬ b < -4611686018427387904 := by unfold Fits at fb; omega
  have b2 : ¬ 4611686018427387904 < b := by unfold Fits at fb; omega
  clear fa fb m0 m1
  go_enter Tryz.func3, Tryz.ntmps3
  go_wp2_with fail
  refine (unhide HS).mono ?_
  rintro e w1 ⟨rfl, hB⟩
  clear HS
  obtain ⟨W8, hW8⟩ : ∃ W, W = ((w1.alloc (.cells #[] 3)).alloc (.cells #[.slice (some ⟨w1.heap.size, 0, none⟩) 0 0] 23)).alloc (.cells #[.slice none 0 0, .slice (some ⟨w1.heap.size + 1, 0, none⟩) 1 1] 26) := ⟨_, rfl⟩
  have hb8 : Below w1.heap.size w1 W8 := by rw [hW8]; exact (((Below.refl _ w1).alloc (Nat.le_refl _) _).alloc (by simp) _).alloc (by simp; omega) _
  have q0 : W8.heap[w1.heap.size]? = some (.cells #[] 3 (0, 0)) := by rw [hW8]; simp only [alloc_at, World.size_alloc]; repeat (first | rw [if_pos True.intro] | rw [if_pos rfl] | rw [if_neg (by omega)])
  have q1 : W8.heap[w1.heap.size + 1]? = some (.cells #[.slice (some ⟨w1.heap.size, 0, none⟩) 0 0] 23 (0, 0)) := by rw [hW8]; simp only [alloc_at, World.size_alloc]; repeat (first | rw [if_pos True.intro] | rw [if_pos rfl] | rw [if_neg (by omega)])
  have xR : Box W8 (w1.heap.size + 1 + 1) (.slice none 0 0) (.slice (some ⟨w1.heap.size + 1, 0, none⟩) 1 1) := by unfold Box; rw [hW8]; simp only [alloc_at, World.size_alloc]; repeat (first | rw [if_pos True.intro] | rw [if_pos rfl] | rw [if_neg (by omega)])
  have rz : RelV W8 (.agg #[.slice none 0 0, .slice (some ⟨w1.heap.size + 1, 0, none⟩) 1 1]) [] [[]] :=
    ⟨_, _, rfl, Seq.nil _ _, [.slice (some ⟨w1.heap.size, 0, none⟩) 0 0], litT_at (n := 1) q1 rfl rfl (by simp), rfl, fun i hi hi' => by
      match i, hi, hi' with
      | 0, _, _ => exact litI_at (l := []) q0 rfl rfl (by simp)⟩
  replace hB := below_then hB hb8
  have HW8 := hide hW8
  clear hW8 hb8 q0 q1
  have HC := hide (of_u (q := a) rz)
  go_wp2_with fail
  rw [← unhide HW8]
  refine (unhide HC).mono ?_
  rintro e w2 ⟨u, rfl, ra, hb⟩
  replace rz := rz.below hb
  replace xR := xR.belowH hb
  replace hB := below_then hB hb
  clear HC hb
  clear HW8
  obtain ⟨aa, ac, ab, ad, ae, af, rfl⟩ := ra.lens (n1 := 0) (n2 := 1) (n3 := 1) rfl rfl rfl
  have pb := (Below.refl _ w2).alloc (Nat.le_refl _) (.cells #[.slice aa 0 ac, .slice ab 1 ad, .slice ae 1 af] 29)
  replace rz := rz.below pb
  replace ra := ra.below pb
  replace xR := xR.belowH pb
  replace hB := below_then hB pb
  have xA := BoxWI.new w2 (.slice aa 0 ac) (.slice ab 1 ad) (.slice ae 1 af)
  clear pb
  have HC := hide (of_u (q := b) rz)
  have c0_xR := xR.cell0
  have c1_xR := xR.cell1
  go_wp2_with fail
  refine (unhide HC).mono ?_
  rintro e w3 ⟨u, rfl, rb, hb⟩
  replace rz := rz.below hb
  replace ra := ra.below hb
  replace xR := xR.belowH hb
  replace xA := xA.belowH hb
  replace hB := below_then hB hb
  clear HC hb c0_xR c1_xR
  obtain ⟨ba, bc, bb, bd, be, bf, rfl⟩ := rb.lens (n1 := 0) (n2 := 1) (n3 := 1) rfl rfl rfl
  have pb := (Below.refl _ w3).alloc (Nat.le_refl _) (.cells #[.slice ba 0 bc, .slice bb 1 bd, .slice be 1 bf] 29)
  replace rz := rz.below pb
  replace ra := ra.below pb
  replace rb := rb.below pb
  replace xR := xR.belowH pb
  replace xA := xA.belowH pb
  replace hB := below_then hB pb
  have xB := BoxWI.new w3 (.slice ba 0 bc) (.slice bb 1 bd) (.slice be 1 bf)
  clear pb
  have HC := hide (plus_both ra rb (unhide HFA) (unhide HFB))
  have c0_xA := xA.cell0
  have c1_xA := xA.cell1
  have c2_xA := xA.cell2
  have c0_xB := xB.cell0
  have c1_xB := xB.cell1
  have c2_xB := xB.cell2
  go_wp2_with fail
  refine (unhide HC).mono ?_
  rintro e w4 ⟨p0, pn0, pc0, p1, pn1, pc1, p2, pn2, pc2, er, rfl, hb, hp⟩
  replace rz := rz.below hb
  replace ra := ra.below hb
  replace rb := rb.below hb
  replace xR := xR.belowH hb
  replace xA := xA.belowH hb
  replace xB := xB.belowH hb
  replace hB := below_then hB hb
  clear HC hb c0_xA c1_xA c2_xA c0_xB c1_xB c2_xB
  clear rb xB
  have HP := hide hp
  clear hp
  have pb := (Below.refl _ w4).alloc (Nat.le_refl _) (.cells #[.slice p0 pn0 pc0, .slice p1 pn1 pc1, .slice p2 pn2 pc2] 29)
  replace rz := rz.below pb
  replace ra := ra.below pb
  replace xR := xR.belowH pb
  replace xA := xA.belowH pb
  replace hB := below_then hB pb
  have xP := BoxWI.new w4 (.slice p0 pn0 pc0) (.slice p1 pn1 pc1) (.slice p2 pn2 pc2)
  clear pb
  obtain ⟨V4, hV4⟩ : ∃ W, W = w4.alloc (.cells #[.slice p0 pn0 pc0, .slice p1 pn1 pc1, .slice p2 pn2 pc2] 29) := ⟨_, rfl⟩
  have hz4 : V4.heap.size = w4.heap.size + 1 := by rw [hV4]; simp
  rw [← hV4] at hB rz ra xR xA xP
  have HPB := hide (show Below w4.heap.size w4 V4 by rw [hV4]; exact (Below.refl _ _).alloc (Nat.le_refl _) _)
  obtain ⟨W9, hW9⟩ : ∃ W, W = ((((((V4.alloc (.cells #[.int .i64 0] 3)).alloc (.cells #[.int .i64 0] 3)).alloc (.cells #[.int .i64 1] 3)).alloc (.cells #[.slice (some ⟨V4.heap.size + 1, 0, none⟩) 1 1, .slice (some ⟨V4.heap.size + 1 + 1, 0, none⟩) 1 1] 23)).alloc (.cells #[.int .i64 a, .int .i64 b] 2)).alloc (.cells #[.slice (some ⟨V4.heap.size, 0, none⟩) 1 1, .slice (some ⟨V4.heap.size + 1 + 1 + 1, 0, none⟩) 2 2, .slice (some ⟨V4.heap.size + 1 + 1 + 1 + 1, 0, none⟩) 2 2] 29)) := ⟨_, rfl⟩
  have hb9 : Below V4.heap.size V4 W9 := by rw [hW9]; exact (((((((Below.refl _ V4).alloc (by simp; try omega) (.cells #[.int .i64 0] 3)).alloc (by simp; try omega) (.cells #[.int .i64 0] 3)).alloc (by simp; try omega) (.cells #[.int .i64 1] 3)).alloc (by simp; try omega) (.cells #[.slice (some ⟨V4.heap.size + 1, 0, none⟩) 1 1, .slice (some ⟨V4.heap.size + 1 + 1, 0, none⟩) 1 1] 23)).alloc (by simp; try omega) (.cells #[.int .i64 a, .int .i64 b] 2)).alloc (by simp; try omega) (.cells #[.slice (some ⟨V4.heap.size, 0, none⟩) 1 1, .slice (some ⟨V4.heap.size + 1 + 1 + 1, 0, none⟩) 2 2, .slice (some ⟨V4.heap.size + 1 + 1 + 1 + 1, 0, none⟩) 2 2] 29))
  have r0 : W9.heap[V4.heap.size]? = some (.cells #[.int .i64 0] 3 (0, 0)) := by rw [hW9]; simp only [alloc_at, World.size_alloc]; repeat (first | rw [if_pos True.intro] | rw [if_pos rfl] | rw [if_neg (by omega)])
  have r1 : W9.heap[V4.heap.size + 1]? = some (.cells #[.int .i64 0] 3 (0, 0)) := by rw [hW9]; simp only [alloc_at, World.size_alloc]; repeat (first | rw [if_pos True.intro] | rw [if_pos rfl] | rw [if_neg (by omega)])
  have r2 : W9.heap[V4.heap.size + 1 + 1]? = some (.cells #[.int .i64 1] 3 (0, 0)) := by rw [hW9]; simp only [alloc_at, World.size_alloc]; repeat (first | rw [if_pos True.intro] | rw [if_pos rfl] | rw [if_neg (by omega)])
  have r3 : W9.heap[V4.heap.size + 1 + 1 + 1]? = some (.cells #[.slice (some ⟨V4.heap.size + 1, 0, none⟩) 1 1, .slice (some ⟨V4.heap.size + 1 + 1, 0, none⟩) 1 1] 23 (0, 0)) := by rw [hW9]; simp only [alloc_at, World.size_alloc]; repeat (first | rw [if_pos True.intro] | rw [if_pos rfl] | rw [if_neg (by omega)])
  have r4 : W9.heap[V4.heap.size + 1 + 1 + 1 + 1]? = some (.cells #[.int .i64 a, .int .i64 b] 2 (0, 0)) := by rw [hW9]; simp only [alloc_at, World.size_alloc]; repeat (first | rw [if_pos True.intro] | rw [if_pos rfl] | rw [if_neg (by omega)])
  have xT : BoxWI W9 (V4.heap.size + 1 + 1 + 1 + 1 + 1) (.slice (some ⟨V4.heap.size, 0, none⟩) 1 1) (.slice (some ⟨V4.heap.size + 1 + 1 + 1, 0, none⟩) 2 2) (.slice (some ⟨V4.heap.size + 1 + 1 + 1 + 1, 0, none⟩) 2 2) := by unfold BoxWI; rw [hW9]; simp only [alloc_at, World.size_alloc]; repeat (first | rw [if_pos True.intro] | rw [if_pos rfl] | rw [if_neg (by omega)])
  have rt : WVI W9 (.agg #[.slice (some ⟨V4.heap.size, 0, none⟩) 1 1, .slice (some ⟨V4.heap.size + 1 + 1 + 1, 0, none⟩) 2 2, .slice (some ⟨V4.heap.size + 1 + 1 + 1 + 1, 0, none⟩) 2 2]) [0] [[0], [1]] [a, b] :=
    ⟨_, _, _, rfl, litI_at (l := [0]) r0 rfl rfl (by simp), ⟨[.slice (some ⟨V4.heap.size + 1, 0, none⟩) 1 1, .slice (some ⟨V4.heap.size + 1 + 1, 0, none⟩) 1 1], litT_at (n := 2) r3 rfl rfl (by simp), rfl, fun i hi hi' => by
      match i, hi, hi' with
      | 0, _, _ => exact litI_at (l := [0]) r1 rfl rfl (by simp)
      | 1, _, _ => exact litI_at (l := [1]) r2 rfl rfl (by simp)⟩, litI_at (l := [a, b]) r4 rfl rfl (by simp)⟩
  replace rz := rz.below hb9
  replace ra := ra.below hb9
  replace xR := xR.belowH hb9
  replace xA := xA.belowH hb9
  replace xP := xP.belowH hb9
  replace hB := below_then hB hb9
  have HPB2 := hide (below_then (unhide HPB) hb9)
  rw [hz4] at xT rt
  have HW9 := hide (show W9 = (((((((w4.alloc (.cells #[.slice p0 pn0 pc0, .slice p1 pn1 pc1, .slice p2 pn2 pc2] 29)).alloc (.cells #[.int .i64 0] 3)).alloc (.cells #[.int .i64 0] 3)).alloc (.cells #[.int .i64 1] 3)).alloc (.cells #[.slice (some ⟨w4.heap.size + 1 + 1, 0, none⟩) 1 1, .slice (some ⟨w4.heap.size + 1 + 1 + 1, 0, none⟩) 1 1] 23)).alloc (.cells #[.int .i64 a, .int .i64 b] 2)).alloc (.cells #[.slice (some ⟨w4.heap.size + 1, 0, none⟩) 1 1, .slice (some ⟨w4.heap.size + 1 + 1 + 1 + 1, 0, none⟩) 2 2, .slice (some ⟨w4.heap.size + 1 + 1 + 1 + 1 + 1, 0, none⟩) 2 2] 29)) by rw [hW9, hz4, hV4])
  clear hb9 r0 r1 r2 r3 r4 hW9 hV4 hz4 HPB xT
  have HC := hide (sum_both rt (unhide HFA) (unhide HFB))
  clear rt
  go_wp2_with fail
  rw [← unhide HW9]
  refine (unhide HC).mono ?_
  rintro e w5 ⟨s0, sn0, sc0, s1, sn1, sc1, s2, sn2, sc2, es, rfl, hb, hs⟩
  replace rz := rz.below hb
  replace ra := ra.below hb
  replace xR := xR.belowH hb
  replace xA := xA.belowH hb
  replace xP := xP.belowH hb
  replace hB := below_then hB hb
  have HPB := hide (below_then (unhide HPB2) hb)
  clear HC hb HW9 HPB2
  have HSS := hide hs
  clear hs
  have pb := (Below.refl _ w5).alloc (Nat.le_refl _) (.cells #[.slice s0 sn0 sc0, .slice s1 sn1 sc1, .slice s2 sn2 sc2] 29)
  replace rz := rz.below pb
  replace ra := ra.below pb
  replace xR := xR.belowH pb
  replace xA := xA.belowH pb
  replace xP := xP.belowH pb
  replace hB := below_then hB pb
  have xS := BoxWI.new w5 (.slice s0 sn0 sc0) (.slice s1 sn1 sc1) (.slice s2 sn2 sc2)
  clear pb
  obtain ⟨V5, hV5⟩ : ∃ W, W = w5.alloc (.cells #[.slice s0 sn0 sc0, .slice s1 sn1 sc1, .slice s2 sn2 sc2] 29) := ⟨_, rfl⟩
  have HSB := hide (show Below w5.heap.size w5 V5 by rw [hV5]; exact (Below.refl _ _).alloc (Nat.le_refl _) _)
  have HPC := hide (below_then (unhide HPB) (unhide HSB))
  rw [← hV5] at hB rz ra xR xA xP xS
  have HV5 := hide hV5
  clear hV5 HPB
  obtain ⟨q, hq⟩ : ∃ q, q = fitB64 (a + b) := ⟨_, rfl⟩
  obtain ⟨z, hz⟩ : ∃ z, z = sumOk [a, b] := ⟨_, rfl⟩
  obtain ⟨Z, hZ⟩ : ∃ Z, Z = wrap64 (a + b) := ⟨_, rfl⟩
  have HQ := hide (show (q = true ∧ Fits (a + b) ∧ Z = a + b ∧ ¬ Z < -4611686018427387904 ∧ Z ≤ 4611686018427387904) ∨ (q = false ∧ ¬ Fits (a + b) ∧ (Z < -4611686018427387904 ∨ (¬ Z < -4611686018427387904 ∧ 4611686018427387904 < Z))) by
    by_cases hf : Fits (a + b)
    · have hw := wrap64_id hf.i64
      refine .inl ⟨by rw [hq]; exact fitB64_iff.2 hf, hf, by rw [hZ, hw], ?_, ?_⟩
      · rw [hZ, hw]; unfold Fits at hf; omega
      · rw [hZ, hw]; unfold Fits at hf; omega
    · refine .inr ⟨by rw [hq]; cases h : fitB64 (a + b) with
        | true => exact absurd (fitB64_iff.1 h) hf
        | false => rfl, hf, ?_⟩
      rw [hZ]
      unfold Fits at hf
      have h1 := unhide HFA
      have h2 := unhide HFB
      unfold Fits at h1 h2
      unfold wrap64
      omega)
  have HZQ := hide (show z = true → q = true from fun h => by rw [hq]; exact fitB64_iff.2 (sum_fits (hz ▸ h)))
  have hsz := sum_ok2 (unhide HFA) (unhide HFB)
  rw [← hz] at hsz
  have HSS2 := hide (show (z = true ∧ es = 0 ∧ ∃ bb oo, s2 = some ⟨bb, oo, none⟩ ∧ sn2 = 1 ∧ V5.cell? ⟨bb, oo, none⟩ = some (.int .i64 (a + b))) ∨ (z = false ∧ es = 11) by
    rw [hz]
    rcases unhide HSS with ⟨h1, h2, bb, oo, h3, h4, h5⟩ | h
    · exact .inl ⟨h1, h2, bb, oo, h3, h4, Below.cell_of (unhide HSB) h5⟩
    · exact .inr h)
  have HP2 := hide (show (Fits (a + b) ∧ er = 0 ∧ ∃ bb oo, p2 = some ⟨bb, oo, none⟩ ∧ pn2 = 1 ∧ V5.cell? ⟨bb, oo, none⟩ = some (.int .i64 (a + b))) ∨ (¬ Fits (a + b) ∧ er = 11) by
    rcases unhide HP with ⟨h1, h2, bb, oo, h3, h4, h5⟩ | h
    · exact .inl ⟨h1, h2, bb, oo, h3, h4, Below.cell_of (unhide HPC) h5⟩
    · exact .inr h)
  have hZ' : wrap64 (a + b) = Z := hZ.symm
  clear hq hz hZ HP HSS HSB HPC
  go_upto_region 11 with fail
  rw [← unhide HV5]
  clear HV5
  try rw [hZ']
  clear hZ'
  go_cut [15] from 19 (fun s15 wx => s15 = .bool q ∧ wx = V5)
  case first =>
    clear rz ra xR xA xP xS hsz a1 a2 b1 b2
    rcases unhide HQ with ⟨h1, hx1, hx2, h2, h3⟩ | ⟨h1, hx1, h2 | ⟨h2, h3⟩⟩
    · clear hx1 hx2
      subst h1
      go_wp2
      go_meet
      case rel => exact ⟨by first | rfl | (congr 1; simp; omega), rfl⟩
    · clear hx1
      subst h1
      go_wp2
      go_meet
      case rel => exact ⟨by first | rfl | (congr 1; simp; omega), rfl⟩
    · clear hx1
      subst h1
      go_wp2
      go_meet
      case rel => exact ⟨by first | rfl | (congr 1; simp; omega), rfl⟩
  case rest =>
  obtain ⟨rfl, hwc⟩ := hcut
  subst hwc
  go_upto_region 12 with fail
  go_cut [101] from 19 (fun s101 wx => s101 = .bool false ∧ wx = wc)
  case first =>
    have d2 := xP.cell2
    clear rz ra xR xA xP xS hsz a1 a2 b1 b2
    rcases unhide HQ with ⟨h1, hf, hx2, h2, h3⟩ | ⟨h1, hf, h2⟩
    · rcases unhide HP2 with ⟨_, he, bb, oo, hp2, hn2, hc⟩ | ⟨hn, _⟩
      · rw [← hx2] at hc
        have hZZ : (Z != Z) = false := by simp
        clear hx2 hf h2 h3 HSS2 HZQ
        subst h1 he hp2 hn2
        go_wp2
        go_meet
        case rel => exact ⟨rfl, rfl⟩
      · exact absurd hf hn
    · rcases unhide HP2 with ⟨hn, _⟩ | ⟨_, he⟩
      · exact absurd hn hf
      · clear hf h2 HSS2 HZQ
        subst h1 he
        go_wp2
        go_meet
        case rel => exact ⟨rfl, rfl⟩
  case rest =>
  obtain ⟨rfl, hwc⟩ := hcut
  subst hwc
  go_upto_region 14 with fail
  go_cut [16] from 19 (fun s16 wx => s16 = .bool z ∧ wx = wc)
  case first =>
    clear rz ra xR xA xP xS
    have a3 : -4611686018427387904 ≤ a := by omega
    have b3 : -4611686018427387904 ≤ b := by omega
    have a4 : a ≤ 4611686018427387904 := by omega
    have b4 : b ≤ 4611686018427387904 := by omega
    go_wp2
    go_meet
    case rel => exact ⟨by first | rfl | rw [hsz], rfl⟩
  case rest =>
  obtain ⟨rfl, hwc⟩ := hcut
  subst hwc
  go_upto_region 15 with fail
  go_cut [132] from 19 (fun s132 wx => s132 = .bool false ∧ wx = wc)
  case first =>
    have d2 := xS.cell2
    clear rz ra xR xA xP xS hsz a1 a2 b1 b2
    rcases unhide HSS2 with ⟨h1, he, bb, oo, hp2, hn2, hc⟩ | ⟨h1, he⟩
    · have hqt := unhide HZQ h1
      rcases unhide HQ with ⟨_, _, hx2, _, _⟩ | ⟨hq, _, _⟩
      · rw [← hx2] at hc
        clear hx2 hqt HQ HP2 HSS2 HZQ
        subst h1 he hp2 hn2
        go_wp2
        go_meet
        case rel => exact ⟨rfl, rfl⟩
      · rw [hqt] at hq; cases hq
    · clear HQ HP2 HSS2 HZQ
      subst h1 he
      go_wp2
      go_meet
      case rel => exact ⟨rfl, rfl⟩
  case rest =>
  obtain ⟨rfl, hwc⟩ := hcut
  subst hwc
  go_upto_region 17 with fail
  have hS0 : wc.drew.cell? ⟨w2.heap.size, 0, none⟩ = some (.slice aa 0 ac) ∧ wc.drew.cell? ⟨w2.heap.size, 1, none⟩ = some (.slice ab 1 ad) ∧ wc.drew.cell? ⟨w2.heap.size, 2, none⟩ = some (.slice ae 1 af) ∧ wc.drew.cell? ⟨w1.heap.size + 1 + 1, 0, none⟩ = some (.slice none 0 0) ∧ wc.drew.cell? ⟨w1.heap.size + 1 + 1, 1, none⟩ = some (.slice (some ⟨w1.heap.size + 1, 0, none⟩) 1 1) := ⟨xA.cell0, xA.cell1, xA.cell2, xR.cell0, xR.cell1⟩
  have HS := hide (fun U (hb : Below wc.heap.size wc U) => (⟨(xA.belowH hb).cell0, (xA.belowH hb).cell1, (xA.belowH hb).cell2, (xR.belowH hb).cell0, (xR.belowH hb).cell1⟩ : U.cell? ⟨w2.heap.size, 0, none⟩ = some (.slice aa 0 ac) ∧ U.cell? ⟨w2.heap.size, 1, none⟩ = some (.slice ab 1 ad) ∧ U.cell? ⟨w2.heap.size, 2, none⟩ = some (.slice ae 1 af) ∧ U.cell? ⟨w1.heap.size + 1 + 1, 0, none⟩ = some (.slice none 0 0) ∧ U.cell? ⟨w1.heap.size + 1 + 1, 1, none⟩ = some (.slice (some ⟨w1.heap.size + 1, 0, none⟩) 1 1)))
  have HRA := hide (fun U (hb : Below wc.heap.size wc U) => ra.below hb)
  have HRZ := hide (fun U (hb : Below wc.heap.size wc U) => rz.below hb)
  clear rz ra xR xA xP xS hsz a1 a2 b1 b2 HSS2 HP2 HQ HZQ
  refine wp_region_held (S := fun U => U.cell? ⟨w2.heap.size, 0, none⟩ = some (.slice aa 0 ac) ∧ U.cell? ⟨w2.heap.size, 1, none⟩ = some (.slice ab 1 ad) ∧ U.cell? ⟨w2.heap.size, 2, none⟩ = some (.slice ae 1 af) ∧ U.cell? ⟨w1.heap.size + 1 + 1, 0, none⟩ = some (.slice none 0 0) ∧ U.cell? ⟨w1.heap.size + 1 + 1, 1, none⟩ = some (.slice (some ⟨w1.heap.size + 1, 0, none⟩) 1 1)) (by kernel_rfl) ?_
  refine wpAnyH_take (i := 0) (v := ?_) rfl (by kernel_rfl) (by kernel_rfl) (by kernel_rfl) (fun _ _ _ h => h) (Or.inl ⟨by kernel_rfl, ?_⟩) (by assumption) ?_
  rotate_left
  · intro W hSW; obtain ⟨hS1, hS2, hS3, hS4, hS5⟩ := hSW; go_simp; first | done | rfl
  simp only [Act.put, List.setIfInBounds_toArray, List.set_cons_zero, List.set_cons_succ]
  refine wpAnyH_take (i := 1) (v := ?_) rfl (by kernel_rfl) (by kernel_rfl) (by kernel_rfl) (fun _ _ _ h => h) (Or.inl ⟨by kernel_rfl, ?_⟩) (by assumption) ?_
  rotate_left
  · intro W hSW; obtain ⟨hS1, hS2, hS3, hS4, hS5⟩ := hSW; go_simp; first | done | rfl
  simp only [Act.put, List.setIfInBounds_toArray, List.set_cons_zero, List.set_cons_succ]
  refine wpAnyH_all (rs := [2, 7]) (by kernel_rfl) (by simp) ?_
  intro i hi
  have hi2 : i = 2 ∨ i = 7 := by simpa using hi
  clear hi
  rcases hi2 with rfl | rfl
  · refine held_op (i := 2) rfl (by kernel_rfl) (fun K hK => ?_)
    go_simp
    refine (of_u (unhide HRZ _ (Below.drewN wc 1))).mono ?_
    rintro e w6 ⟨xo, rfl, how6, hbw6⟩
    have hqw6 : Below wc.heap.size wc w6 := below_then (Below.drewN wc 1) hbw6
    refine hK.out _ _ (unhide HS _ (hqw6)) ?_
    clear hK K
    try simp only [Act.put, List.setIfInBounds_toArray, List.set_cons_zero, List.set_cons_succ]
    have hS0 := unhide HS _ hqw6
    refine wpAnyH_all (rs := [3, 7]) (by kernel_rfl) (by simp) ?_
    intro i hi
    have hi2 : i = 3 ∨ i = 7 := by simpa using hi
    clear hi
    rcases hi2 with rfl | rfl
    · refine held_op (i := 3) rfl (by kernel_rfl) (fun K hK => ?_)
      go_simp
      refine (times_u (unhide HRA _ (hqw6)) how6 (unhide HFA)).mono ?_
      rintro e w8 ⟨t0, tc0, t1, tc1, t2, tc2, rfl, htw8, hnw8, hbw8⟩
      have hqw8 : Below wc.heap.size wc w8 := below_then (hqw6) hbw8
      refine hK.out _ _ (unhide HS _ (hqw8)) ?_
      clear hK K
      try simp only [Act.put, List.setIfInBounds_toArray, List.set_cons_zero, List.set_cons_succ]
      have hS0 := unhide HS _ hqw8
      refine wpAnyH_take (i := 4) (v := ?_) rfl (by kernel_rfl) (by kernel_rfl) (by kernel_rfl) (fun _ _ _ h => h) (Or.inl ⟨by kernel_rfl, ?_⟩) (by assumption) ?_
      rotate_left
      · intro W hSW; obtain ⟨hS1, hS2, hS3, hS4, hS5⟩ := hSW; go_simp; first | done | rfl
      simp only [Act.put, List.setIfInBounds_toArray, List.set_cons_zero, List.set_cons_succ]
      refine wpAnyH_take (i := 5) (v := ?_) rfl (by kernel_rfl) (by kernel_rfl) (by kernel_rfl) (fun _ _ _ h => h) (Or.inl ⟨by kernel_rfl, ?_⟩) (by assumption) ?_
      rotate_left
      · intro W hSW; obtain ⟨hS1, hS2, hS3, hS4, hS5⟩ := hSW; go_simp; first | done | rfl
      simp only [Act.put, List.setIfInBounds_toArray, List.set_cons_zero, List.set_cons_succ]
      refine wpAnyH_take (i := 6) (v := ?_) rfl (by kernel_rfl) (by kernel_rfl) (by kernel_rfl) (fun _ _ _ h => h) (Or.inl ⟨by kernel_rfl, ?_⟩) (by assumption) ?_
      rotate_left
      · intro W hSW; obtain ⟨hS1, hS2, hS3, hS4, hS5⟩ := hSW; go_simp; first | done | rfl
      simp only [Act.put, List.setIfInBounds_toArray, List.set_cons_zero, List.set_cons_succ]
      refine held_one (i := 7) (by kernel_rfl) rfl (by kernel_rfl) (fun K hK => ?_)
      go_simp
      refine hK.out _ _ (unhide HS _ (hqw8.alloc hqw8.size _)) ?_
      clear hK K
      try simp only [Act.put, List.setIfInBounds_toArray, List.set_cons_zero, List.set_cons_succ]
      have hS0 := unhide HS _ (hqw8.alloc hqw8.size (.cells #[.slice none 0 0, .slice none 0 0, .slice none 0 0] 29))
      have HT2 := hide (htw8.below ((Below.refl w8.heap.size w8).alloc (Nat.le_refl _) (.cells #[.slice t0 0 tc0, .slice t1 1 tc1, .slice t2 1 tc2] 29)))
      have HX2 := hide (BoxWI.new w8 (.slice t0 0 tc0) (.slice t1 1 tc1) (.slice t2 1 tc2))
      have HQ2 := hide (hqw8.alloc hqw8.size (.cells #[.slice t0 0 tc0, .slice t1 1 tc1, .slice t2 1 tc2] 29))
      refine held_one (i := 8) (by kernel_rfl) rfl (by kernel_rfl) (fun K hK => ?_)
      go_simp
      refine hK.out _ _ (unhide HS _ (unhide HQ2)) ?_
      clear hK K
      try simp only [Act.put, List.setIfInBounds_toArray, List.set_cons_zero, List.set_cons_succ]
      have hS0 := unhide HS _ (unhide HQ2)
      refine wpAnyH_take (i := 9) (v := ?_) rfl (by kernel_rfl) (by kernel_rfl) (by kernel_rfl) (fun _ _ _ h => h) (Or.inl ⟨by kernel_rfl, ?_⟩) (by assumption) ?_
      rotate_left
      · intro W hSW; obtain ⟨hS1, hS2, hS3, hS4, hS5⟩ := hSW; go_simp; first | done | rfl
      simp only [Act.put, List.setIfInBounds_toArray, List.set_cons_zero, List.set_cons_succ]
      refine wpAnyH_done (by kernel_rfl) ?_ _
      have x9 := unhide HX2
      have d0 := x9.cell0; have d1 := x9.cell1; have d2 := x9.cell2
      obtain ⟨s1, s2, s3, s4, s5⟩ := hS0
      generalize w8.alloc (.cells #[.slice t0 0 tc0, .slice t1 1 tc1, .slice t2 1 tc2] 29) = W9 at *
      obtain ⟨tq, tof, htq, htc⟩ := (unhide HT2).w0
      subst htq
      have HSM := hide (refSame4 (unhide HT2).rel (unhide HRZ _ (unhide HQ2)))
      trace_state
      go_wp2_with fail
      refine (unhide HSM).mono ?_
      rintro e w10 ⟨rfl, hb10⟩
      go_wp2
      go_ret
      exact ⟨rfl, below_then (below_then hB (unhide HQ2)) hb10⟩
    · refine held_op (i := 7) rfl (by kernel_rfl) (fun K hK => ?_)
      go_simp
      refine hK.out _ _ (unhide HS _ (hqw6.alloc hqw6.size _)) ?_
      clear hK K
      try simp only [Act.put, List.setIfInBounds_toArray, List.set_cons_zero, List.set_cons_succ]
      have hS0 := unhide HS _ (hqw6.alloc hqw6.size (.cells #[.slice none 0 0, .slice none 0 0, .slice none 0 0] 29))
      have hqa : Below wc.heap.size wc (w6.alloc (.cells #[.slice none 0 0, .slice none 0 0, .slice none 0 0] 29)) := hqw6.alloc hqw6.size _
      have hoa := how6.below ((Below.refl w6.heap.size w6).alloc (Nat.le_refl _) (.cells #[.slice none 0 0, .slice none 0 0, .slice none 0 0] 29))
      refine held_one (i := 3) (by kernel_rfl) rfl (by kernel_rfl) (fun K hK => ?_)
      go_simp
      refine (times_u (unhide HRA _ (hqa)) hoa (unhide HFA)).mono ?_
      rintro e w8 ⟨t0, tc0, t1, tc1, t2, tc2, rfl, htw8, hnw8, hbw8⟩
      have hqw8 : Below wc.heap.size wc w8 := below_then (hqa) hbw8
      refine hK.out _ _ (unhide HS _ (hqw8)) ?_
      clear hK K
      try simp only [Act.put, List.setIfInBounds_toArray, List.set_cons_zero, List.set_cons_succ]
      have hS0 := unhide HS _ hqw8
      have bxx : BoxWI w8 (w6.heap.size) (.slice none 0 0) (.slice none 0 0) (.slice none 0 0) := (BoxWI.new w6 _ _ _).belowH hbw8
      have htx : WVI w8 (.agg #[.slice t0 0 tc0, .slice t1 1 tc1, .slice t2 1 tc2]) [] [[]] [a] := htw8
      have hqx : Below wc.heap.size wc w8 := hqw8
      have hnx : (Value.slice t1 1 tc1).ownBlock ≠ some (w6.heap.size) := hnw8 _ (by simp)
      have htb : wc.heap.size ≤ w6.heap.size := by first | exact Nat.le_refl _ | exact (by assumption : Below wc.heap.size wc _).size
      have HT2 := hide (wv_storeI bxx.boxS bxx htx hnx)
      have HX2 := hide (bxx.set (.slice t0 0 tc0) (.slice t1 1 tc1) (.slice t2 1 tc2))
      have HQ2 := hide (((hqx.setCell (p := ⟨w6.heap.size, 0, none⟩) (by exact htb) (.slice t0 0 tc0)).setCell (p := ⟨w6.heap.size, 1, none⟩) (by exact htb) (.slice t1 1 tc1)).setCell (p := ⟨w6.heap.size, 2, none⟩) (by exact htb) (.slice t2 1 tc2))
      have e0 := bxx.cell0; have e1 := bxx.cell1; have e2 := bxx.cell2; have ef := bxx.frozen
      clear bxx htx hqx hnx
      refine wpAnyH_take (i := 4) (v := ?_) rfl (by kernel_rfl) (by kernel_rfl) (by kernel_rfl) (fun _ _ _ h => h) (Or.inl ⟨by kernel_rfl, ?_⟩) (by assumption) ?_
      rotate_left
      · intro W hSW; obtain ⟨hS1, hS2, hS3, hS4, hS5⟩ := hSW; go_simp; first | done | rfl
      simp only [Act.put, List.setIfInBounds_toArray, List.set_cons_zero, List.set_cons_succ]
      refine wpAnyH_take (i := 5) (v := ?_) rfl (by kernel_rfl) (by kernel_rfl) (by kernel_rfl) (fun _ _ _ h => h) (Or.inl ⟨by kernel_rfl, ?_⟩) (by assumption) ?_
      rotate_left
      · intro W hSW; obtain ⟨hS1, hS2, hS3, hS4, hS5⟩ := hSW; go_simp; first | done | rfl
      simp only [Act.put, List.setIfInBounds_toArray, List.set_cons_zero, List.set_cons_succ]
      refine wpAnyH_take (i := 6) (v := ?_) rfl (by kernel_rfl) (by kernel_rfl) (by kernel_rfl) (fun _ _ _ h => h) (Or.inl ⟨by kernel_rfl, ?_⟩) (by assumption) ?_
      rotate_left
      · intro W hSW; obtain ⟨hS1, hS2, hS3, hS4, hS5⟩ := hSW; go_simp; first | done | rfl
      simp only [Act.put, List.setIfInBounds_toArray, List.set_cons_zero, List.set_cons_succ]
      refine held_one (i := 8) (by kernel_rfl) rfl (by kernel_rfl) (fun K hK => ?_)
      go_simp
      refine hK.out _ _ (unhide HS _ (unhide HQ2)) ?_
      clear hK K
      try simp only [Act.put, List.setIfInBounds_toArray, List.set_cons_zero, List.set_cons_succ]
      have hS0 := unhide HS _ (unhide HQ2)
      refine wpAnyH_take (i := 9) (v := ?_) rfl (by kernel_rfl) (by kernel_rfl) (by kernel_rfl) (fun _ _ _ h => h) (Or.inl ⟨by kernel_rfl, ?_⟩) (by assumption) ?_
      rotate_left
      · intro W hSW; obtain ⟨hS1, hS2, hS3, hS4, hS5⟩ := hSW; go_simp; first | done | rfl
      simp only [Act.put, List.setIfInBounds_toArray, List.set_cons_zero, List.set_cons_succ]
      refine wpAnyH_done (by kernel_rfl) ?_ _
      have x9 := unhide HX2
      have d0 := x9.cell0; have d1 := x9.cell1; have d2 := x9.cell2
      obtain ⟨s1, s2, s3, s4, s5⟩ := hS0
      generalize ((w8.setCell ⟨w6.heap.size, 0, none⟩ (.slice t0 0 tc0)).setCell ⟨w6.heap.size, 1, none⟩ (.slice t1 1 tc1)).setCell ⟨w6.heap.size, 2, none⟩ (.slice t2 1 tc2) = W9 at *
      obtain ⟨tq, tof, htq, htc⟩ := (unhide HT2).w0
      subst htq
      have HSM := hide (refSame4 (unhide HT2).rel (unhide HRZ _ (unhide HQ2)))
      trace_state
      go_wp2_with fail
      refine (unhide HSM).mono ?_
      rintro e w10 ⟨rfl, hb10⟩
      go_wp2
      go_ret
      exact ⟨rfl, below_then (below_then hB (unhide HQ2)) hb10⟩
  · refine held_op (i := 7) rfl (by kernel_rfl) (fun K hK => ?_)
    go_simp
    refine hK.out _ _ (unhide HS _ ((Below.drewN wc 1).alloc (Nat.le_refl _) _)) ?_
    clear hK K
    try simp only [Act.put, List.setIfInBounds_toArray, List.set_cons_zero, List.set_cons_succ]
    have hqa : Below wc.heap.size wc (wc.drew.alloc (.cells #[.slice none 0 0, .slice none 0 0, .slice none 0 0] 29)) := (Below.drewN wc 1).alloc (Nat.le_refl _) _
    have hS0 := unhide HS _ hqa
    refine held_one (i := 2) (by kernel_rfl) rfl (by kernel_rfl) (fun K hK => ?_)
    go_simp
    refine (of_u (unhide HRZ _ (hqa))).mono ?_
    rintro e w6 ⟨xo, rfl, how6, hbw6⟩
    have hqw6 : Below wc.heap.size wc w6 := below_then (hqa) hbw6
    refine hK.out _ _ (unhide HS _ (hqw6)) ?_
    clear hK K
    try simp only [Act.put, List.setIfInBounds_toArray, List.set_cons_zero, List.set_cons_succ]
    have hS0 := unhide HS _ hqw6
    refine held_one (i := 3) (by kernel_rfl) rfl (by kernel_rfl) (fun K hK => ?_)
    go_simp
    refine (times_u (unhide HRA _ (hqw6)) how6 (unhide HFA)).mono ?_
    rintro e w8 ⟨t0, tc0, t1, tc1, t2, tc2, rfl, htw8, hnw8, hbw8⟩
    have hqw8 : Below wc.heap.size wc w8 := below_then (hqw6) hbw8
    refine hK.out _ _ (unhide HS _ (hqw8)) ?_
    clear hK K
    try simp only [Act.put, List.setIfInBounds_toArray, List.set_cons_zero, List.set_cons_succ]
    have hS0 := unhide HS _ hqw8
    have bxx : BoxWI w8 (wc.heap.size) (.slice none 0 0) (.slice none 0 0) (.slice none 0 0) := ((BoxWI.new wc.drew _ _ _).belowH hbw6).belowH hbw8
    have htx : WVI w8 (.agg #[.slice t0 0 tc0, .slice t1 1 tc1, .slice t2 1 tc2]) [] [[]] [a] := htw8
    have hqx : Below wc.heap.size wc w8 := hqw8
    have hnx : (Value.slice t1 1 tc1).ownBlock ≠ some (wc.heap.size) := hnw8 _ (by have := hbw6.size; simp at this; omega)
    have htb : wc.heap.size ≤ wc.heap.size := by first | exact Nat.le_refl _ | exact (by assumption : Below wc.heap.size wc _).size
    have HT2 := hide (wv_storeI bxx.boxS bxx htx hnx)
    have HX2 := hide (bxx.set (.slice t0 0 tc0) (.slice t1 1 tc1) (.slice t2 1 tc2))
    have HQ2 := hide (((hqx.setCell (p := ⟨wc.heap.size, 0, none⟩) (by exact htb) (.slice t0 0 tc0)).setCell (p := ⟨wc.heap.size, 1, none⟩) (by exact htb) (.slice t1 1 tc1)).setCell (p := ⟨wc.heap.size, 2, none⟩) (by exact htb) (.slice t2 1 tc2))
    have e0 := bxx.cell0; have e1 := bxx.cell1; have e2 := bxx.cell2; have ef := bxx.frozen
    clear bxx htx hqx hnx
    refine wpAnyH_take (i := 4) (v := ?_) rfl (by kernel_rfl) (by kernel_rfl) (by kernel_rfl) (fun _ _ _ h => h) (Or.inl ⟨by kernel_rfl, ?_⟩) (by assumption) ?_
    rotate_left
    · intro W hSW; obtain ⟨hS1, hS2, hS3, hS4, hS5⟩ := hSW; go_simp; first | done | rfl
    simp only [Act.put, List.setIfInBounds_toArray, List.set_cons_zero, List.set_cons_succ]
    refine wpAnyH_take (i := 5) (v := ?_) rfl (by kernel_rfl) (by kernel_rfl) (by kernel_rfl) (fun _ _ _ h => h) (Or.inl ⟨by kernel_rfl, ?_⟩) (by assumption) ?_
    rotate_left
    · intro W hSW; obtain ⟨hS1, hS2, hS3, hS4, hS5⟩ := hSW; go_simp; first | done | rfl
    simp only [Act.put, List.setIfInBounds_toArray, List.set_cons_zero, List.set_cons_succ]
    refine wpAnyH_take (i := 6) (v := ?_) rfl (by kernel_rfl) (by kernel_rfl) (by kernel_rfl) (fun _ _ _ h => h) (Or.inl ⟨by kernel_rfl, ?_⟩) (by assumption) ?_
    rotate_left
    · intro W hSW; obtain ⟨hS1, hS2, hS3, hS4, hS5⟩ := hSW; go_simp; first | done | rfl
    simp only [Act.put, List.setIfInBounds_toArray, List.set_cons_zero, List.set_cons_succ]
    refine held_one (i := 8) (by kernel_rfl) rfl (by kernel_rfl) (fun K hK => ?_)
    go_simp
    refine hK.out _ _ (unhide HS _ (unhide HQ2)) ?_
    clear hK K
    try simp only [Act.put, List.setIfInBounds_toArray, List.set_cons_zero, List.set_cons_succ]
    have hS0 := unhide HS _ (unhide HQ2)
    refine wpAnyH_take (i := 9) (v := ?_) rfl (by kernel_rfl) (by kernel_rfl) (by kernel_rfl) (fun _ _ _ h => h) (Or.inl ⟨by kernel_rfl, ?_⟩) (by assumption) ?_
    rotate_left
    · intro W hSW; obtain ⟨hS1, hS2, hS3, hS4, hS5⟩ := hSW; go_simp; first | done | rfl
    simp only [Act.put, List.setIfInBounds_toArray, List.set_cons_zero, List.set_cons_succ]
    refine wpAnyH_done (by kernel_rfl) ?_ _
    have x9 := unhide HX2
    have d0 := x9.cell0; have d1 := x9.cell1; have d2 := x9.cell2
    obtain ⟨s1, s2, s3, s4, s5⟩ := hS0
    generalize ((w8.setCell ⟨wc.heap.size, 0, none⟩ (.slice t0 0 tc0)).setCell ⟨wc.heap.size, 1, none⟩ (.slice t1 1 tc1)).setCell ⟨wc.heap.size, 2, none⟩ (.slice t2 1 tc2) = W9 at *
    obtain ⟨tq, tof, htq, htc⟩ := (unhide HT2).w0
    subst htq
    have HSM := hide (refSame4 (unhide HT2).rel (unhide HRZ _ (unhide HQ2)))
    trace_state
    go_wp2_with fail
    refine (unhide HSM).mono ?_
    rintro e w10 ⟨rfl, hb10⟩
    go_wp2
    go_ret
    exact ⟨rfl, below_then (below_then hB (unhide HQ2)) hb10⟩

set_option maxRecDepth 100000 in
theorem lifted (os : Os) (started : os.Started) (H : Type) (enc : TypeId × Value → H) :
    ReturnsInHanded {} Tryz.checked os 3 .any (Rows.weighEdgesSpec.pre6 enc Tryz.prog Tryz.f3 Rows.weighEdgesRow.domain false) (Rows.weighEdgesSpec.post enc Tryz.prog Tryz.f3 false true false false) := by
  refine returnsInHanded_of_change (C := Tryz.checked) own started (by kernel_rfl) Tryz.func3
    (ChangeSpec.witness6 (enc := enc) (C := Tryz.checked) false ⟨#[], #[.int .i64 0, .int .i64 0], []⟩ 8 (by kernel_rfl) (by kernel_rfl) (by kernel_rfl) (by kernel_rfl)) ?_
  intro W base args ds gs before hval0 hW hcnd _
  have hval : ∀ (j : Nat) t v, Tryz.f3.params[j]? = some t → args[j]? = some v → Value.okWide Tryz.prog W .any base t v := hval0
  have hW' := hW
  obtain ⟨p, q, hA0, hV, rfl, hfz, hnd⟩ := hW
  have hA : DataW.TrodAll enc Tryz.prog W 0 (fun _ => true) true Tryz.f3.params.toList args.toList ds p := hA0
  rw [Tryz.params3] at hA hval
  obtain ⟨v0, vs0, d0, ds0, p0, q0, hargs, rfl, rfl, h0, r0⟩ := trodAll_cons hA
  obtain ⟨v1, vs1, d1, ds1, p1, q1, rfl, rfl, rfl, h1, r1⟩ := trodAll_cons r0
  obtain ⟨rfl, rfl, rfl⟩ := trodAll_nil r1
  obtain rfl : args = #[v0, v1] := by cases args; simp_all
  obtain ⟨rfl, rfl⟩ := trodVars_none hV
  obtain ⟨l0, i0, m0⟩ := read_int64 h0 (hval 0 2 v0 rfl rfl)
  have lt0 : ∀ x ∈ p0, x.block < W.heap.size := by obtain ⟨m, hm⟩ := h0; exact DataW.trod_lt m _ _ _ hm
  obtain ⟨l1, i1, m1⟩ := read_int64 h1 (hval 1 2 v1 rfl rfl)
  have lt1 : ∀ x ∈ p1, x.block < W.heap.size := by obtain ⟨m, hm⟩ := h1; exact DataW.trod_lt m _ _ _ hm
  clear hA0 hval0
  refine (walk i0 m0 i1 m1).mono fun e W' ⟨he, bel⟩ => ?_
  subst he
  exact ⟨_, rfl, _, _, _, [], _, [], hW', trodAll_mk1 (shut_bool Tryz.underlying4 _), (trodAll_cons_mk (Below.trod laidOut (by kernel_rfl) (of_decide_eq_true (by kernel_rfl)) h0 bel lt0) (trodAll_cons_mk (Below.trod laidOut (by kernel_rfl) (of_decide_eq_true (by kernel_rfl)) h1 bel lt1) trodAll_mk0)), rfl, bel.frame _, fun h => by cases h⟩

theorem over : Rows.weighEdgesRow.holds Tryz.pinned (OpenSpec.ofChange Rows.weighEdgesSpec) :=
  OpenClaim.holds_of_wide 3 Tryz.f3 rfl rfl rfl rfl rfl rfl rfl ⟨rfl, rfl, rfl, rfl, rfl⟩ rfl rfl rfl rfl rfl (by kernel_rfl) Tryz.func3 (by kernel_rfl)
    (of_decide_eq_true (by kernel_rfl)) (by unfold Func.isWrapper; first | (rw [if_pos (by decide +kernel)]; kernel_rfl) | (rw [if_neg (by decide +kernel)]; exact ⟨rfl, rfl⟩))
    (fun os started H enc _ => lifted os started H enc)

/-- The statement. -/
theorem proved : Rows.WeighEdgesSaid := over

#print axioms proved
end Go.Proofs.YtkindapfdgjenaaGreat.weighEdges
