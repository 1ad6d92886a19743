/-
  GraphTells: who is beside whom is what the document says.
-/
import Derived.Test.YtmhaaogjldnceaaDoorFrame8
import Derived.Test.YtmhaaogjldnceaaDoorFrameN
import Derived.Test.YtmhaaogjldnceaaDoorGMade
import Derived.Test.YtmhaaogjldnceaaDoorGAdds
import Derived.Test.YtmhaaogjldnceaaDoorGRefs
import Derived.Test.YtmhaaogjldnceaaDoorGRefParts
import Derived.Test.YtmhaaogjldnceaaDoorGJoin2
import Derived.Test.YtmhaaogjldnceaaDoorGClq
import Derived.Test.YtmhaaogjldnceaaDoorGNbr
import Derived.Test.YtmhaaogjldnceaaDoorGRight
import Derived.Test.YtmhaaogjldnceaaDoorGThree
import Derived.Test.YtmhaaogjldnceaaDoorGShown
import Derived.Test.YtmhaaogjldnceaaDoorTupCmp
namespace Go.Proofs.YtmhaaogjldnceaaDoor.graphTells
open Go.RowKit Go.ChangeShapes Go.WideShapes Go.ChangeAt
set_option linter.unusedVariables false
set_option linter.unusedSimpArgs false
set_option maxRecDepth 20000

theorem run_cutI (a : Option Addr) (len cap : Nat) (h : Int) (n : Nat) (hn : h = n) (h2 : n ≤ cap) (w : World) :
    (Instr.slice 34 (.slice a len cap) none (some (.int .i64 h)) none).run Tryd.prog w = .ok (.slice a n cap) w := by
  have hu : Tryd.prog.underlying 34 = some (.slice (Tryd.prog.elem 34)) := by kernel_rfl
  have hsz : (sizeOf (Tryd.prog.elem 34)).run Tryd.prog w = .ok 1 w := by kernel_rfl
  subst hn
  rw [run_slice_h w 34 a len cap hu .i64 (n : Int) (by omega) (by omega), hsz]
  simp only [Result.andThen_ok, sliced]
  congr 1
  cases a with
  | none => simp
  | some x => simp [Addr.add]

theorem setM_wide {M : List (List Bool)} (h : ∀ r ∈ M, r.length = M.length) {a b : Nat} (ha : a < M.length) : ∀ r ∈ setM M a b, r.length = M.length := fun r hr => by
  unfold setM at hr
  rcases List.mem_or_eq_of_mem_set hr with hr | hr
  · exact h r hr
  · subst hr
    have : M.getD a [] = M[a] := by rw [List.getD_eq_getElem?_getD, List.getElem?_eq_getElem ha]; rfl
    rw [List.length_set, this]; exact h _ (List.getElem_mem _)

theorem mat_join {M : List (List Bool)} (h : MatOk M) (hl : M.length ≤ 40) {a b : Nat} (ha : a < M.length) (hb : b < M.length) (hne : a ≠ b) : graphR (setM (setM M a b) b a) = joinN (graphR M) [(a : Int), (b : Int)] := by
  refine graph_ext (by rw [joinN_len, graphR_len, graphR_len]; simp [setM]) (fun x y => ?_)
  have l1 : (setM M a b).length = M.length := by simp [setM]
  rw [Bool.eq_iff_iff, join_edge (graphR_right h hl) (by rw [graphR_len]; exact ha) (by rw [graphR_len]; exact hb), graphR_at h.wide, graphR_at (h.join ha hb hne).wide, atM_set (setM_wide h.wide ha) (by omega) (by omega), atM_set h.wide ha hb]
  constructor
  · rintro ((h1 | ⟨h1, h2⟩) | ⟨h1, h2⟩)
    · exact .inl h1
    · exact .inr ⟨by omega, .inl ⟨h1, h2⟩⟩
    · exact .inr ⟨by omega, .inr ⟨h1, h2⟩⟩
  · rintro (h1 | ⟨_, ⟨h1, h2⟩ | ⟨h1, h2⟩⟩)
    · exact .inl (.inl h1)
    · exact .inl (.inr ⟨h1, h2⟩)
    · exact .inr ⟨h1, h2⟩

theorem join_none {g : List Nat} (hr : RightG g) {a b : Int} (h : ¬ (0 ≤ a ∧ a < (g.length : Int) ∧ 0 ≤ b ∧ b < (g.length : Int) ∧ a ≠ b)) : joinN g [a, b] = g := by
  refine graph_ext (by rw [joinN_len]) (fun x y => ?_)
  rw [joinN_bes (by have := hr.few; omega)]
  have : decide (x < g.length ∧ y < g.length ∧ (x : Int) ∈ [a, b] ∧ (y : Int) ∈ [a, b] ∧ x ≠ y) = false := by
    rw [decide_eq_false_iff_not]
    rintro ⟨h1, h2, h3, h4, h5⟩
    simp only [List.mem_cons, List.not_mem_nil, or_false] at h3 h4
    exact h (by omega)
  rw [this, Bool.or_false]

theorem bes_none {g : List Nat} {a b : Int} (h : ¬ (0 ≤ a ∧ a < (g.length : Int) ∧ 0 ≤ b ∧ b < (g.length : Int))) : besI g a b = false := by
  rw [besI_eq]
  cases h1 : ptB g.length a with
  | false => rfl
  | true =>
    cases h2 : ptB g.length b with
    | false => rfl
    | true =>
      have := ptB_iff.1 h1
      have := ptB_iff.1 h2
      exact absurd ⟨by omega, by omega, by omega, by omega⟩ h
theorem bes_in {g : List Nat} {a b : Nat} (ha : a < g.length) (hb : b < g.length) : besI g (a : Int) (b : Int) = besB g a b := by
  have h1 : ptB g.length (a : Int) = true := ptB_iff.2 ⟨by omega, by omega⟩
  have h2 : ptB g.length (b : Int) = true := ptB_iff.2 ⟨by omega, by omega⟩
  rw [besI_eq, h1, h2]
  simp

set_option maxHeartbeats 4000000 in
theorem walk {l0 : Int} {v0 : Value} {l1 : List (List Int)} {v1 : Value} {l2 : Int} {v2 : Value} {l3 : Int} {v3 : Value} {l4 : List Int} {v4 : Value} {w : World} (hT : TabD w) (i0 : v0 = .int .i64 l0) (m0 : InI64 l0) (i1 : Tups w v1 l1) (m1 : ∀ l ∈ l1, ∀ n ∈ l, InI64 n)
    (i2 : v2 = .int .i64 l2) (m2 : InI64 l2) (i3 : v3 = .int .i64 l3) (m3 : InI64 l3) (i4 : Ints w v4 l4) (m4 : ∀ n ∈ l4, InI64 n) :
    Calls Tryd.prog 4 #[v0, v1, v2, v3, v4] w fun e w' => e = .returned (.bool true) ∧ Below w.heap.size w w' := by
  subst i0 i2 i3
  clear m0 m1 m2 m3 m4
  have HT := hide (fun W (hb : Below w.heap.size w W) => hT.below hb)
  have HI := hide (fun W (hb : Below w.heap.size w W) => i1.below hb)
  have HSH := hide (shown8_any hT)
  obtain ⟨a0, c0, rfl, hl0, hc0⟩ := i1.form
  obtain ⟨a4, c4, rfl, hl4, hc4⟩ := i4.form
  unfold maxLen at hc4
  obtain ⟨K, hK⟩ : ∃ K, K = min l4.length 10 := ⟨_, rfl⟩
  have hmin : ∀ W ts t, (Builtin.min_ ts t #[.int .i64 (l4.length : Int), .int .i64 10]).run Tryd.prog W = .ok (.int .i64 (K : Int)) W := fun W ts t => by rw [run_min_int2]; split <;> (congr 2; omega)
  have hcut := fun W => run_cutI a4 l4.length c4 (K : Int) K rfl (by omega) W
  have htk : Ints w (.slice a4 K c4) (l4.take K) := i4.take (by omega)
  have HTK := hide (fun W (hb : Below w.heap.size w W) => htk.below hb)
  generalize l4.take K = L at *
  clear hT i1 i4 hK htk
  go_enter Tryd.func4, Tryd.ntmps4
  go_wp2_with fail
  refine (unhide HSH).mono ?_
  rintro e w1 ⟨rfl, hb1⟩
  have HB1 := hide hb1
  have HMD := hide (made_any (n := l0) (unhide HI w1 hb1))
  have hz1 := hb1.size
  clear hb1 HSH HI
  go_wp2_with fail
  refine (unhide HMD).mono ?_
  rintro e w2 ⟨u, M, bs, rfl, hM2, hok, hMl, hb2⟩
  have hN := rndN_lt (x := l0) (n := 13) (by decide)
  rw [← hMl] at hN
  have HRG := hide (refGraph_any hM2 (by omega))
  obtain ⟨au, cu, rfl, hul, hum⟩ := hM2.form
  unfold maxLen at hum
  have HOM := hide hM2
  have HOK := hide hok
  have HB2 := hide ((unhide HB1).trans (hb2.mono hz1))
  have hz2 := (unhide HB2).size
  have HBS := hide (fun r (hr : r ∈ bs) => hM2.lt hr)
  clear hM2 hok hMl hb2 HMD HB1
  obtain ⟨N, hNM⟩ : ∃ N, N = M.length := ⟨_, rfl⟩
  have HNM := hide hNM
  rw [← hNM] at hN hul HOM HRG ⊢
  clear hNM
  go_wp2_with fail
  refine (unhide HRG).mono ?_
  rintro e w3 ⟨x, rfl, hown3, hb3⟩
  have hr := graphR_right (unhide HOK) (by rw [← unhide HNM]; omega)
  have hGl := graphR_len M
  rw [← unhide HNM] at hGl
  obtain ⟨ax, cx, rfl, _, _⟩ := (Seq.of_own hown3).form
  rw [hGl] at hown3 ⊢
  obtain ⟨W3, hW3⟩ : ∃ W, W = w3.alloc (.cells #[.slice ax N cx] 25) := ⟨_, rfl⟩
  have hb4 : Below w3.heap.size w3 W3 := by rw [hW3]; exact (Below.refl _ _).alloc (Nat.le_refl _) _
  have hbx : BoxG W3 w3.heap.size (.slice ax N cx) := by rw [hW3]; exact BoxG.new w3 _
  have hz3 : W3.heap.size = w3.heap.size + 1 := by rw [hW3]; simp
  have hz23 := hb3.size
  have hg3 : Words W3 (.slice ax N cx) (graphR M) := (Seq.of_own hown3).below hb4
  have HXL := hide (fun b (hb : (Value.slice ax N cx).ownBlock = some b) => (hown3.lt b hb).1)
  have hM3 := ((unhide HOM).below hb3).below hb4
  have HB3 := hide ((unhide HB2).trans ((hb3.trans (hb4.mono hb3.size)).mono hz2))
  have hw3 := (unhide HB3).size
  have hJ := join_any (a := l2) (b := l3) hg3 (by rw [hGl]; omega) hr.w64
  obtain ⟨J, hJe⟩ : ∃ J, J = joinN (graphR M) [l2, l3] := ⟨_, rfl⟩
  have hJl : J.length = N := by rw [hJe, joinN_len, hGl]
  have hJr : RightG J := by rw [hJe]; exact right_join hr _
  rw [← hJe] at hJ
  have HJ := hide hJ
  have HJE := hide hJe
  have HJL := hide hJl
  have HJR := hide hJr
  have HR := hide hr
  have HGL := hide hGl
  have HOM3 := hide hM3
  have HW3 := hide hW3
  have HGX := hide hg3
  have HBX := hide hbx
  have y3 := hbx.cell
  have hcase : Hid (¬ 0 ≤ l2 ∨ (0 ≤ l2 ∧ ¬ l2 < (N : Int)) ∨ (0 ≤ l2 ∧ l2 < (N : Int) ∧ ¬ 0 ≤ l3) ∨ (0 ≤ l2 ∧ l2 < (N : Int) ∧ 0 ≤ l3 ∧ ¬ l3 < (N : Int)) ∨ (∃ A B : Nat, l2 = (A : Int) ∧ l3 = (B : Int) ∧ A < N ∧ B < N ∧ A = B) ∨ (∃ A B : Nat, l2 = (A : Int) ∧ l3 = (B : Int) ∧ A < N ∧ B < N ∧ A ≠ B)) := hide (by
    by_cases h1 : 0 ≤ l2
    · by_cases h2 : l2 < (N : Int)
      · by_cases h3 : 0 ≤ l3
        · by_cases h4 : l3 < (N : Int)
          · by_cases h5 : l2 = l3
            · exact .inr (.inr (.inr (.inr (.inl ⟨l2.toNat, l3.toNat, by omega, by omega, by omega, by omega, by omega⟩))))
            · exact .inr (.inr (.inr (.inr (.inr ⟨l2.toNat, l3.toNat, by omega, by omega, by omega, by omega, by omega⟩))))
          · exact .inr (.inr (.inr (.inl ⟨h1, h2, h3, h4⟩)))
        · exact .inr (.inr (.inl ⟨h1, h2, h3⟩))
      · exact .inr (.inl ⟨h1, h2⟩)
    · exact .inl h1)
  clear hown3 hb3 hb4 hW3 hbx hg3 HRG HB2 HOM hr hGl hM3 hJ hJe hJl hJr
  rcases unhide hcase with h1 | ⟨h1, h2⟩ | ⟨h1, h2, h3⟩ | ⟨h1, h2, h3, h4⟩ | ⟨A, B, rfl, rfl, hA, hB, rfl⟩ | ⟨A, B, rfl, rfl, hA, hB, hAB⟩
  all_goals clear hcase
  rotate_right
  · have hbe := bes_in (g := graphR M) (a := A) (b := B) (by rw [unhide HGL]; exact hA) (by rw [unhide HGL]; exact hB)
    rw [graphR_at (unhide HOK).wide] at hbe
    obtain ⟨bo, o, r, e, c1, c2, c3⟩ := (unhide HOM3).at (i := A) (k := B) (by rw [← unhide HNM]; exact hA) hB
    subst e
    rw [unhide HW3] at c1 c2
    obtain ⟨bv, hbv⟩ : ∃ bv, bv = (M.getD A []).getD B false := ⟨_, rfl⟩
    rw [← hbv] at c2
    have HBV : Hid (besI (graphR M) (A : Int) (B : Int) = bv) := hide (by rw [hbe, hbv]; rfl)
    have HMJ := hide (mat_join (unhide HOK) (by rw [← unhide HNM]; omega) (by rw [← unhide HNM]; exact hA) (by rw [← unhide HNM]; exact hB) hAB)
    have hne : ((A : Int) != (B : Int)) = true := by simp; omega
    clear hbe hbv
    go_wp2_with fail
    rw [← unhide HW3]
    refine (unhide HJ).mono ?_
    rintro e w4 ⟨y, rfl, hown4, hb4⟩
    obtain ⟨ay, cy, rfl, _, _⟩ := (Seq.of_own hown4).form
    rw [unhide HJL] at hown4 ⊢
    have hz4 := hb4.size
    have hb5 : Below w4.heap.size w4 (w4.alloc (.cells #[.slice ay N cy] 25)) := (Below.refl _ _).alloc (Nat.le_refl _) _
    have hbx4 : BoxG (w4.alloc (.cells #[.slice ay N cy] 25)) w4.heap.size (.slice ay N cy) := BoxG.new w4 _
    have HYL := hide (fun b (hb : (Value.slice ay N cy).ownBlock = some b) => (hown4.lt b hb).1)
    have hg4 : Words (w4.alloc (.cells #[.slice ay N cy] 25)) (.slice ay N cy) J := (Seq.of_own hown4).below hb5
    have hM4 := ((unhide HOM3).below hb4).below hb5
    have hx4 := ((unhide HBX).below hb4 (by omega)).below hb5 (by omega)
    have hgx4 := ((unhide HGX).below hb4).below hb5
    have HB4 := hide ((unhide HB3).trans ((hb4.trans (hb5.mono hz4)).mono hw3))
    have y13 := hx4.cell
    have y16 := hbx4.cell
    have hz5 : (w4.alloc (.cells #[.slice ay N cy] 25)).heap.size = w4.heap.size + 1 := by simp
    have hAM : A < M.length := by rw [← unhide HNM]; exact hA
    have hBM : B < M.length := by rw [← unhide HNM]; exact hB
    obtain ⟨bo', o', r', e, d1, d2, d3⟩ := hM4.at (i := A) (k := B) hAM hB
    cases e
    have hM4' : OwnMat w1.heap.size (w4.alloc (.cells #[.slice ay N cy] 25)) (.slice (some ⟨bo, o, none⟩) N cu) N M bs := hM4
    obtain ⟨_, f1, hM5, hb6⟩ := hM4.set (i := A) (k := B) hAM hB d3
    obtain ⟨bo', o', s, e, e1, e2, e3⟩ := hM5.at (i := B) (k := A) (by simp [setM]; exact hBM) hA
    cases e
    obtain ⟨_, f2, hM6, hb7⟩ := hM5.set (i := B) (k := A) (by simp [setM]; exact hBM) hA e3
    have hrl := unhide HBS r' (List.mem_of_getElem? d3)
    have hsl := unhide HBS s (List.mem_of_getElem? e3)
    have k1 : Keeps (fun b => b < w2.heap.size) (w4.alloc (.cells #[.slice ay N cy] 25)) ((w4.alloc (.cells #[.slice ay N cy] 25)).setCell ⟨r', B, none⟩ (.bool true)) := Keeps.grown (grown_setG _ _ _ _) (fun b e => by injection e with e; show b < w2.heap.size; omega)
    have k2 : Keeps (fun b => b < w2.heap.size) ((w4.alloc (.cells #[.slice ay N cy] 25)).setCell ⟨r', B, none⟩ (.bool true)) (((w4.alloc (.cells #[.slice ay N cy] 25)).setCell ⟨r', B, none⟩ (.bool true)).setCell ⟨s, A, none⟩ (.bool true)) := Keeps.grown (grown_setG _ _ _ _) (fun b e => by injection e with e; show b < w2.heap.size; omega)
    have k3 := k1.then k2
    have HM5 : Hid (OwnMat w1.heap.size (((w4.alloc (.cells #[.slice ay N cy] 25)).setCell ⟨r', B, none⟩ (.bool true)).setCell ⟨s, A, none⟩ (.bool true)) (.slice (some ⟨bo, o, none⟩) N cu) (setM (setM M A B) B A).length (setM (setM M A B) B A) bs ∧ MatOk (setM (setM M A B) B A) ∧ graphR (setM (setM M A B) B A) = J) := hide ⟨by
      have : (setM (setM M A B) B A).length = N := by rw [unhide HNM]; simp [setM]
      rw [this]; exact hM6, (unhide HOK).join hAM hBM hAB, by rw [unhide HJE, unhide HMJ]⟩
    have hx5 : BoxG (((w4.alloc (.cells #[.slice ay N cy] 25)).setCell ⟨r', B, none⟩ (.bool true)).setCell ⟨s, A, none⟩ (.bool true)) w3.heap.size (.slice ax N cx) := (hx4.setO (by omega) _).setO (by omega) _
    have hbx5 : BoxG (((w4.alloc (.cells #[.slice ay N cy] 25)).setCell ⟨r', B, none⟩ (.bool true)).setCell ⟨s, A, none⟩ (.bool true)) w4.heap.size (.slice ay N cy) := (hbx4.setO (by omega) _).setO (by omega) _
    have hgx5 := k3.seq hgx4 (fun _ b h1 h2 => by have := unhide HXL b h1; have h2 : b < w2.heap.size := h2; omega)
    have hg5 := k3.seq hg4 (fun _ b h1 h2 => by have := unhide HYL b h1; have h2 : b < w2.heap.size := h2; omega)
    have HQ5 := hide (And.intro hx5 (And.intro hgx5 (And.intro hbx5 (And.intro hg5 ((unhide HB4).trans ((hb6.trans hb7).mono hz1))))))
    have HZ5 := hide (show (((w4.alloc (.cells #[.slice ay N cy] 25)).setCell ⟨r', B, none⟩ (.bool true)).setCell ⟨s, A, none⟩ (.bool true)).heap.size = w4.heap.size + 1 by simp)
    have HN5 : Hid ((setM (setM M A B) B A).length = N) := hide (by rw [unhide HNM]; simp [setM])
    clear hown4 hb4 hb5 hbx4 hg4 hM4 hM4' hM5 hM6 hx4 hgx4 HB4 HJ HOM3 HGX HBX y3 HJE hb6 hb7 k1 k2 k3 hx5 hbx5 hgx5 hg5 hrl hsl HMJ c1 c2 c3 d3 e3
    go_wp2_with fail
    generalize hWW : ((w4.alloc (.cells #[.slice ay N cy] 25)).setCell ⟨r', B, none⟩ (.bool true)).setCell ⟨s, A, none⟩ (.bool true) = W5 at *
    have hz5 := unhide HZ5
    obtain ⟨M', hM'⟩ : ∃ M', M' = setM (setM M A B) B A := ⟨_, rfl⟩
    rw [← hM'] at HM5 HN5
    clear hM' y13 y16 HW3 HZ5 hWW d2 e2 d1 e1 f1 f2
    have hR5 := refGraph_any (unhide HM5).1 (by rw [unhide HN5]; omega)
    rw [(unhide HM5).2.2] at hR5
    refine hR5.mono ?_
    rintro e w6 ⟨z, rfl, hown6, hb6⟩
    obtain ⟨az, cz, rfl, _, _⟩ := (Seq.of_own hown6).form
    rw [unhide HJL] at hown6 ⊢
    have hz6 := hb6.size
    have hb7 : Below w6.heap.size w6 (w6.alloc (.cells #[.slice az N cz] 25)) := (Below.refl _ _).alloc (Nat.le_refl _) _
    have hb67 : Below W5.heap.size W5 (w6.alloc (.cells #[.slice az N cz] 25)) := hb6.trans (hb7.mono hz6)
    have hbx6 : BoxG (w6.alloc (.cells #[.slice az N cz] 25)) w6.heap.size (.slice az N cz) := BoxG.new w6 _
    have hg6 : Words (w6.alloc (.cells #[.slice az N cz] 25)) (.slice az N cz) J := (Seq.of_own hown6).below hb7
    have hQ := unhide HQ5
    have hB6 : Below w.heap.size w (w6.alloc (.cells #[.slice az N cz] 25)) := hQ.2.2.2.2.trans (hb67.mono hQ.2.2.2.2.size)
    have h3lt : w3.heap.size < W5.heap.size := hQ.1.lt
    have h4lt : w4.heap.size < W5.heap.size := hQ.2.2.1.lt
    have hzA : (w6.alloc (.cells #[.slice az N cz] 25)).heap.size = w6.heap.size + 1 := by simp
    have hx13 := hQ.1.below hb67 h3lt
    have hx16 := hQ.2.2.1.below hb67 h4lt
    have hg13 := hQ.2.1.below hb67
    have hg16 := hQ.2.2.2.1.below hb67
    have hom := (unhide HM5).1.below hb67
    have HX13 := hide (fun W (hb : Below (w6.alloc (.cells #[.slice az N cz] 25)).heap.size (w6.alloc (.cells #[.slice az N cz] 25)) W) => hx13.below hb (by omega))
    have HX16 := hide (fun W (hb : Below (w6.alloc (.cells #[.slice az N cz] 25)).heap.size (w6.alloc (.cells #[.slice az N cz] 25)) W) => hx16.below hb (by omega))
    have HX17 := hide (fun W (hb : Below (w6.alloc (.cells #[.slice az N cz] 25)).heap.size (w6.alloc (.cells #[.slice az N cz] 25)) W) => hbx6.below hb (by omega))
    have HG13 := hide (fun W (hb : Below (w6.alloc (.cells #[.slice az N cz] 25)).heap.size (w6.alloc (.cells #[.slice az N cz] 25)) W) => hg13.below hb)
    have HG16 := hide (fun W (hb : Below (w6.alloc (.cells #[.slice az N cz] 25)).heap.size (w6.alloc (.cells #[.slice az N cz] 25)) W) => hg16.below hb)
    have HG17 := hide (fun W (hb : Below (w6.alloc (.cells #[.slice az N cz] 25)).heap.size (w6.alloc (.cells #[.slice az N cz] 25)) W) => hg6.below hb)
    have HOMW := hide (fun W (hb : Below (w6.alloc (.cells #[.slice az N cz] 25)).heap.size (w6.alloc (.cells #[.slice az N cz] 25)) W) => hom.below hb)
    have HBW := hide (fun W (hb : Below (w6.alloc (.cells #[.slice az N cz] 25)).heap.size (w6.alloc (.cells #[.slice az N cz] 25)) W) => hB6.trans (hb.mono hB6.size))
    have HTW := hide (fun W (hb : Below (w6.alloc (.cells #[.slice az N cz] 25)).heap.size (w6.alloc (.cells #[.slice az N cz] 25)) W) => unhide HT W (hB6.trans (hb.mono hB6.size)))
    have HLW := hide (fun W (hb : Below (w6.alloc (.cells #[.slice az N cz] 25)).heap.size (w6.alloc (.cells #[.slice az N cz] 25)) W) => unhide HTK W (hB6.trans (hb.mono hB6.size)))
    have HOK' := hide (unhide HM5).2
    have y16 := hx16.cell
    have y17 := hbx6.cell
    have n0 : ((N : Int) != (N : Int)) = false := by simp
    clear hR5 hown6 hb6 hb7 hb67 hbx6 hg6 hQ hB6 h3lt h4lt hx13 hx16 hg13 hg16 hom HM5 HQ5 HT HTK HB3 HOK HBS HXL HYL
    go_wp2
    generalize (w6.alloc (.cells #[.slice az N cz] 25)) = W6 at *
    clear y16 y17
    go_loopw [18] (fun i wr => ∃ k : Nat, k ≤ N ∧ i = .int .i64 k ∧ Below W6.heap.size W6 wr) (fun i _ => N - (intOf i).toNat)
    case atStart => exact ⟨0, by omega, rfl, Below.refl _ _⟩
    case round =>
      obtain ⟨k, hk, rfl, hbel⟩ := hrel
      rename World => wr
      by_cases hkN : k < N
      · have y16 := (unhide HX16 wr hbel).cell
        have y17 := (unhide HX17 wr hbel).cell
        obtain ⟨b3, o3, e3, q3⟩ := words_cell (unhide HG16 wr hbel) (i := k) (by rw [unhide HJL]; exact hkN)
        subst e3
        obtain ⟨b4, o4, e4, q4⟩ := words_cell (unhide HG17 wr hbel) (i := k) (by rw [unhide HJL]; exact hkN)
        subst e4
        generalize J.getD k 0 = p at *
        have n1 : ((p : Int) != (p : Int)) = false := by simp
        have HQB := hide hbel
        clear hbel
        go_wp2
        go_quiet (fail)
        go_wp2
        go_roundw
        case rel => exact ⟨k + 1, by omega, by go_num, Below.drewN1 (unhide HQB) _⟩
        case measure => simp [intOf]; omega
      · have hkN' : N = k := by omega
        subst hkN'
        have y13 := (unhide HX13 wr hbel).cell
        have y16 := (unhide HX16 wr hbel).cell
        have hrs : rightS (graphR M) = true := (rightS_iff (unhide HR).w64).2 (unhide HR)
        have HRS := hide hrs
        have HB7 := hide hbel
        clear hbel hrs
        go_wp2_with fail
        refine (right_any (unhide HG13 _ (unhide HB7)) (by rw [unhide HGL]; omega) (unhide HR).w64 (unhide HTW _ (unhide HB7))).mono ?_
        rintro e w8 ⟨rfl, hb8⟩
        rw [unhide HRS]
        have HB8 := hide ((unhide HB7).trans (hb8.mono (unhide HB7).size))
        have z13 := (unhide HX13 _ (unhide HB8)).cell
        have z16 := (unhide HX16 _ (unhide HB8)).cell
        clear hb8 y13 y16 HB7
        go_wp2_with fail
        refine (beside_any (unhide HG13 _ (unhide HB8)) (by rw [unhide HGL]; omega) (unhide HR).w64).mono ?_
        rintro e w9 ⟨rfl, hb9⟩
        rw [unhide HBV]
        have hbb : (bv == bv) = true := by simp
        have HB9 := hide ((unhide HB8).trans (hb9.mono (unhide HB8).size))
        have y16 := (unhide HX16 _ (unhide HB9)).cell
        clear hb9 z13 z16 HB8
        go_wp2_with fail
        refine (neighbors_any (unhide HG16 _ (unhide HB9)) (by rw [unhide HJL]; omega) (unhide HJR).w64 (unhide HTW _ (unhide HB9))).mono ?_
        rintro e w10 ⟨vn, rfl, hown10, hb10⟩
        obtain ⟨an, cn, rfl, _, _⟩ := (Seq.of_own hown10).form
        have HO10 := hide (Seq.of_own hown10)
        have HB10 := hide ((unhide HB9).trans (hb10.mono (unhide HB9).size))
        have z16 := (unhide HX16 _ (unhide HB10)).cell
        clear hb10 hown10 y16 HB9
        go_wp2_with fail
        refine (refNeighbors_any (unhide HOMW _ (unhide HB10)) (by rw [unhide HN5]; omega)).mono ?_
        rintro e w11 ⟨vm, rfl, hown11, hb11⟩
        rw [(unhide HOK').2] at hown11
        obtain ⟨am, cm, rfl, _, _⟩ := (Seq.of_own hown11).form
        have HO11 := hide (Seq.of_own hown11)
        have HO10' := hide ((unhide HO10).below hb11)
        have HB11 := hide ((unhide HB10).trans (hb11.mono (unhide HB10).size))
        have y16 := (unhide HX16 _ (unhide HB11)).cell
        clear hb11 hown11 z16 HB10 HO10
        go_wp2_with fail
        refine (refCompare_any (unhide HO10') (unhide HO11)).mono ?_
        rintro e w12 ⟨rfl, n1, rfl⟩
        rw [cmpL_refl]
        have HB12 := hide ((unhide HB11).trans ((Below.drewN w11 n1).mono (unhide HB11).size))
        generalize w11.drewN n1 = w12 at *
        have z16 := (unhide HX16 _ (unhide HB12)).cell
        clear y16 HB11 HO11 HO10'
        go_wp2_with fail
        refine (clique_any (unhide HG16 _ (unhide HB12)) (by rw [unhide HJL]; omega) (unhide HJR).w64 (unhide HLW _ (unhide HB12))).mono ?_
        rintro e w13 ⟨rfl, hb13⟩
        have HB13 := hide ((unhide HB12).trans (hb13.mono (unhide HB12).size))
        have y16 := (unhide HX16 _ (unhide HB13)).cell
        clear hb13 z16 HB12
        go_wp2_with fail
        refine (refClique_any (unhide HOMW _ (unhide HB13)) (unhide HOK').1 (unhide HLW _ (unhide HB13))).mono ?_
        rintro e w14 ⟨rfl, n2, rfl⟩
        rw [(unhide HOK').2]
        generalize clqB J L = cq at *
        have hcc : (cq == cq) = true := by simp
        have HB14 := hide ((unhide HB13).trans ((Below.drewN w13 n2).mono (unhide HB13).size))
        generalize w13.drewN n2 = w14 at *
        have z16 := (unhide HX16 _ (unhide HB14)).cell
        clear y16 HB13
        go_wp2_with fail
        refine (parts_any (unhide HG16 _ (unhide HB14)) (unhide HJR) (unhide HTW _ (unhide HB14))).mono ?_
        rintro e w15 ⟨vp, rfl, ho15, hb15⟩
        have htp := ho15.tups
        obtain ⟨ap, cp, rfl, _, _⟩ := htp.form
        have HTP := hide htp
        have HB15 := hide ((unhide HB14).trans (hb15.mono (unhide HB14).size))
        clear hb15 ho15 htp z16 HB14
        go_wp2_with fail
        refine (refParts_any (unhide HOMW _ (unhide HB15)) (unhide HOK').1 (by rw [unhide HN5]; omega)).mono ?_
        rintro e w16 ⟨vq, rfl, ho16, hb16⟩
        rw [(unhide HOK').2] at ho16
        have htq := ho16.tups
        obtain ⟨aq, cq2, rfl, _, _⟩ := htq.form
        have HTQ := hide htq
        have HTP2 := hide ((unhide HTP).below hb16)
        have HB16 := hide ((unhide HB15).trans (hb16.mono (unhide HB15).size))
        clear hb16 ho16 htq HB15 HTP
        go_wp2_with fail
        refine (same_any (unhide HTP2) (unhide HTQ)).mono ?_
        rintro e w17 ⟨rfl, n3, rfl⟩
        have hdd : decide (partsL J = partsL J) = true := by simp
        rw [hdd]
        have HB17 := hide (unhide HBW _ ((unhide HB16).trans ((Below.drewN w16 n3).mono (unhide HB16).size)))
        clear HB16
        go_wp2
        go_ret
        exact ⟨rfl, unhide HB17⟩
  rotate_right
  · have hbe := bes_in (g := graphR M) (a := A) (b := A) (by rw [unhide HGL]; exact hA) (by rw [unhide HGL]; exact hA)
    rw [graphR_at (unhide HOK).wide] at hbe
    obtain ⟨bo, o, r, e, c1, c2, c3⟩ := (unhide HOM3).at (i := A) (k := A) (by rw [← unhide HNM]; exact hA) hA
    subst e
    rw [unhide HW3] at c1 c2
    obtain ⟨bv, hbv⟩ : ∃ bv, bv = (M.getD A []).getD A false := ⟨_, rfl⟩
    rw [← hbv] at c2
    have HBV : Hid (besI (graphR M) (A : Int) (A : Int) = bv) := hide (by rw [hbe, hbv]; rfl)
    have HJN := hide (join_none (unhide HR) (a := (A : Int)) (b := (A : Int)) (by rw [unhide HGL]; omega))
    have hne : ((A : Int) != (A : Int)) = false := by simp
    clear hbe hbv c3
    go_wp2_with fail
    rw [← unhide HW3]
    refine (unhide HJ).mono ?_
    rintro e w4 ⟨y, rfl, hown4, hb4⟩
    obtain ⟨ay, cy, rfl, _, _⟩ := (Seq.of_own hown4).form
    rw [unhide HJL] at hown4 ⊢
    have hz4 := hb4.size
    have hb5 : Below w4.heap.size w4 (w4.alloc (.cells #[.slice ay N cy] 25)) := (Below.refl _ _).alloc (Nat.le_refl _) _
    have hbx4 : BoxG (w4.alloc (.cells #[.slice ay N cy] 25)) w4.heap.size (.slice ay N cy) := BoxG.new w4 _
    have HYL := hide (fun b (hb : (Value.slice ay N cy).ownBlock = some b) => (hown4.lt b hb).1)
    have hg4 : Words (w4.alloc (.cells #[.slice ay N cy] 25)) (.slice ay N cy) J := (Seq.of_own hown4).below hb5
    have hM4 := ((unhide HOM3).below hb4).below hb5
    have hx4 := ((unhide HBX).below hb4 (by omega)).below hb5 (by omega)
    have hgx4 := ((unhide HGX).below hb4).below hb5
    have HB4 := hide ((unhide HB3).trans ((hb4.trans (hb5.mono hz4)).mono hw3))
    have y13 := hx4.cell
    have y16 := hbx4.cell
    have hz5 : (w4.alloc (.cells #[.slice ay N cy] 25)).heap.size = w4.heap.size + 1 := by simp
    have HM5 : Hid (OwnMat w1.heap.size (w4.alloc (.cells #[.slice ay N cy] 25)) (.slice (some ⟨bo, o, none⟩) N cu) M.length M bs ∧ MatOk M ∧ graphR M = J) := hide ⟨by rw [← unhide HNM]; exact hM4, unhide HOK, by rw [unhide HJE, unhide HJN]⟩
    have HQ5 := hide (And.intro hx4 (And.intro hgx4 (And.intro hbx4 (And.intro hg4 (unhide HB4)))))
    clear hown4 hb4 hb5 hbx4 hg4 hM4 hx4 hgx4 HB4 HJ HOM3 HGX HBX y3 HJN HJE
    go_wp2_with fail
    generalize (w4.alloc (.cells #[.slice ay N cy] 25)) = W5 at *
    obtain ⟨M', hM'⟩ : ∃ M', M' = M := ⟨_, rfl⟩
    have HN5 : Hid (M'.length = N) := hide (by rw [hM', unhide HNM])
    rw [← hM'] at HM5
    clear hM' y13 y16 HW3 c1 c2
    have hR5 := refGraph_any (unhide HM5).1 (by rw [unhide HN5]; omega)
    rw [(unhide HM5).2.2] at hR5
    refine hR5.mono ?_
    rintro e w6 ⟨z, rfl, hown6, hb6⟩
    obtain ⟨az, cz, rfl, _, _⟩ := (Seq.of_own hown6).form
    rw [unhide HJL] at hown6 ⊢
    have hz6 := hb6.size
    have hb7 : Below w6.heap.size w6 (w6.alloc (.cells #[.slice az N cz] 25)) := (Below.refl _ _).alloc (Nat.le_refl _) _
    have hb67 : Below W5.heap.size W5 (w6.alloc (.cells #[.slice az N cz] 25)) := hb6.trans (hb7.mono hz6)
    have hbx6 : BoxG (w6.alloc (.cells #[.slice az N cz] 25)) w6.heap.size (.slice az N cz) := BoxG.new w6 _
    have hg6 : Words (w6.alloc (.cells #[.slice az N cz] 25)) (.slice az N cz) J := (Seq.of_own hown6).below hb7
    have hQ := unhide HQ5
    have hB6 : Below w.heap.size w (w6.alloc (.cells #[.slice az N cz] 25)) := hQ.2.2.2.2.trans (hb67.mono hQ.2.2.2.2.size)
    have h3lt : w3.heap.size < W5.heap.size := hQ.1.lt
    have h4lt : w4.heap.size < W5.heap.size := hQ.2.2.1.lt
    have hzA : (w6.alloc (.cells #[.slice az N cz] 25)).heap.size = w6.heap.size + 1 := by simp
    have hx13 := hQ.1.below hb67 h3lt
    have hx16 := hQ.2.2.1.below hb67 h4lt
    have hg13 := hQ.2.1.below hb67
    have hg16 := hQ.2.2.2.1.below hb67
    have hom := (unhide HM5).1.below hb67
    have HX13 := hide (fun W (hb : Below (w6.alloc (.cells #[.slice az N cz] 25)).heap.size (w6.alloc (.cells #[.slice az N cz] 25)) W) => hx13.below hb (by omega))
    have HX16 := hide (fun W (hb : Below (w6.alloc (.cells #[.slice az N cz] 25)).heap.size (w6.alloc (.cells #[.slice az N cz] 25)) W) => hx16.below hb (by omega))
    have HX17 := hide (fun W (hb : Below (w6.alloc (.cells #[.slice az N cz] 25)).heap.size (w6.alloc (.cells #[.slice az N cz] 25)) W) => hbx6.below hb (by omega))
    have HG13 := hide (fun W (hb : Below (w6.alloc (.cells #[.slice az N cz] 25)).heap.size (w6.alloc (.cells #[.slice az N cz] 25)) W) => hg13.below hb)
    have HG16 := hide (fun W (hb : Below (w6.alloc (.cells #[.slice az N cz] 25)).heap.size (w6.alloc (.cells #[.slice az N cz] 25)) W) => hg16.below hb)
    have HG17 := hide (fun W (hb : Below (w6.alloc (.cells #[.slice az N cz] 25)).heap.size (w6.alloc (.cells #[.slice az N cz] 25)) W) => hg6.below hb)
    have HOMW := hide (fun W (hb : Below (w6.alloc (.cells #[.slice az N cz] 25)).heap.size (w6.alloc (.cells #[.slice az N cz] 25)) W) => hom.below hb)
    have HBW := hide (fun W (hb : Below (w6.alloc (.cells #[.slice az N cz] 25)).heap.size (w6.alloc (.cells #[.slice az N cz] 25)) W) => hB6.trans (hb.mono hB6.size))
    have HTW := hide (fun W (hb : Below (w6.alloc (.cells #[.slice az N cz] 25)).heap.size (w6.alloc (.cells #[.slice az N cz] 25)) W) => unhide HT W (hB6.trans (hb.mono hB6.size)))
    have HLW := hide (fun W (hb : Below (w6.alloc (.cells #[.slice az N cz] 25)).heap.size (w6.alloc (.cells #[.slice az N cz] 25)) W) => unhide HTK W (hB6.trans (hb.mono hB6.size)))
    have HOK' := hide (unhide HM5).2
    have y16 := hx16.cell
    have y17 := hbx6.cell
    have n0 : ((N : Int) != (N : Int)) = false := by simp
    clear hR5 hown6 hb6 hb7 hb67 hbx6 hg6 hQ hB6 h3lt h4lt hx13 hx16 hg13 hg16 hom HM5 HQ5 HT HTK HB3 HOK HBS HXL HYL
    go_wp2
    generalize (w6.alloc (.cells #[.slice az N cz] 25)) = W6 at *
    clear y16 y17
    go_loopw [18] (fun i wr => ∃ k : Nat, k ≤ N ∧ i = .int .i64 k ∧ Below W6.heap.size W6 wr) (fun i _ => N - (intOf i).toNat)
    case atStart => exact ⟨0, by omega, rfl, Below.refl _ _⟩
    case round =>
      obtain ⟨k, hk, rfl, hbel⟩ := hrel
      rename World => wr
      by_cases hkN : k < N
      · have y16 := (unhide HX16 wr hbel).cell
        have y17 := (unhide HX17 wr hbel).cell
        obtain ⟨b3, o3, e3, q3⟩ := words_cell (unhide HG16 wr hbel) (i := k) (by rw [unhide HJL]; exact hkN)
        subst e3
        obtain ⟨b4, o4, e4, q4⟩ := words_cell (unhide HG17 wr hbel) (i := k) (by rw [unhide HJL]; exact hkN)
        subst e4
        generalize J.getD k 0 = p at *
        have n1 : ((p : Int) != (p : Int)) = false := by simp
        have HQB := hide hbel
        clear hbel
        go_wp2
        go_quiet (fail)
        go_wp2
        go_roundw
        case rel => exact ⟨k + 1, by omega, by go_num, Below.drewN1 (unhide HQB) _⟩
        case measure => simp [intOf]; omega
      · have hkN' : N = k := by omega
        subst hkN'
        have y13 := (unhide HX13 wr hbel).cell
        have y16 := (unhide HX16 wr hbel).cell
        have hrs : rightS (graphR M) = true := (rightS_iff (unhide HR).w64).2 (unhide HR)
        have HRS := hide hrs
        have HB7 := hide hbel
        clear hbel hrs
        go_wp2_with fail
        refine (right_any (unhide HG13 _ (unhide HB7)) (by rw [unhide HGL]; omega) (unhide HR).w64 (unhide HTW _ (unhide HB7))).mono ?_
        rintro e w8 ⟨rfl, hb8⟩
        rw [unhide HRS]
        have HB8 := hide ((unhide HB7).trans (hb8.mono (unhide HB7).size))
        have z13 := (unhide HX13 _ (unhide HB8)).cell
        have z16 := (unhide HX16 _ (unhide HB8)).cell
        clear hb8 y13 y16 HB7
        go_wp2_with fail
        refine (beside_any (unhide HG13 _ (unhide HB8)) (by rw [unhide HGL]; omega) (unhide HR).w64).mono ?_
        rintro e w9 ⟨rfl, hb9⟩
        rw [unhide HBV]
        have hbb : (bv == bv) = true := by simp
        have HB9 := hide ((unhide HB8).trans (hb9.mono (unhide HB8).size))
        have y16 := (unhide HX16 _ (unhide HB9)).cell
        clear hb9 z13 z16 HB8
        go_wp2_with fail
        refine (neighbors_any (unhide HG16 _ (unhide HB9)) (by rw [unhide HJL]; omega) (unhide HJR).w64 (unhide HTW _ (unhide HB9))).mono ?_
        rintro e w10 ⟨vn, rfl, hown10, hb10⟩
        obtain ⟨an, cn, rfl, _, _⟩ := (Seq.of_own hown10).form
        have HO10 := hide (Seq.of_own hown10)
        have HB10 := hide ((unhide HB9).trans (hb10.mono (unhide HB9).size))
        have z16 := (unhide HX16 _ (unhide HB10)).cell
        clear hb10 hown10 y16 HB9
        go_wp2_with fail
        refine (refNeighbors_any (unhide HOMW _ (unhide HB10)) (by rw [unhide HN5]; omega)).mono ?_
        rintro e w11 ⟨vm, rfl, hown11, hb11⟩
        rw [(unhide HOK').2] at hown11
        obtain ⟨am, cm, rfl, _, _⟩ := (Seq.of_own hown11).form
        have HO11 := hide (Seq.of_own hown11)
        have HO10' := hide ((unhide HO10).below hb11)
        have HB11 := hide ((unhide HB10).trans (hb11.mono (unhide HB10).size))
        have y16 := (unhide HX16 _ (unhide HB11)).cell
        clear hb11 hown11 z16 HB10 HO10
        go_wp2_with fail
        refine (refCompare_any (unhide HO10') (unhide HO11)).mono ?_
        rintro e w12 ⟨rfl, n1, rfl⟩
        rw [cmpL_refl]
        have HB12 := hide ((unhide HB11).trans ((Below.drewN w11 n1).mono (unhide HB11).size))
        generalize w11.drewN n1 = w12 at *
        have z16 := (unhide HX16 _ (unhide HB12)).cell
        clear y16 HB11 HO11 HO10'
        go_wp2_with fail
        refine (clique_any (unhide HG16 _ (unhide HB12)) (by rw [unhide HJL]; omega) (unhide HJR).w64 (unhide HLW _ (unhide HB12))).mono ?_
        rintro e w13 ⟨rfl, hb13⟩
        have HB13 := hide ((unhide HB12).trans (hb13.mono (unhide HB12).size))
        have y16 := (unhide HX16 _ (unhide HB13)).cell
        clear hb13 z16 HB12
        go_wp2_with fail
        refine (refClique_any (unhide HOMW _ (unhide HB13)) (unhide HOK').1 (unhide HLW _ (unhide HB13))).mono ?_
        rintro e w14 ⟨rfl, n2, rfl⟩
        rw [(unhide HOK').2]
        generalize clqB J L = cq at *
        have hcc : (cq == cq) = true := by simp
        have HB14 := hide ((unhide HB13).trans ((Below.drewN w13 n2).mono (unhide HB13).size))
        generalize w13.drewN n2 = w14 at *
        have z16 := (unhide HX16 _ (unhide HB14)).cell
        clear y16 HB13
        go_wp2_with fail
        refine (parts_any (unhide HG16 _ (unhide HB14)) (unhide HJR) (unhide HTW _ (unhide HB14))).mono ?_
        rintro e w15 ⟨vp, rfl, ho15, hb15⟩
        have htp := ho15.tups
        obtain ⟨ap, cp, rfl, _, _⟩ := htp.form
        have HTP := hide htp
        have HB15 := hide ((unhide HB14).trans (hb15.mono (unhide HB14).size))
        clear hb15 ho15 htp z16 HB14
        go_wp2_with fail
        refine (refParts_any (unhide HOMW _ (unhide HB15)) (unhide HOK').1 (by rw [unhide HN5]; omega)).mono ?_
        rintro e w16 ⟨vq, rfl, ho16, hb16⟩
        rw [(unhide HOK').2] at ho16
        have htq := ho16.tups
        obtain ⟨aq, cq2, rfl, _, _⟩ := htq.form
        have HTQ := hide htq
        have HTP2 := hide ((unhide HTP).below hb16)
        have HB16 := hide ((unhide HB15).trans (hb16.mono (unhide HB15).size))
        clear hb16 ho16 htq HB15 HTP
        go_wp2_with fail
        refine (same_any (unhide HTP2) (unhide HTQ)).mono ?_
        rintro e w17 ⟨rfl, n3, rfl⟩
        have hdd : decide (partsL J = partsL J) = true := by simp
        rw [hdd]
        have HB17 := hide (unhide HBW _ ((unhide HB16).trans ((Below.drewN w16 n3).mono (unhide HB16).size)))
        clear HB16
        go_wp2
        go_ret
        exact ⟨rfl, unhide HB17⟩
  all_goals
    obtain ⟨bv, hbv⟩ : ∃ bv, bv = false := ⟨_, rfl⟩
    have HBV : Hid (besI (graphR M) l2 l3 = bv) := hide (by rw [hbv]; exact bes_none (g := graphR M) (a := l2) (b := l3) (by rw [unhide HGL]; omega))
    have HJN := hide (join_none (unhide HR) (a := l2) (b := l3) (by rw [unhide HGL]; omega))
    go_wp2_with fail
    rw [← unhide HW3]
    refine (unhide HJ).mono ?_
    rintro e w4 ⟨y, rfl, hown4, hb4⟩
    obtain ⟨ay, cy, rfl, _, _⟩ := (Seq.of_own hown4).form
    rw [unhide HJL] at hown4 ⊢
    have hz4 := hb4.size
    have hb5 : Below w4.heap.size w4 (w4.alloc (.cells #[.slice ay N cy] 25)) := (Below.refl _ _).alloc (Nat.le_refl _) _
    have hbx4 : BoxG (w4.alloc (.cells #[.slice ay N cy] 25)) w4.heap.size (.slice ay N cy) := BoxG.new w4 _
    have HYL := hide (fun b (hb : (Value.slice ay N cy).ownBlock = some b) => (hown4.lt b hb).1)
    have hg4 : Words (w4.alloc (.cells #[.slice ay N cy] 25)) (.slice ay N cy) J := (Seq.of_own hown4).below hb5
    have hM4 := ((unhide HOM3).below hb4).below hb5
    have hx4 := ((unhide HBX).below hb4 (by omega)).below hb5 (by omega)
    have hgx4 := ((unhide HGX).below hb4).below hb5
    have HB4 := hide ((unhide HB3).trans ((hb4.trans (hb5.mono hz4)).mono hw3))
    have y13 := hx4.cell
    have y16 := hbx4.cell
    have hz5 : (w4.alloc (.cells #[.slice ay N cy] 25)).heap.size = w4.heap.size + 1 := by simp
    have HM5 : Hid (OwnMat w1.heap.size (w4.alloc (.cells #[.slice ay N cy] 25)) (.slice au N cu) M.length M bs ∧ MatOk M ∧ graphR M = J) := hide ⟨by rw [← unhide HNM]; exact hM4, unhide HOK, by rw [unhide HJE, unhide HJN]⟩
    have HQ5 := hide (And.intro hx4 (And.intro hgx4 (And.intro hbx4 (And.intro hg4 (unhide HB4)))))
    clear hown4 hb4 hb5 hbx4 hg4 hM4 hx4 hgx4 HB4 HJ HOM3 HGX HBX y3 HJN HJE
    go_wp2_with fail
    generalize (w4.alloc (.cells #[.slice ay N cy] 25)) = W5 at *
    obtain ⟨M', hM'⟩ : ∃ M', M' = M := ⟨_, rfl⟩
    have HN5 : Hid (M'.length = N) := hide (by rw [hM', unhide HNM])
    rw [← hM'] at HM5
    clear hM' y13 y16 HW3
    subst hbv
    have hR5 := refGraph_any (unhide HM5).1 (by rw [unhide HN5]; omega)
    rw [(unhide HM5).2.2] at hR5
    refine hR5.mono ?_
    rintro e w6 ⟨z, rfl, hown6, hb6⟩
    obtain ⟨az, cz, rfl, _, _⟩ := (Seq.of_own hown6).form
    rw [unhide HJL] at hown6 ⊢
    have hz6 := hb6.size
    have hb7 : Below w6.heap.size w6 (w6.alloc (.cells #[.slice az N cz] 25)) := (Below.refl _ _).alloc (Nat.le_refl _) _
    have hb67 : Below W5.heap.size W5 (w6.alloc (.cells #[.slice az N cz] 25)) := hb6.trans (hb7.mono hz6)
    have hbx6 : BoxG (w6.alloc (.cells #[.slice az N cz] 25)) w6.heap.size (.slice az N cz) := BoxG.new w6 _
    have hg6 : Words (w6.alloc (.cells #[.slice az N cz] 25)) (.slice az N cz) J := (Seq.of_own hown6).below hb7
    have hQ := unhide HQ5
    have hB6 : Below w.heap.size w (w6.alloc (.cells #[.slice az N cz] 25)) := hQ.2.2.2.2.trans (hb67.mono hQ.2.2.2.2.size)
    have h3lt : w3.heap.size < W5.heap.size := hQ.1.lt
    have h4lt : w4.heap.size < W5.heap.size := hQ.2.2.1.lt
    have hzA : (w6.alloc (.cells #[.slice az N cz] 25)).heap.size = w6.heap.size + 1 := by simp
    have hx13 := hQ.1.below hb67 h3lt
    have hx16 := hQ.2.2.1.below hb67 h4lt
    have hg13 := hQ.2.1.below hb67
    have hg16 := hQ.2.2.2.1.below hb67
    have hom := (unhide HM5).1.below hb67
    have HX13 := hide (fun W (hb : Below (w6.alloc (.cells #[.slice az N cz] 25)).heap.size (w6.alloc (.cells #[.slice az N cz] 25)) W) => hx13.below hb (by omega))
    have HX16 := hide (fun W (hb : Below (w6.alloc (.cells #[.slice az N cz] 25)).heap.size (w6.alloc (.cells #[.slice az N cz] 25)) W) => hx16.below hb (by omega))
    have HX17 := hide (fun W (hb : Below (w6.alloc (.cells #[.slice az N cz] 25)).heap.size (w6.alloc (.cells #[.slice az N cz] 25)) W) => hbx6.below hb (by omega))
    have HG13 := hide (fun W (hb : Below (w6.alloc (.cells #[.slice az N cz] 25)).heap.size (w6.alloc (.cells #[.slice az N cz] 25)) W) => hg13.below hb)
    have HG16 := hide (fun W (hb : Below (w6.alloc (.cells #[.slice az N cz] 25)).heap.size (w6.alloc (.cells #[.slice az N cz] 25)) W) => hg16.below hb)
    have HG17 := hide (fun W (hb : Below (w6.alloc (.cells #[.slice az N cz] 25)).heap.size (w6.alloc (.cells #[.slice az N cz] 25)) W) => hg6.below hb)
    have HOMW := hide (fun W (hb : Below (w6.alloc (.cells #[.slice az N cz] 25)).heap.size (w6.alloc (.cells #[.slice az N cz] 25)) W) => hom.below hb)
    have HBW := hide (fun W (hb : Below (w6.alloc (.cells #[.slice az N cz] 25)).heap.size (w6.alloc (.cells #[.slice az N cz] 25)) W) => hB6.trans (hb.mono hB6.size))
    have HTW := hide (fun W (hb : Below (w6.alloc (.cells #[.slice az N cz] 25)).heap.size (w6.alloc (.cells #[.slice az N cz] 25)) W) => unhide HT W (hB6.trans (hb.mono hB6.size)))
    have HLW := hide (fun W (hb : Below (w6.alloc (.cells #[.slice az N cz] 25)).heap.size (w6.alloc (.cells #[.slice az N cz] 25)) W) => unhide HTK W (hB6.trans (hb.mono hB6.size)))
    have HOK' := hide (unhide HM5).2
    have y16 := hx16.cell
    have y17 := hbx6.cell
    have n0 : ((N : Int) != (N : Int)) = false := by simp
    clear hR5 hown6 hb6 hb7 hb67 hbx6 hg6 hQ hB6 h3lt h4lt hx13 hx16 hg13 hg16 hom HM5 HQ5 HT HTK HB3 HOK HBS HXL HYL
    go_wp2
    generalize (w6.alloc (.cells #[.slice az N cz] 25)) = W6 at *
    clear y16 y17
    go_loopw [18] (fun i wr => ∃ k : Nat, k ≤ N ∧ i = .int .i64 k ∧ Below W6.heap.size W6 wr) (fun i _ => N - (intOf i).toNat)
    case atStart => exact ⟨0, by omega, rfl, Below.refl _ _⟩
    case round =>
      obtain ⟨k, hk, rfl, hbel⟩ := hrel
      rename World => wr
      by_cases hkN : k < N
      · have y16 := (unhide HX16 wr hbel).cell
        have y17 := (unhide HX17 wr hbel).cell
        obtain ⟨b3, o3, e3, q3⟩ := words_cell (unhide HG16 wr hbel) (i := k) (by rw [unhide HJL]; exact hkN)
        subst e3
        obtain ⟨b4, o4, e4, q4⟩ := words_cell (unhide HG17 wr hbel) (i := k) (by rw [unhide HJL]; exact hkN)
        subst e4
        generalize J.getD k 0 = p at *
        have n1 : ((p : Int) != (p : Int)) = false := by simp
        have HQB := hide hbel
        clear hbel
        go_wp2
        go_quiet (fail)
        go_wp2
        go_roundw
        case rel => exact ⟨k + 1, by omega, by go_num, Below.drewN1 (unhide HQB) _⟩
        case measure => simp [intOf]; omega
      · have hkN' : N = k := by omega
        subst hkN'
        have y13 := (unhide HX13 wr hbel).cell
        have y16 := (unhide HX16 wr hbel).cell
        have hrs : rightS (graphR M) = true := (rightS_iff (unhide HR).w64).2 (unhide HR)
        have HRS := hide hrs
        have HB7 := hide hbel
        clear hbel hrs
        go_wp2_with fail
        refine (right_any (unhide HG13 _ (unhide HB7)) (by rw [unhide HGL]; omega) (unhide HR).w64 (unhide HTW _ (unhide HB7))).mono ?_
        rintro e w8 ⟨rfl, hb8⟩
        rw [unhide HRS]
        have HB8 := hide ((unhide HB7).trans (hb8.mono (unhide HB7).size))
        have z13 := (unhide HX13 _ (unhide HB8)).cell
        have z16 := (unhide HX16 _ (unhide HB8)).cell
        clear hb8 y13 y16 HB7
        go_wp2_with fail
        refine (beside_any (unhide HG13 _ (unhide HB8)) (by rw [unhide HGL]; omega) (unhide HR).w64).mono ?_
        rintro e w9 ⟨rfl, hb9⟩
        rw [unhide HBV]
        have hbb : (false == false) = true := by simp
        have HB9 := hide ((unhide HB8).trans (hb9.mono (unhide HB8).size))
        have y16 := (unhide HX16 _ (unhide HB9)).cell
        clear hb9 z13 z16 HB8
        go_wp2_with fail
        refine (neighbors_any (unhide HG16 _ (unhide HB9)) (by rw [unhide HJL]; omega) (unhide HJR).w64 (unhide HTW _ (unhide HB9))).mono ?_
        rintro e w10 ⟨vn, rfl, hown10, hb10⟩
        obtain ⟨an, cn, rfl, _, _⟩ := (Seq.of_own hown10).form
        have HO10 := hide (Seq.of_own hown10)
        have HB10 := hide ((unhide HB9).trans (hb10.mono (unhide HB9).size))
        have z16 := (unhide HX16 _ (unhide HB10)).cell
        clear hb10 hown10 y16 HB9
        go_wp2_with fail
        refine (refNeighbors_any (unhide HOMW _ (unhide HB10)) (by rw [unhide HN5]; omega)).mono ?_
        rintro e w11 ⟨vm, rfl, hown11, hb11⟩
        rw [(unhide HOK').2] at hown11
        obtain ⟨am, cm, rfl, _, _⟩ := (Seq.of_own hown11).form
        have HO11 := hide (Seq.of_own hown11)
        have HO10' := hide ((unhide HO10).below hb11)
        have HB11 := hide ((unhide HB10).trans (hb11.mono (unhide HB10).size))
        have y16 := (unhide HX16 _ (unhide HB11)).cell
        clear hb11 hown11 z16 HB10 HO10
        go_wp2_with fail
        refine (refCompare_any (unhide HO10') (unhide HO11)).mono ?_
        rintro e w12 ⟨rfl, n1, rfl⟩
        rw [cmpL_refl]
        have HB12 := hide ((unhide HB11).trans ((Below.drewN w11 n1).mono (unhide HB11).size))
        generalize w11.drewN n1 = w12 at *
        have z16 := (unhide HX16 _ (unhide HB12)).cell
        clear y16 HB11 HO11 HO10'
        go_wp2_with fail
        refine (clique_any (unhide HG16 _ (unhide HB12)) (by rw [unhide HJL]; omega) (unhide HJR).w64 (unhide HLW _ (unhide HB12))).mono ?_
        rintro e w13 ⟨rfl, hb13⟩
        have HB13 := hide ((unhide HB12).trans (hb13.mono (unhide HB12).size))
        have y16 := (unhide HX16 _ (unhide HB13)).cell
        clear hb13 z16 HB12
        go_wp2_with fail
        refine (refClique_any (unhide HOMW _ (unhide HB13)) (unhide HOK').1 (unhide HLW _ (unhide HB13))).mono ?_
        rintro e w14 ⟨rfl, n2, rfl⟩
        rw [(unhide HOK').2]
        generalize clqB J L = cq at *
        have hcc : (cq == cq) = true := by simp
        have HB14 := hide ((unhide HB13).trans ((Below.drewN w13 n2).mono (unhide HB13).size))
        generalize w13.drewN n2 = w14 at *
        have z16 := (unhide HX16 _ (unhide HB14)).cell
        clear y16 HB13
        go_wp2_with fail
        refine (parts_any (unhide HG16 _ (unhide HB14)) (unhide HJR) (unhide HTW _ (unhide HB14))).mono ?_
        rintro e w15 ⟨vp, rfl, ho15, hb15⟩
        have htp := ho15.tups
        obtain ⟨ap, cp, rfl, _, _⟩ := htp.form
        have HTP := hide htp
        have HB15 := hide ((unhide HB14).trans (hb15.mono (unhide HB14).size))
        clear hb15 ho15 htp z16 HB14
        go_wp2_with fail
        refine (refParts_any (unhide HOMW _ (unhide HB15)) (unhide HOK').1 (by rw [unhide HN5]; omega)).mono ?_
        rintro e w16 ⟨vq, rfl, ho16, hb16⟩
        rw [(unhide HOK').2] at ho16
        have htq := ho16.tups
        obtain ⟨aq, cq2, rfl, _, _⟩ := htq.form
        have HTQ := hide htq
        have HTP2 := hide ((unhide HTP).below hb16)
        have HB16 := hide ((unhide HB15).trans (hb16.mono (unhide HB15).size))
        clear hb16 ho16 htq HB15 HTP
        go_wp2_with fail
        refine (same_any (unhide HTP2) (unhide HTQ)).mono ?_
        rintro e w17 ⟨rfl, n3, rfl⟩
        have hdd : decide (partsL J = partsL J) = true := by simp
        rw [hdd]
        have HB17 := hide (unhide HBW _ ((unhide HB16).trans ((Below.drewN w16 n3).mono (unhide HB16).size)))
        clear HB16
        go_wp2
        go_ret
        exact ⟨rfl, unhide HB17⟩

set_option maxRecDepth 100000 in
theorem lifted (os : Os) (started : os.Started) (H : Type) (enc : TypeId × Value → H) :
    ReturnsInHanded {} Tryd.checked os 4 .any (fun w args => (Rows.graphTellsSpec.pre enc Tryd.prog Tryd.f4 [] false w args ∧ laidMetH Tryd.prog laidIn w) ∧ sizedMet enc Tryd.prog Tryd.f4 (OpenSpec.ofChange Rows.graphTellsSpec) false w args)
      (Rows.graphTellsSpec.post enc Tryd.prog Tryd.f4 false true false false) := by
  refine returnsInHanded_of_change_and (C := Tryd.checked) (X := fun w _ => laidMetH Tryd.prog laidIn w) (fun _ _ _ hh h => h.of_heap hh) own started (by kernel_rfl) Tryd.func4
    (ChangeSpec.witness_shaped (enc := enc) (C := Tryd.checked) (os := os) (X := fun w _ => laidMetH Tryd.prog laidIn w) false (World.doorLaid Tryd.prog doorN os) #[.int .i64 0, .slice none 0 0, .int .i64 0, .int .i64 0, .slice none 0 0] 8 rfl (World.shaped_of_RefB (by kernel_rfl) (by kernel_rfl)) (by kernel_rfl) (by kernel_rfl) (by kernel_rfl) (door_met os _)) ?_
  intro W base args ds gs before hval0 hW _ _ hL _
  have hval : ∀ (j : Nat) t v, Tryd.f4.params[j]? = some t → args[j]? = some v → Value.okWide Tryd.prog W .any base t v := hval0
  have hW' := hW
  obtain ⟨p, q, hA0, hV, rfl, hfz, hnd⟩ := hW
  have hA : DataW.TrodAll enc Tryd.prog W 0 (fun _ => true) true Tryd.f4.params.toList args.toList ds p := hA0
  rw [Tryd.params4] at hA hval
  obtain ⟨v0, vs0, d0, ds0, p0, q0, hargs, rfl, rfl, h0, r0⟩ := trodAll_cons hA
  obtain ⟨v1, vs1, d1, ds1, p1, q1, rfl, rfl, rfl, h1, r1⟩ := trodAll_cons r0
  obtain ⟨v2, vs2, d2, ds2, p2, q2, rfl, rfl, rfl, h2, r2⟩ := trodAll_cons r1
  obtain ⟨v3, vs3, d3, ds3, p3, q3, rfl, rfl, rfl, h3, r3⟩ := trodAll_cons r2
  obtain ⟨v4, vs4, d4, ds4, p4, q4, rfl, rfl, rfl, h4, r4⟩ := trodAll_cons r3
  obtain ⟨rfl, rfl, rfl⟩ := trodAll_nil r4
  obtain rfl : args = #[v0, v1, v2, v3, v4] := by cases args; simp_all
  obtain ⟨rfl, rfl⟩ := trodVars_none hV
  obtain ⟨l0, i0, m0⟩ := read_int h0 (hval 0 3 v0 rfl rfl)
  have lt0 : ∀ x ∈ p0, x.block < W.heap.size := by obtain ⟨m, hm⟩ := h0; exact DataW.trod_lt m _ _ _ hm
  obtain ⟨l1, i1, m1⟩ := read_tups h1 (okWide_slice Tryd.underlying33 (hval 1 33 v1 rfl rfl))
  have lt1 : ∀ x ∈ p1, x.block < W.heap.size := by obtain ⟨m, hm⟩ := h1; exact DataW.trod_lt m _ _ _ hm
  obtain ⟨l2, i2, m2⟩ := read_int h2 (hval 2 3 v2 rfl rfl)
  have lt2 : ∀ x ∈ p2, x.block < W.heap.size := by obtain ⟨m, hm⟩ := h2; exact DataW.trod_lt m _ _ _ hm
  obtain ⟨l3, i3, m3⟩ := read_int h3 (hval 3 3 v3 rfl rfl)
  have lt3 : ∀ x ∈ p3, x.block < W.heap.size := by obtain ⟨m, hm⟩ := h3; exact DataW.trod_lt m _ _ _ hm
  obtain ⟨l4, i4, m4⟩ := read_ints h4 (okWide_slice Tryd.underlying34 (hval 4 34 v4 rfl rfl))
  have lt4 : ∀ x ∈ p4, x.block < W.heap.size := by obtain ⟨m, hm⟩ := h4; exact DataW.trod_lt m _ _ _ hm
  clear hA0 hval0
  refine (walk (tabs_of hL) i0 m0 i1 m1 i2 m2 i3 m3 i4 m4).mono fun e W' ⟨he, bel⟩ => ?_
  subst he
  exact ⟨_, rfl, _, _, _, [], _, [], hW', trodAll_mk1 (shut_bool Tryd.underlying4 _), (trodAll_cons_mk (Below.trod laidOut (by kernel_rfl) (of_decide_eq_true (by kernel_rfl)) h0 bel lt0) (trodAll_cons_mk (Below.trod laidOut (by kernel_rfl) (of_decide_eq_true (by kernel_rfl)) h1 bel lt1) (trodAll_cons_mk (Below.trod laidOut (by kernel_rfl) (of_decide_eq_true (by kernel_rfl)) h2 bel lt2) (trodAll_cons_mk (Below.trod laidOut (by kernel_rfl) (of_decide_eq_true (by kernel_rfl)) h3 bel lt3) (trodAll_cons_mk (Below.trod laidOut (by kernel_rfl) (of_decide_eq_true (by kernel_rfl)) h4 bel lt4) trodAll_mk0))))), rfl, bel.frame _, fun h => by cases h⟩

theorem over : Rows.graphTellsRow.holds Tryd.pinned (OpenSpec.ofChange Rows.graphTellsSpec) :=
  OpenClaim.holds_of_wide 4 Tryd.f4 rfl rfl rfl rfl rfl rfl rfl ⟨rfl, rfl, rfl, rfl, rfl⟩ rfl rfl rfl rfl rfl (by kernel_rfl) Tryd.func4 (by kernel_rfl)
    (of_decide_eq_true (by kernel_rfl)) (by unfold Func.isWrapper; first | (rw [if_pos (by decide +kernel)]; kernel_rfl) | (rw [if_neg (by decide +kernel)]; exact ⟨rfl, rfl⟩))
    (fun os started H enc _ => lifted os started H enc)

/-- The statement: the tied card. -/
theorem proved : Rows.GraphTellsCardSaid :=
  Claim7.holds_tied_plain_at .later [] [.data] true (true, "157dde362406d82824f5618f866d1cc9b7096a3b3657dcbd1ee63959cb86c8c6") false
    over (fun _ h => by cases h) (by kernel_rfl) (fun _ h => by cases h) graphTells_row_tie rfl ⟨rfl, rfl⟩ (by kernel_rfl) rfl
    (fun f fn hf hfn => by
      obtain rfl : f = 4 := Option.some.inj ((show Tryd.prog.funcNamed "arborist/arboristlaw08.GraphTells" = some 4 by kernel_rfl).symm.trans hf) |>.symm
      obtain rfl : fn = Tryd.f4 := (Option.some.inj (Tryd.func4.symm.trans hfn)).symm
      exact ⟨by kernel_rfl, fun j t ht => by
        rw [Tryd.params4] at ht
        have hm : t ∈ [3, 33, 3, 3, 34] := by simpa using Array.mem_of_getElem? ht
        have hall : ([3, 33, 3, 3, 34].all fun u => !Tryd.prog.wantsStandIn u) = true := by kernel_rfl
        exact (show Tryd.prog.wantsStandIn t = false by simpa using List.all_eq_true.1 hall t hm)⟩)
    (by kernel_rfl)

end Go.Proofs.YtmhaaogjldnceaaDoor.graphTells
