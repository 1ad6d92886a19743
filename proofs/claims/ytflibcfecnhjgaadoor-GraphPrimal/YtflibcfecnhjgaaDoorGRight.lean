/-
  The contract of Right.
-/
import Derived.Test.YtflibcfecnhjgaaDoorGNbr
import Derived.Test.YtflibcfecnhjgaaDoorGClq
namespace Go.Proofs.YtflibcfecnhjgaaDoor
open Go.RowKit
set_option linter.unusedVariables false
set_option linter.unusedSimpArgs false
set_option maxRecDepth 20000

/-- What Right asks of a point. -/
def ptS (g : List Nat) (a : Nat) : Bool := (andNot64 (g.getD a 0) (bitsN g.length (ptsL g.length)) == 0) && (!besI g a a && (nbL g a).all fun b => besI g b a)
def rightGS (g : List Nat) : Bool := decide (g.length ≤ 40) && (List.range g.length).all (ptS g)

theorem rightGS_iff {g : List Nat} (hw : W64 g) : rightGS g = true ↔ RightG g := by
  unfold rightGS
  rw [Bool.and_eq_true, decide_eq_true_eq, List.all_eq_true]
  have hbes : ∀ a b : Nat, besI g (a : Int) (b : Int) = (decide (a < g.length) && (decide (b < g.length) && besB g a b)) := fun a b => by
    rw [besI_eq, ptB_nat, ptB_nat]; simp
  constructor
  · rintro ⟨h1, h2⟩
    have hn : g.length ≤ 64 := by omega
    have hp : ∀ a, a < g.length → (∀ i, besB g a i = true → i < g.length) ∧ besB g a a = false ∧ ∀ b, b < g.length → besB g a b = true → besB g b a = true := by
      intro a ha
      have h3 := h2 a (List.mem_range.2 ha)
      unfold ptS at h3
      rw [Bool.and_eq_true, Bool.and_eq_true, Bool.not_eq_true', List.all_eq_true] at h3
      obtain ⟨h4, h5, h6⟩ := h3
      refine ⟨fun i hi => ?_, ?_, fun b hb hab => ?_⟩
      · have h7 := (zero_iff_test _).1 h4 i
        rw [andNot64_test (getD_lt hw _) (bitsN_lt hn _), bitsN_test] at h7
        have h8 : (g.getD a 0).testBit i = true := hi
        rw [h8] at h7
        simp at h7
        exact h7.1
      · rw [hbes] at h5
        simpa [ha] using h5
      · have h9 := h6 (b : Int) (mem_nbL.2 ⟨by rw [ptB_nat]; simpa using ha, b, hb, by simpa using hab, rfl⟩)
        rw [hbes] at h9
        simp at h9
        exact h9.2.2
    refine ⟨h1, hw, fun a b hab => (hp a (besB_lt hab)).1 b hab, fun a => ?_, fun a b hab => (hp a (besB_lt hab)).2.2 b ((hp a (besB_lt hab)).1 b hab) hab⟩
    cases h : besB g a a with
    | false => rfl
    | true => rw [(hp a (besB_lt h)).2.1] at h; cases h
  · intro h
    have hn : g.length ≤ 64 := by have := h.few; omega
    refine ⟨h.few, fun a ha => ?_⟩
    have ha := List.mem_range.1 ha
    unfold ptS
    rw [Bool.and_eq_true, Bool.and_eq_true, Bool.not_eq_true', List.all_eq_true]
    refine ⟨(zero_iff_test _).2 (fun i => ?_), ?_, fun b hb => ?_⟩
    · rw [andNot64_test (getD_lt hw _) (bitsN_lt hn _), bitsN_test]
      cases hi : (g.getD a 0).testBit i with
      | false => rfl
      | true =>
        have h1 := h.pts a i hi
        have : (i : Int) ∈ ptsL g.length := mem_ptsL.2 (by rw [ptB_nat]; simpa using h1)
        simp [h1, this]
    · rw [hbes, h.irr]; simp
    · obtain ⟨_, k, h1, h2, rfl⟩ := mem_nbL.1 hb
      have h2 : besB g a k = true := by simpa using h2
      rw [hbes, h.sym _ _ h2]
      simp [h1, ha]

theorem drop_range {n k : Nat} (h : k < n) (p : Nat → Bool) : ((List.range n).drop k).all p = (p k && ((List.range n).drop (k + 1)).all p) := by
  rw [List.drop_eq_getElem_cons (by simpa using h)]
  simp

set_option maxHeartbeats 4000000 in
theorem rightG_any {g : List Nat} {x : Value} {w : World} (hg : Words w x g) (hn : g.length ≤ 64) (hw : W64 g) (hT : TabD w) :
    Calls Tryd.prog 15 #[.agg #[x]] w fun e w' => e = .returned (.bool (rightGS g)) ∧ Below w.heap.size w w' := by
  obtain ⟨W1, hW1, hb1, hz1, hx1⟩ := boxed (w := w) (x := x)
  have HG := hide (fun W (hb : Below W1.heap.size W1 W) => ((hg.below hb1).below hb))
  have HT := hide (fun W (hb : Below W1.heap.size W1 W) => ((hT.below hb1).below hb))
  have HC := hide (fun W (hb : Below W1.heap.size W1 W) => (hx1.below hb (by omega)).cell)
  have HB := hide hb1
  have HW1 := hide hW1
  obtain ⟨ax, cx, rfl, hlx, hcx⟩ := hg.form
  unfold maxLen at hcx
  clear hb1 hx1 hg hW1 hT
  have y0 := unhide HC W1 (Below.refl _ _)
  by_cases h40 : g.length ≤ 40
  · obtain ⟨q, hq⟩ : ∃ q, q = rightGS g := ⟨_, rfl⟩
    rw [← hq]
    unfold rightGS at hq
    rw [decide_eq_true h40, Bool.true_and] at hq
    have HQ := hide hq
    clear hq
    have HPT := hide (points_any (unhide HG W1.drew drewB) hn)
    go_enter Tryd.func15, Tryd.ntmps15
    go_wp2_with fail
    rw [← unhide HW1]
    go_wp2
    have hbR : Below W1.heap.size W1 W1.drew := drewB
    go_region_held3 (fun W => W.cell? ⟨w.heap.size, 0, none⟩ = some (.slice ax g.length cx))
      (first | exact unhide HC _ (by first | exact hB4 | exact hB3 | exact hbR | exact below_same rfl rfl rfl rfl))
      (first
        | (go_at_call 40; refine (bitsOf_any (unhide HG _ hB3) hn (Seq.of_own hown3)).mono ?_; rintro e w4 ⟨rfl, hb4⟩; have hB4 : Below W1.heap.size W1 w4 := below_then hB3 hb4)
        | (go_at_call 41; refine (points_any (unhide HG _ (by first | exact hbR | exact below_same rfl rfl rfl rfl)) hn).mono ?_; rintro e w3 ⟨vp, rfl, hown3, hb3⟩; have hB3 : Below W1.heap.size W1 w3 := below_then (by first | exact hbR | exact below_same rfl rfl rfl rfl) hb3))
    all_goals
      have hA := bitsN_lt hn (ptsL g.length)
      have hfold : ∀ k, ptS g k = ((andNot64 (g.getD k 0) (bitsN g.length (ptsL g.length)) == 0) && (!besI g k k && (nbL g k).all fun b => besI g b k)) := fun k => rfl
      generalize bitsN g.length (ptsL g.length) = A at *
      have HF := hide hfold
      have HB4 := hide hB4
      have y4 := unhide HC _ hB4
      clear hfold hB4 hB3 hbR y0 HPT
      go_wp2
      go_loopw [19] (fun i wr => ∃ k : Nat, k ≤ g.length ∧ i = .int .i64 k ∧ Hid (q = ((List.range g.length).drop k).all (ptS g)) ∧ Below W1.heap.size W1 wr) (fun i wr => g.length - (intOf i).toNat)
      case atStart => exact ⟨0, by omega, rfl, HQ, unhide HB4⟩
      case round =>
        clear HQ y4
        obtain ⟨k, hk, rfl, HQ, hbel⟩ := hrel
        rename World => wr
        have hzr := hbel.size
        have y0 := unhide HC wr hbel
        by_cases hkl : k < g.length
        · obtain ⟨bg, og, e1, q2⟩ := (unhide HG wr hbel).at hkl
          subst e1
          rw [getD_at hkl] at q2
          have hx0 := getD_lt hw k
          have hq := unhide HQ
          rw [drop_range hkl, unhide HF k] at hq
          have HV : Hid (bits .andNot .u64 ((g.getD k 0 : Nat) : Int) (A : Int) = ((andNot64 (g.getD k 0) A : Nat) : Int)) := hide (u64_andNot_nat _ _ hx0 hA)
          have HBS := hide (fun W (a b : Int) (hb : Below W1.heap.size W1 W) => beside_any (a := a) (b := b) (unhide HG W hb) hn hw)
          have HNB := hide (fun W (hb : Below W1.heap.size W1 W) => neighbors_any (a := (k : Int)) (unhide HG W hb) hn hw (unhide HT W hb))
          obtain ⟨r, hr⟩ : ∃ r, r = ((List.range g.length).drop (k + 1)).all (ptS g) := ⟨_, rfl⟩
          rw [← hr] at hq
          have HR := hide hr
          generalize andNot64 (g.getD k 0) A = z at *
          generalize g.getD k 0 = x0 at *
          clear hr HQ hx0
          by_cases hz : z = 0
          · have hne : (bits .andNot .u64 (x0 : Int) (A : Int) != 0) = false := by rw [unhide HV, hz]; rfl
            have hq : q = ((!besI g k k && (nbL g k).all fun b => besI g b k) && r) := by rw [hq, hz]; simp
            clear hz
            have HS := hide (unhide HBS wr (k : Int) (k : Int) hbel)
            cases hs : besI g (k : Int) (k : Int) with
            | true =>
              rw [hs] at HS hq
              have HQ2 : Hid (q = false) := hide (by rw [hq]; rfl)
              clear hq
              go_wp2_with fail
              refine (unhide HS).mono ?_
              rintro e w5 ⟨rfl, hb5⟩
              have HB5 := hide (hbel.trans (hb5.mono hzr))
              clear hb5
              go_wp2
              go_ret
              exact ⟨ret_bool (unhide HQ2).symm, (unhide HB).trans ((unhide HB5).mono (by omega))⟩
            | false =>
              rw [hs] at HS hq
              have HQ2 : Hid (q = ((nbL g k).all (fun b => besI g b k) && r)) := hide (by rw [hq]; simp)
              clear hq
              go_wp2_with fail
              refine (unhide HS).mono ?_
              rintro e w5 ⟨rfl, hb5⟩
              have hB5 := hbel.trans (hb5.mono hzr)
              have y5 := unhide HC _ hB5
              have HN5 := hide (unhide HNB _ hB5)
              have HB5 := hide hB5
              have hz5 := hB5.size
              clear hb5 hB5
              go_wp2_with fail
              refine (unhide HN5).mono ?_
              rintro e w6 ⟨vn, rfl, hown6, hb6⟩
              have hB6 := (unhide HB5).trans (hb6.mono hz5)
              have hsq := Seq.of_own hown6
              obtain ⟨an, cn, rfl, hln, hcn⟩ := hsq.form
              unfold maxLen at hcn
              have HSQ := hide (fun W (hb : Below w6.heap.size w6 W) => hsq.below hb)
              have y6 := unhide HC _ hB6
              have HB6 := hide hB6
              have hz6 := hB6.size
              generalize nbL g (k : Int) = N at *
              clear hb6 hB6 hsq hown6 HN5 HNB
              go_wp2
              go_loopw [38] (fun i wq => ∃ j : Nat, j ≤ N.length ∧ i = .int .i64 j ∧ Hid (q = ((N.drop j).all (fun b => besI g b k) && r)) ∧ Below w6.heap.size w6 wq) (fun i wq => N.length - (intOf i).toNat)
              case atStart => exact ⟨0, by omega, rfl, HQ2, Below.refl _ _⟩
              case round =>
                clear HQ2 y6 y5 y0
                obtain ⟨j, hj, rfl, HQ3, hbq⟩ := hrel
                rename World => wq
                have hzq := hbq.size
                have hBq := (unhide HB6).trans (hbq.mono hz6)
                have y7 := unhide HC _ hBq
                by_cases hjl : j < N.length
                · obtain ⟨bn, on, e2, q3⟩ := (unhide HSQ wq hbq).at hjl
                  subst e2
                  have HS2 := hide (unhide HBS wq N[j] (k : Int) hBq)
                  have hq := unhide HQ3
                  rw [List.drop_eq_getElem_cons hjl, List.all_cons] at hq
                  generalize N[j] = b at *
                  cases hs : besI g b (k : Int) with
                  | false =>
                    rw [hs] at hq HS2
                    have HQ4 : Hid (q = false) := hide (by rw [hq]; rfl)
                    clear hq HQ3
                    go_wp2_with fail
                    refine (unhide HS2).mono ?_
                    rintro e w7 ⟨rfl, hb7⟩
                    have HB7 := hide (hBq.trans (hb7.mono (by omega)))
                    clear hb7
                    go_wp2
                    go_ret
                    exact ⟨ret_bool (unhide HQ4).symm, (unhide HB).trans ((unhide HB7).mono (by omega))⟩
                  | true =>
                    rw [hs, Bool.true_and] at hq
                    rw [hs] at HS2
                    have HQ4 := hide hq
                    clear hq HQ3
                    go_wp2_with fail
                    refine (unhide HS2).mono ?_
                    rintro e w7 ⟨rfl, hb7⟩
                    have HB7 := hide (hbq.trans (hb7.mono hzq))
                    clear hb7
                    go_wp2
                    go_roundw
                    case rel => exact ⟨j + 1, by omega, by go_num, HQ4, unhide HB7⟩
                    case measure => simp [intOf]; omega
                · have HQ4 : Hid (q = r) := hide (by rw [unhide HQ3, List.drop_eq_nil_of_le (by omega)]; rfl)
                  clear HQ3
                  go_wp2
                  go_roundw
                  case rel => exact ⟨k + 1, by omega, by go_num, hide ((unhide HQ4).trans (unhide HR)), hBq⟩
                  case measure => simp [intOf]; omega
          · have hne : (bits .andNot .u64 (x0 : Int) (A : Int) != 0) = true := by rw [unhide HV]; simp; omega
            have HQ2 : Hid (q = false) := hide (by rw [hq]; simp [hz])
            clear hq
            go_wp2
            go_ret
            exact ⟨ret_bool (unhide HQ2).symm, (unhide HB).trans (hbel.mono (by omega))⟩
        · have HQ2 : Hid (q = true) := hide (by rw [unhide HQ, List.drop_eq_nil_of_le (by simp; omega)]; rfl)
          clear HQ
          go_wp2
          go_ret
          exact ⟨ret_bool (unhide HQ2).symm, (unhide HB).trans (hbel.mono (by omega))⟩
  · have e : rightGS g = false := by unfold rightGS; simp; omega
    rw [e]
    have h41 : 40 < g.length := by omega
    go_enter Tryd.func15, Tryd.ntmps15
    go_wp2_with fail
    rw [← unhide HW1]
    go_wp2
    go_ret
    exact ⟨rfl, unhide HB⟩

end Go.Proofs.YtflibcfecnhjgaaDoor
