/-
  The contract of the document's soft (layer 6): may a soft constraint be?
-/
import Derived.Test.YtflibcfecnhjgaaRefHard6
namespace Go.Proofs.Ytflibcfecnhjgaa
open Go.RowKit
set_option linter.unusedVariables false
set_option linter.unusedSimpArgs false
set_option maxRecDepth 20000

/-- What a right soft constraint is. -/
structure SoftP (doms : List (List Int)) (c : Sft) : Prop where
  scope : scopeB doms.length c.scope = true
  len : c.costs.length = c.rows.length
  dlo : -1000000000000 ≤ c.dflt
  dhi : c.dflt ≤ 1000000000000
  costs : ∀ i, i < c.costs.length → -1000000000000 ≤ c.costs.getD i 0 ∧ c.costs.getD i 0 ≤ 1000000000000
  rows : rowsB doms c.scope c.rows = true

set_option maxHeartbeats 4000000 in
theorem soft6_any {doms : List (List Int)} {c : Sft} {a0 a1 a2 : Option Addr} {c0 c1 c2 n1 n2 : Nat} {v : Value} {w : World} (hd : Tups w (.slice a0 doms.length c0) doms) (hc : SftV w v c) :
    Calls Try.prog 34 #[.agg #[.slice a0 doms.length c0, .slice a1 n1 c1, .slice a2 n2 c2], v] w fun e w' => Asks e (SoftP doms c) ∧ Below w.heap.size w w' := by
  obtain ⟨s, ll, co, df⟩ := c
  obtain ⟨vs, vr, va, rfl, h1, h2, h3⟩ := hc
  simp only [] at h1 h2 h3 ⊢
  obtain ⟨a3, c3, rfl, hl3, hc3⟩ := h1.form
  obtain ⟨a4, c4, rfl, hl4, hc4⟩ := h2.form
  obtain ⟨a5, c5, rfl, hl5, hc5⟩ := h3.form
  unfold maxLen at hc3 hc4 hc5
  have hb0 := ((Below.refl w.heap.size w).alloc (Nat.le_refl _) (.cells #[.slice a0 doms.length c0, .slice a1 n1 c1, .slice a2 n2 c2] 26)).alloc (by simp) (.cells #[.slice a3 s.length c3, .slice a4 ll.length c4, .slice a5 co.length c5, .int .i64 df] 43)
  obtain ⟨W1, hW1⟩ : ∃ W, W = (w.alloc (.cells #[.slice a0 doms.length c0, .slice a1 n1 c1, .slice a2 n2 c2] 26)).alloc (.cells #[.slice a3 s.length c3, .slice a4 ll.length c4, .slice a5 co.length c5, .int .i64 df] 43) := ⟨_, rfl⟩
  have x0 : W1.heap[w.heap.size]? = some (.cells #[.slice a0 doms.length c0, .slice a1 n1 c1, .slice a2 n2 c2] 26) := by
    rw [hW1]; simp only [alloc_at, World.size_alloc]; repeat (first | rw [if_pos True.intro] | rw [if_pos rfl] | rw [if_neg (by omega)])
  have x1 : W1.heap[w.heap.size + 1]? = some (.cells #[.slice a3 s.length c3, .slice a4 ll.length c4, .slice a5 co.length c5, .int .i64 df] 43) := by
    rw [hW1]; simp only [alloc_at, World.size_alloc]; repeat (first | rw [if_pos True.intro] | rw [if_pos rfl] | rw [if_neg (by omega)])
  have hs1 : W1.heap.size = w.heap.size + 2 := by rw [hW1]; simp
  rw [← hW1] at hb0
  have HC := hide (fun W (hb : Below W1.heap.size W1 W) =>
    have e0 : W.heap[w.heap.size]? = some (.cells #[.slice a0 doms.length c0, .slice a1 n1 c1, .slice a2 n2 c2] 26) := by rw [hb.block _ (by omega)]; exact x0
    have e1 : W.heap[w.heap.size + 1]? = some (.cells #[.slice a3 s.length c3, .slice a4 ll.length c4, .slice a5 co.length c5, .int .i64 df] 43) := by rw [hb.block _ (by omega)]; exact x1
    (show (W.cell? ⟨w.heap.size, 0, none⟩ = some (.slice a0 doms.length c0) ∧ W.cell? ⟨w.heap.size, 1, none⟩ = some (.slice a1 n1 c1) ∧ W.cell? ⟨w.heap.size, 2, none⟩ = some (.slice a2 n2 c2)) ∧ W.cell? ⟨w.heap.size + 1, 0, none⟩ = some (.slice a3 s.length c3) ∧ W.cell? ⟨w.heap.size + 1, 1, none⟩ = some (.slice a4 ll.length c4) ∧ W.cell? ⟨w.heap.size + 1, 2, none⟩ = some (.slice a5 co.length c5) ∧ W.cell? ⟨w.heap.size + 1, 3, none⟩ = some (.int .i64 df) from by
      refine ⟨⟨?_, ?_, ?_⟩, ?_, ?_, ?_, ?_⟩ <;> (unfold World.cell?; first | (rw [e0]; rfl) | (rw [e1]; rfl))))
  have HSC := hide (scope6_any (nd := doms.length) (a0 := a0) (a1 := a1) (a2 := a2) (c0 := c0) (c1 := c1) (c2 := c2) (n1 := n1) (n2 := n2) (h1.below hb0))
  have HRW := hide (fun W (hb : Below W1.heap.size W1 W) (hin : ∀ x ∈ s, 0 ≤ x ∧ x < (doms.length : Int)) => rows6_any (a1 := a1) (a2 := a2) (c1 := c1) (c2 := c2) (n1 := n1) (n2 := n2) ((hd.below hb0).below hb) ((h1.below hb0).below hb) ((h2.below hb0).below hb) hin)
  have HAR := hide (fun W (hb : Below W1.heap.size W1 W) => (h3.below hb0).below hb)
  have HB := hide hb0
  have HW1 := hide hW1
  have HP : Hid (∀ b : Bool, (b = true ↔ SoftP doms ⟨s, ll, co, df⟩) → Asks (.returned (.bool b)) (SoftP doms ⟨s, ll, co, df⟩)) := hide (fun b h => ⟨b, rfl, h⟩)
  have HPN := hide (fun (h : ¬ SoftP doms ⟨s, ll, co, df⟩) => unhide HP false ⟨fun h' => Bool.noConfusion h', fun h' => (h h').elim⟩)
  clear hd h1 h2 h3 hb0 x0 x1 hs1 hW1
  go_enter Try.func34, Try.ntmps34
  obtain ⟨⟨y0, y1, y2⟩, y3, y4, y5, y6⟩ := unhide HC W1 (Below.refl _ _)
  go_wp2_with fail
  rw [← unhide HW1]
  refine (unhide HSC).mono ?_
  rintro e w2 ⟨rfl, hb2⟩
  clear y0 y1 y2 y3 y4 y5 y6 HSC HW1
  obtain ⟨⟨y0, y1, y2⟩, y3, y4, y5, y6⟩ := unhide HC w2 hb2
  have HB2 := hide ((unhide HB).trans (hb2.mono (unhide HB).size))
  cases hs : scopeB doms.length s with
  | false =>
    have HF := hide (unhide HPN (fun h => by have := h.scope; simp only [] at this; rw [hs] at this; cases this))
    clear hs HP HPN HRW HAR hb2 HC
    go_wp2
    go_ret
    exact ⟨unhide HF, unhide HB2⟩
  | true =>
    obtain ⟨hin, hsl1, hsl6, _⟩ := scopeB_in hs
    have HIN := hide hin
    have HS := hide hs
    clear hs hin
    by_cases hl : co.length = ll.length
    · have d1 : ((co.length : Int) != (ll.length : Int)) = false := by rw [bne_eq_false_iff_eq]; omega
      by_cases k1 : df < -1000000000000
      · have HF := hide (unhide HPN (fun h => by have := h.dlo; simp only [] at this; omega))
        have d2 : decide (df < -1000000000000) = true := by simpa using k1
        clear HP HPN HRW HAR hb2 HC k1 hl
        go_wp2
        go_ret
        exact ⟨unhide HF, unhide HB2⟩
      · have d2 : decide (df < -1000000000000) = false := by simpa using k1
        by_cases k2 : 1000000000000 < df
        · have HF := hide (unhide HPN (fun h => by have := h.dhi; simp only [] at this; omega))
          have d3 : decide (1000000000000 < df) = true := by simpa using k2
          clear HP HPN HRW HAR hb2 HC k1 k2 hl
          go_wp2
          go_ret
          exact ⟨unhide HF, unhide HB2⟩
        · have d3 : decide (1000000000000 < df) = false := by simpa using k2
          have hia := unhide HAR w2 hb2
          have HIA := hide hia
          have HRX := hide (unhide HRW w2 hb2 (unhide HIN))
          have HL := hide hl
          have HD : Hid (-1000000000000 ≤ df ∧ df ≤ 1000000000000) := hide (by omega)
          clear HRW HAR hb2 HC k1 k2 hl hia
          go_wp2
          go_loop [6] (fun i => ∃ k : Nat, k ≤ co.length ∧ i = .int .i64 k ∧ Hid (∀ j, j < k → -1000000000000 ≤ co.getD j 0 ∧ co.getD j 0 ≤ 1000000000000)) (fun i => co.length - (intOf i).toNat)
          case atStart => exact ⟨0, by omega, rfl, hide (fun j h => by omega)⟩
          case round =>
            obtain ⟨k, hk, rfl, HM⟩ := hrel
            by_cases hkl : k < co.length
            · obtain ⟨b3, o3, e3, q3⟩ := (unhide HIA).at hkl
              subst e3
              have hEk : Hid (co.getD k 0 = co[k]) := hide (by simp [List.getD_eq_getElem?_getD, hkl])
              generalize co[k] = x at *
              by_cases g1 : x < -1000000000000
              · have d4 : decide (x < -1000000000000) = true := by simpa using g1
                have HF := hide (unhide HPN (fun h => by have := (h.costs k hkl).1; simp only [] at this; rw [unhide hEk] at this; omega))
                clear HP HPN HIA HM HRX g1
                go_wp2
                go_ret
                exact ⟨unhide HF, unhide HB2⟩
              · have d4 : decide (x < -1000000000000) = false := by simpa using g1
                by_cases g2 : 1000000000000 < x
                · have d5 : decide (1000000000000 < x) = true := by simpa using g2
                  have HF := hide (unhide HPN (fun h => by have := (h.costs k hkl).2; simp only [] at this; rw [unhide hEk] at this; omega))
                  clear HP HPN HIA HM HRX g1 g2
                  go_wp2
                  go_ret
                  exact ⟨unhide HF, unhide HB2⟩
                · have d5 : decide (1000000000000 < x) = false := by simpa using g2
                  have HM2 : Hid (∀ j, j < k + 1 → -1000000000000 ≤ co.getD j 0 ∧ co.getD j 0 ≤ 1000000000000) := hide (fun j hj => by
                    rcases Nat.lt_or_ge j k with h1 | h1
                    · exact unhide HM j h1
                    · obtain rfl : j = k := by omega
                      rw [unhide hEk]; omega)
                  clear HP HPN HIA HM HRX g1 g2
                  go_wp2
                  go_round
                  case rel => exact ⟨k + 1, by omega, by go_num, HM2⟩
                  case measure => simp [intOf]; omega
            · have HPP := hide (fun (b : Bool) (hb : rowsB doms s ll = b) => unhide HP b ⟨fun h => ⟨unhide HS, unhide HL, (unhide HD).1, (unhide HD).2, fun j hj => unhide HM j (Nat.lt_of_lt_of_le hj (show co.length ≤ k by omega)), hb.trans h⟩, fun h => hb.symm.trans h.rows⟩)
              cases hb : rowsB doms s ll with
              | _ =>
                rw [hb] at HRX
                have HPR := hide (unhide HPP _ hb)
                clear hb HP HPP HPN HIA HM
                go_wp2_with fail
                refine (unhide HRX).mono ?_
                rintro e w3 ⟨rfl, hb3⟩
                have HB3 := hide ((unhide HB2).trans (hb3.mono (unhide HB2).size))
                clear hb3
                go_wp2
                go_ret
                exact ⟨unhide HPR, unhide HB3⟩
    · have d1 : ((co.length : Int) != (ll.length : Int)) = true := by rw [bne_iff_ne]; omega
      have HF := hide (unhide HPN (fun h => hl h.len))
      clear HP HPN HRW HAR hb2 HC hl
      go_wp2
      go_ret
      exact ⟨unhide HF, unhide HB2⟩

end Go.Proofs.Ytflibcfecnhjgaa
