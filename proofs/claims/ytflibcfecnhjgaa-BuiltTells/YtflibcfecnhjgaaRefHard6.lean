/-
  The contracts of the document's hard and soft (layer 6): may a constraint be?
-/
import Derived.Test.YtflibcfecnhjgaaRefRows6
import Derived.Test.YtflibcfecnhjgaaRelUnit
namespace Go.Proofs.Ytflibcfecnhjgaa
open Go.RowKit
set_option linter.unusedVariables false
set_option linter.unusedSimpArgs false
set_option maxRecDepth 20000

/-- It answers whether P. -/
def Asks (e : Ending) (P : Prop) : Prop := ∃ b : Bool, e = .returned (.bool b) ∧ (b = true ↔ P)

/-- What a right hard constraint is. -/
structure HardP (doms : List (List Int)) (c : Con) : Prop where
  scope : scopeB doms.length c.scope = true
  lo : 1 ≤ c.kind
  hi : c.kind ≤ 6
  norows : 2 < c.kind → c.rows = []
  noargs : c.kind ≠ 6 → c.args = []
  alen : c.kind = 6 → c.args.length = c.scope.length + 2
  how : c.kind = 6 → 0 ≤ c.args.getD c.scope.length 0 ∧ c.args.getD c.scope.length 0 ≤ 2
  num : c.kind = 6 → upM (c.args.getD (c.scope.length + 1) 0) 1000000 = true
  mul : c.kind = 6 → ∀ i, i < c.scope.length → c.args.getD i 0 ≠ 0 ∧ upM (c.args.getD i 0) 1000000 = true
  rows : rowsB doms c.scope c.rows = true

theorem scopeB_in {nd : Nat} {l : List Int} (h : scopeB nd l = true) : (∀ x ∈ l, 0 ≤ x ∧ x < (nd : Int)) ∧ 1 ≤ l.length ∧ l.length ≤ 6 ∧ Asc l := by
  unfold scopeB at h
  split at h
  · rename_i hl
    split at h
    · rename_i hr
      simp only [Bool.and_eq_true, decide_eq_true_eq] at h
      have ha := (risB_iff l).1 hr
      have hg0 : l.getD 0 0 = l[0]'(by omega) := by simp [List.getD_eq_getElem?_getD, show 0 < l.length by omega]
      have hg1 : l.getD (l.length - 1) 0 = l[l.length - 1]'(by omega) := by simp [List.getD_eq_getElem?_getD, show l.length - 1 < l.length by omega]
      rw [hg0, hg1] at h
      refine ⟨fun x hx => ?_, hl.1, hl.2, ha⟩
      obtain ⟨i, hi, rfl⟩ := List.getElem_of_mem hx
      have h1 : l[0]'(by omega) ≤ l[i] := by
        rcases Nat.eq_zero_or_pos i with h0 | h0
        · subst h0; exact Int.le_refl _
        · exact Int.le_of_lt (List.pairwise_iff_getElem.1 ha 0 i (by omega) hi h0)
      have h2 : l[i] ≤ l[l.length - 1]'(by omega) := by
        rcases Nat.lt_or_ge i (l.length - 1) with h0 | h0
        · exact Int.le_of_lt (List.pairwise_iff_getElem.1 ha i (l.length - 1) hi (by omega) h0)
        · have e : l[i] = l[l.length - 1]'(by omega) := by congr 1; omega
          exact Int.le_of_eq e
      omega
    · cases h
  · cases h

set_option maxHeartbeats 4000000 in
theorem hard6_any {doms : List (List Int)} {c : Con} {a0 a1 a2 : Option Addr} {c0 c1 c2 n1 n2 : Nat} {v : Value} {w : World} (hd : Tups w (.slice a0 doms.length c0) doms) (hc : ConV w v c) :
    Calls Try.prog 33 #[.agg #[.slice a0 doms.length c0, .slice a1 n1 c1, .slice a2 n2 c2], v] w fun e w' => Asks e (HardP doms c) ∧ Below w.heap.size w w' := by
  obtain ⟨kd, s, ll, ar⟩ := c
  obtain ⟨vs, vr, va, rfl, h1, h2, h3⟩ := hc
  simp only [] at h1 h2 h3 ⊢
  obtain ⟨a3, c3, rfl, hl3, hc3⟩ := h1.form
  obtain ⟨a4, c4, rfl, hl4, hc4⟩ := h2.form
  obtain ⟨a5, c5, rfl, hl5, hc5⟩ := h3.form
  unfold maxLen at hc3 hc4 hc5
  have hb0 := ((Below.refl w.heap.size w).alloc (Nat.le_refl _) (.cells #[.slice a0 doms.length c0, .slice a1 n1 c1, .slice a2 n2 c2] 26)).alloc (by simp) (.cells #[.int .i64 kd, .slice a3 s.length c3, .slice a4 ll.length c4, .slice a5 ar.length c5] 31)
  obtain ⟨W1, hW1⟩ : ∃ W, W = (w.alloc (.cells #[.slice a0 doms.length c0, .slice a1 n1 c1, .slice a2 n2 c2] 26)).alloc (.cells #[.int .i64 kd, .slice a3 s.length c3, .slice a4 ll.length c4, .slice a5 ar.length c5] 31) := ⟨_, rfl⟩
  have x0 : W1.heap[w.heap.size]? = some (.cells #[.slice a0 doms.length c0, .slice a1 n1 c1, .slice a2 n2 c2] 26) := by
    rw [hW1]; simp only [alloc_at, World.size_alloc]; repeat (first | rw [if_pos True.intro] | rw [if_pos rfl] | rw [if_neg (by omega)])
  have x1 : W1.heap[w.heap.size + 1]? = some (.cells #[.int .i64 kd, .slice a3 s.length c3, .slice a4 ll.length c4, .slice a5 ar.length c5] 31) := by
    rw [hW1]; simp only [alloc_at, World.size_alloc]; repeat (first | rw [if_pos True.intro] | rw [if_pos rfl] | rw [if_neg (by omega)])
  have hs1 : W1.heap.size = w.heap.size + 2 := by rw [hW1]; simp
  rw [← hW1] at hb0
  have HC := hide (fun W (hb : Below W1.heap.size W1 W) =>
    have e0 : W.heap[w.heap.size]? = some (.cells #[.slice a0 doms.length c0, .slice a1 n1 c1, .slice a2 n2 c2] 26) := by rw [hb.block _ (by omega)]; exact x0
    have e1 : W.heap[w.heap.size + 1]? = some (.cells #[.int .i64 kd, .slice a3 s.length c3, .slice a4 ll.length c4, .slice a5 ar.length c5] 31) := by rw [hb.block _ (by omega)]; exact x1
    (show (W.cell? ⟨w.heap.size, 0, none⟩ = some (.slice a0 doms.length c0) ∧ W.cell? ⟨w.heap.size, 1, none⟩ = some (.slice a1 n1 c1) ∧ W.cell? ⟨w.heap.size, 2, none⟩ = some (.slice a2 n2 c2)) ∧ W.cell? ⟨w.heap.size + 1, 0, none⟩ = some (.int .i64 kd) ∧ W.cell? ⟨w.heap.size + 1, 1, none⟩ = some (.slice a3 s.length c3) ∧ W.cell? ⟨w.heap.size + 1, 2, none⟩ = some (.slice a4 ll.length c4) ∧ W.cell? ⟨w.heap.size + 1, 3, none⟩ = some (.slice a5 ar.length c5) from by
      refine ⟨⟨?_, ?_, ?_⟩, ?_, ?_, ?_, ?_⟩ <;> (unfold World.cell?; first | (rw [e0]; rfl) | (rw [e1]; rfl))))
  have HSC := hide (scope6_any (nd := doms.length) (a0 := a0) (a1 := a1) (a2 := a2) (c0 := c0) (c1 := c1) (c2 := c2) (n1 := n1) (n2 := n2) (h1.below hb0))
  have HRW := hide (fun W (hb : Below W1.heap.size W1 W) (hin : ∀ x ∈ s, 0 ≤ x ∧ x < (doms.length : Int)) => rows6_any (a1 := a1) (a2 := a2) (c1 := c1) (c2 := c2) (n1 := n1) (n2 := n2) ((hd.below hb0).below hb) ((h1.below hb0).below hb) ((h2.below hb0).below hb) hin)
  have HAR := hide (fun W (hb : Below W1.heap.size W1 W) => (h3.below hb0).below hb)
  have HB := hide hb0
  have HW1 := hide hW1
  have HP : Hid (∀ b : Bool, (b = true ↔ HardP doms ⟨kd, s, ll, ar⟩) → Asks (.returned (.bool b)) (HardP doms ⟨kd, s, ll, ar⟩)) := hide (fun b h => ⟨b, rfl, h⟩)
  clear hd h1 h2 h3 hb0 x0 x1 hs1 hW1
  go_enter Try.func33, Try.ntmps33
  obtain ⟨⟨y0, y1, y2⟩, y3, y4, y5, y6⟩ := unhide HC W1 (Below.refl _ _)
  go_wp2_with fail
  rw [← unhide HW1]
  refine (unhide HSC).mono ?_
  rintro e w2 ⟨rfl, hb2⟩
  clear y0 y1 y2 y3 y4 y5 y6 HSC HW1
  obtain ⟨⟨y0, y1, y2⟩, y3, y4, y5, y6⟩ := unhide HC w2 hb2
  have HB2 := hide ((unhide HB).trans (hb2.mono (unhide HB).size))
  cases hs : scopeB doms.length s with
  | false =>
    have HF := hide (unhide HP false ⟨fun h => Bool.noConfusion h, fun h => by have := h.scope; simp only [] at this; rw [hs] at this; cases this⟩)
    clear hs HP HRW HAR hb2
    go_wp2
    go_ret
    exact ⟨unhide HF, unhide HB2⟩
  | true =>
    obtain ⟨hin, hsl1, hsl6, _⟩ := scopeB_in hs
    have HIN := hide hin
    have HS := hide hs
    clear hs hin
    by_cases k1 : kd < 1
    · have HF := hide (unhide HP false ⟨fun h => Bool.noConfusion h, fun h => by have := h.lo; simp only [] at this; omega⟩)
      have d1 : decide (kd < 1) = true := by simpa using k1
      clear HP HRW HAR hb2 k1
      go_wp2
      go_ret
      exact ⟨unhide HF, unhide HB2⟩
    · have d1 : decide (kd < 1) = false := by simpa using k1
      by_cases k6 : 6 < kd
      · have HF := hide (unhide HP false ⟨fun h => Bool.noConfusion h, fun h => by have := h.hi; simp only [] at this; omega⟩)
        have d2 : decide (6 < kd) = true := by simpa using k6
        clear HP HRW HAR hb2 k1 k6
        go_wp2
        go_ret
        exact ⟨unhide HF, unhide HB2⟩
      · have d2 : decide (6 < kd) = false := by simpa using k6
        by_cases kr : 2 < kd ∧ ll ≠ []
        · have HF := hide (unhide HP false ⟨fun h => Bool.noConfusion h, fun h => (kr.2 (h.norows kr.1)).elim⟩)
          have d3 : decide (2 < kd) = true := by simpa using kr.1
          obtain ⟨m, hm⟩ : ∃ m, ll.length = m + 1 := ⟨ll.length - 1, by have := List.length_pos_iff.2 kr.2; omega⟩
          rw [hm] at y5
          clear HP HRW HAR hb2 k1 k6 kr hm HC hl4
          go_wp2
          go_ret
          exact ⟨unhide HF, unhide HB2⟩
        · by_cases ka : kd ≠ 6 ∧ ar ≠ []
          · have HF := hide (unhide HP false ⟨fun h => Bool.noConfusion h, fun h => (ka.2 (h.noargs ka.1)).elim⟩)
            have d4 : (kd != 6) = true := by simpa using ka.1
            obtain ⟨m, hm⟩ : ∃ m, ar.length = m + 1 := ⟨ar.length - 1, by have := List.length_pos_iff.2 ka.2; omega⟩
            rw [hm] at y6
            by_cases k2 : 2 < kd
            · have d3 : decide (2 < kd) = true := by simpa using k2
              have hll : ll = [] := Decidable.byContradiction fun h => kr ⟨k2, h⟩
              subst hll
              clear HP HRW HAR hb2 k1 k6 kr hm HC ka hl5 k2
              go_wp2
              go_ret
              exact ⟨unhide HF, unhide HB2⟩
            · have d3 : decide (2 < kd) = false := by simpa using k2
              clear HP HRW HAR hb2 k1 k6 kr hm HC ka hl5 k2
              go_wp2
              go_ret
              exact ⟨unhide HF, unhide HB2⟩
          · by_cases hk : kd = 6
            · subst hk
              have hll : ll = [] := Decidable.byContradiction fun h => kr ⟨by decide, h⟩
              subst hll
              have HPN := hide (fun (h : ¬ HardP doms ⟨6, s, [], ar⟩) => unhide HP false ⟨fun h' => Bool.noConfusion h', fun h' => (h h').elim⟩)
              have hia := unhide HAR w2 hb2
              by_cases hl : ar.length = s.length + 2
              · have hg : ((ar.length : Int) != (s.length : Int) + 2) = false := by rw [bne_eq_false_iff_eq]; omega
                have hn1 : s.length < ar.length := by omega
                have hn2 : s.length + 1 < ar.length := by omega
                obtain ⟨b1, o1, e1, q1⟩ := hia.at hn1
                obtain ⟨b2, o2, e2, q2⟩ := hia.at hn2
                rw [e1] at e2
                cases e2
                subst e1
                have hE1 : Hid (ar.getD s.length 0 = ar[s.length]) := hide (by simp [List.getD_eq_getElem?_getD, hn1])
                have hE2 : Hid (ar.getD (s.length + 1) 0 = ar[s.length + 1]) := hide (by simp [List.getD_eq_getElem?_getD, hn2])
                have HSN := hide (fun W => small6_any ar[s.length + 1] W)
                generalize ar[s.length] = how at *
                generalize ar[s.length + 1] = num at *
                have HIA := hide hia
                have HL := hide hl
                clear hl hia
                by_cases g1 : how < 0
                · have d6 : decide (how < 0) = true := by simpa using g1
                  have HF := hide (unhide HPN (fun h => by have := (h.how rfl).1; simp only [] at this; rw [unhide hE1] at this; omega))
                  clear g1 HP HPN HRW HAR HIA HSN HC k1 k6 kr ka hb2
                  go_wp2
                  go_ret
                  exact ⟨unhide HF, unhide HB2⟩
                · have d6 : decide (how < 0) = false := by simpa using g1
                  by_cases g2 : 2 < how
                  · have d7 : decide (2 < how) = true := by simpa using g2
                    have HF := hide (unhide HPN (fun h => by have := (h.how rfl).2; simp only [] at this; rw [unhide hE1] at this; omega))
                    clear g1 g2 HP HPN HRW HAR HIA HSN HC k1 k6 kr ka hb2
                    go_wp2
                    go_ret
                    exact ⟨unhide HF, unhide HB2⟩
                  · have d7 : decide (2 < how) = false := by simpa using g2
                    cases hu : upM num 1000000 with
                    | false =>
                      have HF := hide (unhide HPN (fun h => by have := h.num rfl; simp only [] at this; rw [unhide hE2, hu] at this; cases this))
                      rw [hu] at HSN
                      clear g1 g2 HP HPN HRW HAR HIA HC k1 k6 kr ka hb2 hu
                      go_wp2_with (refine (unhide HSN _).mono ?_; rintro e w' ⟨rfl, rfl⟩)
                      go_ret
                      exact ⟨unhide HF, unhide HB2⟩
                    | true =>
                      rw [hu] at HSN
                      have HHW : Hid (0 ≤ how ∧ how ≤ 2) := hide (by omega)
                      have HU := hide hu
                      have HRX := hide (unhide HRW w2 hb2 (unhide HIN))
                      clear g1 g2 HRW HAR HC k1 k6 kr ka hb2 hu
                      go_wp2_with (refine (unhide HSN _).mono ?_; rintro e w' ⟨rfl, rfl⟩)
                      go_loop [7] (fun i => ∃ k : Nat, k ≤ s.length ∧ i = .int .i64 k ∧ Hid (∀ j, j < k → ar.getD j 0 ≠ 0 ∧ upM (ar.getD j 0) 1000000 = true)) (fun i => s.length - (intOf i).toNat)
                      case atStart => exact ⟨0, by omega, rfl, hide (fun j h => by omega)⟩
                      case round =>
                        obtain ⟨k, hk, rfl, HM⟩ := hrel
                        by_cases hkl : k < s.length
                        · have hka : k < ar.length := by omega
                          obtain ⟨b3, o3, e3, q3⟩ := (unhide HIA).at hka
                          cases e3
                          have hEk : Hid (ar.getD k 0 = ar[k]) := hide (by simp [List.getD_eq_getElem?_getD, hka])
                          have HSK := hide (fun W => small6_any ar[k] W)
                          generalize ar[k] = x at *
                          by_cases hx0 : x = 0
                          · subst hx0
                            have HF := hide (unhide HPN (fun h => by have := (h.mul rfl k hkl).1; simp only [] at this; rw [unhide hEk] at this; exact this rfl))
                            clear HP HPN HIA HM HRX HSK HSN
                            go_wp2
                            go_ret
                            exact ⟨unhide HF, unhide HB2⟩
                          · have d8 : (x == 0) = false := by simpa using hx0
                            cases hux : upM x 1000000 with
                            | false =>
                              have HF := hide (unhide HPN (fun h => by have := (h.mul rfl k hkl).2; simp only [] at this; rw [unhide hEk, hux] at this; cases this))
                              rw [hux] at HSK
                              clear hx0 HP HPN HIA HM HRX HSN hux
                              go_wp2_with (refine (unhide HSK _).mono ?_; rintro e w' ⟨rfl, rfl⟩)
                              go_ret
                              exact ⟨unhide HF, unhide HB2⟩
                            | true =>
                              have HM2 : Hid (∀ j, j < k + 1 → ar.getD j 0 ≠ 0 ∧ upM (ar.getD j 0) 1000000 = true) := hide (fun j hj => by
                                rcases Nat.lt_or_ge j k with h1 | h1
                                · exact unhide HM j h1
                                · obtain rfl : j = k := by omega
                                  rw [unhide hEk]
                                  exact ⟨hx0, hux⟩)
                              rw [hux] at HSK
                              clear hx0 HP HPN HIA HM HRX HSN hux
                              go_wp2_with (refine (unhide HSK _).mono ?_; rintro e w' ⟨rfl, rfl⟩)
                              go_round
                              case rel => exact ⟨k + 1, by omega, by go_num, HM2⟩
                              case measure => simp [intOf]; omega
                        · have HPP := hide (fun (b : Bool) (hb : rowsB doms s [] = b) => unhide HP b ⟨fun h => ⟨unhide HS, show (1 : Int) ≤ 6 by decide, show (6 : Int) ≤ 6 by decide, fun _ => rfl, fun h2 => absurd rfl h2, fun _ => unhide HL, fun _ => by simp only []; rw [unhide hE1]; exact unhide HHW, fun _ => by simp only []; rw [unhide hE2]; exact unhide HU, fun _ j hj => unhide HM j (Nat.lt_of_lt_of_le hj (show s.length ≤ k by omega)), hb.trans h⟩, fun h => hb.symm.trans h.rows⟩)
                          cases hb : rowsB doms s [] with
                          | _ =>
                            rw [hb] at HRX
                            have HPR := hide (unhide HPP _ hb)
                            clear hb HP HPP HPN HIA HM HSN
                            go_wp2_with fail
                            refine (unhide HRX).mono ?_
                            rintro e w3 ⟨rfl, hb3⟩
                            have HB3 := hide ((unhide HB2).trans (hb3.mono (unhide HB2).size))
                            clear hb3
                            go_wp2
                            go_ret
                            exact ⟨unhide HPR, unhide HB3⟩
              · have hg : ((ar.length : Int) != (s.length : Int) + 2) = true := by rw [bne_iff_ne]; omega
                have HF := hide (unhide HPN (fun h => hl (h.alen rfl)))
                clear HP HPN HRW HAR HC k1 k6 kr ka hb2 hl hia
                go_wp2
                go_ret
                exact ⟨unhide HF, unhide HB2⟩
            · have har : ar = [] := Decidable.byContradiction fun h => ka ⟨hk, h⟩
              subst har
              have d4 : (kd != 6) = true := by simpa using hk
              have d5 : (kd == 6) = false := by simpa using hk
              have HRX := hide (unhide HRW w2 hb2 (unhide HIN))
              have HPP := hide (fun (b : Bool) (hb : rowsB doms s ll = b) => unhide HP b ⟨fun h => ⟨unhide HS, by simp only []; omega, by simp only []; omega, fun h2 => Decidable.byContradiction fun h3 => kr ⟨h2, h3⟩, fun _ => rfl, fun h2 => absurd h2 hk, fun h2 => absurd h2 hk, fun h2 => absurd h2 hk, fun h2 => absurd h2 hk, hb.trans h⟩, fun h => hb.symm.trans h.rows⟩)
              cases hb : rowsB doms s ll with
              | _ =>
                rw [hb] at HRX
                have HPR := hide (unhide HPP _ hb)
                by_cases k2 : 2 < kd
                case' pos =>
                  have d3 : decide (2 < kd) = true := by simpa using k2
                  have hll : ll = [] := Decidable.byContradiction fun h => kr ⟨k2, h⟩
                  subst hll
                case' neg =>
                  have d3 : decide (2 < kd) = false := by simpa using k2
                all_goals
                  clear hb HP HPP HRW HAR k1 k6 kr ka hk k2 HC
                  go_wp2_with fail
                  refine (unhide HRX).mono ?_
                  rintro e w3 ⟨rfl, hb3⟩
                  have HB3 := hide ((unhide HB2).trans (hb3.mono (unhide HB2).size))
                  clear hb3
                  go_wp2
                  go_ret
                  exact ⟨unhide HPR, unhide HB3⟩

end Go.Proofs.Ytflibcfecnhjgaa
