/-
  The contract of the document's number.
-/
import Derived.Test.YtehoepliiobliaaScanRef
import Derived.Test.YtehoepliiobliaaScanTakeN
namespace Go.Proofs.Ytehoepliiobliaa
open Go.RowKit
set_option linter.unusedVariables false
set_option linter.unusedSimpArgs false
set_option maxRecDepth 20000

/-- What the document's number answers of the digits d, that begin at q. -/
def numV (q : Nat) (d : Bytes) (below : Bool) : Value :=
  match numG d below with
  | .bad e => .tuple #[.int .i64 0, .int .i64 ((q + d.length : Nat) : Int), .int .i64 e]
  | .tok _ _ n _ => .tuple #[.int .i64 n, .int .i64 ((q + d.length : Nat) : Int), .int .i64 0]

theorem run_stop (p : UInt8 → Bool) (l : Bytes) (h : headB p l = false) : l.takeWhile p = [] := by
  cases l with
  | nil => rfl
  | cons c r => rw [List.takeWhile_cons, if_neg (by simpa [headB] using h)]
theorem run_go (p : UInt8 → Bool) (c : UInt8) (r : Bytes) (h : p c = true) : (c :: r).takeWhile p = c :: r.takeWhile p := by rw [List.takeWhile_cons, if_pos h]

theorem written_zero {c : UInt8} (r : Bytes) (below : Bool) (h : c.toNat = 48) : writtenB (c :: r) below = (r.isEmpty && !below) := by simp [writtenB, h]

set_option maxHeartbeats 4000000 in
theorem refNumber_any (s : ByteArray) (p : Nat) (w : World) (hp : p < s.size) (hs : s.size ≤ 1000000) (below : Bool) (q : Nat) (hbq : (below = true ∧ s[p].toNat = 45 ∧ q = p + 1) ∨ (below = false ∧ s[p].toNat ≠ 45 ∧ q = p)) :
    Calls Try.prog 18 #[.string s, .int .i64 (p : Int)] w fun e w' => e = .returned (numV q (((lb s).drop q).takeWhile digitB) below) ∧ w' = w := by
  have hq : q ≤ s.size := by rcases hbq with h | h <;> omega
  obtain ⟨D, hD⟩ : ∃ D, D = ((lb s).drop q).takeWhile digitB := ⟨_, rfl⟩
  rw [← hD]
  obtain ⟨V, hV⟩ : ∃ V, V = valN D := ⟨_, rfl⟩
  obtain ⟨G, hG⟩ : ∃ G, G = numV q D below := ⟨_, rfl⟩
  rw [← hG]
  have hst : V = valFrom 0 (((lb s).drop q).takeWhile digitB) := by rw [hV, hD]; rfl
  have hln : D.length = (((lb s).drop q).takeWhile digitB).length := by rw [hD]
  have HV := hide hV
  have HG := hide hG
  have HST := hide hst
  have HLN := hide hln
  have HDD := hide hD
  clear hV hG hst hln hD
  rcases hbq with ⟨rfl, h45, hq1⟩ | ⟨rfl, h45, hq1⟩
  · have h45' : ((s[p].toNat : Int) == 45) = true := by simp [h45]
    have hqp : (p : Int) + 1 = (q : Int) := by omega
    clear hq1 h45
    go_enter Try.func18, Try.ntmps18
    go_wp2
    go_loop [7, 10, 11, 12] (fun ev nv ov _ => ∃ (j m : Nat) (over : Bool), j ≤ s.size ∧ q ≤ j ∧ ev = .int .i64 j ∧ nv = .int .i64 m ∧ ov = .bool over ∧ m ≤ 10000000000009 ∧ Hid ((over = false ∧ m ≤ 1000000000000 ∧ V = valFrom m (((lb s).drop j).takeWhile digitB)) ∨ (over = true ∧ 1000000000000 < m ∧ 1000000000000 < V)) ∧ Hid (D.length = (j - q) + (((lb s).drop j).takeWhile digitB).length)) (fun ev _ _ _ => s.size - (intOf ev).toNat)
    case atStart => exact ⟨q, 0, false, by omega, Nat.le_refl _, rfl, rfl, rfl, by omega, hide (.inl ⟨rfl, by omega, unhide HST⟩), hide (by rw [Nat.sub_self, Nat.zero_add]; exact unhide HLN)⟩
    case round =>
      clear HST HLN
      obtain ⟨j, m, over, hj, hqj, rfl, rfl, rfl, hm, HO, HL⟩ := hrel
      have HC := hide (refDigit_any s j w hs)
      by_cases hgo : headB digitB ((lb s).drop j) = true
      · rw [hgo] at HC
        have hlt : j < s.size := by
          rcases Nat.lt_or_ge j s.size with h | h
          · exact h
          · rw [lb_end s j h] at hgo; cases hgo
        rw [lb_drop s j hlt] at hgo
        have hdj : digitB s[j] = true := hgo
        have hL := HL.out
        rw [lb_drop s j hlt, run_go _ _ _ hdj, List.length_cons] at hL
        have HL2 : Hid (D.length = (j + 1 - q) + (((lb s).drop (j + 1)).takeWhile digitB).length) := hide (by omega)
        have hd1 : 48 ≤ (s[j].toNat : Int) ∧ (s[j].toNat : Int) ≤ 57 := by unfold digitB at hdj; simp at hdj; omega
        obtain ⟨hd2, hd3⟩ := hd1
        rcases HO.out with ⟨rfl, hmm, hV⟩ | ⟨rfl, hmm, hV⟩
        · rw [lb_drop s j hlt, run_go _ _ _ hdj, val_cons] at hV
          obtain ⟨q', hq'⟩ : ∃ q', q' = 10 * m + (s[j].toNat - 48) := ⟨_, rfl⟩
          have hmono := val_mono (((lb s).drop (j + 1)).takeWhile digitB) q'
          rw [← hq'] at hV
          have HQ : Hid ((m : Int) * 10 + ((s[j].toNat : Int) - 48) = (q' : Int)) := hide (by omega)
          have hmI : (m : Int) ≤ 1000000000000 := by omega
          have hq'' : q' ≤ 10000000000009 := by omega
          by_cases hb : q' ≤ 1000000000000
          · have HVV := hide hV
            have hdec : (m : Int) * 10 + ((s[j].toNat : Int) - 48) ≤ 1000000000000 := by rw [unhide HQ]; omega
            clear hV hmono hq' HO HL hL hdj hgo
            go_wp2_with (go_at_call 17; refine (unhide HC).mono ?_; rintro e w' ⟨rfl, rfl⟩)
            go_round
            case rel => exact ⟨j + 1, q', false, by omega, by omega, by go_num, by rw [← unhide HQ], by first | rfl | (simp; exact hdec), hq'', hide (.inl ⟨rfl, hb, unhide HVV⟩), HL2⟩
            case measure => simp [intOf]; omega
          · have HVV : Hid (1000000000000 < V) := hide (by omega)
            have hdec : 1000000000000 < (m : Int) * 10 + ((s[j].toNat : Int) - 48) := by rw [unhide HQ]; omega
            clear hV hmono hq' HO HL hL hdj hgo
            go_wp2_with (go_at_call 17; refine (unhide HC).mono ?_; rintro e w' ⟨rfl, rfl⟩)
            go_round
            case rel => exact ⟨j + 1, q', true, by omega, by omega, by go_num, by rw [← unhide HQ], by first | rfl | (simp; exact hdec), hq'', hide (.inr ⟨rfl, by omega, unhide HVV⟩), HL2⟩
            case measure => simp [intOf]; omega
        · have HVM := hide (And.intro hmm hV)
          have hmI : ¬ (m : Int) ≤ 1000000000000 := by omega
          clear hV HO HL hL hdj hgo
          go_wp2_with (go_at_call 17; refine (unhide HC).mono ?_; rintro e w' ⟨rfl, rfl⟩)
          go_round
          case rel => exact ⟨j + 1, m, true, by omega, by omega, by go_num, rfl, rfl, hm, hide (.inr ⟨rfl, (unhide HVM).1, (unhide HVM).2⟩), HL2⟩
          case measure => simp [intOf]; omega
      · rw [Bool.not_eq_true] at hgo
        rw [hgo] at HC
        have hL := HL.out
        have hO := HO.out
        rw [run_stop _ _ hgo] at hL hO
        have hjD : j = q + D.length := by simp at hL; omega
        have hO2 : (over = false ∧ m = V ∧ V ≤ 1000000000000) ∨ (over = true ∧ 1000000000000 < V) := by
          rcases hO with ⟨h1, h2, h3⟩ | ⟨h1, h2, h3⟩
          · have h4 : V = m := h3
            exact .inl ⟨h1, h4.symm, by omega⟩
          · exact .inr ⟨h1, h3⟩
        clear hL hO HO HL hgo
        have hVD := unhide HV
        have hDD := unhide HDD
        cases hDc : D with
        | nil =>
          have hb0 : ((j : Int) == (q : Int)) = true := by rw [hDc] at hjD; simp at hjD; simp; omega
          have hgn : numV q D true = .tuple #[.int .i64 0, .int .i64 (j : Int), .int .i64 2] := by unfold numV; rw [numG_no (by rw [hDc]; rfl)]; rw [← hjD]
          clear hO2 hVD hDD
          have HGG : Hid (G = .tuple #[.int .i64 0, .int .i64 (j : Int), .int .i64 2]) := hide (by rw [unhide HG]; exact hgn)
          clear HG HV HDD hgn hDc hjD
          go_wp2_with (go_at_call 17; refine (unhide HC).mono ?_; rintro e w' ⟨rfl, rfl⟩)
          refine bodyPost_ret (v := G) (by rw [unhide HGG]; simp [results, Try.results18, go_sem]) rfl ⟨rfl, rfl⟩
        | cons c r =>
          rw [hDc] at hjD hDD hVD
          have hqs : q < s.size := by simp at hjD; omega
          have hb0 : ((j : Int) == (q : Int)) = false := by simp at hjD; simp; omega
          have hc : c = s[q] := by
            rw [lb_drop s q hqs, List.takeWhile_cons] at hDD
            split at hDD
            · simp at hDD; exact hDD.1
            · cases hDD
          by_cases h48 : s[q].toNat = 48
          · have t48 : ((s[q].toNat : Int) == 48) = true := by simp [h48]
            by_cases hr : r = []
            · have hb2 : ¬ (q : Int) + 1 < (j : Int) := by rw [hr] at hjD; simp at hjD; omega
              have hgn : numV q D true = .tuple #[.int .i64 0, .int .i64 (j : Int), .int .i64 2] := by unfold numV; rw [numG_no (by rw [hDc, hr, written_zero _ _ (by rw [hc]; exact h48)]; rfl)]; rw [hDc, hr, ← hr, ← hjD]
              clear hO2 hVD hDD hc hr
              have HGG : Hid (G = .tuple #[.int .i64 0, .int .i64 (j : Int), .int .i64 2]) := hide (by rw [unhide HG]; exact hgn)
              clear HG HV HDD hgn hDc hjD h48
              go_wp2_with (go_at_call 17; refine (unhide HC).mono ?_; rintro e w' ⟨rfl, rfl⟩)
              refine bodyPost_ret (v := G) (by rw [unhide HGG]; simp [results, Try.results18, go_sem]) rfl ⟨rfl, rfl⟩
            · have hb2 : (q : Int) + 1 < (j : Int) := by have := List.length_pos_iff.2 hr; simp at hjD; omega
              have hgn : numV q D true = .tuple #[.int .i64 0, .int .i64 (j : Int), .int .i64 2] := by
                unfold numV
                rw [numG_no (by rw [hDc, written_zero _ _ (by rw [hc]; exact h48)]; cases r with
                  | nil => exact absurd rfl hr
                  | cons _ _ => rfl)]
                rw [hDc, ← hjD]
              clear hO2 hVD hDD hc hr
              have HGG : Hid (G = .tuple #[.int .i64 0, .int .i64 (j : Int), .int .i64 2]) := hide (by rw [unhide HG]; exact hgn)
              clear HG HV HDD hgn hDc hjD h48
              go_wp2_with (go_at_call 17; refine (unhide HC).mono ?_; rintro e w' ⟨rfl, rfl⟩)
              refine bodyPost_ret (v := G) (by rw [unhide HGG]; simp [results, Try.results18, go_sem]) rfl ⟨rfl, rfl⟩
          · have t48 : ((s[q].toNat : Int) == 48) = false := by simp; omega
            have hwr : writtenB D true = true := by rw [hDc]; unfold writtenB; rw [hc]; simp [h48]
            rcases hO2 with ⟨rfl, rfl, hV2⟩ | ⟨rfl, hV2⟩
            · have hgn : numV q D true = .tuple #[.int .i64 (-(m : Int)), .int .i64 (j : Int), .int .i64 0] := by unfold numV; rw [numG_yes hwr (by rw [hDc, ← hVD]; exact hV2)]; simp only []; rw [hDc, ← hVD, ← hjD]; rfl
              clear hVD hDD hc hwr
              have HGG : Hid (G = .tuple #[.int .i64 (-(m : Int)), .int .i64 (j : Int), .int .i64 0]) := hide (by rw [unhide HG]; exact hgn)
              clear HG HV HDD hgn hDc hjD h48
              go_wp2_with (go_at_call 17; refine (unhide HC).mono ?_; rintro e w' ⟨rfl, rfl⟩)
              refine bodyPost_ret (v := G) (by rw [unhide HGG]; simp [results, Try.results18, go_sem]) rfl ⟨rfl, rfl⟩
            · have hgn : numV q D true = .tuple #[.int .i64 0, .int .i64 (j : Int), .int .i64 4] := by unfold numV; rw [numG_big hwr (by rw [hDc, ← hVD]; omega)]; simp only []; rw [hDc, ← hjD]
              clear hVD hDD hc hwr
              have HGG : Hid (G = .tuple #[.int .i64 0, .int .i64 (j : Int), .int .i64 4]) := hide (by rw [unhide HG]; exact hgn)
              clear HG HV HDD hgn hDc hjD h48
              go_wp2_with (go_at_call 17; refine (unhide HC).mono ?_; rintro e w' ⟨rfl, rfl⟩)
              refine bodyPost_ret (v := G) (by rw [unhide HGG]; simp [results, Try.results18, go_sem]) rfl ⟨rfl, rfl⟩
  · have h45' : ((s[p].toNat : Int) == 45) = false := by simp; omega
    subst hq1
    clear h45
    go_enter Try.func18, Try.ntmps18
    go_wp2
    go_loop [7, 10, 11, 12] (fun ev nv ov _ => ∃ (j m : Nat) (over : Bool), j ≤ s.size ∧ q ≤ j ∧ ev = .int .i64 j ∧ nv = .int .i64 m ∧ ov = .bool over ∧ m ≤ 10000000000009 ∧ Hid ((over = false ∧ m ≤ 1000000000000 ∧ V = valFrom m (((lb s).drop j).takeWhile digitB)) ∨ (over = true ∧ 1000000000000 < m ∧ 1000000000000 < V)) ∧ Hid (D.length = (j - q) + (((lb s).drop j).takeWhile digitB).length)) (fun ev _ _ _ => s.size - (intOf ev).toNat)
    case atStart => exact ⟨q, 0, false, by omega, Nat.le_refl _, rfl, rfl, rfl, by omega, hide (.inl ⟨rfl, by omega, unhide HST⟩), hide (by rw [Nat.sub_self, Nat.zero_add]; exact unhide HLN)⟩
    case round =>
      clear HST HLN
      obtain ⟨j, m, over, hj, hqj, rfl, rfl, rfl, hm, HO, HL⟩ := hrel
      have HC := hide (refDigit_any s j w hs)
      by_cases hgo : headB digitB ((lb s).drop j) = true
      · rw [hgo] at HC
        have hlt : j < s.size := by
          rcases Nat.lt_or_ge j s.size with h | h
          · exact h
          · rw [lb_end s j h] at hgo; cases hgo
        rw [lb_drop s j hlt] at hgo
        have hdj : digitB s[j] = true := hgo
        have hL := HL.out
        rw [lb_drop s j hlt, run_go _ _ _ hdj, List.length_cons] at hL
        have HL2 : Hid (D.length = (j + 1 - q) + (((lb s).drop (j + 1)).takeWhile digitB).length) := hide (by omega)
        have hd1 : 48 ≤ (s[j].toNat : Int) ∧ (s[j].toNat : Int) ≤ 57 := by unfold digitB at hdj; simp at hdj; omega
        obtain ⟨hd2, hd3⟩ := hd1
        rcases HO.out with ⟨rfl, hmm, hV⟩ | ⟨rfl, hmm, hV⟩
        · rw [lb_drop s j hlt, run_go _ _ _ hdj, val_cons] at hV
          obtain ⟨q', hq'⟩ : ∃ q', q' = 10 * m + (s[j].toNat - 48) := ⟨_, rfl⟩
          have hmono := val_mono (((lb s).drop (j + 1)).takeWhile digitB) q'
          rw [← hq'] at hV
          have HQ : Hid ((m : Int) * 10 + ((s[j].toNat : Int) - 48) = (q' : Int)) := hide (by omega)
          have hmI : (m : Int) ≤ 1000000000000 := by omega
          have hq'' : q' ≤ 10000000000009 := by omega
          by_cases hb : q' ≤ 1000000000000
          · have HVV := hide hV
            have hdec : (m : Int) * 10 + ((s[j].toNat : Int) - 48) ≤ 1000000000000 := by rw [unhide HQ]; omega
            clear hV hmono hq' HO HL hL hdj hgo
            go_wp2_with (go_at_call 17; refine (unhide HC).mono ?_; rintro e w' ⟨rfl, rfl⟩)
            go_round
            case rel => exact ⟨j + 1, q', false, by omega, by omega, by go_num, by rw [← unhide HQ], by first | rfl | (simp; exact hdec), hq'', hide (.inl ⟨rfl, hb, unhide HVV⟩), HL2⟩
            case measure => simp [intOf]; omega
          · have HVV : Hid (1000000000000 < V) := hide (by omega)
            have hdec : 1000000000000 < (m : Int) * 10 + ((s[j].toNat : Int) - 48) := by rw [unhide HQ]; omega
            clear hV hmono hq' HO HL hL hdj hgo
            go_wp2_with (go_at_call 17; refine (unhide HC).mono ?_; rintro e w' ⟨rfl, rfl⟩)
            go_round
            case rel => exact ⟨j + 1, q', true, by omega, by omega, by go_num, by rw [← unhide HQ], by first | rfl | (simp; exact hdec), hq'', hide (.inr ⟨rfl, by omega, unhide HVV⟩), HL2⟩
            case measure => simp [intOf]; omega
        · have HVM := hide (And.intro hmm hV)
          have hmI : ¬ (m : Int) ≤ 1000000000000 := by omega
          clear hV HO HL hL hdj hgo
          go_wp2_with (go_at_call 17; refine (unhide HC).mono ?_; rintro e w' ⟨rfl, rfl⟩)
          go_round
          case rel => exact ⟨j + 1, m, true, by omega, by omega, by go_num, rfl, rfl, hm, hide (.inr ⟨rfl, (unhide HVM).1, (unhide HVM).2⟩), HL2⟩
          case measure => simp [intOf]; omega
      · rw [Bool.not_eq_true] at hgo
        rw [hgo] at HC
        have hL := HL.out
        have hO := HO.out
        rw [run_stop _ _ hgo] at hL hO
        have hjD : j = q + D.length := by simp at hL; omega
        have hO2 : (over = false ∧ m = V ∧ V ≤ 1000000000000) ∨ (over = true ∧ 1000000000000 < V) := by
          rcases hO with ⟨h1, h2, h3⟩ | ⟨h1, h2, h3⟩
          · have h4 : V = m := h3
            exact .inl ⟨h1, h4.symm, by omega⟩
          · exact .inr ⟨h1, h3⟩
        clear hL hO HO HL hgo
        have hVD := unhide HV
        have hDD := unhide HDD
        cases hDc : D with
        | nil =>
          have hb0 : ((j : Int) == (q : Int)) = true := by rw [hDc] at hjD; simp at hjD; simp; omega
          have hgn : numV q D false = .tuple #[.int .i64 0, .int .i64 (j : Int), .int .i64 2] := by unfold numV; rw [numG_no (by rw [hDc]; rfl)]; rw [← hjD]
          clear hO2 hVD hDD
          have HGG : Hid (G = .tuple #[.int .i64 0, .int .i64 (j : Int), .int .i64 2]) := hide (by rw [unhide HG]; exact hgn)
          clear HG HV HDD hgn hDc hjD
          go_wp2_with (go_at_call 17; refine (unhide HC).mono ?_; rintro e w' ⟨rfl, rfl⟩)
          refine bodyPost_ret (v := G) (by rw [unhide HGG]; simp [results, Try.results18, go_sem]) rfl ⟨rfl, rfl⟩
        | cons c r =>
          rw [hDc] at hjD hDD hVD
          have hqs : q < s.size := by simp at hjD; omega
          have hb0 : ((j : Int) == (q : Int)) = false := by simp at hjD; simp; omega
          have hc : c = s[q] := by
            rw [lb_drop s q hqs, List.takeWhile_cons] at hDD
            split at hDD
            · simp at hDD; exact hDD.1
            · cases hDD
          by_cases h48 : s[q].toNat = 48
          · have t48 : ((s[q].toNat : Int) == 48) = true := by simp [h48]
            by_cases hr : r = []
            · have hb2 : ¬ (q : Int) + 1 < (j : Int) := by rw [hr] at hjD; simp at hjD; omega
              have hv0 : V = 0 := by rw [hVD, hr]; show valFrom 0 [c] = 0; rw [val_cons, hc, h48]; rfl
              have hov : over = false ∧ m = 0 := by rcases hO2 with ⟨h1, h2, _⟩ | ⟨_, h2⟩; exact ⟨h1, by omega⟩; omega
              obtain ⟨rfl, rfl⟩ := hov
              have hgn : numV q D false = .tuple #[.int .i64 0, .int .i64 (j : Int), .int .i64 0] := by unfold numV; rw [numG_yes (by rw [hDc, hr, written_zero _ _ (by rw [hc]; exact h48)]; rfl) (by rw [hDc, ← hVD, hv0]; omega)]; simp only []; rw [hDc, ← hVD, hv0, ← hjD]; rfl
              clear hO2 hVD hDD hc hr hv0
              have HGG : Hid (G = .tuple #[.int .i64 0, .int .i64 (j : Int), .int .i64 0]) := hide (by rw [unhide HG]; exact hgn)
              clear HG HV HDD hgn hDc hjD h48
              go_wp2_with (go_at_call 17; refine (unhide HC).mono ?_; rintro e w' ⟨rfl, rfl⟩)
              refine bodyPost_ret (v := G) (by rw [unhide HGG]; simp [results, Try.results18, go_sem]) rfl ⟨rfl, rfl⟩
            · have hb2 : (q : Int) + 1 < (j : Int) := by have := List.length_pos_iff.2 hr; simp at hjD; omega
              have hgn : numV q D false = .tuple #[.int .i64 0, .int .i64 (j : Int), .int .i64 2] := by
                unfold numV
                rw [numG_no (by rw [hDc, written_zero _ _ (by rw [hc]; exact h48)]; cases r with
                  | nil => exact absurd rfl hr
                  | cons _ _ => rfl)]
                rw [hDc, ← hjD]
              clear hO2 hVD hDD hc hr
              have HGG : Hid (G = .tuple #[.int .i64 0, .int .i64 (j : Int), .int .i64 2]) := hide (by rw [unhide HG]; exact hgn)
              clear HG HV HDD hgn hDc hjD h48
              go_wp2_with (go_at_call 17; refine (unhide HC).mono ?_; rintro e w' ⟨rfl, rfl⟩)
              refine bodyPost_ret (v := G) (by rw [unhide HGG]; simp [results, Try.results18, go_sem]) rfl ⟨rfl, rfl⟩
          · have t48 : ((s[q].toNat : Int) == 48) = false := by simp; omega
            have hwr : writtenB D false = true := by rw [hDc]; unfold writtenB; rw [hc]; simp [h48]
            rcases hO2 with ⟨rfl, rfl, hV2⟩ | ⟨rfl, hV2⟩
            · have hgn : numV q D false = .tuple #[.int .i64 ((m : Int)), .int .i64 (j : Int), .int .i64 0] := by unfold numV; rw [numG_yes hwr (by rw [hDc, ← hVD]; exact hV2)]; simp only []; rw [hDc, ← hVD, ← hjD]; rfl
              clear hVD hDD hc hwr
              have HGG : Hid (G = .tuple #[.int .i64 ((m : Int)), .int .i64 (j : Int), .int .i64 0]) := hide (by rw [unhide HG]; exact hgn)
              clear HG HV HDD hgn hDc hjD h48
              go_wp2_with (go_at_call 17; refine (unhide HC).mono ?_; rintro e w' ⟨rfl, rfl⟩)
              refine bodyPost_ret (v := G) (by rw [unhide HGG]; simp [results, Try.results18, go_sem]) rfl ⟨rfl, rfl⟩
            · have hgn : numV q D false = .tuple #[.int .i64 0, .int .i64 (j : Int), .int .i64 4] := by unfold numV; rw [numG_big hwr (by rw [hDc, ← hVD]; omega)]; simp only []; rw [hDc, ← hjD]
              clear hVD hDD hc hwr
              have HGG : Hid (G = .tuple #[.int .i64 0, .int .i64 (j : Int), .int .i64 4]) := hide (by rw [unhide HG]; exact hgn)
              clear HG HV HDD hgn hDc hjD h48
              go_wp2_with (go_at_call 17; refine (unhide HC).mono ?_; rintro e w' ⟨rfl, rfl⟩)
              refine bodyPost_ret (v := G) (by rw [unhide HGG]; simp [results, Try.results18, go_sem]) rfl ⟨rfl, rfl⟩

end Go.Proofs.Ytehoepliiobliaa
