/-
  The contracts of the document's Holds and Cost (layer 7).
-/
import Derived.Test.YtflibcfecnhjgaaRefRows6
import Derived.Test.YtflibcfecnhjgaaRelUnit
namespace Go.Proofs.Ytflibcfecnhjgaa
open Go.RowKit
set_option linter.unusedVariables false
set_option linter.unusedSimpArgs false
set_option maxRecDepth 20000

set_option maxHeartbeats 8000000 in
theorem refHolds_any {c : Con} {t : List Int} {v vt : Value} {w : World} (h : ConV w v c) (ht : Ints w vt t) (hs : Sane c) (hm : Mill t) :
    Calls Try.prog 8 #[v, vt] w fun e w' => e = .returned (.bool (holdsB c t)) ∧ Below w.heap.size w w' := by
  obtain ⟨kd, sc, ll, ar⟩ := c
  obtain ⟨vs, vr, va, rfl, h1, h2, h3⟩ := h
  obtain ⟨g1, g2, g3, g4⟩ := hs
  simp only [] at h1 h2 h3 g1 g2 g3 g4
  obtain ⟨a1, c1, rfl, hl1, hc1⟩ := h1.form
  obtain ⟨a2, c2, rfl, hl2, hc2⟩ := h2.form
  obtain ⟨a3, c3, rfl, hl3, hc3⟩ := h3.form
  obtain ⟨b, cb, rfl, hlb, hcb⟩ := ht.form
  unfold maxLen at hc1 hc2 hc3 hcb
  simp only []
  have hb0 := (Below.refl w.heap.size w).alloc (Nat.le_refl _) (.cells #[.int .i64 kd, .slice a1 sc.length c1, .slice a2 ll.length c2, .slice a3 ar.length c3] 31)
  obtain ⟨W1, hW1⟩ : ∃ W, W = w.alloc (.cells #[.int .i64 kd, .slice a1 sc.length c1, .slice a2 ll.length c2, .slice a3 ar.length c3] 31) := ⟨_, rfl⟩
  have x0 : W1.heap[w.heap.size]? = some (.cells #[.int .i64 kd, .slice a1 sc.length c1, .slice a2 ll.length c2, .slice a3 ar.length c3] 31) := by rw [hW1]; exact heap_alloc_new _ _
  rw [← hW1] at hb0
  have y0 : W1.cell? ⟨w.heap.size, 0, none⟩ = some (.int .i64 kd) := by unfold World.cell?; rw [x0]; rfl
  have y1 : W1.cell? ⟨w.heap.size, 1, none⟩ = some (.slice a1 sc.length c1) := by unfold World.cell?; rw [x0]; rfl
  have y2 : W1.cell? ⟨w.heap.size, 2, none⟩ = some (.slice a2 ll.length c2) := by unfold World.cell?; rw [x0]; rfl
  have y3 : W1.cell? ⟨w.heap.size, 3, none⟩ = some (.slice a3 ar.length c3) := by unfold World.cell?; rw [x0]; rfl
  have HB := hide hb0
  have HW1 := hide hW1
  have HFD := hide (refFind_any (h2.below hb0) (ht.below hb0))
  rw [isAt_low g1] at HFD
  have hti := ht.below hb0
  have hai := h3.below hb0
  obtain ⟨q, hq⟩ : ∃ q, q = holdsB ⟨kd, sc, ll, ar⟩ t := ⟨_, rfl⟩
  rw [← hq]
  unfold holdsB at hq
  simp only [] at hq
  clear h1 h2 h3 ht x0 hW1 hb0
  go_enter Try.func8, Try.ntmps8
  by_cases hl : t.length = sc.length
  · have hgd : ((t.length : Int) != (sc.length : Int)) = false := by rw [bne_eq_false_iff_eq]; omega
    rw [if_pos hl] at hq
    have HLN : Hid (t.length = sc.length) := hide hl
    clear hl
    go_wp2_with fail
    rw [← unhide HW1]
    refine (unhide HFD).mono ?_
    rintro e w' ⟨rfl, m0, rfl⟩
    clear HW1 HFD
    by_cases k1 : kd = 1
    · subst k1
      have HQ : Hid (q = decide (t ∈ ll)) := hide hq
      generalize decide (t ∈ ll) = p at *
      generalize lowN ll t = lo at *
      clear hti hai g1 g3 hm hq
      go_wp2
      go_ret
      exact ⟨ret_bool HQ.out.symm, Below.drewN1 (unhide HB) _⟩
    · rw [if_neg k1] at hq
      have kk1 : (kd == 1) = false := by simpa using k1
      by_cases k2 : kd = 2
      · subst k2
        have HQ : Hid (q = !decide (t ∈ ll)) := hide hq
        generalize decide (t ∈ ll) = p at *
        generalize lowN ll t = lo at *
        clear hti hai g1 g3 hm hq k1
        go_wp2
        go_ret
        exact ⟨ret_bool HQ.out.symm, Below.drewN1 (unhide HB) _⟩
      · rw [if_neg k2] at hq
        have kk2 : (kd == 2) = false := by simpa using k2
        generalize decide (t ∈ ll) = p0 at *
        generalize lowN ll t = lo at *
        by_cases k3 : kd = 3
        · subst k3
          have HQ : Hid (q = unlikeB t) := hide hq
          clear hai g1 g3 hm hq k1 k2
          go_wp2
          go_loopw [8, 9] (fun i _ wr => ∃ k n : Nat, k ≤ t.length ∧ i = .int .i64 k ∧ wr = W1.drewN n ∧ Hid (∀ j (h : j < t.length), j < k → t[j] ∉ t.take j)) (fun i _ _ => t.length - (intOf i).toNat)
          case atStart => exact ⟨0, m0, by omega, rfl, rfl, hide (fun j h h' => by omega)⟩
          case round =>
            obtain ⟨k, n, hk, rfl, rfl, HR⟩ := hrel
            have hln := unhide HLN
            by_cases hlt : k < t.length
            · obtain ⟨bb, oo, rfl, hc⟩ := hti.at hlt
              have hsl : k < sc.length := by omega
              have HIN := hide (fun n => inQ t[k] (Seq.drewN (hti.take (k := k) (by omega)) n))
              by_cases hmm : t[k] ∈ t.take k
              · have HQ2 : Hid (q = false) := hide (by rw [HQ.out]; unfold unlikeB; simp only [decide_eq_false_iff_not]; exact fun h => h k hlt hmm)
                rw [decide_eq_true hmm] at HIN
                clear hti hmm HQ HR hln
                go_wp2
                go_quiet ((go_at_call 25; exact Calls.quiet_add (unhide HIN _)))
                go_wp2
                go_ret
                exact ⟨ret_bool HQ2.out.symm, by first | exact Below.drewN1 (unhide HB) _ | (simp only [World.drewN_drewN]; exact Below.drewN1 (unhide HB) _)⟩
              · have HR2 : Hid (∀ j (h : j < t.length), j < k + 1 → t[j] ∉ t.take j) := hide (fun j hj hjk => by
                  rcases Nat.lt_or_ge j k with h1 | h1
                  · exact HR.out j hj h1
                  · obtain rfl : j = k := by omega
                    exact hmm)
                rw [decide_eq_false hmm] at HIN
                clear hti hmm HQ HR hln
                go_wp2
                go_quiet ((go_at_call 25; exact Calls.quiet_add (unhide HIN _)))
                go_wp2
                go_roundw
                case rel => exact ⟨k + 1, _, by omega, by go_num, by first | rfl | (simp only [World.drewN_drewN]; rfl), HR2⟩
                case measure => simp [intOf]; omega
            · have HQ2 : Hid (q = true) := hide (by rw [HQ.out]; unfold unlikeB; simp only [decide_eq_true_eq]; exact fun j hj => HR.out j hj (by omega))
              have hsl : ¬ k < sc.length := by omega
              clear hti HQ HR hln
              go_wp2
              go_ret
              exact ⟨ret_bool HQ2.out.symm, by first | exact Below.drewN1 (unhide HB) _ | (simp only [World.drewN_drewN]; exact Below.drewN1 (unhide HB) _)⟩
        · rw [if_neg k3] at hq
          have kk3 : (kd == 3) = false := by simpa using k3
          by_cases k4 : kd = 4
          · subst k4
            have HQ : Hid (q = alikeB t) := hide hq
            clear hai g1 g3 hm hq k1 k2 k3
            go_wp2
            go_loopw [10] (fun i wr => ∃ k n : Nat, k ≤ t.length ∧ i = .int .i64 (k + 1) ∧ wr = W1.drewN n ∧ Hid (∀ j (h : j < t.length), j < k + 1 → t[j] = t.getD 0 0)) (fun i _ => t.length + 1 - (intOf i).toNat)
            case atStart => exact ⟨0, m0, by omega, rfl, rfl, hide (fun j h h' => by obtain rfl : j = 0 := (by omega); simp [List.getD_eq_getElem?_getD, h])⟩
            case round =>
              obtain ⟨k, n, hk, rfl, rfl, HR⟩ := hrel
              have hln := unhide HLN
              by_cases hlt : k + 1 < t.length
              · have h0 : 0 < t.length := by omega
                obtain ⟨bb, oo, e1, hc⟩ := hti.at hlt
                obtain ⟨bb2, oo2, e2, hc0⟩ := hti.at h0
                rw [e1] at e2
                cases e2
                subst e1
                have hg : t.getD 0 0 = t[0] := by simp [List.getD_eq_getElem?_getD, h0]
                rw [Nat.add_zero] at hc0
                rw [hg] at HR
                have hsl : k + 1 < sc.length := by omega
                have hsl' : decide ((k : Int) + 1 < (sc.length : Int)) = true := by simp; omega
                by_cases hmm : t[k + 1] = t[0]
                · have HR2 : Hid (∀ j (h : j < t.length), j < k + 1 + 1 → t[j] = t.getD 0 0) := hide (fun j hj hjk => by
                    rw [hg]
                    rcases Nat.lt_or_ge j (k + 1) with h1 | h1
                    · exact HR.out j hj h1
                    · obtain rfl : j = k + 1 := by omega
                      exact hmm)
                  have hne : (t[k + 1] != t[0]) = false := by simpa using hmm
                  generalize t[k + 1] = x at *
                  generalize t[0] = y at *
                  clear hti hmm HQ HR hg hln
                  go_wp2
                  go_quiet (fail)
                  go_wp2
                  go_roundw
                  case rel => exact ⟨k + 1, _, by omega, by go_num, by first | rfl | (simp only [World.drewN_drewN]; rfl), HR2⟩
                  case measure => simp [intOf]; omega
                · have HQ2 : Hid (q = false) := hide (by rw [HQ.out]; unfold alikeB; simp only [decide_eq_false_iff_not]; exact fun h => hmm (by rw [← hg]; exact h (k + 1) hlt))
                  have hne : (t[k + 1] != t[0]) = true := by simpa using hmm
                  generalize t[k + 1] = x at *
                  generalize t[0] = y at *
                  clear hti hmm HQ HR hg hln
                  go_wp2
                  go_quiet (fail)
                  go_wp2
                  go_ret
                  exact ⟨ret_bool HQ2.out.symm, by first | exact Below.drewN1 (unhide HB) _ | (simp only [World.drewN_drewN]; exact Below.drewN1 (unhide HB) _)⟩
              · have HQ2 : Hid (q = true) := hide (by rw [HQ.out]; unfold alikeB; simp only [decide_eq_true_eq]; exact fun j hj => HR.out j hj (by omega))
                have hsl' : decide ((k : Int) + 1 < (sc.length : Int)) = false := by simp; omega
                clear hti HQ HR hln
                go_wp2
                go_ret
                exact ⟨ret_bool HQ2.out.symm, by first | exact Below.drewN1 (unhide HB) _ | (simp only [World.drewN_drewN]; exact Below.drewN1 (unhide HB) _)⟩
          · rw [if_neg k4] at hq
            have kk4 : (kd == 4) = false := by simpa using k4
            by_cases k5 : kd = 5
            · subst k5
              have HRS := hide (fun n => refRising_any (Seq.drewN hti n))
              have HQ : Hid (q = risB t) := hide hq
              generalize risB t = r at *
              clear hai g1 g3 hm hq k1 k2 k3 k4 hti
              go_wp2_with fail
              refine (unhide HRS _).mono ?_
              rintro e w' ⟨rfl, m1, rfl⟩
              go_wp2
              go_ret
              exact ⟨ret_bool HQ.out.symm, by first | exact Below.drewN1 (unhide HB) _ | (simp only [World.drewN_drewN]; exact Below.drewN1 (unhide HB) _)⟩
            · rw [if_neg k5] at hq
              have kk5 : (kd == 5) = false := by simpa using k5
              by_cases k6 : kd = 6
              · subst k6
                rw [if_pos rfl] at hq
                unfold linB at hq
                rw [unhide HLN] at hq
                by_cases hla : ar.length = sc.length + 2
                · rw [if_pos hla] at hq
                  have hga : ((ar.length : Int) != (sc.length : Int) + 2) = false := by rw [bne_eq_false_iff_eq]; omega
                  have hn1 : sc.length < ar.length := by omega
                  have hn2 : sc.length + 1 < ar.length := by omega
                  obtain ⟨b1, o1, e1, q1⟩ := hai.at hn1
                  obtain ⟨b2, o2, e2, q2⟩ := hai.at hn2
                  have hm2 := g3 _ (List.getElem_mem hn2)
                  rw [show ar.getD sc.length 0 = ar[sc.length] by simp [List.getD_eq_getElem?_getD, hn1], show ar.getD (sc.length + 1) 0 = ar[sc.length + 1] by simp [List.getD_eq_getElem?_getD, hn2]] at hq
                  generalize ar[sc.length] = how at *
                  generalize ar[sc.length + 1] = num at *
                  rw [e1] at e2
                  cases e2
                  subst e1
                  have HQ := hide hq
                  have hsc1 : sc.length < 1000 := g4
                  clear hq hla k1 k2 k3 k4 k5 g1
                  go_wp2
                  go_loopw [11, 12] (fun s i wr => ∃ (k n : Nat) (z : Int), k ≤ sc.length ∧ i = .int .i64 k ∧ s = .int .i64 z ∧ wr = W1.drewN n ∧ -(k * 1000000000000 : Int) ≤ z ∧ z ≤ (k * 1000000000000 : Int) ∧ Hid (dotL ar t = z + dotL (ar.drop k) (t.drop k))) (fun _ i _ => sc.length - (intOf i).toNat)
                  case atStart => exact ⟨0, m0, 0, by omega, rfl, rfl, rfl, by simp, by simp, hide (by simp)⟩
                  case round =>
                    obtain ⟨k, n, z, hk, rfl, rfl, rfl, hz1, hz2, HD⟩ := hrel
                    have hln := unhide HLN
                    by_cases hlt : k < sc.length
                    · have hka : k < ar.length := by omega
                      have hkt : k < t.length := by omega
                      obtain ⟨b3, o3, e3, hc3⟩ := hai.at hka
                      cases e3
                      obtain ⟨b4, o4, rfl, hc4⟩ := hti.at hkt
                      have hd := HD.out
                      rw [dot_step hka hkt] at hd
                      have hp := mul_mill (g3 _ (List.getElem_mem hka)) (hm _ (List.getElem_mem hkt))
                      generalize ar[k] = x at *
                      generalize t[k] = y at *
                      obtain ⟨hp1, hp2⟩ := hp
                      have HD2 : Hid (dotL ar t = (z + x * y) + dotL (ar.drop (k + 1)) (t.drop (k + 1))) := hide (by omega)
                      clear hd HD hai hti HQ hm g3 hln
                      go_wp2
                      go_quiet (fail)
                      go_wp2
                      go_roundw
                      case rel => exact ⟨k + 1, _, z + x * y, by omega, by go_num, by go_num, by first | rfl | (simp only [World.drewN_drewN]; rfl), by omega, by omega, HD2⟩
                      case measure => simp [intOf]; omega
                    · have hd := HD.out
                      rw [dot_end (by omega)] at hd
                      have HD2 : Hid (dotL ar t = z) := hide (by omega)
                      clear hd HD hai hti hm g3 hln
                      by_cases h0 : how = 0
                      · subst h0
                        have HQ2 : Hid (q = (z == num)) := hide (by rw [HQ.out, HD2.out]; rfl)
                        clear HQ HD2
                        go_wp2
                        go_ret
                        exact ⟨ret_bool HQ2.out.symm, by first | exact Below.drewN1 (unhide HB) _ | (simp only [World.drewN_drewN]; exact Below.drewN1 (unhide HB) _)⟩
                      · by_cases h1 : how = 1
                        · subst h1
                          have HQ2 : Hid (q = decide (z ≤ num)) := hide (by rw [HQ.out, HD2.out]; rfl)
                          clear HQ HD2 h0
                          go_wp2
                          go_ret
                          exact ⟨ret_bool HQ2.out.symm, by first | exact Below.drewN1 (unhide HB) _ | (simp only [World.drewN_drewN]; exact Below.drewN1 (unhide HB) _)⟩
                        · by_cases h2 : how = 2
                          · subst h2
                            have HQ2 : Hid (q = (z != num)) := hide (by rw [HQ.out, HD2.out]; rfl)
                            clear HQ HD2 h0 h1
                            go_wp2
                            go_ret
                            exact ⟨ret_bool HQ2.out.symm, by first | exact Below.drewN1 (unhide HB) _ | (simp only [World.drewN_drewN]; exact Below.drewN1 (unhide HB) _)⟩
                          · have HQ2 : Hid (q = false) := hide (by rw [HQ.out, if_neg h0, if_neg h1, if_neg h2])
                            have d0 : (how == 0) = false := by simpa using h0
                            have d1 : (how == 1) = false := by simpa using h1
                            have d2 : (how == 2) = false := by simpa using h2
                            clear HQ HD2 h0 h1 h2
                            go_wp2
                            go_ret
                            exact ⟨ret_bool HQ2.out.symm, by first | exact Below.drewN1 (unhide HB) _ | (simp only [World.drewN_drewN]; exact Below.drewN1 (unhide HB) _)⟩
                · rw [if_neg hla] at hq
                  have hga : ((ar.length : Int) != (sc.length : Int) + 2) = true := by rw [bne_iff_ne]; omega
                  have HQ : Hid (q = false) := hide hq
                  clear hai g1 g3 hm hq k1 k2 k3 k4 k5 hti hla
                  go_wp2
                  go_ret
                  exact ⟨ret_bool HQ.out.symm, Below.drewN1 (unhide HB) _⟩
              · rw [if_neg k6] at hq
                have kk6 : (kd == 6) = false := by simpa using k6
                have HQ : Hid (q = false) := hide hq
                clear hai g1 g3 hm hq k1 k2 k3 k4 k5 k6 hti
                go_wp2
                go_ret
                exact ⟨ret_bool HQ.out.symm, Below.drewN1 (unhide HB) _⟩
  · have hgd : ((t.length : Int) != (sc.length : Int)) = true := by rw [bne_iff_ne]; omega
    rw [if_neg hl] at hq
    have HQ : Hid (q = false) := hide hq
    clear hti hai g1 g3 hm hq hl HFD y0 y1 y2 y3
    go_wp2
    go_ret
    exact ⟨ret_bool HQ.out.symm, by rw [← unhide HW1]; exact unhide HB⟩

set_option maxHeartbeats 2000000 in
theorem refCost_any {s : Sft} {t : List Int} {v vt : Value} {w : World} (h : SftV w v s) (ht : Ints w vt t) (hs : AscL s.rows) :
    Calls Try.prog 13 #[v, vt] w fun e w' => e = .returned (.int .i64 (costB s t)) ∧ Below w.heap.size w w' := by
  obtain ⟨sc, ll, co, df⟩ := s
  obtain ⟨vs, vr, va, rfl, h1, h2, h3⟩ := h
  simp only [] at h1 h2 h3 hs
  obtain ⟨a1, c1, rfl, hl1, hc1⟩ := h1.form
  obtain ⟨a2, c2, rfl, hl2, hc2⟩ := h2.form
  obtain ⟨a3, c3, rfl, hl3, hc3⟩ := h3.form
  obtain ⟨b, cb, rfl, hlb, hcb⟩ := ht.form
  unfold maxLen at hc1 hc2 hc3 hcb
  simp only []
  have hb0 := (Below.refl w.heap.size w).alloc (Nat.le_refl _) (.cells #[.slice a1 sc.length c1, .slice a2 ll.length c2, .slice a3 co.length c3, .int .i64 df] 43)
  have HB := hide hb0
  have HA := hide (refFind_any (h2.below hb0) (ht.below hb0))
  have hat := isAt_low hs t
  have hlo := lowN_le ll t
  obtain ⟨q, hq⟩ : ∃ q, q = costB ⟨sc, ll, co, df⟩ t := ⟨_, rfl⟩
  rw [← hq]
  unfold costB at hq
  simp only [] at hq
  rw [hat] at HA
  by_cases hm : t ∈ ll
  · rw [if_pos hm] at hq
    rw [decide_eq_true hm] at HA
    generalize lowN ll t = k at *
    by_cases hk : k < co.length
    · have hco := h3.below hb0
      obtain ⟨bb, oo, rfl, hcell⟩ := hco.at hk
      have hg : co.getD k df = co[k] := by simp [List.getD_eq_getElem?_getD, hk]
      rw [hg] at hq
      have HQ := hide hq
      clear h1 h2 h3 ht hs hq hb0 hat hm hco hg
      go_enter Try.func13, Try.ntmps13
      go_wp2_with fail
      refine (unhide HA).mono ?_
      rintro e w' ⟨rfl, m, rfl⟩
      go_wp2
      go_ret
      exact ⟨ret_int HQ.out.symm, Below.drewN1 (unhide HB) _⟩
    · have hg : co.getD k df = df := by simp [List.getD_eq_getElem?_getD, List.getElem?_eq_none (Nat.le_of_not_lt hk)]
      rw [hg] at hq
      have HQ := hide hq
      clear h1 h2 h3 ht hs hq hb0 hat hm hg
      go_enter Try.func13, Try.ntmps13
      go_wp2_with fail
      refine (unhide HA).mono ?_
      rintro e w' ⟨rfl, m, rfl⟩
      go_wp2
      go_ret
      exact ⟨ret_int HQ.out.symm, Below.drewN1 (unhide HB) _⟩
  · rw [if_neg hm] at hq
    rw [decide_eq_false hm] at HA
    generalize lowN ll t = k at *
    have HQ := hide hq
    clear h1 h2 h3 ht hs hq hb0 hat hm
    go_enter Try.func13, Try.ntmps13
    go_wp2_with fail
    refine (unhide HA).mono ?_
    rintro e w' ⟨rfl, m, rfl⟩
    go_wp2
    go_ret
    exact ⟨ret_int HQ.out.symm, Below.drewN1 (unhide HB) _⟩

end Go.Proofs.Ytflibcfecnhjgaa
