/-
  The contract of the document's Right.
-/
import Derived.Test.YtmppialileoimaaLawKit2
namespace Go.Proofs.Ytmppialileoimaa
open Go.RowKit
set_option linter.unusedVariables false
set_option linter.unusedSimpArgs false
set_option maxRecDepth 20000

def stepB (ll : List (List Int)) (n : Nat) (j : Nat) : Bool := decide ((ll.getD j []).length = n) && (decide (j = 0) || decide (cmpL (ll.getD (j - 1) []) (ll.getD j []) < 0))
def restB (ll : List (List Int)) (n k : Nat) : Bool := (List.range' k (ll.length - k)).all (stepB ll n)

theorem restB_step {ll : List (List Int)} {n k : Nat} (hk : k < ll.length) : restB ll n k = (stepB ll n k && restB ll n (k + 1)) := by
  unfold restB
  rw [show ll.length - k = (ll.length - (k + 1)) + 1 by omega, List.range'_succ, List.all_cons]
theorem restB_end {ll : List (List Int)} {n k : Nat} (hk : ll.length ≤ k) : restB ll n k = true := by
  unfold restB
  rw [show ll.length - k = 0 by omega]; rfl

theorem ascB_adj : ∀ l : List (List Int), ascB l = true ↔ ∀ j, j + 1 < l.length → cmpL (l.getD j []) (l.getD (j + 1) []) < 0
  | [] => by simp [ascB]
  | [x] => by simp [ascB]
  | x :: y :: r => by
    have ih := ascB_adj (y :: r)
    simp only [ascB, Bool.and_eq_true, decide_eq_true_eq, ih]
    constructor
    · rintro ⟨h, h1⟩ j hj
      cases j with
      | zero => simpa using h
      | succ j => have := h1 j (by simp at hj ⊢; omega); simpa using this
    · intro h
      refine ⟨by have := h 0 (by simp); simpa using this, fun j hj => ?_⟩
      have := h (j + 1) (by simp at hj ⊢; omega)
      simpa using this

theorem restB_all (ll : List (List Int)) (n : Nat) : restB ll n 0 = (wideB ll n && ascB ll) := by
  rw [Bool.eq_iff_iff, Bool.and_eq_true, ascB_adj]
  unfold restB wideB
  rw [List.all_eq_true, List.all_eq_true]
  simp only [Nat.sub_zero, List.mem_range'_1, Nat.zero_le, Nat.zero_add, true_and]
  constructor
  · intro h
    refine ⟨fun t ht => ?_, fun j hj => ?_⟩
    · obtain ⟨i, hi, rfl⟩ := List.getElem_of_mem ht
      have := h i hi
      unfold stepB at this
      simp [hi] at this
      have h9 := this.1
      rw [decide_eq_true_eq]; omega
    · have := h (j + 1) hj
      unfold stepB at this
      simp only [Bool.and_eq_true, Bool.or_eq_true, decide_eq_true_eq] at this
      rcases this.2 with h0 | h0
      · omega
      · simpa using h0
  · rintro ⟨h1, h2⟩ j hj
    unfold stepB
    simp only [Bool.and_eq_true, Bool.or_eq_true, decide_eq_true_eq]
    constructor
    · have := h1 (ll[j]) (List.getElem_mem hj)
      rw [decide_eq_true_eq] at this
      have h9 : ll.getD j [] = ll[j] := by simp [hj]
      rw [h9]; omega
    · cases j with
      | zero => exact .inl rfl
      | succ j => exact .inr (by simpa using h2 j hj)

theorem stepB_at {ll : List (List Int)} {n k : Nat} (hk : k < ll.length) : stepB ll n k = (decide (ll[k].length = n) && (decide (k = 0) || decide (cmpL (ll[k - 1]'(by omega)) ll[k] < 0))) := by
  unfold stepB
  have h1 : ll.getD k [] = ll[k] := by simp [hk]
  have h2 : ll.getD (k - 1) [] = ll[k - 1]'(by omega) := by simp [show k - 1 < ll.length by omega]
  rw [h1, h2]

set_option maxHeartbeats 4000000 in
theorem refRight_any {s : List Int} {ll : List (List Int)} {v : Value} {w : World} (h : RelV w v s ll) :
    Calls Try.prog 16 #[v] w fun e w' => e = .returned (.bool (rightL s ll)) ∧ Below w.heap.size w w' := by
  obtain ⟨a, ca, b, cb, rfl, k1, k2, k3, k4, hs, ht⟩ := h.form
  unfold maxLen at k2 k4
  have hb0 := (Below.refl w.heap.size w).alloc (Nat.le_refl _) (.cells #[.slice a s.length ca, .slice b ll.length cb] 25)
  have hbx := Box.new w (.slice a s.length ca) (.slice b ll.length cb)
  have HR := hide (Calls.toBelow (refRising_any (hs.below hb0)))
  have HL := hide (show rightL s ll = (risB s && headB s && restB ll s.length 0) by rw [restB_all]; rfl)
  generalize rightL s ll = L at HL
  have hs0 := hs.below hb0
  generalize risB s = p at HR HL
  clear h
  by_cases hneg : headB s = false
  · -- the first variable is below nought
    have hup : 0 < s.length := by
      rcases Nat.lt_or_ge 0 s.length with h | h
      · exact h
      · rw [headB_nil (by omega)] at hneg; cases hneg
    have HF := hide (show L = false by rw [unhide HL, hneg]; simp)
    obtain ⟨bs, os, rfl, hcs⟩ := hs0.at hup
    rw [Nat.add_zero] at hcs
    rw [headB_at hup] at hneg
    have hn : s[0] < 0 := by simpa using hneg
    clear hneg hs ht hs0
    go_enter Try.func16, Try.ntmps16
    go_wp2
    go_ret
    exact ⟨ret_bool (unhide HF).symm, hb0⟩
  · have hpos : headB s = true := by simpa using hneg
    have HL2 := hide (show L = (p && restB ll s.length 0) by rw [unhide HL, hpos]; simp)
    have ht0 := ht.below hb0
    by_cases hup : 0 < s.length
    case' pos =>
      obtain ⟨bs, os, rfl, hcs⟩ := hs0.at hup
      rw [Nat.add_zero] at hcs
      rw [headB_at hup] at hpos
      have hn : ¬ s[0] < 0 := by simpa using hpos
    all_goals
      clear hneg hpos HL hs ht hs0
      go_enter Try.func16, Try.ntmps16
      go_wp2_with fail
      refine (unhide HR).mono ?_
      rintro e W1 ⟨rfl, hb1⟩
      have hbx1 := hbx.belowH hb1
      have ht1 := ht0.below hb1
      have hb1' := below_then hb0 hb1
      have hc0 := hbx1.cell0
      have hc1 := hbx1.cell1
      clear HR ht0 hbx hbx1
      cases p with
      | false =>
        have HF := hide (show L = false by rw [unhide HL2]; simp)
        go_wp2
        go_ret
        exact ⟨ret_bool (unhide HF).symm, hb1'⟩
      | true =>
        have HF := hide (show L = restB ll s.length 0 by rw [unhide HL2]; simp)
        clear HL2
        go_wp2
        go_loopw [3] (fun i wr => ∃ k n : Nat, k ≤ ll.length ∧ i = .int .i64 k ∧ wr = W1.drewN n ∧ Hid (L = restB ll s.length k)) (fun i _ => ll.length - (intOf i).toNat)
        case atStart => exact ⟨0, 0, by omega, rfl, rfl, HF⟩
        case round =>
          clear HF
          obtain ⟨k, n, hk, rfl, rfl, hc⟩ := hrel
          by_cases hkl : k < ll.length
          · obtain ⟨bl, ol, ul, e1, hcl, hiL⟩ := ht1.at hkl
            subst e1
            obtain ⟨ia, ic, rfl, _, _⟩ := hiL.form
            have hc' := unhide hc
            rw [restB_step hkl, stepB_at hkl] at hc'
            by_cases hw : ll[k].length = s.length
            · have hw1 : ((ll[k].length : Int) != (s.length : Int)) = false := by simp [hw]
              by_cases hk0 : 0 < k
              · have hk1 : k - 1 < ll.length := by omega
                obtain ⟨bl', ol', up, e2, hcp, hip⟩ := ht1.at hk1
                cases e2
                obtain ⟨pa, pc, rfl, _, _⟩ := hip.form
                have HCMP := hide (fun n => refCompare_any (Seq.drewN hip n) (Seq.drewN hiL n))
                have hkp : (1 : Int) ≤ (k : Int) := by omega
                have hkn : ¬ k = 0 := by omega
                generalize cmpL (ll[k - 1]'(by omega)) ll[k] = z at HCMP hc'
                by_cases hz : z < 0
                · have Hc : Hid (L = restB ll s.length (k + 1)) := hide (by simpa [hw, hz] using hc')
                  clear hc hc' hw hip hiL ht1 hkn
                  go_wp2
                  go_quiet ((go_at_call 25; exact Calls.quiet_add (unhide HCMP _)))
                  go_wp2
                  go_roundw
                  case rel => exact ⟨k + 1, _, by omega, by go_num, by first | rfl | (simp only [World.drewN_drewN]; rfl), Hc⟩
                  case measure => simp [intOf]; omega
                · have Hc : Hid (L = false) := hide (by simpa [hw, hz, hkn] using hc')
                  clear hc hc' hw hip hiL ht1 hkn
                  go_wp2
                  go_quiet ((go_at_call 25; exact Calls.quiet_add (unhide HCMP _)))
                  go_wp2
                  go_ret
                  exact ⟨ret_bool Hc.out.symm, by first | exact Below.drewN1 hb1' _ | (simp only [World.drewN_drewN]; exact Below.drewN1 hb1' _)⟩
              · have hk0' : decide ((0 : Int) < (k : Int)) = false := by simpa using hk0
                have hkz : k = 0 := by omega
                have Hc : Hid (L = restB ll s.length (k + 1)) := hide (by rw [decide_eq_true hw, decide_eq_true hkz] at hc'; simpa using hc')
                clear hc hc' hw hiL ht1 hkz
                go_wp2
                go_quiet (fail)
                go_wp2
                go_roundw
                case rel => exact ⟨k + 1, _, by omega, by go_num, by first | rfl | (simp only [World.drewN_drewN]; rfl), Hc⟩
                case measure => simp [intOf]; omega
            · have hw1 : ((ll[k].length : Int) != (s.length : Int)) = true := by simp; omega
              have Hc : Hid (L = false) := hide (by simpa [hw] using hc')
              clear hc hc' hw hiL ht1
              go_wp2
              go_quiet (fail)
              go_wp2
              go_ret
              exact ⟨ret_bool Hc.out.symm, by first | exact Below.drewN1 hb1' _ | (simp only [World.drewN_drewN]; exact Below.drewN1 hb1' _)⟩
          · have hc' := unhide hc
            rw [restB_end (by omega)] at hc'
            have Hc := hide hc'
            clear hc hc' ht1
            go_wp2
            go_ret
            exact ⟨ret_bool Hc.out.symm, Below.drewN1 hb1' _⟩

end Go.Proofs.Ytmppialileoimaa
