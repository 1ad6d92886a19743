/-
  Relations in memory; the contract of Right, and of what it stands on.
-/
import Derived.Test.YtafpecdmaogohaaGreatTupSets
import Derived.Test.YtafpecdmaogohaaGreatTupCmp
import Derived.Test.YtafpecdmaogohaaGreatApp2
namespace Go.Proofs.YtafpecdmaogohaaGreat
open Go.RowKit
set_option linter.unusedVariables false
set_option linter.unusedSimpArgs false
set_option maxRecDepth 20000

/-- The struct value v reads in w as the relation of scheme s and rows ll. -/
def RelV (w : World) (v : Value) (s : List Int) (ll : List (List Int)) : Prop := ∃ vs vr, v = .agg #[vs, vr] ∧ Ints w vs s ∧ Tups w vr ll

theorem RelV.below {w w' : World} {v : Value} {s : List Int} {ll : List (List Int)} (h : RelV w v s ll) (hb : Below w.heap.size w w') : RelV w' v s ll := by
  obtain ⟨vs, vr, rfl, h1, h2⟩ := h
  exact ⟨vs, vr, rfl, h1.below hb, h2.below hb⟩

theorem RelV.form {w : World} {v : Value} {s : List Int} {ll : List (List Int)} (h : RelV w v s ll) :
    ∃ a ca b cb, v = .agg #[.slice a s.length ca, .slice b ll.length cb] ∧ s.length ≤ ca ∧ ca ≤ maxLen ∧ ll.length ≤ cb ∧ cb ≤ maxLen ∧ Ints w (.slice a s.length ca) s ∧ Tups w (.slice b ll.length cb) ll := by
  obtain ⟨vs, vr, rfl, h1, h2⟩ := h
  obtain ⟨a, ca, rfl, k1, k2⟩ := h1.form
  obtain ⟨b, cb, rfl, k3, k4⟩ := h2.form
  exact ⟨a, ca, b, cb, rfl, k1, k2, k3, k4, h1, h2⟩

def headB : List Int → Bool
  | [] => true
  | x :: _ => decide (0 ≤ x)
def rightS (s : List Int) : Bool := risB s && headB s
def wideB (ll : List (List Int)) (n : Int) : Bool := ll.all fun t => decide ((t.length : Int) = n)
def ascB : List (List Int) → Bool
  | [] => true
  | [_] => true
  | x :: y :: r => decide (cmpL x y < 0) && ascB (y :: r)
def rightL (s : List Int) (ll : List (List Int)) : Bool := rightS s && (wideB ll s.length && ascB ll)

theorem ascB_step {l : List (List Int)} {k : Nat} (hk : k + 1 < l.length) : ascB (l.drop k) = (decide (cmpL l[k] l[k + 1] < 0) && ascB (l.drop (k + 1))) := by
  rw [List.drop_eq_getElem_cons (by omega : k < l.length), List.drop_eq_getElem_cons hk, ascB]

theorem ascB_end {l : List (List Int)} {k : Nat} (hk : l.length ≤ k + 1) : ascB (l.drop k) = true := by
  have h : (l.drop k).length ≤ 1 := by simp; omega
  match l.drop k, h with
  | [], _ => rfl
  | [_], _ => rfl
  | _ :: _ :: _, h => simp at h

theorem wideB_step {l : List (List Int)} {n : Int} {k : Nat} (hk : k < l.length) : wideB (l.drop k) n = (decide ((l[k].length : Int) = n) && wideB (l.drop (k + 1)) n) := by
  unfold wideB
  rw [List.drop_eq_getElem_cons hk, List.all_cons]

theorem wideB_end {l : List (List Int)} {n : Int} {k : Nat} (hk : l.length ≤ k) : wideB (l.drop k) n = true := by
  rw [List.drop_eq_nil_of_le hk]; rfl

set_option maxHeartbeats 1000000 in
theorem rightScheme_any {s : List Int} {v : Value} {w : World} (h : Ints w v s) :
    Calls Tryz.prog 76 #[v] w fun e w' => e = .returned (.bool (rightS s)) ∧ Below w.heap.size w w' := by
  obtain ⟨a, ca, rfl, hla, hca⟩ := h.form
  unfold maxLen at hca
  have HR := hide (Calls.toBelow (rising_any h))
  have HS := hide (show rightS s = (risB s && headB s) from rfl)
  generalize risB s = r at HR HS
  generalize rightS s = q at HS
  cases r with
  | false =>
    have HQ := hide (show q = false by simpa using unhide HS)
    clear h HS
    go_enter Tryz.func76, Tryz.ntmps76
    go_wp2_with fail
    refine (unhide HR).mono ?_
    rintro e w1 ⟨rfl, hb⟩
    go_wp2
    go_ret
    exact ⟨ret_bool (unhide HQ).symm, hb⟩
  | true =>
    by_cases hs : 0 < s.length
    · obtain ⟨ba, oa, rfl, hc⟩ := h.at hs
      rw [Nat.add_zero] at hc
      have HC := hide (fun W (hb : Below w.heap.size w W) => Below.cell_of hb hc)
      have hs0 : ((s.length : Int) == 0) = false := beq_eq_false_iff_ne.2 (by omega)
      have HQ := hide (show q = decide ((0 : Int) ≤ s[0]) by cases s with
        | nil => simp at hs
        | cons x r => simpa [headB] using unhide HS)
      clear h HS hc
      go_enter Tryz.func76, Tryz.ntmps76
      go_wp2_with fail
      refine (unhide HR).mono ?_
      rintro e w1 ⟨rfl, hb⟩
      have hc := unhide HC _ hb
      go_wp2
      all_goals
        go_ret
        exact ⟨ret_bool (by rw [unhide HQ]), hb⟩
    · have hs0 : ((s.length : Int) == 0) = true := beq_iff_eq.2 (by omega)
      have HQ := hide (show q = true by cases s with
        | nil => simpa [headB] using unhide HS
        | cons x r => simp at hs)
      clear h HS
      go_enter Tryz.func76, Tryz.ntmps76
      go_wp2_with fail
      refine (unhide HR).mono ?_
      rintro e w1 ⟨rfl, hb⟩
      go_wp2
      go_ret
      exact ⟨ret_bool (unhide HQ).symm, hb⟩

set_option maxHeartbeats 1000000 in
theorem allWide_any {ll : List (List Int)} {n : Int} {v : Value} {w : World} (h : Tups w v ll) :
    Calls Tryz.prog 77 #[v, .int .i64 n] w fun e w' => e = .returned (.bool (wideB ll n)) ∧ w' = w := by
  obtain ⟨a, ca, rfl, hla, hca⟩ := h.form
  unfold maxLen at hca
  obtain ⟨c, hc⟩ : ∃ c, c = wideB ll n := ⟨_, rfl⟩
  rw [← hc]
  go_enter Tryz.func77, Tryz.ntmps77
  go_wp2
  go_loop [6, 9] (fun _ i => ∃ k : Nat, k ≤ ll.length ∧ i = .int .i64 k ∧ Hid (c = wideB (ll.drop k) n)) (fun _ i => ll.length - (intOf i).toNat)
  case atStart => exact ⟨0, by omega, rfl, hc⟩
  case round =>
    clear hc
    obtain ⟨k, hk, rfl, hc⟩ := hrel
    by_cases hkl : k < ll.length
    · obtain ⟨bl, ol, ul, rfl, hcl, hil⟩ := h.at hkl
      obtain ⟨ia, ic, rfl, _, _⟩ := hil.form
      have hc' := unhide hc
      rw [wideB_step hkl] at hc'
      clear hc h hil
      by_cases hw : (ll[k].length : Int) = n
      · have Hc : Hid (c = wideB (ll.drop (k + 1)) n) := hide (by simpa [hw] using hc')
        have hw1 : ((ll[k].length : Int) != n) = false := by simp [hw]
        clear hc' hw
        go_wp2
        go_round
        case rel => exact ⟨k + 1, by omega, by go_num, Hc⟩
        case measure => simp [intOf]; omega
      · have Hc : Hid (c = false) := hide (by simpa [hw] using hc')
        have hw1 : ((ll[k].length : Int) != n) = true := by simp [hw]
        clear hc' hw
        go_wp2
        go_ret
        exact ⟨ret_bool Hc.out.symm, rfl⟩
    · have hc' := unhide hc
      rw [wideB_end (by omega)] at hc'
      have Hc := hide hc'
      clear hc hc' h
      go_wp2
      go_ret
      exact ⟨ret_bool Hc.out.symm, rfl⟩

end Go.Proofs.YtafpecdmaogohaaGreat
