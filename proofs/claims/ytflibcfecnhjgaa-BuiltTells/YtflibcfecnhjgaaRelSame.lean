/-
  The contracts of Same, of the document's Same, and of Has.
-/
import Derived.Test.YtflibcfecnhjgaaRelRight
import Derived.Test.YtflibcfecnhjgaaLibInts
namespace Go.Proofs.Ytflibcfecnhjgaa
open Go.RowKit
set_option linter.unusedVariables false
set_option linter.unusedSimpArgs false
set_option maxRecDepth 20000

def sameLL (a b : List (List Int)) : Bool := decide (a = b)
theorem sameLL_iff {a b : List (List Int)} : sameLL a b = true ↔ a = b := by simp [sameLL]
theorem sameLL_len {a b : List (List Int)} (h : a.length ≠ b.length) : sameLL a b = false := by
  simp only [sameLL, decide_eq_false_iff_not]; exact fun e => h (by rw [e])
theorem sameLL_at {a b : List (List Int)} {k : Nat} (hk : k < a.length) (hk' : k < b.length) (h : sameL a[k] b[k] = false) : sameLL a b = false := by
  simp only [sameLL, decide_eq_false_iff_not]; intro e; subst e; simp [sameL] at h
theorem sameLL_all {a b : List (List Int)} (hl : a.length = b.length) (h : ∀ i (h : i < a.length) (h' : i < b.length), a[i] = b[i]) : sameLL a b = true := by
  simp only [sameLL, decide_eq_true_eq]; exact List.ext_getElem hl h

def sameR (s : List Int) (ll : List (List Int)) (s' : List Int) (ll' : List (List Int)) : Bool := sameL s s' && sameLL ll ll'
theorem sameR_iff {s s' : List Int} {ll ll' : List (List Int)} : sameR s ll s' ll' = true ↔ s = s' ∧ ll = ll' := by simp [sameR, sameL, sameLL]

theorem b2x (w : World) (o p : Obj) : Below w.heap.size w ((w.alloc o).alloc p) := ((Below.refl _ _).alloc (Nat.le_refl _) _).alloc (by simp) _

set_option maxHeartbeats 4000000 in
theorem refSame_rel {s s' : List Int} {ll ll' : List (List Int)} {v v' : Value} {w : World} (h : RelV w v s ll) (h' : RelV w v' s' ll') :
    Calls Try.prog 11 #[v, v'] w fun e w' => e = .returned (.bool (sameR s ll s' ll')) ∧ Below w.heap.size w w' := by
  obtain ⟨a, ca, b, cb, rfl, k1, k2, k3, k4, hs, ht⟩ := h.form
  obtain ⟨a', ca', b', cb', rfl, k1', k2', k3', k4', hs', ht'⟩ := h'.form
  unfold maxLen at k2 k4 k2' k4'
  have HS := hide (fun W (hb : Below w.heap.size w W) => Calls.toBelow (refCompare_any (hs.below hb) (hs'.below hb)))
  have HL := hide (show sameR s ll s' ll' = (sameL s s' && sameLL ll ll') from rfl)
  have HP := hide (show sameL s s' = decide (cmpL s s' = 0) by simp only [sameL, cmpL_zero_iff])
  generalize sameR s ll s' ll' = L at HL
  generalize cmpL s s' = p at HS HP
  have hb0 := b2x w (.cells #[.slice a s.length ca, .slice b ll.length cb] 36) (.cells #[.slice a' s'.length ca', .slice b' ll'.length cb'] 36)
  by_cases hl : ll.length = ll'.length
  · have hl1 : ((ll.length : Int) != (ll'.length : Int)) = false := by simp [hl]
    have hlx : ll.length ≤ ll'.length := by omega
    have HLEN := hide hl
    by_cases hp : p = 0
    · have hp1 : (p != 0) = false := by simp [hp]
      have HQ := hide (show L = sameLL ll ll' by have := unhide HL; rw [unhide HP, hp] at this; simpa using this)
      clear h hs h' hs' hl hp HL HP
      go_enter Try.func11, Try.ntmps11
      go_wp2_with fail
      refine (unhide HS _ hb0).mono ?_
      rintro e w1 ⟨rfl, hb⟩
      have hb1 := below_then hb0 hb
      have hc0 : w1.cell? ⟨w.heap.size, 1, none⟩ = some (.slice b ll.length cb) := by rw [hb.cell (by simp; omega)]; simp
      have hc1 : w1.cell? ⟨w.heap.size + 1, 1, none⟩ = some (.slice b' ll'.length cb') := by rw [hb.cell (by simp)]; simp
      have ht1 := ht.below hb1
      have ht1' := ht'.below hb1
      clear ht ht' hb hb0 HS
      go_wp2
      go_loopw [5] (fun i wr => ∃ k n : Nat, k ≤ ll.length ∧ i = .int .i64 k ∧ wr = w1.drewN n ∧ Hid (∀ j (hj : j < ll.length) (hj' : j < ll'.length), j < k → ll[j] = ll'[j])) (fun i _ => ll.length - (intOf i).toNat)
      case atStart => exact ⟨0, 0, by omega, rfl, rfl, hide (fun j hj hj' h => by omega)⟩
      case round =>
        obtain ⟨k, n, hk, rfl, rfl, hc⟩ := hrel
        by_cases hka : k < ll.length
        · have hkb : k < ll'.length := by omega
          obtain ⟨ba, oa, ua, rfl, hca', hia⟩ := ht1.at hka
          obtain ⟨bb, ob, ub, rfl, hcb', hib⟩ := ht1'.at hkb
          have HE := hide (fun n => refCompare_any (Seq.drewN hia n) (Seq.drewN hib n))
          have HZ := hide (cmpL_zero_iff (a := ll[k]) (b := ll'[k]))
          generalize cmpL ll[k] ll'[k] = z at HE HZ
          clear ht1 ht1' hia hib
          by_cases he : z = 0
          · have hz1 : (z != 0) = false := by simp [he]
            have Hc : Hid (∀ j (hj : j < ll.length) (hj' : j < ll'.length), j < k + 1 → ll[j] = ll'[j]) := hide (fun j hj hj' h => by
              rcases Nat.lt_or_ge j k with e | e
              · exact unhide hc j hj hj' e
              · have : j = k := by omega
                subst this; exact (unhide HZ).1 he)
            clear he hc HZ
            go_wp2
            go_quiet ((go_at_call 29; exact Calls.quiet_add (unhide HE _)))
            go_wp2
            go_roundw
            case rel => exact ⟨k + 1, _, by omega, by go_num, by first | rfl | (simp only [World.drewN_drewN]; rfl), Hc⟩
            case measure => simp [intOf]; omega
          · have hz1 : (z != 0) = true := by simp [he]
            have HF := hide (show L = false by rw [unhide HQ]; exact sameLL_at hka hkb (by simpa [sameL] using fun e => he ((unhide HZ).2 e)))
            clear he hc HZ
            go_wp2
            go_quiet ((go_at_call 29; exact Calls.quiet_add (unhide HE _)))
            go_wp2
            go_ret
            exact ⟨ret_bool (unhide HF).symm, by simp only [World.drewN_drewN]; exact Below.drewN1 hb1 _⟩
        · have HF := hide (show L = true by rw [unhide HQ]; exact sameLL_all (unhide HLEN) (fun i h h' => unhide hc i h h' (by omega)))
          clear ht1 ht1' hc
          go_wp2
          go_ret
          exact ⟨ret_bool (unhide HF).symm, Below.drewN1 hb1 _⟩
    · have hp1 : (p != 0) = true := by simp [hp]
      have HF := hide (show L = false by rw [unhide HL, unhide HP]; simp [hp])
      clear h hs h' hs' hl hp HL HP ht ht'
      go_enter Try.func11, Try.ntmps11
      go_wp2_with fail
      refine (unhide HS _ hb0).mono ?_
      rintro e w1 ⟨rfl, hb⟩
      have hb1 := below_then hb0 hb
      go_wp2
      go_ret
      exact ⟨ret_bool (unhide HF).symm, hb1⟩
  · have hl1 : ((ll.length : Int) != (ll'.length : Int)) = true := by simp; omega
    have HF := hide (show L = false by rw [unhide HL, sameLL_len hl]; simp)
    clear h hs h' hs' hl HL HP ht ht' HS
    go_enter Try.func11, Try.ntmps11
    go_wp2
    go_ret
    exact ⟨ret_bool (unhide HF).symm, hb0⟩

/-- Is t one of them? -/
def hasL (ll : List (List Int)) (t : List Int) : Bool := decide (t ∈ ll)

end Go.Proofs.Ytflibcfecnhjgaa
