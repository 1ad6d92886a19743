/-
  The contracts of same, Copy, own, and Find: the program's, and the document's.
-/
import Derived.Test.YtflibcfecnhjgaaApp2
import Derived.Test.YtflibcfecnhjgaaTupCmp
import Derived.Deep.DeepMust
namespace Go.Proofs.Ytflibcfecnhjgaa
open Go.RowKit
set_option linter.unusedVariables false
set_option linter.unusedSimpArgs false
set_option maxRecDepth 20000

set_option maxHeartbeats 1000000 in
theorem refCopy_any {l : List Int} {v : Value} {w : World} (h : Ints w v l) (hlen : l.length < 100000000000) :
    Calls Try.prog 18 #[v] w fun e w' => ∃ v, e = .returned v ∧ Ints w' v l ∧ New w.heap.size w' v ∧ Below w.heap.size w w' := by
  obtain ⟨a, ca, rfl, hla, hca⟩ := h.form
  have hb1 := (Below.refl w.heap.size w).alloc (Nat.le_refl _) (.cells #[] 3)
  have h1 := h.below hb1
  have hown := own_litI (Nat.le_refl w.heap.size)
  clear h
  go_enter Try.func18, Try.ntmps18
  go_wp2_with (at_builtin; refine wp_app_ints rfl (.tmp 3) (.tmp 4) rfl hown rfl (by simp) h1 rfl (by simpa using hlen) ?_; intro v' w' hown' hgrew)
  go_ret
  rw [List.nil_append] at hown'
  exact ⟨_, rfl, Seq.of_own hown', New.of_own hown', hb1.trans hgrew.below⟩

/-- How many of the list, from its beginning, are less. -/
def lowN (ll : List (List Int)) (t : List Int) : Nat := (ll.takeWhile fun x => decide (cmpL x t < 0)).length

def isAt (ll : List (List Int)) (t : List Int) (k : Nat) : Bool := if h : k < ll.length then decide (cmpL ll[k] t = 0) else false

theorem lowN_le (ll : List (List Int)) (t : List Int) : lowN ll t ≤ ll.length := by
  unfold lowN
  induction ll with
  | nil => simp
  | cons x r ih => simp only [List.takeWhile]; split <;> simp; omega

theorem low_step {ll : List (List Int)} {t : List Int} {k : Nat} (hk : k < ll.length) (h : cmpL ll[k] t < 0) : lowN (ll.drop k) t = lowN (ll.drop (k + 1)) t + 1 := by
  rw [List.drop_eq_getElem_cons hk]
  simp [lowN, List.takeWhile, h]

theorem low_stop {ll : List (List Int)} {t : List Int} {k : Nat} (hk : k < ll.length) (h : ¬ cmpL ll[k] t < 0) : lowN (ll.drop k) t = 0 := by
  rw [List.drop_eq_getElem_cons hk]
  simp [lowN, List.takeWhile, h]

theorem low_end {ll : List (List Int)} {t : List Int} {k : Nat} (hk : ll.length ≤ k) : lowN (ll.drop k) t = 0 := by
  rw [List.drop_eq_nil_of_le hk]; rfl

theorem ret_pair {a b : Int} {p q : Bool} (h : a = b) (h' : p = q) : Ending.returned (.tuple #[.int .i64 a, .bool p]) = .returned (.tuple #[.int .i64 b, .bool q]) := by rw [h, h']

set_option maxHeartbeats 1000000 in
theorem refFind_any {ll : List (List Int)} {t : List Int} {v vt : Value} {w : World} (h : Tups w v ll) (ht : Ints w vt t) :
    Calls Try.prog 24 #[v, vt] w fun e w' => e = .returned (.tuple #[.int .i64 (lowN ll t), .bool (isAt ll t (lowN ll t))]) ∧ ∃ n, w' = w.drewN n := by
  obtain ⟨a, ca, rfl, hla, hca⟩ := h.form
  obtain ⟨b, cb, rfl, hlb, hcb⟩ := ht.form
  unfold maxLen at hca hcb
  obtain ⟨c, hc⟩ : ∃ c, c = lowN ll t := ⟨_, rfl⟩
  rw [← hc]
  go_enter Try.func24, Try.ntmps24
  go_wp2
  go_loopw [6] (fun i wr => ∃ k n : Nat, k ≤ ll.length ∧ i = .int .i64 k ∧ wr = w.drewN n ∧ Hid (c = k + lowN (ll.drop k) t)) (fun i _ => ll.length - (intOf i).toNat)
  case atStart => exact ⟨0, 0, by omega, rfl, rfl, hide (by simpa using hc)⟩
  case round =>
    clear hc
    obtain ⟨k, n, hk1, rfl, rfl, hc⟩ := hrel
    have hc' := hc.out
    clear hc
    by_cases hk : k < ll.length
    · obtain ⟨ba, oa, ua, rfl, hua, hia⟩ := h.at hk
      have HC := hide (fun n => refCompare_any (Seq.drewN hia n) (Seq.drewN ht n))
      obtain ⟨q, hq⟩ : ∃ q, q = cmpL ll[k] t := ⟨_, rfl⟩
      rw [← hq] at HC
      by_cases hz : q < 0
      · rw [low_step hk (hq ▸ hz)] at hc'
        have Hc : Hid (c = (k + 1) + lowN (ll.drop (k + 1)) t) := hide (by omega)
        clear hc' hq hia ht h
        go_wp2_with (go_at_call 29; refine (unhide HC _).mono ?_; rintro e w' ⟨rfl, m, rfl⟩)
        go_roundw
        case rel => exact ⟨k + 1, _, by omega, by go_num, by first | rfl | (simp only [World.drewN_drewN]; rfl), Hc⟩
        case measure => simp [intOf]; omega
      · rw [low_stop hk (hq ▸ hz)] at hc'
        have Hc : Hid (c = k) := hide (by omega)
        have Hq : Hid (isAt ll t k = (q == 0)) := hide (by unfold isAt; rw [dif_pos hk, ← hq]; by_cases h0 : q = 0 <;> simp [h0])
        clear hc' hq hia ht h
        obtain ⟨p, hp⟩ : ∃ p, p = (q == 0) := ⟨_, rfl⟩
        have hp' := hp.symm
        clear hp
        go_wp2_with fail
        refine (unhide HC _).mono ?_
        rintro e w' ⟨rfl, m, rfl⟩
        go_wp2_with fail
        refine (unhide HC _).mono ?_
        rintro e w' ⟨rfl, m2, rfl⟩
        go_wp2
        go_ret2
        refine ⟨?_, by first | exact ⟨_, rfl⟩ | (simp only [World.drewN_drewN]; exact ⟨_, rfl⟩)⟩
        rw [Hc.out, Hq.out, hp']
        rfl
    · rw [low_end (by omega)] at hc'
      have Hc : Hid (c = k) := hide (by omega)
      have Hq : Hid (isAt ll t k = false) := hide (by unfold isAt; rw [dif_neg hk])
      clear hc' ht h
      go_wp2
      go_ret2
      refine ⟨?_, ⟨_, rfl⟩⟩
      rw [Hc.out, Hq.out]
      rfl

/-- The list rises. -/
abbrev AscL (ll : List (List Int)) : Prop := ll.Pairwise fun x y => cmpL x y < 0

theorem low_is {ll : List (List Int)} (hs : AscL ll) {t : List Int} {k : Nat} (hk : k ≤ ll.length) (h1 : ∀ i (hi : i < ll.length), i < k → cmpL ll[i] t < 0) (h2 : ∀ i (hi : i < ll.length), k ≤ i → ¬ cmpL ll[i] t < 0) : lowN ll t = k := by
  induction ll generalizing k with
  | nil => simp at hk; subst hk; rfl
  | cons x r ih =>
    rw [AscL, List.pairwise_cons] at hs
    cases k with
    | zero =>
      have := h2 0 (by simp) (Nat.le_refl _)
      have hd : decide (cmpL x t < 0) = false := by simpa using this
      simp [lowN, List.takeWhile, hd]
    | succ k =>
      have h0 := h1 0 (by simp) (by omega)
      simp at h0
      have := ih hs.2 (k := k) (by simp at hk; omega) (fun i hi hik => by have := h1 (i + 1) (by simp; omega) (by omega); simpa using this) (fun i hi hik => by have := h2 (i + 1) (by simp; omega) (by omega); simpa using this)
      unfold lowN at this ⊢
      simp [List.takeWhile, h0, this]

/-- In a list that rises what is less stands ahead. -/
theorem asc_at {ll : List (List Int)} (hs : AscL ll) {i j : Nat} (hi : i < ll.length) (hj : j < ll.length) (h : i < j) : cmpL ll[i] ll[j] < 0 := (List.pairwise_iff_getElem.1 hs) i j hi hj h

theorem lt_below {ll : List (List Int)} (hs : AscL ll) {t : List Int} {i j : Nat} (hi : i < ll.length) (hj : j < ll.length) (h : i ≤ j) (hl : cmpL ll[j] t < 0) : cmpL ll[i] t < 0 := by
  rcases Nat.lt_or_ge i j with h' | h'
  · exact cmpL_trans (asc_at hs hi hj h') hl
  · have : i = j := by omega
    subst this; exact hl

set_option maxHeartbeats 2000000 in
theorem search_any {ll : List (List Int)} {t : List Int} {v vt : Value} {w : World} (h : Tups w v ll) (ht : Ints w vt t) (hs : AscL ll) (hlen : ll.length < 100000000000) :
    Calls Try.prog 40 #[v, vt, .func (.func 41) #[] #[]] w fun e w' => e = .returned (.tuple #[.int .i64 (lowN ll t), .bool (isAt ll t (lowN ll t))]) ∧ ∃ n, w' = w.drewN n := by
  obtain ⟨a, ca, rfl, hla, hca⟩ := h.form
  obtain ⟨b, cb, rfl, hlb, hcb⟩ := ht.form
  unfold maxLen at hca hcb
  obtain ⟨c, hc⟩ : ∃ c, c = lowN ll t := ⟨_, rfl⟩
  rw [← hc]
  go_enter Try.func40, Try.ntmps40
  go_wp2
  go_loopw [9, 10] (fun si sj wr => ∃ i j n : Nat, i ≤ j ∧ j ≤ ll.length ∧ si = .int .i64 i ∧ sj = .int .i64 j ∧ wr = w.drewN n ∧ Hid ((∀ k (hk : k < ll.length), k < i → cmpL ll[k] t < 0) ∧ (∀ k (hk : k < ll.length), j ≤ k → 0 ≤ cmpL ll[k] t))) (fun si sj _ => (intOf sj).toNat - (intOf si).toNat)
  case atStart => exact ⟨0, ll.length, 0, by omega, by omega, rfl, rfl, rfl, hide ⟨fun k _ h => by omega, fun k _ h => by omega⟩⟩
  case round =>
    obtain ⟨i, j, n, hij, hj, rfl, rfl, rfl, Hr⟩ := hrel
    by_cases hlt : i < j
    · have hm : (i + j) / 2 < ll.length := by omega
      obtain ⟨ba, oa, ua, rfl, hua, hia⟩ := h.at hm
      have HC := hide (fun n => compare_any (Seq.drewN hia n) (Seq.drewN ht n))
      obtain ⟨q, hq⟩ : ∃ q, q = cmpL ll[(i + j) / 2] t := ⟨_, rfl⟩
      rw [← hq] at HC
      obtain ⟨hr1, hr2⟩ := unhide Hr
      by_cases hz : q < 0
      · have Hr' := hide (show (∀ k (hk : k < ll.length), k < (i + j) / 2 + 1 → cmpL ll[k] t < 0) ∧ (∀ k (hk : k < ll.length), j ≤ k → 0 ≤ cmpL ll[k] t) from
          ⟨fun k hk hkl => lt_below hs hk hm (by omega) (hq ▸ hz), hr2⟩)
        clear hia ht h hq hc hr1 hr2 Hr
        go_wp2_with (go_at_call 41; refine (unhide HC _).mono ?_; rintro e w' ⟨rfl, m, rfl⟩)
        go_roundw
        case rel => exact ⟨(i + j) / 2 + 1, j, _, by omega, by omega, by go_num, rfl, by first | rfl | (simp only [World.drewN_drewN]; rfl), Hr'⟩
        case measure => simp [intOf]; omega
      · have Hr' := hide (show (∀ k (hk : k < ll.length), k < i → cmpL ll[k] t < 0) ∧ (∀ k (hk : k < ll.length), (i + j) / 2 ≤ k → 0 ≤ cmpL ll[k] t) from
          ⟨hr1, fun k hk hkl => Int.not_lt.1 fun hlt => hz (hq ▸ lt_below hs hm hk hkl hlt)⟩)
        clear hia ht h hq hc hr1 hr2 Hr
        go_wp2_with (go_at_call 41; refine (unhide HC _).mono ?_; rintro e w' ⟨rfl, m, rfl⟩)
        go_roundw
        case rel => exact ⟨i, (i + j) / 2, _, by omega, by omega, rfl, by go_num, by first | rfl | (simp only [World.drewN_drewN]; rfl), Hr'⟩
        case measure => simp [intOf]; omega
    · have hji : j = i := by omega
      subst hji
      obtain ⟨hr1, hr2⟩ := unhide Hr
      have hlow : c = j := by rw [hc]; exact low_is hs hj hr1 (fun k hk hkl => Int.not_lt.2 (hr2 k hk hkl))
      by_cases hk : j < ll.length
      · obtain ⟨ba, oa, ua, rfl, hua, hia⟩ := h.at hk
        have HC := hide (fun n => compare_any (Seq.drewN hia n) (Seq.drewN ht n))
        obtain ⟨q, hq⟩ : ∃ q, q = cmpL ll[j] t := ⟨_, rfl⟩
        rw [← hq] at HC
        have Hc := hide hlow
        have Hq : Hid (isAt ll t j = (q == 0)) := hide (by unfold isAt; rw [dif_pos hk, ← hq]; by_cases h0 : q = 0 <;> simp [h0])
        obtain ⟨p, hp⟩ : ∃ p, p = (q == 0) := ⟨_, rfl⟩
        have hp' := hp.symm
        clear hq hia ht h hp hlow hc hr1 hr2 Hr
        go_wp2_with (go_at_call 41; refine (unhide HC _).mono ?_; rintro e w' ⟨rfl, m, rfl⟩)
        go_ret2
        refine ⟨?_, by first | exact ⟨_, rfl⟩ | (simp only [World.drewN_drewN]; exact ⟨_, rfl⟩)⟩
        rw [Hc.out, Hq.out, hp']
        rfl
      · have Hc := hide hlow
        have Hq : Hid (isAt ll t j = false) := hide (by unfold isAt; rw [dif_neg hk])
        clear ht h hlow hc hr1 hr2 Hr
        go_wp2
        go_ret2
        refine ⟨?_, ⟨_, rfl⟩⟩
        rw [Hc.out, Hq.out]
        rfl

set_option maxHeartbeats 1000000 in
theorem find_any {ll : List (List Int)} {t : List Int} {v vt : Value} {w : World} (h : Tups w v ll) (ht : Ints w vt t) (hs : AscL ll) (hlen : ll.length < 100000000000) :
    Calls Try.prog 30 #[v, vt] w fun e w' => e = .returned (.tuple #[.int .i64 (lowN ll t), .bool (isAt ll t (lowN ll t))]) ∧ ∃ n, w' = w.drewN n := by
  have HC := hide (search_any h ht hs hlen)
  clear h ht
  go_enter Try.func30, Try.ntmps30
  go_wp2_with fail
  refine (unhide HC).mono ?_
  rintro e w' ⟨rfl, m, rfl⟩
  go_wp2
  go_ret2
  exact ⟨rfl, _, rfl⟩

end Go.Proofs.Ytflibcfecnhjgaa
