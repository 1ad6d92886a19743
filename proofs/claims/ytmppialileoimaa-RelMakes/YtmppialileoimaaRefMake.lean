/-
  The contracts of the document's Make and Right.
-/
import Derived.Test.YtmppialileoimaaRelMake
namespace Go.Proofs.Ytmppialileoimaa
open Go.RowKit
set_option linter.unusedVariables false
set_option linter.unusedSimpArgs false
set_option maxRecDepth 20000

theorem headB_at {u : List Int} (h : 0 < u.length) : headB u = decide ((0 : Int) ≤ u[0]) := by
  cases u with
  | nil => simp at h
  | cons x r => rfl
theorem headB_nil {u : List Int} (h : ¬ 0 < u.length) : headB u = true := by
  cases u with
  | nil => rfl
  | cons x r => simp at h

set_option maxHeartbeats 4000000 in
/-- Where the scheme may not be. -/
theorem refMake_bad {s : List Int} {ll : List (List Int)} {vs v : Value} {w : World} (hs : Ints w vs s) (h : Tups w v ll) (hsl : s.length < 100000000) (hok : schemeOk s = false) :
    Calls Try.prog 15 #[vs, v] w fun e w' => e = .returned (.tuple #[.agg #[.slice none 0 0, .slice none 0 0], .bool false]) ∧ Below w.heap.size w w' := by
  obtain ⟨a, ca, rfl, hla, hca⟩ := hs.form
  obtain ⟨b, cb, rfl, hlb, hcb⟩ := h.form
  unfold maxLen at hca hcb
  have HOK := hide hok
  have hb0 := (Below.refl w.heap.size w).alloc (Nat.le_refl _) (.cells #[.slice none 0 0, .slice none 0 0] 25)
  have hz0 : w.heap.size ≤ (w.alloc (.cells #[.slice none 0 0, .slice none 0 0] 25)).heap.size := by simp
  have HP := hide (refRise_any (hs.below hb0) hsl)
  have hul := riseL_le s
  have HMK := hide (show schemeOk s = (decide ((riseL s).length = s.length) && headB (riseL s)) from rfl)
  rw [unhide HOK] at HMK
  generalize riseL s = u at HP hul HMK
  clear hs h hok HOK
  go_enter Try.func15, Try.ntmps15
  go_wp2_with fail
  refine (unhide HP).mono ?_
  rintro e w1 ⟨vu, rfl, hu, _, hb1⟩
  obtain ⟨ua, uc, hue, _, huc⟩ := hu.form
  unfold maxLen at huc
  rw [hue] at hu ⊢
  obtain ⟨hc0, hc1, hf0, hf1⟩ := box_cells hb1
  have hbel := hb0.trans (hb1.mono hz0)
  clear HP hue
  by_cases hl : u.length = s.length
  · have hl1 : ((u.length : Int) != (s.length : Int)) = false := by simp [hl]
    have hh : headB u = false := by have := unhide HMK; simpa [hl] using this.symm
    have hup : 0 < u.length := by
      rcases Nat.lt_or_ge 0 u.length with h | h
      · exact h
      · rw [headB_nil (by omega)] at hh; cases hh
    obtain ⟨bu, ou, rfl, hcu⟩ := hu.at hup
    rw [Nat.add_zero] at hcu
    rw [headB_at hup] at hh
    have hneg : u[0] < 0 := by simpa using hh
    clear hl hh HMK hu
    go_wp2
    refine bodyPost_ret (v := .tuple #[.agg #[.slice none 0 0, .slice none 0 0], .bool false]) (by simp [results, Try.results15, go_sem, hc0, hc1]) rfl ⟨rfl, below_store hbel (Nat.le_refl _) _ _⟩
  · have hl1 : ((u.length : Int) != (s.length : Int)) = true := by simp; omega
    clear hl HMK hu
    go_wp2
    refine bodyPost_ret (v := .tuple #[.agg #[.slice none 0 0, .slice none 0 0], .bool false]) (by simp [results, Try.results15, go_sem, hc0, hc1]) rfl ⟨rfl, below_store hbel (Nat.le_refl _) _ _⟩

set_option maxHeartbeats 8000000 in
/-- Where it may. -/
theorem refMake_good {s : List Int} {ll : List (List Int)} {vs v : Value} {w : World} (hs : Ints w vs s) (h : Tups w v ll) (hl : ll.length < 100000) (hsl : s.length < 100000000) (hok : schemeOk s = true) :
    Calls Try.prog 15 #[vs, v] w fun e w' => ∃ u, e = .returned (.tuple #[u, .bool (wideB ll s.length)]) ∧ RelV w' u (if wideB ll s.length then riseL s else []) (if wideB ll s.length then makeL s ll else []) ∧ Below w.heap.size w w' := by
  obtain ⟨a, ca, rfl, hla, hca⟩ := hs.form
  obtain ⟨b, cb, rfl, hlb, hcb⟩ := h.form
  unfold maxLen at hca hcb
  have hb0 := (Below.refl w.heap.size w).alloc (Nat.le_refl _) (.cells #[.slice none 0 0, .slice none 0 0] 25)
  have hz0 : w.heap.size ≤ (w.alloc (.cells #[.slice none 0 0, .slice none 0 0] 25)).heap.size := by simp
  have HP := hide (refRise_any (hs.below hb0) hsl)
  have hul := riseL_le s
  have HMK := hide (show decide ((riseL s).length = s.length) && headB (riseL s) from hok)
  have HML := hide (show makeL s ll = cutL ll ((riseL s).map (placeL s)) from rfl)
  generalize makeL s ll = M at HML
  obtain ⟨q, hq⟩ : ∃ q, q = wideB ll s.length := ⟨_, rfl⟩
  rw [← hq]
  have HQ := hide hq
  generalize riseL s = u at HP hul HMK HML
  clear hok hq
  go_enter Try.func15, Try.ntmps15
  go_wp2_with fail
  refine (unhide HP).mono ?_
  rintro e w1 ⟨vu, rfl, hu, _, hb1⟩
  obtain ⟨ua, uc, hue, _, huc⟩ := hu.form
  unfold maxLen at huc
  rw [hue] at hu ⊢
  obtain ⟨hc0, hc1, hf0, hf1⟩ := box_cells hb1
  have hbel := hb0.trans (hb1.mono hz0)
  have ht1 := h.below hbel
  have hs1 := hs.below hbel
  have hmk := unhide HMK
  simp only [Bool.and_eq_true, decide_eq_true_eq] at hmk
  obtain ⟨hl1, hh⟩ := hmk
  have hl2 : ((u.length : Int) != (s.length : Int)) = false := by simp [hl1]
  clear HP hue h hs hl1 HMK
  have HU := hide hu
  by_cases hup : 0 < u.length
  case' pos =>
    obtain ⟨bu, ou, rfl, hcu⟩ := hu.at hup
    rw [Nat.add_zero] at hcu
    rw [headB_at hup] at hh
    have hneg : ¬ u[0] < 0 := by simpa using hh
    clear hh hu
    go_wp2
  case' neg =>
    clear hh hu
    go_wp2
  all_goals
    go_loop [7] (fun i => ∃ k : Nat, k ≤ ll.length ∧ i = .int .i64 k ∧ Hid (q = wideB (ll.drop k) s.length)) (fun i => ll.length - (intOf i).toNat)
    case atStart => exact ⟨0, by omega, rfl, HQ⟩
    case round =>
      obtain ⟨k, hk, rfl, hc⟩ := hrel
      by_cases hkl : k < ll.length
      · obtain ⟨bl, ol, ul, rfl, hcl, hil⟩ := ht1.at hkl
        obtain ⟨ia, ic, rfl, _, _⟩ := hil.form
        have hc' := unhide hc
        rw [wideB_step hkl] at hc'
        clear hc hil
        by_cases hw : (ll[k].length : Int) = s.length
        · have Hc : Hid (q = wideB (ll.drop (k + 1)) s.length) := hide (by simpa [hw] using hc')
          have hw1 : ((ll[k].length : Int) != (s.length : Int)) = false := by rw [hw]; simp
          clear hc' hw ht1 hs1
          go_wp2
          go_round
          case rel => exact ⟨k + 1, by omega, by go_num, Hc⟩
          case measure => simp [intOf]; omega
        · have Hc : q = false := by simpa [hw] using hc'
          have hw1 : ((ll[k].length : Int) != (s.length : Int)) = true := by simp; omega
          clear hc' hw ht1 hs1
          subst Hc
          go_wp2
          refine bodyPost_ret (v := .tuple #[.agg #[.slice none 0 0, .slice none 0 0], .bool false]) (by simp [results, Try.results15, go_sem, hc0, hc1]) rfl ⟨_, rfl, rel_none _, below_store hbel (Nat.le_refl _) _ _⟩
      · have hc' := unhide hc
        rw [wideB_end (by omega)] at hc'
        subst hc'
        have HCUT := hide (refCut_any hs1 ht1 (unhide HU) hl (by omega))
        clear hc hs1 ht1
        go_wp2_with fail
        refine (unhide HCUT).mono ?_
        rintro e w5 ⟨vr, rfl, hr, hrn, hb5⟩
        have hb5' := below_then hb1 hb5
        have hu5 := (unhide HU).below hb5
        obtain ⟨hd0, hd1, hg0, hg1⟩ := box_cells hb5'
        obtain ⟨ra, rc, hre, _, _⟩ := hr.form
        rw [hre] at hr hrn ⊢
        have hbx := BoxS.of_below hb5'
        have hrz := hb1.size
        clear HCUT hre HU hc0 hc1 hf0 hf1
        go_wp2
        have hbel5 := hb0.trans (hb5'.mono hz0)
        have hfin := rel_store hbx hd0 hu5 hr (hrn.ne (by simp at hrz; omega))
        first | (refine bodyPost_ret (v := .tuple #[.agg #[.slice (some ⟨bu, ou, none⟩) u.length uc, .slice ra (cutL ll (List.map (placeL s) u)).length rc], .bool true]) (by simp [results, Try.results15, go_sem, hd0, hd1]) rfl ⟨_, rfl, by rw [unhide HML]; exact hfin, below_store hbel5 (Nat.le_refl _) _ _⟩) | (refine bodyPost_ret (v := .tuple #[.agg #[.slice ua u.length uc, .slice ra (cutL ll (List.map (placeL s) u)).length rc], .bool true]) (by simp [results, Try.results15, go_sem, hd0, hd1]) rfl ⟨_, rfl, by rw [unhide HML]; exact hfin, below_store hbel5 (Nat.le_refl _) _ _⟩)

end Go.Proofs.Ytmppialileoimaa
