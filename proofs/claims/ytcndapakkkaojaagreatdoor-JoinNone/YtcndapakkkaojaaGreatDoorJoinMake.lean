/-
  The contract of Make, where its rows lie too.
-/
import Derived.Test.YtcndapakkkaojaaGreatDoorRelMake
namespace Go.Proofs.YtcndapakkkaojaaGreatDoor
open Go.RowKit
set_option linter.unusedVariables false
set_option linter.unusedSimpArgs false
set_option maxRecDepth 20000

set_option maxHeartbeats 4000000 in
theorem make_okN {s : List Int} {ll : List (List Int)} {vs v : Value} {w : World} (hs : Ints w vs s) (h : Tups w v ll) (hl : ll.length < 100000) (hsl : s.length < 100000000) (hok : makeOk s ll = true) :
    Calls Tryz.prog 41 #[vs, v] w fun e w' => ∃ x y, e = .returned (.tuple #[.agg #[x, y], .int .i64 0]) ∧ RelV w' (.agg #[x, y]) (riseL s) (makeL s ll) ∧ (∀ b, b < w.heap.size → y.ownBlock ≠ some b) ∧ Below w.heap.size w w' := by
  obtain ⟨a, ca, rfl, hla, hca⟩ := hs.form
  obtain ⟨b, cb, rfl, hlb, hcb⟩ := h.form
  unfold maxLen at hca hcb
  have HOK := hide hok
  have hb0 := (Below.refl w.heap.size w).alloc (Nat.le_refl _) (.cells #[.slice none 0 0, .slice none 0 0] 27)
  have hz0 : w.heap.size ≤ (w.alloc (.cells #[.slice none 0 0, .slice none 0 0] 27)).heap.size := by simp
  have HP := hide (places_any (hs.below hb0) hsl)
  have HS := hide (fun W (hb : Below w.heap.size w W) => hs.below hb)
  have HT := hide (fun W (hb : Below w.heap.size w W) => h.below hb)
  clear hs h hok
  go_enter Tryz.func41, Tryz.ntmps41
  go_wp2_with fail
  refine (unhide HP).mono ?_
  rintro e w1 ⟨vp, ps, rfl, hp, hup, hps, _, hb1⟩
  have HC := hide (fun hok => cut_pick (ll := ll) hp hup hok)
  have HR := hide (right_pick hp hup)
  have hpl : ps.length ≤ s.length := by rw [hp.length_eq, natsI_len]; exact Nat.le_refl _
  have hkl := pickL_le s ps
  obtain ⟨pa, pc, hpe, _, _⟩ := hps.form
  rw [hpe] at hps ⊢
  have HPK := hide (pick_any (unhide HS _ (hb0.trans (hb1.mono hz0))) hps (by omega))
  generalize pickL s ps = t at HC HR hkl HPK
  clear hp hup hpe HP
  go_wp2_with fail
  refine (unhide HPK).mono ?_
  rintro e w2 ⟨vt, rfl, ht, _, hb2⟩
  have hb2' := below_then hb1 hb2
  obtain ⟨ta, tc, hte, _, _⟩ := ht.form
  rw [hte] at ht ⊢
  have HRS := hide (rightScheme_any ht)
  have hso : schemeOk s = true := by have := unhide HOK; unfold makeOk at this; simp at this; exact this.1
  have hwo : wideB ll s.length = true := by have := unhide HOK; unfold makeOk at this; simp at this; exact this.2
  rw [unhide HR, hso] at HRS
  have HC2 := hide (unhide HC hso)
  clear HPK HC HR hte hso
  go_wp2_with fail
  refine (unhide HRS).mono ?_
  rintro e w3 ⟨rfl, hb3⟩
  have hb3' := below_then hb2' hb3
  have HW := hide (allWide_any (n := (s.length : Int)) (unhide HT _ (hb0.trans (hb3'.mono hz0))))
  rw [hwo] at HW
  have ht3 := ht.below hb3
  have hps3 := (hps.below hb2).below hb3
  clear HRS hwo ht hps hb1 hb2 hb2' hb3
  go_wp2_with fail
  refine (unhide HW).mono ?_
  rintro e w4 ⟨rfl, rfl⟩
  have HCUT := hide (cut_any (unhide HT _ (hb0.trans (hb3'.mono hz0))) hps3 hl (by omega))
  clear HW
  go_wp2_with fail
  refine (unhide HCUT).mono ?_
  rintro e w5 ⟨vr, rfl, hr, hrn, hb5⟩
  have hb5' := below_then hb3' hb5
  have ht5 := ht3.below hb5
  obtain ⟨hc0, hc1, hf0, hf1⟩ := box_cells hb5'
  obtain ⟨ra, rc, hre, _, _⟩ := hr.form
  rw [hre] at hr hrn ⊢
  have hbx := BoxS.of_below hb5'
  have hrz := hb3'.size
  clear HCUT hre hps3 ht3
  go_wp2
  have hbel := hb0.trans (hb5'.mono hz0)
  have hfin := rel_store hbx hc0 ht5 hr (hrn.ne (by simp at hrz; omega))
  refine bodyPost_ret (v := .tuple #[.agg #[.slice ta t.length tc, .slice ra (cutL ll ps).length rc], .int .i64 0]) (by simp [results, Tryz.results41, go_sem, hc0, hc1]) rfl ⟨_, _, rfl, by rw [← (unhide HC2).1, ← (unhide HC2).2]; exact hfin, fun b hb => hrn.ne (by simp at hrz; omega), below_store hbel (Nat.le_refl _) _ _⟩

end Go.Proofs.YtcndapakkkaojaaGreatDoor
