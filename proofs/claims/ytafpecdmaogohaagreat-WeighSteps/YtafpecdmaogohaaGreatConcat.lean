/-
  The contracts of slices.Concat at two rows of numbers, and of Make (where its rows lie too).
-/
import Derived.Test.YtafpecdmaogohaaGreatRelUnion
import Derived.Test.YtafpecdmaogohaaGreatRelMake
import Derived.Test.YtafpecdmaogohaaGreatTupMrg
namespace Go.Proofs.YtafpecdmaogohaaGreat
open Go.RowKit
set_option linter.unusedVariables false
set_option linter.unusedSimpArgs false
set_option maxRecDepth 20000

/-- 't[:0]'. -/
theorem run_cutI0 (a : Option Addr) (len cap : Nat) (w : World) :
    (Instr.slice 22 (.slice a len cap) none (some (.int .i64 0)) none).run Tryz.prog w = .ok (.slice a 0 cap) w := run_cut a len cap 0 0 rfl (Nat.zero_le _) w

set_option maxHeartbeats 1000000 in
theorem growNilI_any {n : Nat} {w : World} (hn : n < 100000000) :
    Calls Tryz.prog 74 #[.slice none 0 0, .int .i64 n] w fun e w' => ∃ v, e = .returned v ∧ OwnI w.heap.size w' v [] ∧ Below w.heap.size w w' := by
  have hc0 := run_cutI0
  by_cases h0 : n = 0
  · subst h0
    go_enter Tryz.func74, Tryz.ntmps74
    go_wp2
    go_ret
    exact ⟨_, rfl, own_nilI _ _, Below.refl _ _⟩
  · have h1 : 0 < n := by omega
    have h2 : (0 : Int) < (n : Int) := by omega
    obtain ⟨i, hi, hz0, hz1, hz2⟩ := info_parts Tryz.infoInt
    have hr := Lib.run_append_nil_zeros (P := Tryz.prog) w 22 3 22 3 i (.int .i64 0) .i64 .i64 Tryz.underlying22 Tryz.underlying3 hi hz0 n h1 (by rw [hz1]; omega) (by omega) (by rw [hz2]; omega)
    have HR := hide hr
    have HSZ := hide (show (Builtin.zeroCells (Value.int .i64 0).cells n ++ Builtin.zeroCells (Value.int .i64 0).cells (grownCap w n 0 3 - n)).size = grownCap w n 0 3 by
      have := grownCap_ge w n 0 3
      simp [Builtin.zeroCells, Value.cells]; omega)
    have HML := hide (grownCap_le_maxLen w n 0 3 (by unfold maxLen; omega))
    clear h0 hr hi hz0 hz1 hz2
    go_enter Tryz.func74, Tryz.ntmps74
    go_wp2_with (at_builtin; refine Lib.wpList_append_run _ rfl (.tmp 20) (.tmp 21) 22 3 rfl _ _ rfl rfl _ _ (unhide HR) ?_)
    go_ret
    refine ⟨_, rfl, ?_, ?_⟩
    · have := World.ownsRow_made (base := w.heap.size) (e := 3) (size := 1) w _ (grownCap w n 0 3) (Nat.le_refl _) (unhide HML) (by rw [Nat.mul_one]; exact unhide HSZ)
      exact this
    · exact Below.drewN1 ((Below.refl w.heap.size w).alloc (Nat.le_refl _) _) 1

set_option maxHeartbeats 4000000 in
theorem concatI_any {la lb : List Int} {va vb : Value} {b : Nat} {w : World} (ha : Ints w va la) (hb : Ints w vb lb) (hbx : w.heap[b]? = some (.cells #[va, vb] 22 (0, 0))) (hla : la.length < 10000000) (hlb : lb.length < 10000000) :
    Calls Tryz.prog 56 #[.slice (some ⟨b, 0, none⟩) 2 2] w fun e w' => ∃ v, e = .returned v ∧ Ints w' v (la ++ lb) ∧ New w.heap.size w' v ∧ Below w.heap.size w w' := by
  obtain ⟨a, ca, rfl, hla2, hca⟩ := ha.form
  obtain ⟨a', cb, rfl, hlb2, hcb⟩ := hb.form
  unfold maxLen at hca hcb
  obtain ⟨hc0, hc1⟩ := two_cells hbx
  rw [Nat.zero_add] at hc1
  go_enter Tryz.func56, Tryz.ntmps56
  go_wp2
  go_loop [3, 5, 11] (fun z _ i => (i = .int .i64 0 ∧ z = .int .i64 0) ∨ (i = .int .i64 1 ∧ z = .int .i64 la.length) ∨ (i = .int .i64 2 ∧ z = .int .i64 ((la.length : Int) + lb.length))) (fun _ _ i => 2 - (intOf i).toNat)
  case atStart => exact .inl ⟨rfl, rfl⟩
  case round =>
    rcases hrel with ⟨rfl, rfl⟩ | ⟨rfl, rfl⟩ | ⟨rfl, rfl⟩
    · clear ha hb
      go_wp2
      go_round
      case rel => exact .inr (.inl ⟨rfl, by go_num⟩)
      case measure => simp [intOf]
    · clear ha hb
      go_wp2
      go_round
      case rel => exact .inr (.inr ⟨rfl, by go_num⟩)
      case measure => simp [intOf]
    · have HG := hide (growNilI_any (n := la.length + lb.length) (w := w) (by omega))
      have eG : (((la.length + lb.length : Nat) : Int)) = (la.length : Int) + lb.length := by omega
      rw [eG] at HG
      clear eG
      have HA := hide ha
      have HB := hide hb
      clear ha hb
      go_wp2_with fail
      refine (unhide HG).mono ?_
      rintro e w1 ⟨vg, rfl, hg, hb1⟩
      have hown1 : OwnI w.heap.size w1 vg [] := hg
      have hd0 := Below.cell_of hb1 hc0
      have hd1 := Below.cell_of hb1 hc1
      clear HG hg hc0 hc1
      go_wp2
      go_loopw [6, 8, 27] (fun v _ i wr => ((i = .int .i64 0 ∧ OwnI w.heap.size wr v []) ∨ (i = .int .i64 1 ∧ OwnI w.heap.size wr v la) ∨ (i = .int .i64 2 ∧ OwnI w.heap.size wr v (la ++ lb))) ∧ Below w.heap.size w wr ∧ wr.cell? ⟨b, 0, none⟩ = some (.slice a la.length ca) ∧ wr.cell? ⟨b, 1, none⟩ = some (.slice a' lb.length cb)) (fun _ _ i _ => 2 - (intOf i).toNat)
      case atStart => exact ⟨.inl ⟨rfl, hown1⟩, hb1, hd0, hd1⟩
      case round =>
        clear hown1 hb1 hd0 hd1
        obtain ⟨hor, hbel, hd0, hd1⟩ := hrel
        have hz := hbel.size
        have hbx1 : b < w.heap.size := by
          rcases Nat.lt_or_ge b w.heap.size with hl | hl
          · exact hl
          · rw [Array.getElem?_eq_none hl] at hbx; cases hbx
        rcases hor with ⟨rfl, hown⟩ | ⟨rfl, hown⟩ | ⟨rfl, hown⟩
        · go_wp2_with (at_builtin; refine wp_app_ints rfl (.tmp 31) (.tmp 32) rfl hown rfl hz ((unhide HA).below hbel) rfl (by simp; omega) ?_; intro v' w4 hown4 hgrew)
          go_roundw
          case rel => exact ⟨.inr (.inl ⟨rfl, by simpa using hown4⟩), hbel.trans hgrew.below, by rw [hgrew.below.cell hbx1]; exact hd0, by rw [hgrew.below.cell hbx1]; exact hd1⟩
          case measure => simp [intOf]
        · go_wp2_with (at_builtin; refine wp_app_ints rfl (.tmp 31) (.tmp 32) rfl hown rfl hz ((unhide HB).below hbel) rfl (by omega) ?_; intro v' w4 hown4 hgrew)
          go_roundw
          case rel => exact ⟨.inr (.inr ⟨rfl, hown4⟩), hbel.trans hgrew.below, by rw [hgrew.below.cell hbx1]; exact hd0, by rw [hgrew.below.cell hbx1]; exact hd1⟩
          case measure => simp [intOf]
        · have hfin := Seq.of_own hown
          have hnew := New.of_own hown
          clear hown
          go_wp2
          go_ret
          exact ⟨_, rfl, hfin, hnew, hbel⟩

end Go.Proofs.YtafpecdmaogohaaGreat

namespace Go.Proofs.YtafpecdmaogohaaGreat
open Go.RowKit
set_option linter.unusedVariables false
set_option linter.unusedSimpArgs false
set_option maxRecDepth 20000

set_option maxHeartbeats 4000000 in
theorem make_okN {s : List Int} {ll : List (List Int)} {vs v : Value} {w : World} (hs : Ints w vs s) (h : Tups w v ll) (hl : ll.length < 100000) (hsl : s.length < 100000000) (hok : makeOk s ll = true) :
    Calls Tryz.prog 57 #[vs, v] w fun e w' => ∃ x y, e = .returned (.tuple #[.agg #[x, y], .int .i64 0]) ∧ RelV w' (.agg #[x, y]) (riseL s) (makeL s ll) ∧ (∀ b, b < w.heap.size → y.ownBlock ≠ some b) ∧ Below w.heap.size w w' := by
  obtain ⟨a, ca, rfl, hla, hca⟩ := hs.form
  obtain ⟨b, cb, rfl, hlb, hcb⟩ := h.form
  unfold maxLen at hca hcb
  have HOK := hide hok
  have hb0 := (Below.refl w.heap.size w).alloc (Nat.le_refl _) (.cells #[.slice none 0 0, .slice none 0 0] 29)
  have hz0 : w.heap.size ≤ (w.alloc (.cells #[.slice none 0 0, .slice none 0 0] 29)).heap.size := by simp
  have HP := hide (places_any (hs.below hb0) hsl)
  have HS := hide (fun W (hb : Below w.heap.size w W) => hs.below hb)
  have HT := hide (fun W (hb : Below w.heap.size w W) => h.below hb)
  clear hs h hok
  go_enter Tryz.func57, Tryz.ntmps57
  go_wp2_with fail
  refine (unhide HP).mono ?_
  rintro e w1 ⟨vp, ps, rfl, hp, hup, hps, _, hb1⟩
  have HC := hide (fun hok => cut_pick (ll := ll) hp hup hok)
  have HR := hide (right_pick hp hup)
  have hpl : ps.length ≤ s.length := by rw [hp.length_eq, natsI_len]; exact Nat.le_refl _
  have hkl := pickL_le s ps
  obtain ⟨pa, pc, hpe, _, _⟩ := hps.form
  rw [hpe] at hps ⊢
  have HPK := hide (pick_any (unhide HS _ (hb0.trans (hb1.mono hz0))) hps (by omega))
  generalize pickL s ps = t at HC HR hkl HPK
  clear hp hup hpe HP
  go_wp2_with fail
  refine (unhide HPK).mono ?_
  rintro e w2 ⟨vt, rfl, ht, _, hb2⟩
  have hb2' := below_then hb1 hb2
  obtain ⟨ta, tc, hte, _, _⟩ := ht.form
  rw [hte] at ht ⊢
  have HRS := hide (rightScheme_any ht)
  have hso : schemeOk s = true := by have := unhide HOK; unfold makeOk at this; simp at this; exact this.1
  have hwo : wideB ll s.length = true := by have := unhide HOK; unfold makeOk at this; simp at this; exact this.2
  rw [unhide HR, hso] at HRS
  have HC2 := hide (unhide HC hso)
  clear HPK HC HR hte hso
  go_wp2_with fail
  refine (unhide HRS).mono ?_
  rintro e w3 ⟨rfl, hb3⟩
  have hb3' := below_then hb2' hb3
  have HW := hide (allWide_any (n := (s.length : Int)) (unhide HT _ (hb0.trans (hb3'.mono hz0))))
  rw [hwo] at HW
  have ht3 := ht.below hb3
  have hps3 := (hps.below hb2).below hb3
  clear HRS hwo ht hps hb1 hb2 hb2' hb3
  go_wp2_with fail
  refine (unhide HW).mono ?_
  rintro e w4 ⟨rfl, rfl⟩
  have HCUT := hide (cut_any (unhide HT _ (hb0.trans (hb3'.mono hz0))) hps3 hl (by omega))
  clear HW
  go_wp2_with fail
  refine (unhide HCUT).mono ?_
  rintro e w5 ⟨vr, rfl, hr, hrn, hb5⟩
  have hb5' := below_then hb3' hb5
  have ht5 := ht3.below hb5
  obtain ⟨hc0, hc1, hf0, hf1⟩ := box_cells hb5'
  obtain ⟨ra, rc, hre, _, _⟩ := hr.form
  rw [hre] at hr hrn ⊢
  have hbx := BoxS.of_below hb5'
  have hrz := hb3'.size
  clear HCUT hre hps3 ht3
  go_wp2
  have hbel := hb0.trans (hb5'.mono hz0)
  have hfin := rel_store hbx hc0 ht5 hr (hrn.ne (by simp at hrz; omega))
  refine bodyPost_ret (v := .tuple #[.agg #[.slice ta t.length tc, .slice ra (cutL ll ps).length rc], .int .i64 0]) (by simp [results, Tryz.results57, go_sem, hc0, hc1]) rfl ⟨_, _, rfl, by rw [← (unhide HC2).1, ← (unhide HC2).2]; exact hfin, fun b hb => hrn.ne (by simp at hrz; omega), below_store hbel (Nat.le_refl _) _ _⟩

end Go.Proofs.YtafpecdmaogohaaGreat
