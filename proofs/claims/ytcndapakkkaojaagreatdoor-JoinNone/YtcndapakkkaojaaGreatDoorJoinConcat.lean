/-
  The contract of slices.Concat at two rows of numbers.
-/
import Derived.Test.YtcndapakkkaojaaGreatDoorRelUnion
namespace Go.Proofs.YtcndapakkkaojaaGreatDoor
open Go.RowKit
set_option linter.unusedVariables false
set_option linter.unusedSimpArgs false
set_option maxRecDepth 20000

/-- 't[:0]'. -/
theorem run_cutI0 (a : Option Addr) (len cap : Nat) (w : World) :
    (Instr.slice 22 (.slice a len cap) none (some (.int .i64 0)) none).run Tryz.prog w = .ok (.slice a 0 cap) w := run_cut a len cap 0 0 rfl (Nat.zero_le _) w

set_option maxHeartbeats 1000000 in
theorem growNilI_any {n : Nat} {w : World} (hn : n < 100000000) :
    Calls Tryz.prog 65 #[.slice none 0 0, .int .i64 n] w fun e w' => ∃ v, e = .returned v ∧ OwnI w.heap.size w' v [] ∧ Below w.heap.size w w' := by
  have hc0 := run_cutI0
  by_cases h0 : n = 0
  · subst h0
    go_enter Tryz.func65, Tryz.ntmps65
    go_wp2
    go_ret
    exact ⟨_, rfl, own_nilI _ _, Below.refl _ _⟩
  · have h1 : 0 < n := by omega
    have h2 : (0 : Int) < (n : Int) := by omega
    obtain ⟨i, hi, hz0, hz1, hz2⟩ := info_parts Tryz.infoInt
    have hr := Lib.run_append_nil_zeros (P := Tryz.prog) w 22 3 22 3 i (.int .i64 0) .i64 .i64 Tryz.underlying22 Tryz.underlying3 hi hz0 n h1 (by rw [hz1]; omega) (by omega) (by rw [hz2]; omega)
    have HR := hide hr
    have HSZ := hide (show (Builtin.zeroCells (Value.int .i64 0).cells n ++ Builtin.zeroCells (Value.int .i64 0).cells (grownCap w n 0 3 - n)).size = grownCap w n 0 3 by
      have := grownCap_ge w n 0 3
      simp [Builtin.zeroCells, Value.cells]; omega)
    have HML := hide (grownCap_le_maxLen w n 0 3 (by unfold maxLen; omega))
    clear h0 hr hi hz0 hz1 hz2
    go_enter Tryz.func65, Tryz.ntmps65
    go_wp2_with (at_builtin; refine Lib.wpList_append_run _ rfl (.tmp 20) (.tmp 21) 22 3 rfl _ _ rfl rfl _ _ (unhide HR) ?_)
    go_ret
    refine ⟨_, rfl, ?_, ?_⟩
    · have := World.ownsRow_made (base := w.heap.size) (e := 3) (size := 1) w _ (grownCap w n 0 3) (Nat.le_refl _) (unhide HML) (by rw [Nat.mul_one]; exact unhide HSZ)
      exact this
    · exact Below.drewN1 ((Below.refl w.heap.size w).alloc (Nat.le_refl _) _) 1

set_option maxHeartbeats 4000000 in
theorem concatI_any {la lb : List Int} {va vb : Value} {b : Nat} {w : World} (ha : Ints w va la) (hb : Ints w vb lb) (hbx : w.heap[b]? = some (.cells #[va, vb] 22 (0, 0))) (hla : la.length < 10000000) (hlb : lb.length < 10000000) :
    Calls Tryz.prog 39 #[.slice (some ⟨b, 0, none⟩) 2 2] w fun e w' => ∃ v, e = .returned v ∧ Ints w' v (la ++ lb) ∧ New w.heap.size w' v ∧ Below w.heap.size w w' := by
  obtain ⟨a, ca, rfl, hla2, hca⟩ := ha.form
  obtain ⟨a', cb, rfl, hlb2, hcb⟩ := hb.form
  unfold maxLen at hca hcb
  obtain ⟨hc0, hc1⟩ := two_cells hbx
  rw [Nat.zero_add] at hc1
  go_enter Tryz.func39, Tryz.ntmps39
  go_wp2
  go_loop [3, 5, 11] (fun z _ i => (i = .int .i64 0 ∧ z = .int .i64 0) ∨ (i = .int .i64 1 ∧ z = .int .i64 la.length) ∨ (i = .int .i64 2 ∧ z = .int .i64 ((la.length : Int) + lb.length))) (fun _ _ i => 2 - (intOf i).toNat)
  case atStart => exact .inl ⟨rfl, rfl⟩
  case round =>
    rcases hrel with ⟨rfl, rfl⟩ | ⟨rfl, rfl⟩ | ⟨rfl, rfl⟩
    · clear ha hb
      go_wp2
      go_round
      case rel => exact .inr (.inl ⟨rfl, by go_num⟩)
      case measure => simp [intOf]
    · clear ha hb
      go_wp2
      go_round
      case rel => exact .inr (.inr ⟨rfl, by go_num⟩)
      case measure => simp [intOf]
    · have HG := hide (growNilI_any (n := la.length + lb.length) (w := w) (by omega))
      have eG : (((la.length + lb.length : Nat) : Int)) = (la.length : Int) + lb.length := by omega
      rw [eG] at HG
      clear eG
      have HA := hide ha
      have HB := hide hb
      clear ha hb
      go_wp2_with fail
      refine (unhide HG).mono ?_
      rintro e w1 ⟨vg, rfl, hg, hb1⟩
      have hown1 : OwnI w.heap.size w1 vg [] := hg
      have hd0 := Below.cell_of hb1 hc0
      have hd1 := Below.cell_of hb1 hc1
      clear HG hg hc0 hc1
      go_wp2
      go_loopw [6, 8, 27] (fun v _ i wr => ((i = .int .i64 0 ∧ OwnI w.heap.size wr v []) ∨ (i = .int .i64 1 ∧ OwnI w.heap.size wr v la) ∨ (i = .int .i64 2 ∧ OwnI w.heap.size wr v (la ++ lb))) ∧ Below w.heap.size w wr ∧ wr.cell? ⟨b, 0, none⟩ = some (.slice a la.length ca) ∧ wr.cell? ⟨b, 1, none⟩ = some (.slice a' lb.length cb)) (fun _ _ i _ => 2 - (intOf i).toNat)
      case atStart => exact ⟨.inl ⟨rfl, hown1⟩, hb1, hd0, hd1⟩
      case round =>
        clear hown1 hb1 hd0 hd1
        obtain ⟨hor, hbel, hd0, hd1⟩ := hrel
        have hz := hbel.size
        have hbx1 : b < w.heap.size := by
          rcases Nat.lt_or_ge b w.heap.size with hl | hl
          · exact hl
          · rw [Array.getElem?_eq_none hl] at hbx; cases hbx
        rcases hor with ⟨rfl, hown⟩ | ⟨rfl, hown⟩ | ⟨rfl, hown⟩
        · go_wp2_with (at_builtin; refine wp_app_ints rfl (.tmp 31) (.tmp 32) rfl hown rfl hz ((unhide HA).below hbel) rfl (by simp; omega) ?_; intro v' w4 hown4 hgrew)
          go_roundw
          case rel => exact ⟨.inr (.inl ⟨rfl, by simpa using hown4⟩), hbel.trans hgrew.below, by rw [hgrew.below.cell hbx1]; exact hd0, by rw [hgrew.below.cell hbx1]; exact hd1⟩
          case measure => simp [intOf]
        · go_wp2_with (at_builtin; refine wp_app_ints rfl (.tmp 31) (.tmp 32) rfl hown rfl hz ((unhide HB).below hbel) rfl (by omega) ?_; intro v' w4 hown4 hgrew)
          go_roundw
          case rel => exact ⟨.inr (.inr ⟨rfl, hown4⟩), hbel.trans hgrew.below, by rw [hgrew.below.cell hbx1]; exact hd0, by rw [hgrew.below.cell hbx1]; exact hd1⟩
          case measure => simp [intOf]
        · have hfin := Seq.of_own hown
          have hnew := New.of_own hown
          clear hown
          go_wp2
          go_ret
          exact ⟨_, rfl, hfin, hnew, hbel⟩

end Go.Proofs.YtcndapakkkaojaaGreatDoor
