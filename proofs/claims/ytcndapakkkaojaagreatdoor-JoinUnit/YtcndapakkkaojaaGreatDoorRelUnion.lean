/-
  The contracts of slices.Concat at two rows of rows, of Union, and of the document's Union.
-/
import Derived.Test.YtcndapakkkaojaaGreatDoorRelBox
namespace Go.Proofs.YtcndapakkkaojaaGreatDoor
open Go.RowKit
set_option linter.unusedVariables false
set_option linter.unusedSimpArgs false
set_option maxRecDepth 20000

/-- 't[:0]'. -/
theorem run_cut0 (a : Option Addr) (len cap : Nat) (w : World) :
    (Instr.slice 23 (.slice a len cap) none (some (.int .i64 0)) none).run Tryz.prog w = .ok (.slice a 0 cap) w := run_cutV a len cap 0 0 rfl (Nat.zero_le _) w

set_option maxHeartbeats 1000000 in
theorem growNil_any {n : Nat} {w : World} (hn : n < 100000000) :
    Calls Tryz.prog 78 #[.slice none 0 0, .int .i64 n] w fun e w' => ∃ v, e = .returned v ∧ OwnV w.heap.size w' v [] ∧ Below w.heap.size w w' := by
  have hc0 := run_cut0
  by_cases h0 : n = 0
  · subst h0
    go_enter Tryz.func78, Tryz.ntmps78
    go_wp2
    go_ret
    exact ⟨_, rfl, own_nilV _ _, Below.refl _ _⟩
  · have h1 : 0 < n := by omega
    have h2 : (0 : Int) < (n : Int) := by omega
    obtain ⟨i, hi, hz0, hz1, hz2⟩ := info_parts Tryz.infoInts
    have hr := Lib.run_append_nil_zeros (P := Tryz.prog) w 23 3 23 22 i (.slice none 0 0) .i64 .i64 Tryz.underlying23 Tryz.underlying3 hi hz0 n h1 (by rw [hz1]; omega) (by omega) (by rw [hz2]; omega)
    have HR := hide hr
    have HSZ := hide (show (Builtin.zeroCells (Value.slice none 0 0).cells n ++ Builtin.zeroCells (Value.slice none 0 0).cells (grownCap w n 0 22 - n)).size = grownCap w n 0 22 by
      have := grownCap_ge w n 0 22
      simp [Builtin.zeroCells, Value.cells]; omega)
    have HML := hide (grownCap_le_maxLen w n 0 22 (by unfold maxLen; omega))
    clear h0 hr hi hz0 hz1 hz2
    go_enter Tryz.func78, Tryz.ntmps78
    go_wp2_with (at_builtin; refine Lib.wpList_append_run _ rfl (.tmp 20) (.tmp 21) 23 3 rfl _ _ rfl rfl _ _ (unhide HR) ?_)
    go_ret
    refine ⟨_, rfl, ?_, ?_⟩
    · have := World.ownsRow_made (base := w.heap.size) (e := 22) (size := 1) w _ (grownCap w n 0 22) (Nat.le_refl _) (unhide HML) (by rw [Nat.mul_one]; exact unhide HSZ)
      exact this
    · exact Below.drewN1 ((Below.refl w.heap.size w).alloc (Nat.le_refl _) _) 1

/-- A slice of two rows of rows. -/
theorem two_cells {w : World} {va vb : Value} {b : Nat} {t : TypeId} (h : w.heap[b]? = some (.cells #[va, vb] t (0, 0))) : w.cell? ⟨b, 0, none⟩ = some va ∧ w.cell? ⟨b, 0 + 1, none⟩ = some vb := by
  constructor <;> (simp only [World.cell?, h]; simp)

theorem OwnT.app {B : Nat} {w w' : World} {v v' : Value} {ll : List (List Int)} {vs us : List Value} {mm : List (List Int)} (h : OwnT B w v ll) (hvs : OwnV B w v vs) (hl : us.length = mm.length) (hu : ∀ i (h : i < us.length) (h' : i < mm.length), Ints w us[i] mm[i] ∧ Apart us[i] mm[i] v)
    (hown : OwnV B w' v' (vs ++ us)) (g : Grew B w w' v v') : OwnT B w' v' (ll ++ mm) := by
  obtain ⟨vs0, h1, h2, h3⟩ := h
  have e : vs0 = vs := (Seq.of_own (enc := id) (B := B) (e := 22) (l := vs0) (by simpa using h1)).unique (Seq.of_own (enc := id) (B := B) (e := 22) (l := vs) (by simpa using hvs)) (by
    obtain ⟨_, c1, e1, _, _⟩ := (Seq.of_own (enc := id) (B := B) (e := 22) (l := vs0) (by simpa using h1)).form
    obtain ⟨_, c2, e2, _, _⟩ := (Seq.of_own (enc := id) (B := B) (e := 22) (l := vs) (by simpa using hvs)).form
    rw [e1] at e2; injection e2)
  subst e
  refine ⟨vs0 ++ us, hown, by simp [h2, hl], fun i hi hi' => ?_⟩
  by_cases hiv : i < vs0.length
  · have hil : i < ll.length := by omega
    rw [List.getElem_append_left hiv, List.getElem_append_left hil]
    have := h3 i hiv hil
    exact ⟨this.1.grew g this.2, this.2.grew this.1 g⟩
  · have hiu : i - vs0.length < us.length := by simp at hi; omega
    have him : i - ll.length < mm.length := by simp at hi'; omega
    rw [List.getElem_append_right (by omega), List.getElem_append_right (by omega)]
    have := hu (i - vs0.length) hiu (by omega)
    simp only [h2] at this ⊢
    exact ⟨this.1.grew g this.2, this.2.grew this.1 g⟩

/-- Older rows are appended to the call's own. -/
theorem op_app_tups {w0 w : World} {o : Oper} {a : Act} {K : Act → World → Prop} {Q : Exit → Act → World → Prop} (s x : Operand)
    (ho : o.op = .call { callee := .builtin .append, args := #[s, x], argTypes := #[23, 23] }) {B : Nat} {v u : Value} {ll mm : List (List Int)} (hown : OwnT B w v ll) (hu : Tups w0 u mm) (hb : Below w0.heap.size w0 w) (hB0 : w0.heap.size ≤ B) (hs : a.eval s = v) (hB : B ≤ w.heap.size)
    (hx : a.eval x = u) (hlen : ll.length + mm.length < 100000000000)
    (h : ∀ v' w', OwnT B w' v' (ll ++ mm) → Grew B w w' v v' → K (a.put o.dst v') w') :
    o.wp Tryz.prog a w K Q := by
  have hown0 := hown
  obtain ⟨vs, h1, h2, h3⟩ := hown
  obtain ⟨us, k1, k2, k3⟩ := hu
  refine op_app_rows s x ho h1 hs hB (k1.below hb) hx (fun y hy => ?_) (by omega) fun v' w' q1 q2 => h v' w' ?_ q2
  · obtain ⟨i, hi, rfl⟩ := List.getElem_of_mem hy
    exact (k3 i hi (by omega)).one
  · exact OwnT.app hown0 h1 k2 (fun i hi hi' => ⟨(k3 i hi hi').below hb, (k3 i hi hi').apart (New.of_own h1) hB0⟩) q1 q2

theorem wp_app_tups {w0 w : World} {ops : Array Oper} {rest : List Oper} {o : Oper} {a : Act} {Q : Exit → Act → World → Prop} (hgd : o.guard = none) (s x : Operand)
    (ho : o.op = .call { callee := .builtin .append, args := #[s, x], argTypes := #[23, 23] }) {B : Nat} {v u : Value} {ll mm : List (List Int)} (hown : OwnT B w v ll) (hu : Tups w0 u mm) (hb : Below w0.heap.size w0 w) (hB0 : w0.heap.size ≤ B) (hs : a.eval s = v) (hB : B ≤ w.heap.size)
    (hx : a.eval x = u) (hlen : ll.length + mm.length < 100000000000)
    (h : ∀ v' w', OwnT B w' v' (ll ++ mm) → Grew B w w' v v' → wpList Tryz.prog ops Q rest (a.put o.dst v') w') :
    wpList Tryz.prog ops Q (o :: rest) a w :=
  wpList_plain hgd fun _ hK => op_app_tups s x ho hown hu hb hB0 hs hB hx hlen fun v' w' h1 h2 => hK _ _ (h v' w' h1 h2)

set_option maxHeartbeats 4000000 in
theorem concat_any {la lb : List (List Int)} {va vb : Value} {b : Nat} {w : World} (ha : Tups w va la) (hb : Tups w vb lb) (hbx : w.heap[b]? = some (.cells #[va, vb] 23 (0, 0))) (hla : la.length < 10000000) (hlb : lb.length < 10000000) :
    Calls Tryz.prog 56 #[.slice (some ⟨b, 0, none⟩) 2 2] w fun e w' => ∃ v, e = .returned v ∧ Tups w' v (la ++ lb) ∧ New w.heap.size w' v ∧ Below w.heap.size w w' := by
  obtain ⟨a, ca, rfl, hla2, hca⟩ := ha.form
  obtain ⟨a', cb, rfl, hlb2, hcb⟩ := hb.form
  unfold maxLen at hca hcb
  obtain ⟨hc0, hc1⟩ := two_cells hbx
  rw [Nat.zero_add] at hc1
  go_enter Tryz.func56, Tryz.ntmps56
  go_wp2
  go_loop [3, 5, 11] (fun z _ i => (i = .int .i64 0 ∧ z = .int .i64 0) ∨ (i = .int .i64 1 ∧ z = .int .i64 la.length) ∨ (i = .int .i64 2 ∧ z = .int .i64 ((la.length : Int) + lb.length))) (fun _ _ i => 2 - (intOf i).toNat)
  case atStart => exact .inl ⟨rfl, rfl⟩
  case round =>
    rcases hrel with ⟨rfl, rfl⟩ | ⟨rfl, rfl⟩ | ⟨rfl, rfl⟩
    · clear ha hb
      go_wp2
      go_round
      case rel => exact .inr (.inl ⟨rfl, by go_num⟩)
      case measure => simp [intOf]
    · clear ha hb
      go_wp2
      go_round
      case rel => exact .inr (.inr ⟨rfl, by go_num⟩)
      case measure => simp [intOf]
    · have HG := hide (growNil_any (n := la.length + lb.length) (w := w) (by omega))
      have eG : (((la.length + lb.length : Nat) : Int)) = (la.length : Int) + lb.length := by omega
      rw [eG] at HG
      clear eG
      have HA := hide ha
      have HB := hide hb
      clear ha hb
      go_wp2_with fail
      refine (unhide HG).mono ?_
      rintro e w1 ⟨vg, rfl, hg, hb1⟩
      have hown1 : OwnT w.heap.size w1 vg [] := ⟨[], hg, rfl, fun i h => by simp at h⟩
      have hd0 := Below.cell_of hb1 hc0
      have hd1 := Below.cell_of hb1 hc1
      clear HG hg hc0 hc1
      go_wp2
      go_loopw [6, 8, 27] (fun v _ i wr => ((i = .int .i64 0 ∧ OwnT w.heap.size wr v []) ∨ (i = .int .i64 1 ∧ OwnT w.heap.size wr v la) ∨ (i = .int .i64 2 ∧ OwnT w.heap.size wr v (la ++ lb))) ∧ Below w.heap.size w wr ∧ wr.cell? ⟨b, 0, none⟩ = some (.slice a la.length ca) ∧ wr.cell? ⟨b, 1, none⟩ = some (.slice a' lb.length cb)) (fun _ _ i _ => 2 - (intOf i).toNat)
      case atStart => exact ⟨.inl ⟨rfl, hown1⟩, hb1, hd0, hd1⟩
      case round =>
        clear hown1 hb1 hd0 hd1
        obtain ⟨hor, hbel, hd0, hd1⟩ := hrel
        have hz := hbel.size
        have hbx1 : b < w.heap.size := by
          rcases Nat.lt_or_ge b w.heap.size with hl | hl
          · exact hl
          · rw [Array.getElem?_eq_none hl] at hbx; cases hbx
        rcases hor with ⟨rfl, hown⟩ | ⟨rfl, hown⟩ | ⟨rfl, hown⟩
        · go_wp2_with (at_builtin; refine wp_app_tups rfl (.tmp 31) (.tmp 32) rfl hown (unhide HA) hbel (Nat.le_refl _) rfl hz rfl (by simp; omega) ?_; intro v' w4 hown4 hgrew)
          go_roundw
          case rel => exact ⟨.inr (.inl ⟨rfl, by simpa using hown4⟩), hbel.trans hgrew.below, by rw [hgrew.below.cell hbx1]; exact hd0, by rw [hgrew.below.cell hbx1]; exact hd1⟩
          case measure => simp [intOf]
        · go_wp2_with (at_builtin; refine wp_app_tups rfl (.tmp 31) (.tmp 32) rfl hown (unhide HB) hbel (Nat.le_refl _) rfl hz rfl (by omega) ?_; intro v' w4 hown4 hgrew)
          go_roundw
          case rel => exact ⟨.inr (.inr ⟨rfl, hown4⟩), hbel.trans hgrew.below, by rw [hgrew.below.cell hbx1]; exact hd0, by rw [hgrew.below.cell hbx1]; exact hd1⟩
          case measure => simp [intOf]
        · have hfin := hown.tups
          have hnew := hown.new
          clear hown
          go_wp2
          go_ret
          exact ⟨_, rfl, hfin, hnew, hbel⟩

/-- The rows of both. -/
def unionL (la lb : List (List Int)) : List (List Int) := sortL (la ++ lb)

set_option maxHeartbeats 4000000 in
theorem union_ok {s s' : List Int} {ll ll' : List (List Int)} {v v' : Value} {w : World} (h : RelV w v s ll) (h' : RelV w v' s' ll') (hs : s = s') (hl : ll.length < 10000) (hl' : ll'.length < 10000) (hsl : s.length < 100000000) (hrw : ∀ t ∈ ll ++ ll', t.length < 100000000) :
    Calls Tryz.prog 28 #[v, v'] w fun e w' => ∃ u, e = .returned (.tuple #[u, .int .i64 0]) ∧ RelV w' u s (unionL ll ll') ∧ Below w.heap.size w w' := by
  obtain ⟨a, ca, b, cb, rfl, k1, k2, k3, k4, hs1, ht1⟩ := h.form
  obtain ⟨a', ca', b', cb', rfl, k1', k2', k3', k4', hs2, ht2⟩ := h'.form
  unfold maxLen at k2 k4 k2' k4'
  obtain ⟨W0, hW0⟩ : ∃ W, W = ((w.alloc (.cells #[.slice a s.length ca, .slice b ll.length cb] 27)).alloc (.cells #[.slice a' s'.length ca', .slice b' ll'.length cb'] 27)).alloc (.cells #[.slice none 0 0, .slice none 0 0] 27) := ⟨_, rfl⟩
  have hb0 : Below w.heap.size w W0 := by rw [hW0]; exact (b2x w _ _).alloc (by simp; omega) _
  have hbx0 : Box W0 w.heap.size (.slice a s.length ca) (.slice b ll.length cb) := by rw [hW0]; exact ((Box.new w _ _).push _).push _
  have hbx1 : Box W0 (w.heap.size + 1) (.slice a' s'.length ca') (.slice b' ll'.length cb') := by
    rw [hW0]; have := (Box.new (w.alloc (.cells #[.slice a s.length ca, .slice b ll.length cb] 27)) (.slice a' s'.length ca') (.slice b' ll'.length cb')).push (.cells #[.slice none 0 0, .slice none 0 0] 27); simpa using this
  have hbx2 : Box W0 (w.heap.size + 1 + 1) (.slice none 0 0) (.slice none 0 0) := by
    rw [hW0]; have := Box.new ((w.alloc (.cells #[.slice a s.length ca, .slice b ll.length cb] 27)).alloc (.cells #[.slice a' s'.length ca', .slice b' ll'.length cb'] 27)) (.slice none 0 0) (.slice none 0 0); simpa using this
  have HE := hide (Calls.toBelow (equal_any (hs1.below hb0) (hs2.below hb0)))
  rw [sameL_iff.2 hs] at HE
  have HW0 := hide hW0
  have hzw := hb0.size
  have HRW := hide hrw
  clear h h' hW0 hs hrw
  go_enter Tryz.func28, Tryz.ntmps28
  go_wp2_with fail
  rw [← unhide HW0]
  refine (unhide HE).mono ?_
  rintro e w1 ⟨rfl, hb1⟩
  replace hbx0 := hbx0.belowH hb1
  replace hbx1 := hbx1.belowH hb1
  replace hbx2 := hbx2.belowH hb1
  have hbel1 := hb0.trans (hb1.mono hzw)
  have hc01 := hbx0.cell1
  have hc11 := hbx1.cell1
  have hc00 := hbx0.cell0
  have hb2 := (Below.refl w1.heap.size w1).alloc (Nat.le_refl _) (.cells #[.slice b ll.length cb, .slice b' ll'.length cb'] 23)
  have HC := hide (concat_any ((ht1.below hbel1).below hb2) ((ht2.below hbel1).below hb2) (heap_alloc_new w1 _) (by omega) (by omega))
  clear HE
  go_wp2_with fail
  refine (unhide HC).mono ?_
  rintro e w2 ⟨vc, rfl, hvc, _, hb3⟩
  have hb3' : Below w1.heap.size w1 w2 := hb2.trans (hb3.mono (by simp))
  have HS := hide (sort_any hvc (by simp; omega) (unhide HRW))
  replace hbx0 := hbx0.belowH hb3'
  replace hbx2 := hbx2.belowH hb3'
  have hbel2 := hbel1.trans (hb3'.mono (by have := hb1.size; omega))
  have hd00 := hbx0.cell0
  clear HC hvc hc01 hc11 hc00 hb3
  go_wp2_with fail
  refine (unhide HS).mono ?_
  rintro e w3 ⟨u3, rfl, hu3, hun3, hb4⟩
  obtain ⟨va, vc', hve, _, _⟩ := hu3.form
  rw [hve] at hu3 hun3 ⊢
  replace hbx0 := hbx0.belowH hb4
  replace hbx2 := hbx2.belowH hb4
  have hbel3 := hbel2.trans (hb4.mono (by have := hbel2.size; omega))
  have he00 := hbx0.cell0
  have HCL := hide (cloneI_any (hs1.below hbel3) hsl)
  clear HS hve hd00
  go_wp2_with fail
  refine (unhide HCL).mono ?_
  rintro e w4 ⟨u4, rfl, hu4, hb5⟩
  have hi4 := Seq.of_own hu4
  obtain ⟨ua, uc, hue, _, _⟩ := hi4.form
  rw [hue] at hi4 ⊢
  have hz2 := hbx2.lt
  have hz3 : w.heap.size + 1 + 1 < w2.heap.size := by
    have := (hbx2.lt)
    have h1 := hbel2.size
    have h5 := hb3'.size
    have h6 := hb1.size
    have h7 : w.heap.size + 1 + 1 < W0.heap.size := by rw [unhide HW0]; simp
    omega
  replace hbx2 := hbx2.belowH hb5
  have hd0 := hbx2.cell0
  have hd1 := hbx2.cell1
  have hg0 := hbx2.frozen 0
  have hg1 := hbx2.frozen 1
  have hbl := hbel3.trans (hb5.mono (by have := hbel3.size; omega))
  have ht4 := hu3.below hb5
  clear HCL hue hu4 he00
  go_wp2
  have hfin := rel_store hbx2.boxS hd0 hi4 ht4 (hun3.ne hz3)
  refine bodyPost_ret (v := .tuple #[.agg #[.slice ua s.length uc, .slice va (sortL (ll ++ ll')).length vc'], .int .i64 0]) (by simp [results, Tryz.results28, go_sem, hd0, hd1]) rfl ⟨_, rfl, hfin, below_store hbl (by omega) _ _⟩

end Go.Proofs.YtcndapakkkaojaaGreatDoor
