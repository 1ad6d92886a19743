/-
  The contract of the document's Sort, with what is said of where its rows lie.
-/
import Derived.Test.YtoiokplgkanepaaGreatDoorRefSort
import Derived.Test.YtoiokplgkanepaaGreatDoorOff
namespace Go.Proofs.YtoiokplgkanepaaGreatDoor
open Go.RowKit
set_option linter.unusedVariables false
set_option linter.unusedSimpArgs false
set_option maxRecDepth 20000
attribute [local go_sem ↓] Go.wp_at_zero Go.wp_at_succ

theorem TupsO.lit (w : World) : TupsO (· < w.heap.size) (w.alloc (.cells #[] 22)) (.slice (some ⟨w.heap.size, 0, none⟩) 0 0) [] := by
  have h := OwnT.lit (w := w) (Nat.le_refl w.heap.size)
  obtain ⟨vs, h1, h2, h3⟩ := h.tups
  exact ⟨vs, h1, NotIn.of_new h.new, h2, fun i hi hi' => by simp at hi'⟩

theorem notin_ins {X : Nat → Prop} {W : World} {vs : List Value} {k : Nat} {u : Value} (h : ∀ i (hi : i < vs.length), NotIn X W vs[i]) (hu : NotIn X W u) : ∀ x, x ∈ vs.take k ++ [u] ++ vs.drop k → NotIn X W x := by
  intro x hx
  simp only [List.mem_append, List.mem_singleton] at hx
  rcases hx with (hx | rfl) | hx
  · obtain ⟨i, hi, rfl⟩ := List.getElem_of_mem (List.mem_of_mem_take hx); exact h i hi
  · exact hu
  · obtain ⟨i, hi, rfl⟩ := List.getElem_of_mem (List.mem_of_mem_drop hx); exact h i hi

set_option maxHeartbeats 8000000 in
theorem refSort_nw {ll : List (List Int)} {v : Value} {w : World} (h : Tups w v ll) (hlen : ll.length < 100000) (hrow : ∀ t ∈ ll, t.length < 100000000) :
    Calls Tryz.prog 19 #[v] w fun e w' => ∃ v, e = .returned v ∧ TupsO (· < w.heap.size) w' v (sortL ll) ∧ Below w.heap.size w w' := by
  obtain ⟨a, ca, rfl, hla, hca⟩ := h.form
  unfold maxLen at hca
  go_enter Tryz.func19, Tryz.ntmps19
  go_wp2
  go_loopw [3, 4] (fun v i wr => ∃ k : Nat, k ≤ ll.length ∧ i = .int .i64 k ∧ TupsO (· < w.heap.size) wr v (sortL (ll.take k)) ∧ Below w.heap.size w wr) (fun _ i _ => ll.length - (intOf i).toNat)
  case atStart => exact ⟨0, by omega, rfl, TupsO.lit w, (Below.refl _ _).alloc (Nat.le_refl _) _⟩
  case round =>
    obtain ⟨i, hi, rfl, hout, hbel⟩ := hrel
    have hz := hbel.size
    by_cases hilt : i < ll.length
    · obtain ⟨bl, ol, ul, rfl, hcl, hil⟩ := (h.below hbel).at hilt
      have hlilen : ll[i].length < 100000000000 := by have := hrow _ (List.getElem_mem hilt); omega
      obtain ⟨lia, lic, rfl, _, _⟩ := hil.form
      have HS := hide (sortL_snoc hilt)
      have hsl := sortL_le (ll.take i)
      have htl := List.length_take_le i ll
      obtain ⟨so, hso⟩ : ∃ so, so = sortL (ll.take i) := ⟨_, rfl⟩
      obtain ⟨li, hli⟩ : ∃ li, li = ll[i] := ⟨_, rfl⟩
      rw [← hso] at hout HS hsl
      rw [← hli] at hil HS hcl hlilen
      have hslen : so.length < 1000000 := by omega
      obtain ⟨ov, ocap, hov, hsol, hocap⟩ := hout.tups.form
      unfold maxLen at hocap
      rw [hov] at hout ⊢
      obtain ⟨vs, hsq, hnew, hvl, hrdO⟩ := hout
      have hrd : ∀ i (h : i < vs.length) (h' : i < so.length), Ints wr vs[i] so[i] := fun i h h' => (hrdO i h h').1
      have HNO := hide (fun i (h : i < vs.length) (h' : i < so.length) => (hrdO i h h').2)
      clear hrdO
      obtain ⟨c, hc0⟩ : ∃ c, c = lowN so li := ⟨_, rfl⟩
      have hcle : c ≤ so.length := by rw [hc0]; exact lowN_le _ _
      have HC0 := hide hc0
      clear h hso hli hsl htl hrow hc0 hov
      go_wp2
      go_loopw [5] (fun si wq => ∃ k n : Nat, k ≤ c ∧ si = .int .i64 k ∧ wq = wr.drewN n ∧ Hid (c = k + lowN (so.drop k) li)) (fun si _ => c - (intOf si).toNat)
      case atStart => exact ⟨0, 0, by omega, rfl, rfl, hide (by simpa using unhide HC0)⟩
      case round =>
        obtain ⟨k, n, hkc, rfl, rfl, Hck⟩ := hrel
        have hck := unhide Hck
        clear Hck
        by_cases hks : k < so.length
        · obtain ⟨bo, oo, e1, hco⟩ := hsq.at (k := k) (by omega)
          subst e1
          have hio := hrd k (by omega) hks
          obtain ⟨oa, oc, hoe, _, _⟩ := hio.form
          have HCMP := hide (fun n => refCompare_any (Seq.drewN hio n) (Seq.drewN hil n))
          obtain ⟨q, hq⟩ : ∃ q, q = cmpL so[k] li := ⟨_, rfl⟩
          rw [← hq] at HCMP
          simp only [id] at hco
          generalize vs[k] = ok at hco HCMP hio hoe
          by_cases hzq : q < 0
          · have hck' := hck
            rw [low_step hks (hq ▸ hzq)] at hck'
            have Hck : Hid (c = (k + 1) + lowN (so.drop (k + 1)) li) := hide (by omega)
            have hk1 : k + 1 ≤ c := by omega
            clear hck hck' hq hio hoe hsq hrd hil
            go_wp2
            go_quiet ((go_at_call 30; exact Calls.quiet_add (unhide HCMP _)))
            go_wp2
            go_roundw
            case rel => exact ⟨k + 1, _, hk1, by go_num, by first | rfl | (simp only [World.drewN_drewN]; rfl), Hck⟩
            case measure => simp [intOf]; omega
          · have hck' := hck
            rw [low_stop hks (hq ▸ hzq), Nat.add_zero] at hck'
            clear hck
            subst hck'
            have hzd : decide (q < 0) = false := by simpa using hzq
            by_cases hq0 : q = 0
            · have hq1 : (q == 0) = true := by simp [hq0]
              have HAT := hide (show isAt so li c = true by unfold isAt; rw [dif_pos hks, ← hq]; simp [hq0])
              have HSO := hide (show insL so li = so by unfold insL; rw [← unhide HC0, if_pos (unhide HAT)])
              have hfin := hide (fun W (hb : Below wr.heap.size wr W) => (TupsO.below (w' := W) (X := (· < w.heap.size)) ⟨vs, hsq, hnew, hvl, fun i h h' => ⟨hrd i h h', unhide HNO i h h'⟩⟩ hb))
              clear hq hio hoe hq0 hsq hrd hil
              go_wp2
              go_quiet ((go_at_call 30; exact Calls.quiet_add (unhide HCMP _)))
              go_wp2
              go_quiet ((go_at_call 30; exact Calls.quiet_add (unhide HCMP _)))
              go_wp2
              go_roundw
              case rel => exact ⟨i + 1, by omega, by go_num, by rw [unhide HS, unhide HSO]; exact unhide hfin _ (below_same rfl rfl rfl rfl), Below.drewN1 hbel _⟩
              case measure => simp [intOf]; omega
            · have hq1 : (q == 0) = false := by simp [hq0]
              have HAT := hide (show isAt so li c = false by unfold isAt; rw [dif_pos hks, ← hq]; simp [hq0])
              clear hq hio hoe hq0
              go_wp2
              go_quiet ((go_at_call 30; exact Calls.quiet_add (unhide HCMP _)))
              go_wp2
              go_quiet ((go_at_call 30; exact Calls.quiet_add (unhide HCMP _)))
              go_wp2
              have HSO := hide (show insL so li = so.take c ++ [li] ++ so.drop c by unfold insL; rw [← unhide HC0, if_neg (by rw [unhide HAT]; simp)])
              have HCOPY := hide (fun W (hb : Below wr.heap.size wr W) => refCopy_any (w := W) (hil.below hb) hlilen)
              have HK := hide (fun W (hb : Below wr.heap.size wr W) => Below.cell_of hb hcl)
              have HT := hide (fun W (hb : Below wr.heap.size wr W) => Seq.below (w' := W) (hsq.take (k := c) (by omega)) hb)
              have HD := hide (fun W (hb : Below wr.heap.size wr W) => Seq.below (w' := W) (hsq.drop (k := c) (by omega)) hb)
              have HR := hide (fun W (hb : Below wr.heap.size wr W) i hi hi' => Seq.below (w' := W) (hrd i hi hi') hb)
              have hcut := run_cutV (some ⟨bo, oo, none⟩) so.length ocap c c rfl (by omega)
              have hdrop := run_dropV (some ⟨bo, oo, none⟩) so.length ocap c c rfl (by omega)
              have HONE := hide (show ∀ y, y ∈ vs → y.oneCell' = true from fun y hy => by obtain ⟨i, hi, rfl⟩ := List.getElem_of_mem hy; exact (hrd i hi (by omega)).one)
              have HVL := hide hvl
              have Hsol := hide hsol
              have Hcle := hide hcle
              have HRD := hide (fun W (hb : Below wr.heap.size wr W) u (hu : Ints W u li) => reads_ins (k := c) hvl (fun i hi hi' => (hrd i hi hi').below hb) hu hcle)
              have HNE := hide (fun W (hz : wr.heap.size ≤ W.heap.size) u (hu : NotIn (· < w.heap.size) W u) => notin_ins (k := c) (vs := vs) (fun i hi => (unhide HNO i hi (by omega)).kept hz) hu)
              have hln : vs.length < 100000000 := by omega
              clear hsq hrd hil hvl hsol hcle
              go_region_held3 (fun w' => w'.cell? ⟨bl, ol + i, none⟩ = some (.slice lia li.length lic)) (first | exact unhide HK _ (by first | exact hB5 | exact hB4 | exact hB3.alloc hB3.size _ | exact hB3 | exact hB2 | exact below_push rfl rfl rfl rfl | exact below_same rfl rfl rfl rfl) | go_keep)
                (first
                  | (refine step_of rfl (op_app_rows (.tmp 47) (.tmp 50) rfl (B := wr.heap.size) (l := []) (by exact own_pushV (Nat.le_refl _) rfl) rfl (by simp) (unhide HT _ (by exact below_push rfl rfl rfl rfl)) rfl (fun y hy => unhide HONE y (List.mem_of_mem_take hy)) (by simp; omega) ?_); intro v1 w2 hown2 hgrew2; have hB2 : Below wr.heap.size wr w2 := Below.trans (by exact below_push rfl rfl rfl rfl) hgrew2.below)
                  | (go_at_call 33; refine (unhide HCOPY _ hB2).mono ?_; rintro e w3 ⟨u, rfl, hu3, hun3, hb3⟩; obtain ⟨ua, uc, hue, _, _⟩ := hu3.form; rw [hue] at hu3 hun3 ⊢; clear hue; have hB3 : Below wr.heap.size wr w3 := hB2.trans (hb3.mono hB2.size))
                  | (refine step_of rfl (op_app_row (.tmp 51) (.tmp 57) rfl (own_below hown2 hb3) rfl hB3.size rfl rfl (by simp; omega) ?_); intro v2 w4 hown4 hgrew4; have hB4 : Below wr.heap.size wr w4 := hB3.trans hgrew4.below)
                  | (refine step_of rfl (op_app_rows (.tmp 58) (.tmp 61) rfl hown4 rfl hB4.size (unhide HD _ hB4) rfl (fun y hy => unhide HONE y (List.mem_of_mem_drop hy)) (by simp; omega) ?_); intro v3 w5 hown5 hgrew5; have hB5 : Below wr.heap.size wr w5 := hB4.trans hgrew5.below))
              all_goals
                have hap4 : Apart (.slice ua li.length uc) li v1 := fun _ => (Sep.of_new (New.of_own hown2) (Nat.le_refl _) hun3).symm
                have hu4 := hu3.grew hgrew4 hap4
                have hu5 := hu4.grew hgrew5 (hap4.grew hu3 hgrew4)
                have hfin : TupsO (· < w.heap.size) w5 v3 (sortL (List.take (i + 1) ll)) := by
                  rw [unhide HS, unhide HSO]
                  have hr := unhide HRD w5 hB5 _ hu5
                  exact ⟨_, Seq.of_own (by simpa [OwnV] using hown5), NotIn.of_new ((New.of_own hown5).grow hz (Nat.le_refl _)), hr.1, fun i hi hi' => ⟨hr.2 i hi hi', unhide HNE w5 hB5.size _ (NotIn.of_new (hun3.grow (Nat.le_trans hz hB2.size) (Nat.le_trans hgrew4.below.size hgrew5.below.size))) _ (List.getElem_mem _)⟩⟩
                have hb5 := hbel.trans (hB5.mono hz)
                go_wp2
                go_roundw
                case rel => exact ⟨i + 1, by omega, by go_num, hfin, hb5⟩
                case measure => simp [intOf]; omega
        · rw [low_end (by omega), Nat.add_zero] at hck
          subst hck
          have HAT := hide (show isAt so li c = false by unfold isAt; rw [dif_neg hks])
          have hkd : decide (c < so.length) = false := by simpa using hks
          go_wp2
          go_quiet (fail)
          go_wp2
          go_quiet (fail)
          go_wp2
          have HSO := hide (show insL so li = so.take c ++ [li] ++ so.drop c by unfold insL; rw [← unhide HC0, if_neg (by rw [unhide HAT]; simp)])
          have HCOPY := hide (fun W (hb : Below wr.heap.size wr W) => refCopy_any (w := W) (hil.below hb) hlilen)
          have HK := hide (fun W (hb : Below wr.heap.size wr W) => Below.cell_of hb hcl)
          have HT := hide (fun W (hb : Below wr.heap.size wr W) => Seq.below (w' := W) (hsq.take (k := c) (by omega)) hb)
          have HD := hide (fun W (hb : Below wr.heap.size wr W) => Seq.below (w' := W) (hsq.drop (k := c) (by omega)) hb)
          have HR := hide (fun W (hb : Below wr.heap.size wr W) i hi hi' => Seq.below (w' := W) (hrd i hi hi') hb)
          have hcut := run_cutV ov so.length ocap c c rfl (by omega)
          have hdrop := run_dropV ov so.length ocap c c rfl (by omega)
          have HONE := hide (show ∀ y, y ∈ vs → y.oneCell' = true from fun y hy => by obtain ⟨i, hi, rfl⟩ := List.getElem_of_mem hy; exact (hrd i hi (by omega)).one)
          have HVL := hide hvl
          have Hsol := hide hsol
          have Hcle := hide hcle
          have HRD := hide (fun W (hb : Below wr.heap.size wr W) u (hu : Ints W u li) => reads_ins (k := c) hvl (fun i hi hi' => (hrd i hi hi').below hb) hu hcle)
          have HNE := hide (fun W (hz : wr.heap.size ≤ W.heap.size) u (hu : NotIn (· < w.heap.size) W u) => notin_ins (k := c) (vs := vs) (fun i hi => (unhide HNO i hi (by omega)).kept hz) hu)
          have hln : vs.length < 100000000 := by omega
          clear hsq hrd hil hvl hsol hcle
          go_region_held3 (fun w' => w'.cell? ⟨bl, ol + i, none⟩ = some (.slice lia li.length lic)) (first | exact unhide HK _ (by first | exact hB5 | exact hB4 | exact hB3.alloc hB3.size _ | exact hB3 | exact hB2 | exact below_push rfl rfl rfl rfl | exact below_same rfl rfl rfl rfl) | go_keep)
            (first
              | (refine step_of rfl (op_app_rows (.tmp 47) (.tmp 50) rfl (B := wr.heap.size) (l := []) (by exact own_pushV (Nat.le_refl _) rfl) rfl (by simp) (unhide HT _ (by exact below_push rfl rfl rfl rfl)) rfl (fun y hy => unhide HONE y (List.mem_of_mem_take hy)) (by simp; omega) ?_); intro v1 w2 hown2 hgrew2; have hB2 : Below wr.heap.size wr w2 := Below.trans (by exact below_push rfl rfl rfl rfl) hgrew2.below)
              | (go_at_call 33; refine (unhide HCOPY _ hB2).mono ?_; rintro e w3 ⟨u, rfl, hu3, hun3, hb3⟩; obtain ⟨ua, uc, hue, _, _⟩ := hu3.form; rw [hue] at hu3 hun3 ⊢; clear hue; have hB3 : Below wr.heap.size wr w3 := hB2.trans (hb3.mono hB2.size))
              | (refine step_of rfl (op_app_row (.tmp 51) (.tmp 57) rfl (own_below hown2 hb3) rfl hB3.size rfl rfl (by simp; omega) ?_); intro v2 w4 hown4 hgrew4; have hB4 : Below wr.heap.size wr w4 := hB3.trans hgrew4.below)
              | (refine step_of rfl (op_app_rows (.tmp 58) (.tmp 61) rfl hown4 rfl hB4.size (unhide HD _ hB4) rfl (fun y hy => unhide HONE y (List.mem_of_mem_drop hy)) (by simp; omega) ?_); intro v3 w5 hown5 hgrew5; have hB5 : Below wr.heap.size wr w5 := hB4.trans hgrew5.below))
          all_goals
            have hap4 : Apart (.slice ua li.length uc) li v1 := fun _ => (Sep.of_new (New.of_own hown2) (Nat.le_refl _) hun3).symm
            have hu4 := hu3.grew hgrew4 hap4
            have hu5 := hu4.grew hgrew5 (hap4.grew hu3 hgrew4)
            have hfin : TupsO (· < w.heap.size) w5 v3 (sortL (List.take (i + 1) ll)) := by
              rw [unhide HS, unhide HSO]
              have hr := unhide HRD w5 hB5 _ hu5
              exact ⟨_, Seq.of_own (by simpa [OwnV] using hown5), NotIn.of_new ((New.of_own hown5).grow hz (Nat.le_refl _)), hr.1, fun i hi hi' => ⟨hr.2 i hi hi', unhide HNE w5 hB5.size _ (NotIn.of_new (hun3.grow (Nat.le_trans hz hB2.size) (Nat.le_trans hgrew4.below.size hgrew5.below.size))) _ (List.getElem_mem _)⟩⟩
            have hb5 := hbel.trans (hB5.mono hz)
            go_wp2
            go_roundw
            case rel => exact ⟨i + 1, by omega, by go_num, hfin, hb5⟩
            case measure => simp [intOf]; omega
    · clear h
      have hii : i = ll.length := by omega
      subst hii
      rw [List.take_length] at hout
      go_wp2
      go_ret
      exact ⟨_, rfl, hout, hbel⟩

end Go.Proofs.YtoiokplgkanepaaGreatDoor
