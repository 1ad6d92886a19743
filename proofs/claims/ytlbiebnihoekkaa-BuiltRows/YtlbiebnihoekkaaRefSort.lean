/-
  The contract of the document's Sort.
-/
import Derived.Test.YtlbiebnihoekkaaTupFind
import Derived.Deep.RegionHeld3
import Derived.Deep.DrawnRows
namespace Go.Proofs.Ytlbiebnihoekkaa
open Go.RowKit
set_option linter.unusedVariables false
set_option linter.unusedSimpArgs false
set_option maxRecDepth 20000
attribute [local go_sem ↓] Go.wp_at_zero Go.wp_at_succ

/-- t put in its place. -/
def insL (ll : List (List Int)) (t : List Int) : List (List Int) :=
  if isAt ll t (lowN ll t) then ll else ll.take (lowN ll t) ++ [t] ++ ll.drop (lowN ll t)

def sortL (ll : List (List Int)) : List (List Int) := ll.foldl insL []

theorem sortL_snoc {ll : List (List Int)} {k : Nat} (hk : k < ll.length) : sortL (ll.take (k + 1)) = insL (sortL (ll.take k)) ll[k] := by
  rw [List.take_succ_eq_append_getElem hk]; simp only [sortL, List.foldl_append, List.foldl_cons, List.foldl_nil]

theorem insL_le (ll : List (List Int)) (t : List Int) : (insL ll t).length ≤ ll.length + 1 := by
  unfold insL
  split
  · omega
  · simp; omega

theorem sortL_le (ll : List (List Int)) : (sortL ll).length ≤ ll.length := by
  unfold sortL
  have : ∀ (l acc : List (List Int)), (l.foldl insL acc).length ≤ acc.length + l.length := by
    intro l
    induction l with
    | nil => intro acc; simp
    | cons x r ih => intro acc; have := ih (insL acc x); have := insL_le acc x; simp at *; omega
  simpa using this ll []

theorem tups_join {w : World} {v : Value} {vs : List Value} {ll : List (List Int)} (h1 : Seq id w v vs) (h2 : vs.length = ll.length) (h3 : ∀ i (h : i < vs.length) (h' : i < ll.length), Ints w vs[i] ll[i]) : Tups w v ll := ⟨vs, h1, h2, h3⟩

/-- What each reads as, of a list that is put together. -/
theorem reads_ins {w : World} {vs : List Value} {ll : List (List Int)} {u : Value} {t : List Int} {k : Nat} (hlen : vs.length = ll.length) (h3 : ∀ i (h : i < vs.length) (h' : i < ll.length), Ints w vs[i] ll[i]) (hu : Ints w u t) (hk : k ≤ ll.length) :
    (vs.take k ++ [u] ++ vs.drop k).length = (ll.take k ++ [t] ++ ll.drop k).length ∧
    ∀ i (h : i < (vs.take k ++ [u] ++ vs.drop k).length) (h' : i < (ll.take k ++ [t] ++ ll.drop k).length), Ints w (vs.take k ++ [u] ++ vs.drop k)[i] (ll.take k ++ [t] ++ ll.drop k)[i] := by
  refine ⟨by simp [hlen], fun i hi hi' => ?_⟩
  rcases Nat.lt_trichotomy i k with h | h | h
  · have e1 : (vs.take k ++ [u] ++ vs.drop k)[i] = vs[i]'(by omega) := by
      rw [List.getElem_append_left (by simp; omega), List.getElem_append_left (by simp; omega)]; simp
    have e2 : (ll.take k ++ [t] ++ ll.drop k)[i] = ll[i]'(by omega) := by
      rw [List.getElem_append_left (by simp; omega), List.getElem_append_left (by simp; omega)]; simp
    rw [e1, e2]; exact h3 i (by omega) (by omega)
  · subst h
    have e1 : (vs.take i ++ [u] ++ vs.drop i)[i] = u := by
      rw [List.getElem_append_left (by simp; omega), List.getElem_append_right (by simp; omega)]; simp
    have e2 : (ll.take i ++ [t] ++ ll.drop i)[i] = t := by
      rw [List.getElem_append_left (by simp; omega), List.getElem_append_right (by simp; omega)]; simp
    rw [e1, e2]; exact hu
  · have hl : i - 1 < ll.length := by simp at hi'; omega
    have e1 : (vs.take k ++ [u] ++ vs.drop k)[i] = vs[i - 1]'(by omega) := by
      rw [List.getElem_append_right (by simp; omega), List.getElem_drop]; congr 1; simp; omega
    have e2 : (ll.take k ++ [t] ++ ll.drop k)[i] = ll[i - 1] := by
      rw [List.getElem_append_right (by simp; omega), List.getElem_drop]; congr 1; simp; omega
    rw [e1, e2]; exact h3 _ (by omega) hl

set_option maxHeartbeats 8000000 in
theorem refSort_any {ll : List (List Int)} {v : Value} {w : World} (h : Tups w v ll) (hlen : ll.length < 100000) (hrow : ∀ t ∈ ll, t.length < 100000000) :
    Calls Try.prog 23 #[v] w fun e w' => ∃ v, e = .returned v ∧ Tups w' v (sortL ll) ∧ New w.heap.size w' v ∧ Below w.heap.size w w' := by
  obtain ⟨a, ca, rfl, hla, hca⟩ := h.form
  unfold maxLen at hca
  go_enter Try.func23, Try.ntmps23
  go_wp2
  go_loopw [3, 4] (fun v i wr => ∃ k : Nat, k ≤ ll.length ∧ i = .int .i64 k ∧ Tups wr v (sortL (ll.take k)) ∧ New w.heap.size wr v ∧ Below w.heap.size w wr) (fun _ i _ => ll.length - (intOf i).toNat)
  case atStart => exact ⟨0, by omega, rfl, OwnT.tups (OwnT.lit (Nat.le_refl _)), OwnT.new (OwnT.lit (Nat.le_refl _)), (Below.refl _ _).alloc (Nat.le_refl _) _⟩
  case round =>
    obtain ⟨i, hi, rfl, hout, hnew, hbel⟩ := hrel
    have hz := hbel.size
    by_cases hilt : i < ll.length
    · obtain ⟨bl, ol, ul, rfl, hcl, hil⟩ := (h.below hbel).at hilt
      have hlilen : ll[i].length < 100000000000 := by have := hrow _ (List.getElem_mem hilt); omega
      obtain ⟨lia, lic, rfl, _, _⟩ := hil.form
      have HS := hide (sortL_snoc hilt)
      have hsl := sortL_le (ll.take i)
      have htl := List.length_take_le i ll
      obtain ⟨so, hso⟩ : ∃ so, so = sortL (ll.take i) := ⟨_, rfl⟩
      obtain ⟨li, hli⟩ : ∃ li, li = ll[i] := ⟨_, rfl⟩
      rw [← hso] at hout HS hsl
      rw [← hli] at hil HS hcl hlilen
      have hslen : so.length < 1000000 := by omega
      obtain ⟨ov, ocap, hov, hsol, hocap⟩ := hout.form
      unfold maxLen at hocap
      rw [hov] at hout hnew ⊢
      obtain ⟨vs, hsq, hvl, hrd⟩ := hout
      obtain ⟨c, hc0⟩ : ∃ c, c = lowN so li := ⟨_, rfl⟩
      have hcle : c ≤ so.length := by rw [hc0]; exact lowN_le _ _
      have HC0 := hide hc0
      clear h hso hli hsl htl hrow hc0 hov
      go_wp2
      go_loopw [5] (fun si wq => ∃ k n : Nat, k ≤ c ∧ si = .int .i64 k ∧ wq = wr.drewN n ∧ Hid (c = k + lowN (so.drop k) li)) (fun si _ => c - (intOf si).toNat)
      case atStart => exact ⟨0, 0, by omega, rfl, rfl, hide (by simpa using unhide HC0)⟩
      case round =>
        obtain ⟨k, n, hkc, rfl, rfl, Hck⟩ := hrel
        have hck := unhide Hck
        clear Hck
        by_cases hks : k < so.length
        · obtain ⟨bo, oo, e1, hco⟩ := hsq.at (k := k) (by omega)
          subst e1
          have hio := hrd k (by omega) hks
          obtain ⟨oa, oc, hoe, _, _⟩ := hio.form
          have HCMP := hide (fun n => refCompare_any (Seq.drewN hio n) (Seq.drewN hil n))
          obtain ⟨q, hq⟩ : ∃ q, q = cmpL so[k] li := ⟨_, rfl⟩
          rw [← hq] at HCMP
          simp only [id] at hco
          generalize vs[k] = ok at hco HCMP hio hoe
          by_cases hzq : q < 0
          · have hck' := hck
            rw [low_step hks (hq ▸ hzq)] at hck'
            have Hck : Hid (c = (k + 1) + lowN (so.drop (k + 1)) li) := hide (by omega)
            have hk1 : k + 1 ≤ c := by omega
            clear hck hck' hq hio hoe hsq hrd hil
            go_wp2
            go_quiet ((go_at_call 25; exact Calls.quiet_add (unhide HCMP _)))
            go_wp2
            go_roundw
            case rel => exact ⟨k + 1, _, hk1, by go_num, by first | rfl | (simp only [World.drewN_drewN]; rfl), Hck⟩
            case measure => simp [intOf]; omega
          · have hck' := hck
            rw [low_stop hks (hq ▸ hzq), Nat.add_zero] at hck'
            clear hck
            subst hck'
            have hzd : decide (q < 0) = false := by simpa using hzq
            by_cases hq0 : q = 0
            · have hq1 : (q == 0) = true := by simp [hq0]
              have HAT := hide (show isAt so li c = true by unfold isAt; rw [dif_pos hks, ← hq]; simp [hq0])
              have HSO := hide (show insL so li = so by unfold insL; rw [← unhide HC0, if_pos (unhide HAT)])
              have hfin := hide (fun W (hb : Below wr.heap.size wr W) => (Tups.below (w' := W) ⟨vs, hsq, hvl, hrd⟩ hb))
              clear hq hio hoe hq0 hsq hrd hil
              go_wp2
              go_quiet ((go_at_call 25; exact Calls.quiet_add (unhide HCMP _)))
              go_wp2
              go_quiet ((go_at_call 25; exact Calls.quiet_add (unhide HCMP _)))
              go_wp2
              go_roundw
              case rel => exact ⟨i + 1, by omega, by go_num, by rw [unhide HS, unhide HSO]; exact unhide hfin _ (below_same rfl rfl rfl rfl), hnew, Below.drewN1 hbel _⟩
              case measure => simp [intOf]; omega
            · have hq1 : (q == 0) = false := by simp [hq0]
              have HAT := hide (show isAt so li c = false by unfold isAt; rw [dif_pos hks, ← hq]; simp [hq0])
              clear hq hio hoe hq0
              go_wp2
              go_quiet ((go_at_call 25; exact Calls.quiet_add (unhide HCMP _)))
              go_wp2
              go_quiet ((go_at_call 25; exact Calls.quiet_add (unhide HCMP _)))
              go_wp2
              have HSO := hide (show insL so li = so.take c ++ [li] ++ so.drop c by unfold insL; rw [← unhide HC0, if_neg (by rw [unhide HAT]; simp)])
              have HCOPY := hide (fun W (hb : Below wr.heap.size wr W) => refCopy_any (w := W) (hil.below hb) hlilen)
              have HK := hide (fun W (hb : Below wr.heap.size wr W) => Below.cell_of hb hcl)
              have HT := hide (fun W (hb : Below wr.heap.size wr W) => Seq.below (w' := W) (hsq.take (k := c) (by omega)) hb)
              have HD := hide (fun W (hb : Below wr.heap.size wr W) => Seq.below (w' := W) (hsq.drop (k := c) (by omega)) hb)
              have HR := hide (fun W (hb : Below wr.heap.size wr W) i hi hi' => Seq.below (w' := W) (hrd i hi hi') hb)
              have hcut := run_cutV (some ⟨bo, oo, none⟩) so.length ocap c c rfl (by omega)
              have hdrop := run_dropV (some ⟨bo, oo, none⟩) so.length ocap c c rfl (by omega)
              have HONE := hide (show ∀ y, y ∈ vs → y.oneCell' = true from fun y hy => by obtain ⟨i, hi, rfl⟩ := List.getElem_of_mem hy; exact (hrd i hi (by omega)).one)
              have HVL := hide hvl
              have Hsol := hide hsol
              have Hcle := hide hcle
              have HRD := hide (fun W (hb : Below wr.heap.size wr W) u (hu : Ints W u li) => reads_ins (k := c) hvl (fun i hi hi' => (hrd i hi hi').below hb) hu hcle)
              have hln : vs.length < 100000000 := by omega
              clear hsq hrd hil hvl hsol hcle
              go_region_held3 (fun w' => w'.cell? ⟨bl, ol + i, none⟩ = some (.slice lia li.length lic)) (first | exact unhide HK _ (by first | exact hB5 | exact hB4 | exact hB3.alloc hB3.size _ | exact hB3 | exact hB2 | exact below_push rfl rfl rfl rfl | exact below_same rfl rfl rfl rfl) | go_keep)
                (first
                  | (refine step_of rfl (op_app_rows (.tmp 47) (.tmp 50) rfl (B := wr.heap.size) (l := []) (by exact own_pushV (Nat.le_refl _) rfl) rfl (by simp) (unhide HT _ (by exact below_push rfl rfl rfl rfl)) rfl (fun y hy => unhide HONE y (List.mem_of_mem_take hy)) (by simp; omega) ?_); intro v1 w2 hown2 hgrew2; have hB2 : Below wr.heap.size wr w2 := Below.trans (by exact below_push rfl rfl rfl rfl) hgrew2.below)
                  | (go_at_call 28; refine (unhide HCOPY _ hB2).mono ?_; rintro e w3 ⟨u, rfl, hu3, hun3, hb3⟩; obtain ⟨ua, uc, hue, _, _⟩ := hu3.form; rw [hue] at hu3 hun3 ⊢; clear hue; have hB3 : Below wr.heap.size wr w3 := hB2.trans (hb3.mono hB2.size))
                  | (refine step_of rfl (op_app_row (.tmp 51) (.tmp 57) rfl (own_below hown2 hb3) rfl hB3.size rfl rfl (by simp; omega) ?_); intro v2 w4 hown4 hgrew4; have hB4 : Below wr.heap.size wr w4 := hB3.trans hgrew4.below)
                  | (refine step_of rfl (op_app_rows (.tmp 58) (.tmp 61) rfl hown4 rfl hB4.size (unhide HD _ hB4) rfl (fun y hy => unhide HONE y (List.mem_of_mem_drop hy)) (by simp; omega) ?_); intro v3 w5 hown5 hgrew5; have hB5 : Below wr.heap.size wr w5 := hB4.trans hgrew5.below))
              all_goals
                have hap4 : Apart (.slice ua li.length uc) li v1 := fun _ => (Sep.of_new (New.of_own hown2) (Nat.le_refl _) hun3).symm
                have hu4 := hu3.grew hgrew4 hap4
                have hu5 := hu4.grew hgrew5 (hap4.grew hu3 hgrew4)
                have hfin : Tups w5 v3 (sortL (List.take (i + 1) ll)) := by
                  rw [unhide HS, unhide HSO]
                  have hr := unhide HRD w5 hB5 _ hu5
                  exact tups_join (Seq.of_own (by simpa [OwnV] using hown5)) hr.1 hr.2
                have hn5 := (New.of_own hown5).grow hz (Nat.le_refl _)
                have hb5 := hbel.trans (hB5.mono hz)
                go_wp2
                go_roundw
                case rel => exact ⟨i + 1, by omega, by go_num, hfin, hn5, hb5⟩
                case measure => simp [intOf]; omega
        · rw [low_end (by omega), Nat.add_zero] at hck
          subst hck
          have HAT := hide (show isAt so li c = false by unfold isAt; rw [dif_neg hks])
          have hkd : decide (c < so.length) = false := by simpa using hks
          go_wp2
          go_quiet (fail)
          go_wp2
          go_quiet (fail)
          go_wp2
          have HSO := hide (show insL so li = so.take c ++ [li] ++ so.drop c by unfold insL; rw [← unhide HC0, if_neg (by rw [unhide HAT]; simp)])
          have HCOPY := hide (fun W (hb : Below wr.heap.size wr W) => refCopy_any (w := W) (hil.below hb) hlilen)
          have HK := hide (fun W (hb : Below wr.heap.size wr W) => Below.cell_of hb hcl)
          have HT := hide (fun W (hb : Below wr.heap.size wr W) => Seq.below (w' := W) (hsq.take (k := c) (by omega)) hb)
          have HD := hide (fun W (hb : Below wr.heap.size wr W) => Seq.below (w' := W) (hsq.drop (k := c) (by omega)) hb)
          have HR := hide (fun W (hb : Below wr.heap.size wr W) i hi hi' => Seq.below (w' := W) (hrd i hi hi') hb)
          have hcut := run_cutV ov so.length ocap c c rfl (by omega)
          have hdrop := run_dropV ov so.length ocap c c rfl (by omega)
          have HONE := hide (show ∀ y, y ∈ vs → y.oneCell' = true from fun y hy => by obtain ⟨i, hi, rfl⟩ := List.getElem_of_mem hy; exact (hrd i hi (by omega)).one)
          have HVL := hide hvl
          have Hsol := hide hsol
          have Hcle := hide hcle
          have HRD := hide (fun W (hb : Below wr.heap.size wr W) u (hu : Ints W u li) => reads_ins (k := c) hvl (fun i hi hi' => (hrd i hi hi').below hb) hu hcle)
          have hln : vs.length < 100000000 := by omega
          clear hsq hrd hil hvl hsol hcle
          go_region_held3 (fun w' => w'.cell? ⟨bl, ol + i, none⟩ = some (.slice lia li.length lic)) (first | exact unhide HK _ (by first | exact hB5 | exact hB4 | exact hB3.alloc hB3.size _ | exact hB3 | exact hB2 | exact below_push rfl rfl rfl rfl | exact below_same rfl rfl rfl rfl) | go_keep)
            (first
              | (refine step_of rfl (op_app_rows (.tmp 47) (.tmp 50) rfl (B := wr.heap.size) (l := []) (by exact own_pushV (Nat.le_refl _) rfl) rfl (by simp) (unhide HT _ (by exact below_push rfl rfl rfl rfl)) rfl (fun y hy => unhide HONE y (List.mem_of_mem_take hy)) (by simp; omega) ?_); intro v1 w2 hown2 hgrew2; have hB2 : Below wr.heap.size wr w2 := Below.trans (by exact below_push rfl rfl rfl rfl) hgrew2.below)
              | (go_at_call 28; refine (unhide HCOPY _ hB2).mono ?_; rintro e w3 ⟨u, rfl, hu3, hun3, hb3⟩; obtain ⟨ua, uc, hue, _, _⟩ := hu3.form; rw [hue] at hu3 hun3 ⊢; clear hue; have hB3 : Below wr.heap.size wr w3 := hB2.trans (hb3.mono hB2.size))
              | (refine step_of rfl (op_app_row (.tmp 51) (.tmp 57) rfl (own_below hown2 hb3) rfl hB3.size rfl rfl (by simp; omega) ?_); intro v2 w4 hown4 hgrew4; have hB4 : Below wr.heap.size wr w4 := hB3.trans hgrew4.below)
              | (refine step_of rfl (op_app_rows (.tmp 58) (.tmp 61) rfl hown4 rfl hB4.size (unhide HD _ hB4) rfl (fun y hy => unhide HONE y (List.mem_of_mem_drop hy)) (by simp; omega) ?_); intro v3 w5 hown5 hgrew5; have hB5 : Below wr.heap.size wr w5 := hB4.trans hgrew5.below))
          all_goals
            have hap4 : Apart (.slice ua li.length uc) li v1 := fun _ => (Sep.of_new (New.of_own hown2) (Nat.le_refl _) hun3).symm
            have hu4 := hu3.grew hgrew4 hap4
            have hu5 := hu4.grew hgrew5 (hap4.grew hu3 hgrew4)
            have hfin : Tups w5 v3 (sortL (List.take (i + 1) ll)) := by
              rw [unhide HS, unhide HSO]
              have hr := unhide HRD w5 hB5 _ hu5
              exact tups_join (Seq.of_own (by simpa [OwnV] using hown5)) hr.1 hr.2
            have hn5 := (New.of_own hown5).grow hz (Nat.le_refl _)
            have hb5 := hbel.trans (hB5.mono hz)
            go_wp2
            go_roundw
            case rel => exact ⟨i + 1, by omega, by go_num, hfin, hn5, hb5⟩
            case measure => simp [intOf]; omega
    · clear h
      have hii : i = ll.length := by omega
      subst hii
      rw [List.take_length] at hout
      go_wp2
      go_ret
      exact ⟨_, rfl, hout, hnew, hbel⟩

end Go.Proofs.Ytlbiebnihoekkaa
