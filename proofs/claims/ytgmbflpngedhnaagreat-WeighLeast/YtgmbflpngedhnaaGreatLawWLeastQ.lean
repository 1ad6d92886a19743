/-
  Proved: WeighLeast answers true for every two Parts, and leaves what was handed in as it was. No condition.
-/
import Derived.Test.YtgmbflpngedhnaaGreatRelBox
import Derived.Test.YtgmbflpngedhnaaGreatRefSort
import Derived.Test.YtgmbflpngedhnaaGreatWghDocs
import Derived.Test.YtgmbflpngedhnaaGreatSmall3
import Derived.Test.YtgmbflpngedhnaaGreatWghThree
import Derived.Deep.CutRange
import Derived.Test.YtgmbflpngedhnaaGreatFrame2
import Derived.Lib.SmallJoins
import Derived.Test.YtgmbflpngedhnaaGreatWghShown
import Derived.Deep.QuietTactic
import Derived.Deep.RegionLaw
import Derived.BigRegion
import Derived.BigQuiet
namespace Go.Proofs.YtgmbflpngedhnaaGreat
open Go.RowKit
set_option linter.unusedVariables false
set_option linter.unusedSimpArgs false
set_option maxRecDepth 20000

/-- The value lies in none of the blocks X, and in one that is there. -/
def NotIn (X : Nat → Prop) (w : World) (v : Value) : Prop := ∀ g, v.ownBlock = some g → ¬ X g ∧ g < w.heap.size
theorem NotIn.kept {X : Nat → Prop} {w w' : World} {v : Value} (h : NotIn X w v) (hs : w.heap.size ≤ w'.heap.size) : NotIn X w' v := fun g hg => ⟨(h g hg).1, Nat.lt_of_lt_of_le (h g hg).2 hs⟩
theorem NotIn.weaken {X Y : Nat → Prop} {w : World} {v : Value} (h : NotIn X w v) (hY : ∀ g, g < w.heap.size → Y g → X g) : NotIn Y w v := fun g hg => ⟨fun hy => (h g hg).1 (hY g (h g hg).2 hy), (h g hg).2⟩
theorem NotIn.nil (X : Nat → Prop) (w : World) : NotIn X w (.slice none 0 0) := by intro g h; cases h
theorem NotIn.of_new {B : Nat} {w : World} {v : Value} (h : New B w v) : NotIn (· < B) w v := fun g hg => ⟨by have := h g hg; omega, (h g hg).2⟩

theorem grown_cell {w w' : World} {row : Option Nat} (g : w.grownBy w' row) {a : Addr} {v : Value} (h : w.cell? a = some v) (hne : some a.block ≠ row) : w'.cell? a = some v := by
  rw [World.cell?_of_block (g.block a.block (cell_lt h) hne)]; exact h

theorem Seq.keptO {α : Type} {enc : α → Value} {X : Nat → Prop} {w w' : World} {row : Option Nat} {v : Value} {l : List α} (h : Seq enc w v l) (hn : NotIn X w v) (g : w.grownBy w' row) (hX : ∀ b, row = some b → X b) : Seq enc w' v l := by
  obtain ⟨a, cap, rfl, h2, h3, h4, h5, h6⟩ := h
  refine ⟨a, cap, rfl, h2, h3, h4, h5, fun i y hi => ?_⟩
  obtain ⟨x, rfl, hc⟩ := h6 i y hi
  exact ⟨x, rfl, grown_cell g hc (fun e => (hn x.block rfl).1 (hX _ e.symm))⟩

def IntsO (X : Nat → Prop) (w : World) (v : Value) (l : List Int) : Prop := Ints w v l ∧ NotIn X w v
theorem IntsO.kept {X : Nat → Prop} {w w' : World} {row : Option Nat} {v : Value} {l : List Int} (h : IntsO X w v l) (g : w.grownBy w' row) (hX : ∀ b, row = some b → X b) : IntsO X w' v l := ⟨Seq.keptO h.1 h.2 g hX, h.2.kept g.size⟩
theorem IntsO.weaken {X Y : Nat → Prop} {w : World} {v : Value} {l : List Int} (h : IntsO X w v l) (hY : ∀ g, g < w.heap.size → Y g → X g) : IntsO Y w v l := ⟨h.1, h.2.weaken hY⟩
theorem IntsO.nil (X : Nat → Prop) (w : World) : IntsO X w (.slice none 0 0) [] := ⟨Seq.nil _ _, NotIn.nil _ _⟩

def TupsO (X : Nat → Prop) (w : World) (v : Value) (ll : List (List Int)) : Prop :=
  ∃ vs : List Value, Seq id w v vs ∧ NotIn X w v ∧ vs.length = ll.length ∧ ∀ i (h : i < vs.length) (h' : i < ll.length), IntsO X w vs[i] ll[i]
theorem TupsO.kept {X : Nat → Prop} {w w' : World} {row : Option Nat} {v : Value} {ll : List (List Int)} (h : TupsO X w v ll) (g : w.grownBy w' row) (hX : ∀ b, row = some b → X b) : TupsO X w' v ll := by
  obtain ⟨vs, h1, h2, h3, h4⟩ := h
  exact ⟨vs, Seq.keptO h1 h2 g hX, h2.kept g.size, h3, fun i hi hi' => (h4 i hi hi').kept g hX⟩
theorem TupsO.weaken {X Y : Nat → Prop} {w : World} {v : Value} {ll : List (List Int)} (h : TupsO X w v ll) (hY : ∀ g, g < w.heap.size → Y g → X g) : TupsO Y w v ll := by
  obtain ⟨vs, h1, h2, h3, h4⟩ := h
  exact ⟨vs, h1, h2.weaken hY, h3, fun i hi hi' => (h4 i hi hi').weaken hY⟩
theorem TupsO.tups {X : Nat → Prop} {w : World} {v : Value} {ll : List (List Int)} (h : TupsO X w v ll) : Tups w v ll := by
  obtain ⟨vs, h1, h2, h3, h4⟩ := h
  exact ⟨vs, h1, h3, fun i hi hi' => (h4 i hi hi').1⟩
theorem below_by {w w' : World} (h : Below w.heap.size w w') : w.grownBy w' none := ⟨h.os, h.tape, h.output, h.size, fun k hk _ => h.block k hk⟩
theorem IntsO.below {X : Nat → Prop} {w w' : World} {v : Value} {l : List Int} (h : IntsO X w v l) (hb : Below w.heap.size w w') : IntsO X w' v l := h.kept (below_by hb) (fun b e => by cases e)
theorem TupsO.below {X : Nat → Prop} {w w' : World} {v : Value} {l : List (List Int)} (h : TupsO X w v l) (hb : Below w.heap.size w w') : TupsO X w' v l := h.kept (below_by hb) (fun b e => by cases e)

/-- A relation's two fields, off the blocks X. -/
def RelO (X : Nat → Prop) (w : World) (p : Value × Value) (r : List Int × List (List Int)) : Prop := IntsO X w p.1 r.1 ∧ TupsO X w p.2 r.2
theorem RelO.kept {X : Nat → Prop} {w w' : World} {row : Option Nat} {p : Value × Value} {r : List Int × List (List Int)} (h : RelO X w p r) (g : w.grownBy w' row) (hX : ∀ b, row = some b → X b) : RelO X w' p r := ⟨h.1.kept g hX, h.2.kept g hX⟩
theorem RelO.weaken {X Y : Nat → Prop} {w : World} {p : Value × Value} {r : List Int × List (List Int)} (h : RelO X w p r) (hY : ∀ g, g < w.heap.size → Y g → X g) : RelO Y w p r := ⟨h.1.weaken hY, h.2.weaken hY⟩
theorem RelO.below {X : Nat → Prop} {w w' : World} {p : Value × Value} {r : List Int × List (List Int)} (h : RelO X w p r) (hb : Below w.heap.size w w') : RelO X w' p r := ⟨h.1.below hb, h.2.below hb⟩
theorem RelO.rel {X : Nat → Prop} {w : World} {p : Value × Value} {r : List Int × List (List Int)} (h : RelO X w p r) : RelV w (.agg #[p.1, p.2]) r.1 r.2 := ⟨_, _, rfl, h.1.1, h.2.tups⟩

def flat2 (l : List (Value × Value)) : List Value := l.flatMap fun p => [p.1, p.2]
theorem flat2_at0 : ∀ (l : List (Value × Value)) (i : Nat) (h : i < l.length), (flat2 l)[i * 2]? = some l[i].1
  | x :: r, 0, _ => by simp [flat2]
  | x :: r, i + 1, h => by
    have ih := flat2_at0 r i (by simpa using h)
    have e : flat2 (x :: r) = x.1 :: x.2 :: flat2 r := by simp [flat2]
    rw [e, show (i + 1) * 2 = i * 2 + 1 + 1 by omega, List.getElem?_cons_succ, List.getElem?_cons_succ, ih]; rfl
theorem flat2_at1 : ∀ (l : List (Value × Value)) (i : Nat) (h : i < l.length), (flat2 l)[i * 2 + 1]? = some l[i].2
  | x :: r, 0, _ => by simp [flat2]
  | x :: r, i + 1, h => by
    have ih := flat2_at1 r i (by simpa using h)
    have e : flat2 (x :: r) = x.1 :: x.2 :: flat2 r := by simp [flat2]
    rw [e, show (i + 1) * 2 + 1 = i * 2 + 1 + 1 + 1 by omega, List.getElem?_cons_succ, List.getElem?_cons_succ, ih]; rfl

/-- The call's own slice of relations. -/
def OwnR (B : Nat) (w : World) (v : Value) (rs : List (List Int × List (List Int))) : Prop :=
  ∃ ps : List (Value × Value), w.ownsRow B 31 2 v ps.length (flat2 ps) ∧ ps.length = rs.length ∧ ∀ i (h : i < ps.length) (h' : i < rs.length), RelO (fun g => v.ownBlock = some g) w ps[i] rs[i]

theorem OwnR.nil (B : Nat) (w : World) : OwnR B w (.slice none 0 0) [] := ⟨[], World.ownsRow_nil _ _ _ _, rfl, fun i h => by simp at h⟩
theorem OwnR.below {B : Nat} {w w' : World} {v : Value} {rs : List (List Int × List (List Int))} (h : OwnR B w v rs) (hb : Below w.heap.size w w') : OwnR B w' v rs := by
  obtain ⟨ps, h1, h2, h3⟩ := h
  exact ⟨ps, h1.kept (row := none) (below_by hb) (by cases v.ownBlock <;> simp), h2, fun i hi hi' => (h3 i hi hi').below hb⟩
theorem OwnR.new {B : Nat} {w : World} {v : Value} {rs : List (List Int × List (List Int))} (h : OwnR B w v rs) : New B w v := by
  obtain ⟨ps, h1, _⟩ := h
  exact h1.lt
theorem OwnR.sl {B : Nat} {w : World} {v : Value} {rs : List (List Int × List (List Int))} (h : OwnR B w v rs) : ∃ a c, v = .slice a rs.length c := by
  obtain ⟨ps, ⟨_, h1⟩, h2, _⟩ := h
  rcases h1 with ⟨rfl, h0⟩ | ⟨g, cap, cur, hv, _⟩
  · exact ⟨none, 0, by rw [← h2, h0]⟩
  · exact ⟨_, cap, by rw [hv, h2]⟩

theorem Tryz.infoRel : (Tryz.prog.info? 31).map (fun i => (i.zero, i.size, i.bytes)) = some (some (.agg #[.slice none 0 0, .slice none 0 0]), 2, 48) := by kernel_rfl

end Go.Proofs.YtgmbflpngedhnaaGreat

namespace Go.Proofs.YtgmbflpngedhnaaGreat
open Go.RowKit
set_option linter.unusedVariables false
set_option linter.unusedSimpArgs false
set_option maxRecDepth 20000
attribute [local go_sem ↓] Go.wp_at_zero Go.wp_at_succ

theorem TupsO.lit (w : World) : TupsO (· < w.heap.size) (w.alloc (.cells #[] 22)) (.slice (some ⟨w.heap.size, 0, none⟩) 0 0) [] := by
  have h := OwnT.lit (w := w) (Nat.le_refl w.heap.size)
  obtain ⟨vs, h1, h2, h3⟩ := h.tups
  exact ⟨vs, h1, NotIn.of_new h.new, h2, fun i hi hi' => by simp at hi'⟩

theorem notin_ins {X : Nat → Prop} {W : World} {vs : List Value} {k : Nat} {u : Value} (h : ∀ i (hi : i < vs.length), NotIn X W vs[i]) (hu : NotIn X W u) : ∀ x, x ∈ vs.take k ++ [u] ++ vs.drop k → NotIn X W x := by
  intro x hx
  simp only [List.mem_append, List.mem_singleton] at hx
  rcases hx with (hx | rfl) | hx
  · obtain ⟨i, hi, rfl⟩ := List.getElem_of_mem (List.mem_of_mem_take hx); exact h i hi
  · exact hu
  · obtain ⟨i, hi, rfl⟩ := List.getElem_of_mem (List.mem_of_mem_drop hx); exact h i hi

set_option maxHeartbeats 8000000 in
theorem refSort_nw {ll : List (List Int)} {v : Value} {w : World} (h : Tups w v ll) (hlen : ll.length < 100000) (hrow : ∀ t ∈ ll, t.length < 100000000) :
    Calls Tryz.prog 30 #[v] w fun e w' => ∃ v, e = .returned v ∧ TupsO (· < w.heap.size) w' v (sortL ll) ∧ Below w.heap.size w w' := by
  obtain ⟨a, ca, rfl, hla, hca⟩ := h.form
  unfold maxLen at hca
  go_enter Tryz.func30, Tryz.ntmps30
  go_wp2
  go_loopw [3, 4] (fun v i wr => ∃ k : Nat, k ≤ ll.length ∧ i = .int .i64 k ∧ TupsO (· < w.heap.size) wr v (sortL (ll.take k)) ∧ Below w.heap.size w wr) (fun _ i _ => ll.length - (intOf i).toNat)
  case atStart => exact ⟨0, by omega, rfl, TupsO.lit w, (Below.refl _ _).alloc (Nat.le_refl _) _⟩
  case round =>
    obtain ⟨i, hi, rfl, hout, hbel⟩ := hrel
    have hz := hbel.size
    by_cases hilt : i < ll.length
    · obtain ⟨bl, ol, ul, rfl, hcl, hil⟩ := (h.below hbel).at hilt
      have hlilen : ll[i].length < 100000000000 := by have := hrow _ (List.getElem_mem hilt); omega
      obtain ⟨lia, lic, rfl, _, _⟩ := hil.form
      have HS := hide (sortL_snoc hilt)
      have hsl := sortL_le (ll.take i)
      have htl := List.length_take_le i ll
      obtain ⟨so, hso⟩ : ∃ so, so = sortL (ll.take i) := ⟨_, rfl⟩
      obtain ⟨li, hli⟩ : ∃ li, li = ll[i] := ⟨_, rfl⟩
      rw [← hso] at hout HS hsl
      rw [← hli] at hil HS hcl hlilen
      have hslen : so.length < 1000000 := by omega
      obtain ⟨ov, ocap, hov, hsol, hocap⟩ := hout.tups.form
      unfold maxLen at hocap
      rw [hov] at hout ⊢
      obtain ⟨vs, hsq, hnew, hvl, hrdO⟩ := hout
      have hrd : ∀ i (h : i < vs.length) (h' : i < so.length), Ints wr vs[i] so[i] := fun i h h' => (hrdO i h h').1
      have HNO := hide (fun i (h : i < vs.length) (h' : i < so.length) => (hrdO i h h').2)
      clear hrdO
      obtain ⟨c, hc0⟩ : ∃ c, c = lowN so li := ⟨_, rfl⟩
      have hcle : c ≤ so.length := by rw [hc0]; exact lowN_le _ _
      have HC0 := hide hc0
      clear h hso hli hsl htl hrow hc0 hov
      go_wp2
      go_loopw [5] (fun si wq => ∃ k n : Nat, k ≤ c ∧ si = .int .i64 k ∧ wq = wr.drewN n ∧ Hid (c = k + lowN (so.drop k) li)) (fun si _ => c - (intOf si).toNat)
      case atStart => exact ⟨0, 0, by omega, rfl, rfl, hide (by simpa using unhide HC0)⟩
      case round =>
        obtain ⟨k, n, hkc, rfl, rfl, Hck⟩ := hrel
        have hck := unhide Hck
        clear Hck
        by_cases hks : k < so.length
        · obtain ⟨bo, oo, e1, hco⟩ := hsq.at (k := k) (by omega)
          subst e1
          have hio := hrd k (by omega) hks
          obtain ⟨oa, oc, hoe, _, _⟩ := hio.form
          have HCMP := hide (fun n => refCompare_any (Seq.drewN hio n) (Seq.drewN hil n))
          obtain ⟨q, hq⟩ : ∃ q, q = cmpL so[k] li := ⟨_, rfl⟩
          rw [← hq] at HCMP
          simp only [id] at hco
          generalize vs[k] = ok at hco HCMP hio hoe
          by_cases hzq : q < 0
          · have hck' := hck
            rw [low_step hks (hq ▸ hzq)] at hck'
            have Hck : Hid (c = (k + 1) + lowN (so.drop (k + 1)) li) := hide (by omega)
            have hk1 : k + 1 ≤ c := by omega
            clear hck hck' hq hio hoe hsq hrd hil
            go_wp2
            go_quiet ((go_at_call 55; exact Calls.quiet_add (unhide HCMP _)))
            go_wp2
            go_roundw
            case rel => exact ⟨k + 1, _, hk1, by go_num, by first | rfl | (simp only [World.drewN_drewN]; rfl), Hck⟩
            case measure => simp [intOf]; omega
          · have hck' := hck
            rw [low_stop hks (hq ▸ hzq), Nat.add_zero] at hck'
            clear hck
            subst hck'
            have hzd : decide (q < 0) = false := by simpa using hzq
            by_cases hq0 : q = 0
            · have hq1 : (q == 0) = true := by simp [hq0]
              have HAT := hide (show isAt so li c = true by unfold isAt; rw [dif_pos hks, ← hq]; simp [hq0])
              have HSO := hide (show insL so li = so by unfold insL; rw [← unhide HC0, if_pos (unhide HAT)])
              have hfin := hide (fun W (hb : Below wr.heap.size wr W) => (TupsO.below (w' := W) (X := (· < w.heap.size)) ⟨vs, hsq, hnew, hvl, fun i h h' => ⟨hrd i h h', unhide HNO i h h'⟩⟩ hb))
              clear hq hio hoe hq0 hsq hrd hil
              go_wp2
              go_quiet ((go_at_call 55; exact Calls.quiet_add (unhide HCMP _)))
              go_wp2
              go_quiet ((go_at_call 55; exact Calls.quiet_add (unhide HCMP _)))
              go_wp2
              go_roundw
              case rel => exact ⟨i + 1, by omega, by go_num, by rw [unhide HS, unhide HSO]; exact unhide hfin _ (below_same rfl rfl rfl rfl), Below.drewN1 hbel _⟩
              case measure => simp [intOf]; omega
            · have hq1 : (q == 0) = false := by simp [hq0]
              have HAT := hide (show isAt so li c = false by unfold isAt; rw [dif_pos hks, ← hq]; simp [hq0])
              clear hq hio hoe hq0
              go_wp2
              go_quiet ((go_at_call 55; exact Calls.quiet_add (unhide HCMP _)))
              go_wp2
              go_quiet ((go_at_call 55; exact Calls.quiet_add (unhide HCMP _)))
              go_wp2
              have HSO := hide (show insL so li = so.take c ++ [li] ++ so.drop c by unfold insL; rw [← unhide HC0, if_neg (by rw [unhide HAT]; simp)])
              have HCOPY := hide (fun W (hb : Below wr.heap.size wr W) => refCopy_any (w := W) (hil.below hb) hlilen)
              have HK := hide (fun W (hb : Below wr.heap.size wr W) => Below.cell_of hb hcl)
              have HT := hide (fun W (hb : Below wr.heap.size wr W) => Seq.below (w' := W) (hsq.take (k := c) (by omega)) hb)
              have HD := hide (fun W (hb : Below wr.heap.size wr W) => Seq.below (w' := W) (hsq.drop (k := c) (by omega)) hb)
              have HR := hide (fun W (hb : Below wr.heap.size wr W) i hi hi' => Seq.below (w' := W) (hrd i hi hi') hb)
              have hcut := run_cutV (some ⟨bo, oo, none⟩) so.length ocap c c rfl (by omega)
              have hdrop := run_dropV (some ⟨bo, oo, none⟩) so.length ocap c c rfl (by omega)
              have HONE := hide (show ∀ y, y ∈ vs → y.oneCell' = true from fun y hy => by obtain ⟨i, hi, rfl⟩ := List.getElem_of_mem hy; exact (hrd i hi (by omega)).one)
              have HVL := hide hvl
              have Hsol := hide hsol
              have Hcle := hide hcle
              have HRD := hide (fun W (hb : Below wr.heap.size wr W) u (hu : Ints W u li) => reads_ins (k := c) hvl (fun i hi hi' => (hrd i hi hi').below hb) hu hcle)
              have HNE := hide (fun W (hz : wr.heap.size ≤ W.heap.size) u (hu : NotIn (· < w.heap.size) W u) => notin_ins (k := c) (vs := vs) (fun i hi => (unhide HNO i hi (by omega)).kept hz) hu)
              have hln : vs.length < 100000000 := by omega
              clear hsq hrd hil hvl hsol hcle
              go_region_held3 (fun w' => w'.cell? ⟨bl, ol + i, none⟩ = some (.slice lia li.length lic)) (first | exact unhide HK _ (by first | exact hB5 | exact hB4 | exact hB3.alloc hB3.size _ | exact hB3 | exact hB2 | exact below_push rfl rfl rfl rfl | exact below_same rfl rfl rfl rfl) | go_keep)
                (first
                  | (refine step_of rfl (op_app_rows (.tmp 47) (.tmp 50) rfl (B := wr.heap.size) (l := []) (by exact own_pushV (Nat.le_refl _) rfl) rfl (by simp) (unhide HT _ (by exact below_push rfl rfl rfl rfl)) rfl (fun y hy => unhide HONE y (List.mem_of_mem_take hy)) (by simp; omega) ?_); intro v1 w2 hown2 hgrew2; have hB2 : Below wr.heap.size wr w2 := Below.trans (by exact below_push rfl rfl rfl rfl) hgrew2.below)
                  | (go_at_call 56; refine (unhide HCOPY _ hB2).mono ?_; rintro e w3 ⟨u, rfl, hu3, hun3, hb3⟩; obtain ⟨ua, uc, hue, _, _⟩ := hu3.form; rw [hue] at hu3 hun3 ⊢; clear hue; have hB3 : Below wr.heap.size wr w3 := hB2.trans (hb3.mono hB2.size))
                  | (refine step_of rfl (op_app_row (.tmp 51) (.tmp 57) rfl (own_below hown2 hb3) rfl hB3.size rfl rfl (by simp; omega) ?_); intro v2 w4 hown4 hgrew4; have hB4 : Below wr.heap.size wr w4 := hB3.trans hgrew4.below)
                  | (refine step_of rfl (op_app_rows (.tmp 58) (.tmp 61) rfl hown4 rfl hB4.size (unhide HD _ hB4) rfl (fun y hy => unhide HONE y (List.mem_of_mem_drop hy)) (by simp; omega) ?_); intro v3 w5 hown5 hgrew5; have hB5 : Below wr.heap.size wr w5 := hB4.trans hgrew5.below))
              all_goals
                have hap4 : Apart (.slice ua li.length uc) li v1 := fun _ => (Sep.of_new (New.of_own hown2) (Nat.le_refl _) hun3).symm
                have hu4 := hu3.grew hgrew4 hap4
                have hu5 := hu4.grew hgrew5 (hap4.grew hu3 hgrew4)
                have hfin : TupsO (· < w.heap.size) w5 v3 (sortL (List.take (i + 1) ll)) := by
                  rw [unhide HS, unhide HSO]
                  have hr := unhide HRD w5 hB5 _ hu5
                  exact ⟨_, Seq.of_own (by simpa [OwnV] using hown5), NotIn.of_new ((New.of_own hown5).grow hz (Nat.le_refl _)), hr.1, fun i hi hi' => ⟨hr.2 i hi hi', unhide HNE w5 hB5.size _ (NotIn.of_new (hun3.grow (Nat.le_trans hz hB2.size) (Nat.le_trans hgrew4.below.size hgrew5.below.size))) _ (List.getElem_mem _)⟩⟩
                have hb5 := hbel.trans (hB5.mono hz)
                go_wp2
                go_roundw
                case rel => exact ⟨i + 1, by omega, by go_num, hfin, hb5⟩
                case measure => simp [intOf]; omega
        · rw [low_end (by omega), Nat.add_zero] at hck
          subst hck
          have HAT := hide (show isAt so li c = false by unfold isAt; rw [dif_neg hks])
          have hkd : decide (c < so.length) = false := by simpa using hks
          go_wp2
          go_quiet (fail)
          go_wp2
          go_quiet (fail)
          go_wp2
          have HSO := hide (show insL so li = so.take c ++ [li] ++ so.drop c by unfold insL; rw [← unhide HC0, if_neg (by rw [unhide HAT]; simp)])
          have HCOPY := hide (fun W (hb : Below wr.heap.size wr W) => refCopy_any (w := W) (hil.below hb) hlilen)
          have HK := hide (fun W (hb : Below wr.heap.size wr W) => Below.cell_of hb hcl)
          have HT := hide (fun W (hb : Below wr.heap.size wr W) => Seq.below (w' := W) (hsq.take (k := c) (by omega)) hb)
          have HD := hide (fun W (hb : Below wr.heap.size wr W) => Seq.below (w' := W) (hsq.drop (k := c) (by omega)) hb)
          have HR := hide (fun W (hb : Below wr.heap.size wr W) i hi hi' => Seq.below (w' := W) (hrd i hi hi') hb)
          have hcut := run_cutV ov so.length ocap c c rfl (by omega)
          have hdrop := run_dropV ov so.length ocap c c rfl (by omega)
          have HONE := hide (show ∀ y, y ∈ vs → y.oneCell' = true from fun y hy => by obtain ⟨i, hi, rfl⟩ := List.getElem_of_mem hy; exact (hrd i hi (by omega)).one)
          have HVL := hide hvl
          have Hsol := hide hsol
          have Hcle := hide hcle
          have HRD := hide (fun W (hb : Below wr.heap.size wr W) u (hu : Ints W u li) => reads_ins (k := c) hvl (fun i hi hi' => (hrd i hi hi').below hb) hu hcle)
          have HNE := hide (fun W (hz : wr.heap.size ≤ W.heap.size) u (hu : NotIn (· < w.heap.size) W u) => notin_ins (k := c) (vs := vs) (fun i hi => (unhide HNO i hi (by omega)).kept hz) hu)
          have hln : vs.length < 100000000 := by omega
          clear hsq hrd hil hvl hsol hcle
          go_region_held3 (fun w' => w'.cell? ⟨bl, ol + i, none⟩ = some (.slice lia li.length lic)) (first | exact unhide HK _ (by first | exact hB5 | exact hB4 | exact hB3.alloc hB3.size _ | exact hB3 | exact hB2 | exact below_push rfl rfl rfl rfl | exact below_same rfl rfl rfl rfl) | go_keep)
            (first
              | (refine step_of rfl (op_app_rows (.tmp 47) (.tmp 50) rfl (B := wr.heap.size) (l := []) (by exact own_pushV (Nat.le_refl _) rfl) rfl (by simp) (unhide HT _ (by exact below_push rfl rfl rfl rfl)) rfl (fun y hy => unhide HONE y (List.mem_of_mem_take hy)) (by simp; omega) ?_); intro v1 w2 hown2 hgrew2; have hB2 : Below wr.heap.size wr w2 := Below.trans (by exact below_push rfl rfl rfl rfl) hgrew2.below)
              | (go_at_call 56; refine (unhide HCOPY _ hB2).mono ?_; rintro e w3 ⟨u, rfl, hu3, hun3, hb3⟩; obtain ⟨ua, uc, hue, _, _⟩ := hu3.form; rw [hue] at hu3 hun3 ⊢; clear hue; have hB3 : Below wr.heap.size wr w3 := hB2.trans (hb3.mono hB2.size))
              | (refine step_of rfl (op_app_row (.tmp 51) (.tmp 57) rfl (own_below hown2 hb3) rfl hB3.size rfl rfl (by simp; omega) ?_); intro v2 w4 hown4 hgrew4; have hB4 : Below wr.heap.size wr w4 := hB3.trans hgrew4.below)
              | (refine step_of rfl (op_app_rows (.tmp 58) (.tmp 61) rfl hown4 rfl hB4.size (unhide HD _ hB4) rfl (fun y hy => unhide HONE y (List.mem_of_mem_drop hy)) (by simp; omega) ?_); intro v3 w5 hown5 hgrew5; have hB5 : Below wr.heap.size wr w5 := hB4.trans hgrew5.below))
          all_goals
            have hap4 : Apart (.slice ua li.length uc) li v1 := fun _ => (Sep.of_new (New.of_own hown2) (Nat.le_refl _) hun3).symm
            have hu4 := hu3.grew hgrew4 hap4
            have hu5 := hu4.grew hgrew5 (hap4.grew hu3 hgrew4)
            have hfin : TupsO (· < w.heap.size) w5 v3 (sortL (List.take (i + 1) ll)) := by
              rw [unhide HS, unhide HSO]
              have hr := unhide HRD w5 hB5 _ hu5
              exact ⟨_, Seq.of_own (by simpa [OwnV] using hown5), NotIn.of_new ((New.of_own hown5).grow hz (Nat.le_refl _)), hr.1, fun i hi hi' => ⟨hr.2 i hi hi', unhide HNE w5 hB5.size _ (NotIn.of_new (hun3.grow (Nat.le_trans hz hB2.size) (Nat.le_trans hgrew4.below.size hgrew5.below.size))) _ (List.getElem_mem _)⟩⟩
            have hb5 := hbel.trans (hB5.mono hz)
            go_wp2
            go_roundw
            case rel => exact ⟨i + 1, by omega, by go_num, hfin, hb5⟩
            case measure => simp [intOf]; omega
    · clear h
      have hii : i = ll.length := by omega
      subst hii
      rw [List.take_length] at hout
      go_wp2
      go_ret
      exact ⟨_, rfl, hout, hbel⟩

end Go.Proofs.YtgmbflpngedhnaaGreat

namespace Go.Proofs.YtgmbflpngedhnaaGreat
open Go.RowKit
set_option linter.unusedVariables false
set_option linter.unusedSimpArgs false
set_option maxRecDepth 20000

/-- What is handed in: variables, rows, two parts of weights. -/
def PartV (w : World) (v : Value) (sc : List Int) (rows : List (List Int)) (A B : List Int) : Prop := ∃ v0 v1 v2 v3, v = .agg #[v0, v1, v2, v3] ∧ Ints w v0 sc ∧ Tups w v1 rows ∧ Ints w v2 A ∧ Ints w v3 B
theorem PartV.below {w w' : World} {v : Value} {sc : List Int} {rows : List (List Int)} {A B : List Int} (h : PartV w v sc rows A B) (hb : Below w.heap.size w w') : PartV w' v sc rows A B := by
  obtain ⟨v0, v1, v2, v3, rfl, h0, h1, h2, h3⟩ := h
  exact ⟨_, _, _, _, rfl, h0.below hb, h1.below hb, h2.below hb, h3.below hb⟩
theorem PartV.form {w : World} {v : Value} {sc : List Int} {rows : List (List Int)} {A B : List Int} (h : PartV w v sc rows A B) :
    ∃ a ca b cb d cd e ce, v = .agg #[.slice a sc.length ca, .slice b rows.length cb, .slice d A.length cd, .slice e B.length ce] ∧ ca ≤ maxLen ∧ cb ≤ maxLen ∧ cd ≤ maxLen ∧ ce ≤ maxLen ∧ rows.length ≤ cb ∧ A.length ≤ cd ∧ B.length ≤ ce ∧ Ints w (.slice a sc.length ca) sc ∧ Tups w (.slice b rows.length cb) rows ∧ Ints w (.slice d A.length cd) A ∧ Ints w (.slice e B.length ce) B := by
  obtain ⟨v0, v1, v2, v3, rfl, h0, h1, h2, h3⟩ := h
  obtain ⟨a, ca, rfl, _, k0⟩ := h0.form
  obtain ⟨b, cb, rfl, q1, k1⟩ := h1.form
  obtain ⟨d, cd, rfl, q2, k2⟩ := h2.form
  obtain ⟨e, ce, rfl, q3, k3⟩ := h3.form
  exact ⟨_, _, _, _, _, _, _, _, rfl, k0, k1, k2, k3, q1, q2, q3, h0, h1, h2, h3⟩

def BoxQ (w : World) (b : Nat) (x y z u : Value) : Prop := w.heap[b]? = some (.cells #[x, y, z, u] 26 (0, 0))
theorem BoxQ.lt {w : World} {b : Nat} {x y z u : Value} (h : BoxQ w b x y z u) : b < w.heap.size := by
  rcases Nat.lt_or_ge b w.heap.size with hl | hl
  · exact hl
  · unfold BoxQ at h; rw [Array.getElem?_eq_none hl] at h; cases h
theorem BoxQ.cell0 {w : World} {b : Nat} {x y z u : Value} (h : BoxQ w b x y z u) : w.cell? ⟨b, 0, none⟩ = some x := by unfold BoxQ at h; simp only [World.cell?, h]; simp
theorem BoxQ.cell1 {w : World} {b : Nat} {x y z u : Value} (h : BoxQ w b x y z u) : w.cell? ⟨b, 1, none⟩ = some y := by unfold BoxQ at h; simp only [World.cell?, h]; simp
theorem BoxQ.cell2 {w : World} {b : Nat} {x y z u : Value} (h : BoxQ w b x y z u) : w.cell? ⟨b, 2, none⟩ = some z := by unfold BoxQ at h; simp only [World.cell?, h]; simp
theorem BoxQ.cell3 {w : World} {b : Nat} {x y z u : Value} (h : BoxQ w b x y z u) : w.cell? ⟨b, 3, none⟩ = some u := by unfold BoxQ at h; simp only [World.cell?, h]; simp
theorem BoxQ.new (w : World) (x y z u : Value) : BoxQ (w.alloc (.cells #[x, y, z, u] 26)) w.heap.size x y z u := heap_alloc_new w _
theorem BoxQ.below {w w' : World} {b B : Nat} {x y z u : Value} (h : BoxQ w b x y z u) (hb : Below B w w') (hB : b < B) : BoxQ w' b x y z u := by
  unfold BoxQ at *; rw [hb.block b hB]; exact h
theorem BoxQ.belowH {w w' : World} {b : Nat} {x y z u : Value} (h : BoxQ w b x y z u) (hb : Below w.heap.size w w') : BoxQ w' b x y z u := h.below hb h.lt
theorem BoxQ.push {w : World} {b : Nat} {x y z u : Value} (h : BoxQ w b x y z u) (o : Obj) : BoxQ (w.alloc o) b x y z u := h.belowH ((Below.refl _ _).alloc (Nat.le_refl _) o)

set_option maxHeartbeats 4000000 in
theorem scheme4_any {sc : List Int} {vs : Value} {w : World} (hs : Ints w vs sc) :
    Calls Tryz.prog 29 #[vs] w fun e w' => ∃ u, e = .returned u ∧ Ints w' u (smallS3 sc) ∧ Below w.heap.size w w' := by
  obtain ⟨a, ca, rfl, hla, hca⟩ := hs.form
  unfold maxLen at hca
  have HS := hide hs
  clear hs
  go_enter Tryz.func29, Tryz.ntmps29
  go_wp2
  go_loopw [3, 4] (fun v i wr => ∃ k : Nat, k ≤ sc.length ∧ k ≤ 3 ∧ i = .int .i64 k ∧ Ints wr v (riseL ((sc.take k).map (modL 5))) ∧ Below w.heap.size w wr) (fun _ i _ => sc.length - (intOf i).toNat)
  case atStart => exact ⟨0, by omega, by omega, rfl, Seq.nil _ _, Below.refl _ _⟩
  case round =>
    obtain ⟨k, hk, hk4, rfl, hout, hbel⟩ := hrel
    by_cases hkk : k < sc.length ∧ k < 3
    · obtain ⟨hkl, hk4'⟩ := hkk
      obtain ⟨bl, ol, rfl, hcl⟩ := ((unhide HS).below hbel).at hkl
      have HN := hide (show riseL ((sc.take (k + 1)).map (modL 5)) = joinL (riseL ((sc.take k).map (modL 5))) [modL 5 sc[k]] by rw [List.take_succ_eq_append_getElem hkl, List.map_append]; exact riseL_app _ _)
      have hb1 := (Below.refl wr.heap.size wr).alloc (Nat.le_refl _) (.cells #[.int .i64 (modL 5 sc[k])] 3)
      have hrl := riseL_le ((sc.take k).map (modL 5))
      have hrl2 : ((sc.take k).map (modL 5)).length ≤ 3 := by rw [List.length_map]; exact Nat.le_trans (List.length_take_le _ _) hk4
      generalize riseL ((sc.take k).map (modL 5)) = sk at hout HN hrl
      have HJ := hide (refJoin_any (hout.below hb1) (lit_one (W := wr) (modL 5 sc[k])) (by simp; omega))
      obtain ⟨oa, oc, hoe, _, _⟩ := hout.form
      rw [hoe] at HJ ⊢
      rw [show modL 5 sc[k] = (bits .and .i64 sc[k] 65535).tmod 5 from rfl] at HJ HN hb1
      have hz := hbel.size
      clear hout hoe
      go_wp2_with fail
      refine (unhide HJ).mono ?_
      rintro e w2 ⟨u, rfl, hu, hun, hb2⟩
      go_wp2
      go_roundw
      case rel => exact ⟨k + 1, by omega, by omega, by go_num, by rw [unhide HN]; exact hu, hbel.trans ((hb1.trans (hb2.mono (by simp))).mono hz)⟩
      case measure => simp [intOf]; omega
    · have hkd : riseL ((sc.take k).map (modL 5)) = smallS3 sc := by
        unfold smallS3
        rw [show sc.take k = sc.take 3 by rw [List.take_eq_take_iff]; omega]
      rw [hkd] at hout
      obtain ⟨oa, oc, hoe, _, _⟩ := hout.form
      rw [hoe] at hout ⊢
      by_cases hkl : k < sc.length
      case' pos =>
        have hk4' : ¬ k < 3 := fun h => hkk ⟨hkl, h⟩
      all_goals
        clear hkk hkd hoe
        go_wp2
        go_ret
        exact ⟨_, rfl, hout, hbel⟩

/-- A part of a weight, counted round where it is too great. -/
def clampW (most x : Int) : Int := if x < -most ∨ most < x then x.tmod most else x
def refW (A : List Int) (most : Int) (n : Nat) : List (Int × Int) := (List.range n).map fun i => (clampW most (A.getD i 1), 0)
theorem refW_len (A : List Int) (most : Int) (n : Nat) : (refW A most n).length = n := by simp [refW]
theorem refW_succ (A : List Int) (most : Int) (n : Nat) : refW A most (n + 1) = refW A most n ++ [(clampW most (A.getD n 1), 0)] := by simp [refW, List.range_succ]

set_option maxHeartbeats 40000000 in
theorem ref_any {sc A Bl : List Int} {rows : List (List Int)} {v : Value} {most : Int} {w : World} (h : PartV w v sc rows A Bl) (hm : 0 < most) (hm2 : most ≤ 4611686018427387904) :
    Calls Tryz.prog 11 #[v, .int .i64 most, .bool true] w fun e w' => ∃ x y z, e = .returned (.agg #[x, y, z]) ∧ RV w' (.agg #[x, y, z]) (smallS3 sc) (smallR3 sc rows) (refW A most (smallR3 sc rows).length) ∧ (∀ b, b < w.heap.size → y.ownBlock ≠ some b) ∧ Below w.heap.size w w' := by
  obtain ⟨a, ca, b, cb, d, cd, ea, ce, rfl, k1, k2, k3, k4, k5, k6, k7, hs, ht, hA, hBl⟩ := h.form
  unfold maxLen at k1 k2 k3 k4
  obtain ⟨W0, hW0⟩ : ∃ W, W = (w.alloc (.cells #[.slice a sc.length ca, .slice b rows.length cb, .slice d A.length cd, .slice ea Bl.length ce] 26)).alloc (.cells #[.slice none 0 0, .slice none 0 0, .slice none 0 0] 34) := ⟨_, rfl⟩
  have hb0 : Below w.heap.size w W0 := by rw [hW0]; exact b2x w _ _
  have bx : BoxQ W0 w.heap.size (.slice a sc.length ca) (.slice b rows.length cb) (.slice d A.length cd) (.slice ea Bl.length ce) := by rw [hW0]; exact (BoxQ.new w _ _ _ _).push _
  have x2 : BoxF W0 (w.heap.size + 1) (.slice none 0 0) (.slice none 0 0) (.slice none 0 0) := by
    rw [hW0]; have := BoxF.new (w.alloc (.cells #[.slice a sc.length ca, .slice b rows.length cb, .slice d A.length cd, .slice ea Bl.length ce] 26)) (.slice none 0 0) (.slice none 0 0) (.slice none 0 0); simpa using this
  have HSC := hide (scheme4_any (hs.below hb0))
  have HT := hide (fun W (hb : Below w.heap.size w W) => ht.below hb)
  have HA := hide (fun W (hb : Below w.heap.size w W) => hA.below hb)
  have HW0 := hide hW0
  have hzw := hb0.size
  have hS4 := smallS3_len sc
  have HR := hide (show smallR3 sc rows = sortL ((rows.take 12).map (smallT (smallS3 sc).length)) from rfl)
  have hRl := smallR3_len sc rows
  generalize smallR3 sc rows = R at *
  generalize smallS3 sc = s at *
  have c00 := bx.cell0
  clear h hs ht hA hBl hW0
  go_enter Tryz.func11, Tryz.ntmps11
  go_wp2_with fail
  rw [← unhide HW0]
  refine (unhide HSC).mono ?_
  rintro e wA ⟨us, rfl, hout, hb1⟩
  obtain ⟨oa, oc, rfl, _, hoc⟩ := hout.form
  unfold maxLen at hoc
  replace bx := bx.belowH hb1
  replace x2 := x2.belowH hb1
  have hbw := hb0.trans (hb1.mono hzw)
  have hz1 := hbw.size
  have hl2 := x2.lt
  have ht1 := unhide HT _ hbw
  have cb1 := bx.cell1
  clear HSC c00 hb1
  go_wp2
  go_loopw [8, 9, 10, 11] (fun v i _ _ wq => ∃ k : Nat, k ≤ rows.length ∧ k ≤ 12 ∧ i = .int .i64 k ∧ OwnT wA.heap.size wq v ((rows.take k).map (smallT s.length)) ∧ Below wA.heap.size wA wq) (fun _ i _ _ _ => rows.length - (intOf i).toNat)
  case atStart => exact ⟨0, by omega, by omega, rfl, OwnT.nil _ _, Below.refl _ _⟩
  case round =>
    obtain ⟨j, hj, hj20, rfl, hown, hbel2⟩ := hrel
    have cq1 := (bx.belowH hbel2).cell1
    have hz2 := hbel2.size
    by_cases hjj : j < rows.length ∧ j < 12
    · obtain ⟨hjl, hj20'⟩ := hjj
      obtain ⟨bl, ol, ul, rfl, hcl, hiL⟩ := (ht1.below hbel2).at hjl
      obtain ⟨ia, ic, rfl, _, hic⟩ := hiL.form
      unfold maxLen at hic
      have HN := hide (show (rows.take (j + 1)).map (smallT s.length) = (rows.take j).map (smallT s.length) ++ [smallT s.length rows[j]] by rw [List.take_succ_eq_append_getElem hjl, List.map_append]; rfl)
      have hll : ((rows.take j).map (smallT s.length)).length ≤ 12 := by rw [List.length_map]; exact Nat.le_trans (List.length_take_le _ _) hj20
      generalize (rows.take j).map (smallT s.length) = L at hown HN hll
      have HRJ := hide (fun k2 (h1 : k2 ≤ s.length) (h2 : k2 ≤ rows[j].length) (h : ¬ (k2 < s.length ∧ k2 < rows[j].length)) => small_end (n := s.length) (r := rows[j]) h1 h2 h)
      have HST := hide (fun k2 (h1 : k2 < s.length) (h2 : k2 < rows[j].length) => small_set (n := s.length) (r := rows[j]) h1 h2)
      rename World => wB
      go_wp2_with (at_make; refine wp_make_ints rfl _ _ rfl (Nat.le_refl _) rfl rfl (by omega) ?_; intro w3 hown3 hb3)
      go_loopw [11] (fun i wi => ∃ k2 : Nat, k2 ≤ s.length ∧ k2 ≤ rows[j].length ∧ i = .int .i64 k2 ∧ OwnI wB.heap.size wi (.slice (some ⟨wB.heap.size, 0, none⟩) s.length s.length) ((rows[j].take k2).map (modL 3) ++ List.replicate (s.length - k2) 0) ∧ Below wB.heap.size wB wi) (fun i _ => s.length - (intOf i).toNat)
      case atStart => exact ⟨0, by omega, by omega, rfl, by simpa using hown3, hb3⟩
      case round =>
        clear hown3 hb3
        obtain ⟨k2, hk2, hk2r, rfl, howni, hbel3⟩ := hrel
        have hz3 := hbel3.size
        have cq2 := ((bx.belowH hbel2).belowH hbel3).cell1
        by_cases hkk : k2 < s.length ∧ k2 < rows[j].length
        · obtain ⟨hka, hkb⟩ := hkk
          obtain ⟨bi, oi, e1, hci⟩ := (hiL.below hbel3).at hkb
          subst e1
          have hclw := Below.cell_of hbel3 hcl
          obtain ⟨⟨old, hcell⟩, hfr, hset, hbs⟩ := own_setI howni (by simp; omega) (i := k2) hka (modL 3 rows[j][k2])
          rw [unhide HST k2 hka hkb] at hset
          rw [show modL 3 rows[j][k2] = (bits .and .i64 rows[j][k2] 65535).tmod 3 from rfl] at hset hbs
          clear howni hiL hcl ht1 hout HST HRJ
          go_wp2
          go_roundw
          case rel => exact ⟨k2 + 1, by omega, by omega, by go_num, hset, hbel3.trans hbs⟩
          case measure => simp [intOf]; omega
        · have he := unhide HRJ k2 hk2 hk2r hkk
          have hclw := Below.cell_of hbel3 hcl
          have hok : Hid (decide (k2 < s.length) = false ∨ (k2 < s.length ∧ ¬ k2 < rows[j].length)) := hide (by
            by_cases h1 : k2 < s.length
            · exact .inr ⟨h1, fun h2 => hkk ⟨h1, h2⟩⟩
            · exact .inl (by simpa using h1))
          rw [he] at howni
          clear he HST HRJ hiL hkk hcl
          have hti := Seq.of_own howni
          have hnt := New.of_own howni
          have hownL := hown.below hbel3
          have hap := hide (show Sep _ _ from (Sep.of_new hown.new (Nat.le_refl _) hnt).symm)
          have hzz := Nat.le_trans hz2 hz3
          generalize smallT s.length rows[j] = T at howni hti HN
          rcases unhide hok with h1 | ⟨h1, h2⟩
          all_goals
            clear hok hown howni ht1 hout
            go_wp2_with (at_builtin; refine wp_app_tup rfl (.tmp 61) (.tmp 63) rfl hownL hti (fun _ => unhide hap) rfl hzz rfl (by omega) ?_; intro v' w4 hown4 hgrew)
            go_roundw
            case rel => exact ⟨j + 1, by omega, by omega, by go_num, by rw [unhide HN]; exact hown4, (hbel2.trans (hbel3.mono hz2)).trans hgrew.below⟩
            case measure => simp [intOf]; omega
    · have hF : (rows.take j).map (smallT s.length) = (rows.take 12).map (smallT s.length) := by
        rw [show rows.take j = rows.take 12 by rw [List.take_eq_take_iff]; omega]
      rw [hF] at hown
      have hlen20 : ((rows.take 12).map (smallT s.length)).length ≤ 12 := by rw [List.length_map]; exact List.length_take_le _ _
      have HSRT := hide (refSort_any hown.tups (by omega) (fun t ht => by
        obtain ⟨x, _, rfl⟩ := List.mem_map.1 ht
        rw [smallT_len]; omega))
      rw [← unhide HR] at HSRT
      have hok : Hid (decide (j < rows.length) = false ∨ (j < rows.length ∧ ¬ j < 12)) := hide (by
        by_cases h1 : j < rows.length
        · exact .inr ⟨h1, fun h2 => hjj ⟨h1, h2⟩⟩
        · exact .inl (by simpa using h1))
      replace bx := bx.belowH hbel2
      replace x2 := x2.belowH hbel2
      have hl9 := x2.lt
      have hout2 := hout.below hbel2
      obtain ⟨va, vn, vc, hve⟩ := hown.sl
      rw [hve] at HSRT ⊢
      have hbw2 := below_then hbw hbel2
      clear hF hlen20 hown hve hjj ht1 hout cb1
      rcases unhide hok with h1 | ⟨h1, h2⟩
      all_goals
        clear hok
        go_wp2_with fail
        refine (unhide HSRT).mono ?_
        rintro e w5 ⟨u5, rfl, hu5, hun5, hb5⟩
        obtain ⟨ra, rc, hre, _, hrc⟩ := hu5.form
        unfold maxLen at hrc
        rw [hre] at hu5 hun5 ⊢
        replace bx := bx.belowH hb5
        replace x2 := x2.belowH hb5
        have hout3 := hout2.below hb5
        have hbw5 := below_then hbw2 hb5
        have hz5 := hbw5.size
        have hl2 := x2.lt
        have hl0 := bx.lt
        have x4 := BoxF.new w5 (.slice oa s.length oc) (.slice ra R.length rc) (.slice none 0 0)
        have HO3 := hide hout3
        have HU5 := hide hu5
        have HN5 := hide hun5
        have hW5 := hbw2.size
        clear hre hout2 hout3 hu5 hun5 hb5 HSRT
        go_wp2
        go_loopw [13, 14] (fun i _ wr => ∃ (k : Nat) (zv : Value), k ≤ R.length ∧ i = .int .i64 k ∧ BoxF wr w5.heap.size (.slice oa s.length oc) (.slice ra R.length rc) zv ∧ OwnP (w5.heap.size + 1) wr zv (refW A most k) ∧ Below w5.heap.size w5 wr) (fun i _ _ => R.length - (intOf i).toNat)
        case atStart => exact ⟨0, _, by omega, rfl, x4, World.ownsRow_nil _ _ _ _, (Below.refl _ _).alloc (Nat.le_refl _) _⟩
        case round =>
          clear x4
          obtain ⟨k, zv, hk, rfl, y4, hown, hbel⟩ := hrel
          have hz := hbel.size
          have hl4 := y4.lt
          have hbr := hbw5.trans (hbel.mono hz5)
          obtain ⟨za, zn, zc, rfl⟩ := own_sl2 hown
          have c41 := y4.cell1
          by_cases hkl : k < R.length
          · have hne : (Value.slice za zn zc).ownBlock ≠ some w5.heap.size := (own_new2 hown).ne (by omega)
            have hwl := refW_len A most k
            have HSU := hide (refW_succ A most k)
            have hwl2 : (refW A most k).length < 100000 := by omega
            have byq := bx.below hbel hl0
            have q2 : ∀ o, (wr.alloc o).cell? ⟨w.heap.size, 2, none⟩ = some (.slice d A.length cd) := fun o => (byq.push o).cell2
            have q3 : ∀ o, (wr.alloc o).cell? ⟨w.heap.size, 3, none⟩ = some (.slice ea Bl.length ce) := fun o => (byq.push o).cell3
            have hm0 : (most == 0) = false := by rw [beq_eq_false_iff_ne]; omega
            have hm1 : ¬ ((0 : Int) < -most) := by omega
            have hm3 : ¬ (most < (0 : Int)) := by omega
            obtain ⟨y, hy⟩ : ∃ y, y = A.getD k 1 := ⟨_, rfl⟩
            obtain ⟨z, hzc⟩ : ∃ z, z = clampW most y := ⟨_, rfl⟩
            rw [← hy, ← hzc] at HSU
            obtain ⟨q, hq⟩ : ∃ q, q = decide (y < -most ∨ most < y) := ⟨_, rfl⟩
            have HZ := hide (show (y < -most ∧ q = true) ∨ (¬ y < -most ∧ most < y ∧ q = true) ∨ (¬ y < -most ∧ ¬ most < y ∧ q = false) by
              rw [hq]
              by_cases h1 : y < -most
              · exact .inl ⟨h1, by simp [h1]⟩
              · by_cases h2 : most < y
                · exact .inr (.inl ⟨h1, h2, by simp [h2]⟩)
                · exact .inr (.inr ⟨h1, h2, by simp [h1, h2]⟩))
            have HZ2 := hide (show (q = true ∧ z = y.tmod most) ∨ (q = false ∧ z = y) by
              rw [hq, hzc]; unfold clampW
              by_cases h1 : y < -most ∨ most < y
              · exact .inl ⟨by simp [h1], if_pos h1⟩
              · exact .inr ⟨by simp [h1], if_neg h1⟩)
            have HA2 := hide (show (∃ (h : k < A.length), y = A[k]) ∨ (¬ k < A.length ∧ y = 1) by
              by_cases hkA : k < A.length
              · exact .inl ⟨hkA, by rw [hy]; simp [hkA]⟩
              · exact .inr ⟨hkA, by rw [hy, List.getD_eq_getElem?_getD, List.getElem?_eq_none (by omega)]; rfl⟩)
            have HOW := hide hown
            have HY4 := hide y4
            generalize refW A most k = RW at *
            clear hy hzc hq hown y4
            go_upto_if 83 with fail
            go_cut [] from 70 to 142 (fun wx => wx = wr.alloc (.cells #[.int .i64 y, .int .i64 0] 63))
            case first =>
              rcases unhide HA2 with ⟨hkA, hy⟩ | ⟨hkA, hy⟩
              · obtain ⟨bA, oA, hAe, hcA⟩ := (unhide HA _ hbr).at hkA
                subst hAe
                have qA : ∀ o, (wr.alloc o).cell? ⟨bA, oA + k, none⟩ = some (.int .i64 A[k]) := fun o => cell_push hcA o
                go_wp2
                go_meet
                case rel => rw [hy]
              · go_wp2
                go_meet
                case rel => rw [hy]
            case rest =>
              subst hcut
              go_upto_region 19 with fail
              go_cut [98] from 70 to 142 (fun s98 wx => s98 = .bool false ∧ wx = wr.alloc (.cells #[.int .i64 y, .int .i64 0] 63))
              case first =>
                by_cases hkB : k < Bl.length
                · go_wp2
                  go_meet
                  case rel => exact ⟨rfl, rfl⟩
                · go_wp2
                  go_meet
                  case rel => exact ⟨rfl, rfl⟩
              case rest =>
                obtain ⟨rfl, rfl⟩ := hcut
                go_upto_region 21 with fail
                go_cut [115] from 70 to 142 (fun s115 wx => s115 = .bool q ∧ wx = wr.alloc (.cells #[.int .i64 y, .int .i64 0] 63))
                case first =>
                  rcases unhide HZ with ⟨h1, hz1⟩ | ⟨h1, h2, hz1⟩ | ⟨h1, h2, hz1⟩
                  all_goals
                    subst hz1
                    go_wp2
                    go_meet
                    case rel => exact ⟨rfl, rfl⟩
                case rest =>
                obtain ⟨rfl, rfl⟩ := hcut
                go_upto_if 115 with fail
                go_cut [] from 70 to 142 (fun wx => wx = wr.alloc (.cells #[.int .i64 z, .int .i64 0] 63))
                case first =>
                  rcases unhide HZ2 with ⟨h1, hz1⟩ | ⟨h1, hz1⟩
                  · subst h1
                    go_wp2
                    go_meet
                    case rel => rw [hz1]
                  · subst h1
                    go_wp2
                    go_meet
                    case rel => rw [hz1]
                case rest =>
                  subst hcut
                  have hownX := own_below2 (unhide HOW) ((Below.refl _ wr).alloc (Nat.le_refl _) (.cells #[.int .i64 z, .int .i64 0] 63))
                  have y4X := (unhide HY4).push (.cells #[.int .i64 z, .int .i64 0] 63)
                  have c42X := y4X.cell2
                  have hbX := hbel.alloc (show w5.heap.size ≤ wr.heap.size from hz) (.cells #[.int .i64 z, .int .i64 0] 63)
                  have hzX : w5.heap.size + 1 ≤ (wr.alloc (.cells #[.int .i64 z, .int .i64 0] 63)).heap.size := y4X.lt
                  go_wp2_with (at_builtin; refine wp_app_pair2 (y := (z, 0)) rfl (.tmp 138) (.tmp 140) rfl hownX rfl hzX rfl (by simp) (by omega) ?_; intro v' w10 hown10 hgrew; obtain ⟨na, nm, nc, hv10⟩ := own_sl2 hown10; subst hv10; have y5 := y4X.grew hgrew hne; have e0 := y5.cell2; have e1 := y5.frozen 2)
                  have hn4 : (Value.slice na nm nc).ownBlock ≠ some w5.heap.size := (own_new2 hown10).ne (by omega)
                  go_roundw
                  case rel => exact ⟨k + 1, _, by omega, by go_num, y5.set2 _, by rw [unhide HSU]; exact ownsRow_setCell_other hown10 hn4 _, (hbX.trans (hgrew.below.mono (by omega))).setCell (Nat.le_refl _) _⟩
                  case measure => simp [intOf]; omega
          · have hkk : k = R.length := by omega
            subst hkk
            have y2 := x2.below hbel hl2
            have c40 := y4.cell0
            have c42 := y4.cell2
            have hd0 := y2.cell0
            have hd1 := y2.cell1
            have hd2 := y2.cell2
            have hg0 := y2.frozen 0
            have hg1 := y2.frozen 1
            have hg2 := y2.frozen 2
            have HWV : Hid (RV wr (.agg #[.slice oa s.length oc, .slice ra R.length rc, .slice za zn zc]) s R (refW A most R.length)) := hide ⟨_, _, _, rfl, (unhide HO3).below hbel, (unhide HU5).below hbel, hown.pairs⟩
            have hnr : (Value.slice ra R.length rc).ownBlock ≠ some (w.heap.size + 1) := (unhide HN5).ne hl9
            clear hown y4
            go_wp2
            have hfin := rv_store y2.boxS y2 (unhide HWV) hnr
            refine bodyPost_ret (v := .agg #[.slice oa s.length oc, .slice ra R.length rc, .slice za zn zc]) (by simp [results, Tryz.results11, go_sem, hd0, hd1, hd2]) rfl ⟨_, _, _, rfl, hfin, fun b hb => (unhide HN5).ne (by omega), below_store3 hbr (by omega) _ _ _⟩

end Go.Proofs.YtgmbflpngedhnaaGreat

namespace Go.Proofs.YtgmbflpngedhnaaGreat
open Go.RowKit
set_option linter.unusedVariables false
set_option linter.unusedSimpArgs false

theorem ref_ok {sc A Bl : List Int} {rows : List (List Int)} {v : Value} {most : Int} {w : World} (h : PartV w v sc rows A Bl) (hm : 0 < most) (hm2 : most ≤ 4611686018427387904) :
    Calls Tryz.prog 11 #[v, .int .i64 most, .bool true] w fun e w' => ∃ x, e = .returned x ∧ RV w' x (smallS3 sc) (smallR3 sc rows) (refW A most (smallR3 sc rows).length) ∧ Below w.heap.size w w' := by
  refine (ref_any h hm hm2).mono ?_
  rintro e w' ⟨x, y, z, he, hr, _, hb⟩
  exact ⟨_, he, hr, hb⟩

theorem clamp_in {most x : Int} (hm : 0 < most) : -most ≤ clampW most x ∧ clampW most x ≤ most := by
  unfold clampW
  split
  · have h1 := Int.tmod_lt_of_pos x hm
    have h2 := Int.lt_tmod_of_pos x hm
    omega
  · omega
theorem few_ref (A : List Int) (n : Nat) : Few ((refW A 999 n).map Prod.fst) := by
  intro x hx
  unfold refW at hx
  rw [List.map_map] at hx
  obtain ⟨i, _, rfl⟩ := List.mem_map.1 hx
  have := clamp_in (most := 999) (x := A.getD i 1) (by omega)
  simp only [Function.comp]
  omega
theorem fits_ref (A : List Int) (n : Nat) : ∀ x ∈ (refW A 4611686018427387904 n).map Prod.fst, Fits x := by
  intro x hx
  unfold refW at hx
  rw [List.map_map] at hx
  obtain ⟨i, _, rfl⟩ := List.mem_map.1 hx
  have := clamp_in (most := 4611686018427387904) (x := A.getD i 1) (by omega)
  simp only [Function.comp]
  unfold Fits
  omega

end Go.Proofs.YtgmbflpngedhnaaGreat

namespace Go.Proofs.YtgmbflpngedhnaaGreat
open Go.RowKit Go.ChangeShapes Go.WideShapes Go.ChangeAt
set_option linter.unusedVariables false
set_option linter.unusedSimpArgs false
set_option maxRecDepth 100000

theorem read_int64 {H : Type} {enc : TypeId × Value → H} {W : World} {v : Value} {d : DataW H} {ps : List MemPlace} {base b0 : Nat} {held : Bool} {r : Reach} (h : DataW.Trod enc Tryz.prog W base (fun _ => true) held 2 v d ps) (hv : Value.okWide Tryz.prog W r b0 2 v) :
    ∃ n, v = .int .i64 n ∧ InI64 n := by
  obtain ⟨n, hv, _, _, hw⟩ := open_int Tryz.underlying2 hv h
  exact ⟨n, hv, wf_in hw⟩

theorem read_i64s {H : Type} {enc : TypeId × Value → H} {W : World} {x : Value} {y : DataW H × List MemPlace} {base fuel : Nat} {held : Bool} (hf : DataW.trod enc Tryz.prog W base (fun _ => true) held fuel 24 [x] = some y) :
    ∃ l, Ints W x l := by
  rcases open_ints Tryz.underlying24 Tryz.underlying2 (by kernel_rfl) hf with ⟨hcs, _⟩ | ⟨x', l, c', zs, hcs, _, hl, hm, hz, _, hcell, hwz⟩
  · cases cells_one hcs
    exact ⟨[], Seq.nil _ _⟩
  · cases cells_one hcs
    exact ⟨zs.take l, ints_of hl hm (by simpa using hz) hcell⟩

theorem part4Fields : (Tryz.prog.underlying 26).map (fun t => match t with | .struct fs => fs.toList.map (fun f => (f.offset, f.type)) | _ => []) = some [(0, 22), (1, 23), (2, 24), (3, 24)] := by kernel_rfl
theorem part4Cells : Tryz.prog.cellsOf 26 = 4 ∧ Tryz.prog.cellsOf 22 = 1 ∧ Tryz.prog.cellsOf 23 = 1 ∧ Tryz.prog.cellsOf 24 = 1 := by refine ⟨?_, ?_, ?_, ?_⟩ <;> kernel_rfl

theorem read_part4 {H : Type} {enc : TypeId × Value → H} {W : World} {v : Value} {d : DataW H} {ps : List MemPlace} {base b0 : Nat} {held : Bool} {r : Reach} (h : DataW.Trod enc Tryz.prog W base (fun _ => true) held 26 v d ps) (hv : Value.okWide Tryz.prog W r b0 26 v) :
    ∃ s ll A B, PartV W v s ll A B := by
  obtain ⟨fs, hu, hfs⟩ : ∃ fs, Tryz.prog.underlying 26 = some (.struct fs) ∧ fs.toList.map (fun f => (f.offset, f.type)) = [(0, 22), (1, 23), (2, 24), (3, 24)] := by
    have h1 := part4Fields
    cases hx : Tryz.prog.underlying 26 with
    | none => rw [hx] at h1; cases h1
    | some t =>
      rw [hx] at h1
      cases t <;> simp at h1
      exact ⟨_, rfl, by simpa using h1⟩
  obtain ⟨f0, f1, f2, f3, rfl⟩ : ∃ f0 f1 f2 f3, fs = #[f0, f1, f2, f3] := by
    have hl := congrArg List.length hfs
    simp at hl
    obtain ⟨l⟩ := fs
    match l, hl with
    | [f0, f1, f2, f3], _ => exact ⟨f0, f1, f2, f3, rfl⟩
  simp at hfs
  obtain ⟨⟨o0, t0⟩, ⟨o1, t1⟩, ⟨o2, t2⟩, o3, t3⟩ := hfs
  obtain ⟨cs, rfl, hsz⟩ := okWide_struct hu hv
  rw [part4Cells.1] at hsz
  obtain ⟨x, y, z, u, rfl⟩ : ∃ x y z u, cs = #[x, y, z, u] := by
    obtain ⟨l⟩ := cs
    match l, hsz with
    | [x, y, z, u], _ => exact ⟨x, y, z, u, rfl⟩
  obtain ⟨fuel, hf⟩ := h
  obtain ⟨y0, y1, y2, y3, n, _, _, h0, h1, h2, h3⟩ := Go.Joins.trod_struct4 hu hf
  rw [o0, t0, part4Cells.2.1] at h0
  rw [o1, t1, part4Cells.2.2.1] at h1
  rw [o2, t2, part4Cells.2.2.2] at h2
  rw [o3, t3, part4Cells.2.2.2] at h3
  simp [Value.cells] at h0 h1 h2 h3
  obtain ⟨s, hs, ms⟩ := read_intsC h0
  obtain ⟨ll, hl, ml⟩ := read_tupsC h1
  obtain ⟨A, hA⟩ := read_i64s h2
  obtain ⟨B, hB⟩ := read_i64s h3
  exact ⟨s, ll, A, B, ⟨x, y, z, u, rfl, hs, hl, hA, hB⟩⟩

end Go.Proofs.YtgmbflpngedhnaaGreat

namespace Go.Proofs.YtgmbflpngedhnaaGreat
open Go.RowKit
set_option linter.unusedVariables false
set_option linter.unusedSimpArgs false
set_option maxRecDepth 20000

theorem set_by4 {w : World} {b i : Nat} (y : Value) : w.grownBy (w.setCell ⟨b, i, none⟩ y) (some b) := by
  have h := (Below.refl b w).setCell (p := ⟨b, i, none⟩) (Nat.le_refl _) y
  refine ⟨h.os, h.tape, h.output, h.size, fun k hk hne => ?_⟩
  exact heap_setCell_other w ⟨b, i, none⟩ k y (fun e => hne (by rw [e]))

theorem set3_by {w : World} {b : Nat} (x y z : Value) : w.grownBy (((w.setCell ⟨b, 0, none⟩ x).setCell ⟨b, 1, none⟩ y).setCell ⟨b, 2, none⟩ z) (some b) := by
  have h1 := set_by4 (w := w) (b := b) (i := 0) x
  have h2 := set_by4 (w := w.setCell ⟨b, 0, none⟩ x) (b := b) (i := 1) y
  have h3 := set_by4 (w := (w.setCell ⟨b, 0, none⟩ x).setCell ⟨b, 1, none⟩ y) (b := b) (i := 2) z
  exact ⟨h3.os.trans (h2.os.trans h1.os), h3.tape.trans (h2.tape.trans h1.tape), h3.output.trans (h2.output.trans h1.output), Nat.le_trans h1.size (Nat.le_trans h2.size h3.size), fun k hk hne => (h3.block k (Nat.lt_of_lt_of_le hk (Nat.le_trans h1.size h2.size)) hne).trans ((h2.block k (Nat.lt_of_lt_of_le hk h1.size) hne).trans (h1.block k hk hne))⟩

theorem own_set3 {B e k n : Nat} {w : World} {v : Value} {xs : List Value} {b : Nat} (h : w.ownsRow B e k v n xs) (hne : v.ownBlock ≠ some b) (x y z : Value) : (((w.setCell ⟨b, 0, none⟩ x).setCell ⟨b, 1, none⟩ y).setCell ⟨b, 2, none⟩ z).ownsRow B e k v n xs :=
  ownsRow_setCell_other (ownsRow_setCell_other (ownsRow_setCell_other h hne x) hne y) hne z

set_option maxHeartbeats 4000000 in
theorem scheme4_own {sc : List Int} {vs : Value} {w : World} (hs : Ints w vs sc) :
    Calls Tryz.prog 29 #[vs] w fun e w' => ∃ u, e = .returned u ∧ OwnI w.heap.size w' u (smallS3 sc) ∧ Below w.heap.size w w' := by
  obtain ⟨a, ca, rfl, hla, hca⟩ := hs.form
  unfold maxLen at hca
  have HS := hide hs
  clear hs
  go_enter Tryz.func29, Tryz.ntmps29
  go_wp2
  go_loopw [3, 4] (fun v i wr => ∃ k : Nat, k ≤ sc.length ∧ k ≤ 3 ∧ i = .int .i64 k ∧ OwnI w.heap.size wr v (riseL ((sc.take k).map (modL 5))) ∧ Below w.heap.size w wr) (fun _ i _ => sc.length - (intOf i).toNat)
  case atStart => exact ⟨0, by omega, by omega, rfl, own_nilI _ _, Below.refl _ _⟩
  case round =>
    obtain ⟨k, hk, hk4, rfl, hout, hbel⟩ := hrel
    by_cases hkk : k < sc.length ∧ k < 3
    · obtain ⟨hkl, hk4'⟩ := hkk
      obtain ⟨bl, ol, rfl, hcl⟩ := ((unhide HS).below hbel).at hkl
      have HN := hide (show riseL ((sc.take (k + 1)).map (modL 5)) = joinL (riseL ((sc.take k).map (modL 5))) [modL 5 sc[k]] by rw [List.take_succ_eq_append_getElem hkl, List.map_append]; exact riseL_app _ _)
      have hb1 := (Below.refl wr.heap.size wr).alloc (Nat.le_refl _) (.cells #[.int .i64 (modL 5 sc[k])] 3)
      have hrl := riseL_le ((sc.take k).map (modL 5))
      have hrl2 : ((sc.take k).map (modL 5)).length ≤ 3 := by rw [List.length_map]; exact Nat.le_trans (List.length_take_le _ _) hk4
      generalize riseL ((sc.take k).map (modL 5)) = sk at hout HN hrl
      have HJ := hide (refJoin_own ((Seq.of_own hout).below hb1) (lit_one (W := wr) (modL 5 sc[k])) (by simp; omega))
      obtain ⟨oa, oc, hoe, _, _⟩ := (Seq.of_own hout).form
      rw [hoe] at HJ ⊢
      rw [show modL 5 sc[k] = (bits .and .i64 sc[k] 65535).tmod 5 from rfl] at HJ HN hb1
      have hz := hbel.size
      clear hout hoe
      go_wp2_with fail
      refine (unhide HJ).mono ?_
      rintro e w2 ⟨u, rfl, hu, hb2⟩
      go_wp2
      go_roundw
      case rel => exact ⟨k + 1, by omega, by omega, by go_num, by rw [unhide HN]; exact own_mono hu (by simp; omega), hbel.trans ((hb1.trans (hb2.mono (by simp))).mono hz)⟩
      case measure => simp [intOf]; omega
    · have hkd : riseL ((sc.take k).map (modL 5)) = smallS3 sc := by
        unfold smallS3
        rw [show sc.take k = sc.take 3 by rw [List.take_eq_take_iff]; omega]
      rw [hkd] at hout
      obtain ⟨oa, oc, hoe, _, _⟩ := (Seq.of_own hout).form
      rw [hoe] at hout ⊢
      by_cases hkl : k < sc.length
      case' pos =>
        have hk4' : ¬ k < 3 := fun h => hkk ⟨hkl, h⟩
      all_goals
        clear hkk hkd hoe
        go_wp2
        go_ret
        exact ⟨_, rfl, hout, hbel⟩

set_option maxHeartbeats 40000000 in
theorem ref_nw {sc A Bl : List Int} {rows : List (List Int)} {v : Value} {most : Int} {w : World} (h : PartV w v sc rows A Bl) (hm : 0 < most) (hm2 : most ≤ 4611686018427387904) :
    Calls Tryz.prog 11 #[v, .int .i64 most, .bool true] w fun e w' => ∃ x y z, e = .returned (.agg #[x, y, z]) ∧ OwnI w.heap.size w' x (smallS3 sc) ∧ TupsO (fun g => x.ownBlock = some g) w' y (smallR3 sc rows) ∧ PairsV w' z (refW A most (smallR3 sc rows).length) ∧ New w.heap.size w' y ∧ Below w.heap.size w w' := by
  obtain ⟨a, ca, b, cb, d, cd, ea, ce, rfl, k1, k2, k3, k4, k5, k6, k7, hs, ht, hA, hBl⟩ := h.form
  unfold maxLen at k1 k2 k3 k4
  obtain ⟨W0, hW0⟩ : ∃ W, W = (w.alloc (.cells #[.slice a sc.length ca, .slice b rows.length cb, .slice d A.length cd, .slice ea Bl.length ce] 26)).alloc (.cells #[.slice none 0 0, .slice none 0 0, .slice none 0 0] 34) := ⟨_, rfl⟩
  have hb0 : Below w.heap.size w W0 := by rw [hW0]; exact b2x w _ _
  have bx : BoxQ W0 w.heap.size (.slice a sc.length ca) (.slice b rows.length cb) (.slice d A.length cd) (.slice ea Bl.length ce) := by rw [hW0]; exact (BoxQ.new w _ _ _ _).push _
  have x2 : BoxF W0 (w.heap.size + 1) (.slice none 0 0) (.slice none 0 0) (.slice none 0 0) := by
    rw [hW0]; have := BoxF.new (w.alloc (.cells #[.slice a sc.length ca, .slice b rows.length cb, .slice d A.length cd, .slice ea Bl.length ce] 26)) (.slice none 0 0) (.slice none 0 0) (.slice none 0 0); simpa using this
  have HSC := hide (scheme4_own (hs.below hb0))
  have HT := hide (fun W (hb : Below w.heap.size w W) => ht.below hb)
  have HA := hide (fun W (hb : Below w.heap.size w W) => hA.below hb)
  have HW0 := hide hW0
  have hzw := hb0.size
  have HZ0 := hide x2.lt
  have hS4 := smallS3_len sc
  have HR := hide (show smallR3 sc rows = sortL ((rows.take 12).map (smallT (smallS3 sc).length)) from rfl)
  have hRl := smallR3_len sc rows
  generalize smallR3 sc rows = R at *
  generalize smallS3 sc = s at *
  have c00 := bx.cell0
  clear h hs ht hA hBl hW0
  go_enter Tryz.func11, Tryz.ntmps11
  go_wp2_with fail
  rw [← unhide HW0]
  refine (unhide HSC).mono ?_
  rintro e wA ⟨us, rfl, hout, hb1⟩
  obtain ⟨oa, oc, rfl, _, hoc⟩ := (Seq.of_own hout).form
  unfold maxLen at hoc
  replace bx := bx.belowH hb1
  replace x2 := x2.belowH hb1
  have hbw := hb0.trans (hb1.mono hzw)
  have hz1 := hbw.size
  have hl2 := x2.lt
  have ht1 := unhide HT _ hbw
  have cb1 := bx.cell1
  clear HSC c00 hb1
  go_wp2
  go_loopw [8, 9, 10, 11] (fun v i _ _ wq => ∃ k : Nat, k ≤ rows.length ∧ k ≤ 12 ∧ i = .int .i64 k ∧ OwnT wA.heap.size wq v ((rows.take k).map (smallT s.length)) ∧ Below wA.heap.size wA wq) (fun _ i _ _ _ => rows.length - (intOf i).toNat)
  case atStart => exact ⟨0, by omega, by omega, rfl, OwnT.nil _ _, Below.refl _ _⟩
  case round =>
    obtain ⟨j, hj, hj20, rfl, hown, hbel2⟩ := hrel
    have cq1 := (bx.belowH hbel2).cell1
    have hz2 := hbel2.size
    by_cases hjj : j < rows.length ∧ j < 12
    · obtain ⟨hjl, hj20'⟩ := hjj
      obtain ⟨bl, ol, ul, rfl, hcl, hiL⟩ := (ht1.below hbel2).at hjl
      obtain ⟨ia, ic, rfl, _, hic⟩ := hiL.form
      unfold maxLen at hic
      have HN := hide (show (rows.take (j + 1)).map (smallT s.length) = (rows.take j).map (smallT s.length) ++ [smallT s.length rows[j]] by rw [List.take_succ_eq_append_getElem hjl, List.map_append]; rfl)
      have hll : ((rows.take j).map (smallT s.length)).length ≤ 12 := by rw [List.length_map]; exact Nat.le_trans (List.length_take_le _ _) hj20
      generalize (rows.take j).map (smallT s.length) = L at hown HN hll
      have HRJ := hide (fun k2 (h1 : k2 ≤ s.length) (h2 : k2 ≤ rows[j].length) (h : ¬ (k2 < s.length ∧ k2 < rows[j].length)) => small_end (n := s.length) (r := rows[j]) h1 h2 h)
      have HST := hide (fun k2 (h1 : k2 < s.length) (h2 : k2 < rows[j].length) => small_set (n := s.length) (r := rows[j]) h1 h2)
      rename World => wB
      go_wp2_with (at_make; refine wp_make_ints rfl _ _ rfl (Nat.le_refl _) rfl rfl (by omega) ?_; intro w3 hown3 hb3)
      go_loopw [11] (fun i wi => ∃ k2 : Nat, k2 ≤ s.length ∧ k2 ≤ rows[j].length ∧ i = .int .i64 k2 ∧ OwnI wB.heap.size wi (.slice (some ⟨wB.heap.size, 0, none⟩) s.length s.length) ((rows[j].take k2).map (modL 3) ++ List.replicate (s.length - k2) 0) ∧ Below wB.heap.size wB wi) (fun i _ => s.length - (intOf i).toNat)
      case atStart => exact ⟨0, by omega, by omega, rfl, by simpa using hown3, hb3⟩
      case round =>
        clear hown3 hb3
        obtain ⟨k2, hk2, hk2r, rfl, howni, hbel3⟩ := hrel
        have hz3 := hbel3.size
        have cq2 := ((bx.belowH hbel2).belowH hbel3).cell1
        by_cases hkk : k2 < s.length ∧ k2 < rows[j].length
        · obtain ⟨hka, hkb⟩ := hkk
          obtain ⟨bi, oi, e1, hci⟩ := (hiL.below hbel3).at hkb
          subst e1
          have hclw := Below.cell_of hbel3 hcl
          obtain ⟨⟨old, hcell⟩, hfr, hset, hbs⟩ := own_setI howni (by simp; omega) (i := k2) hka (modL 3 rows[j][k2])
          rw [unhide HST k2 hka hkb] at hset
          rw [show modL 3 rows[j][k2] = (bits .and .i64 rows[j][k2] 65535).tmod 3 from rfl] at hset hbs
          clear howni hiL hcl ht1 hout HST HRJ
          go_wp2
          go_roundw
          case rel => exact ⟨k2 + 1, by omega, by omega, by go_num, hset, hbel3.trans hbs⟩
          case measure => simp [intOf]; omega
        · have he := unhide HRJ k2 hk2 hk2r hkk
          have hclw := Below.cell_of hbel3 hcl
          have hok : Hid (decide (k2 < s.length) = false ∨ (k2 < s.length ∧ ¬ k2 < rows[j].length)) := hide (by
            by_cases h1 : k2 < s.length
            · exact .inr ⟨h1, fun h2 => hkk ⟨h1, h2⟩⟩
            · exact .inl (by simpa using h1))
          rw [he] at howni
          clear he HST HRJ hiL hkk hcl
          have hti := Seq.of_own howni
          have hnt := New.of_own howni
          have hownL := hown.below hbel3
          have hap := hide (show Sep _ _ from (Sep.of_new hown.new (Nat.le_refl _) hnt).symm)
          have hzz := Nat.le_trans hz2 hz3
          generalize smallT s.length rows[j] = T at howni hti HN
          rcases unhide hok with h1 | ⟨h1, h2⟩
          all_goals
            clear hok hown howni ht1 hout
            go_wp2_with (at_builtin; refine wp_app_tup rfl (.tmp 61) (.tmp 63) rfl hownL hti (fun _ => unhide hap) rfl hzz rfl (by omega) ?_; intro v' w4 hown4 hgrew)
            go_roundw
            case rel => exact ⟨j + 1, by omega, by omega, by go_num, by rw [unhide HN]; exact hown4, (hbel2.trans (hbel3.mono hz2)).trans hgrew.below⟩
            case measure => simp [intOf]; omega
    · have hF : (rows.take j).map (smallT s.length) = (rows.take 12).map (smallT s.length) := by
        rw [show rows.take j = rows.take 12 by rw [List.take_eq_take_iff]; omega]
      rw [hF] at hown
      have hlen20 : ((rows.take 12).map (smallT s.length)).length ≤ 12 := by rw [List.length_map]; exact List.length_take_le _ _
      have HSRT := hide (refSort_nw hown.tups (by omega) (fun t ht => by
        obtain ⟨x, _, rfl⟩ := List.mem_map.1 ht
        rw [smallT_len]; omega))
      rw [← unhide HR] at HSRT
      have hok : Hid (decide (j < rows.length) = false ∨ (j < rows.length ∧ ¬ j < 12)) := hide (by
        by_cases h1 : j < rows.length
        · exact .inr ⟨h1, fun h2 => hjj ⟨h1, h2⟩⟩
        · exact .inl (by simpa using h1))
      replace bx := bx.belowH hbel2
      replace x2 := x2.belowH hbel2
      have hl9 := x2.lt
      have hout2 := own_below hout hbel2
      obtain ⟨va, vn, vc, hve⟩ := hown.sl
      rw [hve] at HSRT ⊢
      have hbw2 := below_then hbw hbel2
      clear hF hlen20 hown hve hjj ht1 hout cb1
      rcases unhide hok with h1 | ⟨h1, h2⟩
      all_goals
        clear hok
        go_wp2_with fail
        refine (unhide HSRT).mono ?_
        rintro e w5 ⟨u5, rfl, hu5, hb5⟩
        obtain ⟨ra, rc, hre, _, hrc⟩ := hu5.tups.form
        unfold maxLen at hrc
        rw [hre] at hu5 ⊢
        replace bx := bx.belowH hb5
        replace x2 := x2.belowH hb5
        have hout3 := own_below hout2 hb5
        have hbw5 := below_then hbw2 hb5
        have hz5 := hbw5.size
        have hl2 := x2.lt
        have hl0 := bx.lt
        have x4 := BoxF.new w5 (.slice oa s.length oc) (.slice ra R.length rc) (.slice none 0 0)
        have HO3 := hide hout3
        have HU5 := hide hu5
        have HO2 := hide hout2
        have hW5 := hbw2.size
        clear hre hout2 hout3 hu5 hb5 HSRT
        go_wp2
        go_loopw [13, 14] (fun i _ wr => ∃ (k : Nat) (zv : Value), k ≤ R.length ∧ i = .int .i64 k ∧ BoxF wr w5.heap.size (.slice oa s.length oc) (.slice ra R.length rc) zv ∧ OwnP (w5.heap.size + 1) wr zv (refW A most k) ∧ Below w5.heap.size w5 wr) (fun i _ _ => R.length - (intOf i).toNat)
        case atStart => exact ⟨0, _, by omega, rfl, x4, World.ownsRow_nil _ _ _ _, (Below.refl _ _).alloc (Nat.le_refl _) _⟩
        case round =>
          clear x4
          obtain ⟨k, zv, hk, rfl, y4, hown, hbel⟩ := hrel
          have hz := hbel.size
          have hl4 := y4.lt
          have hbr := hbw5.trans (hbel.mono hz5)
          obtain ⟨za, zn, zc, rfl⟩ := own_sl2 hown
          have c41 := y4.cell1
          by_cases hkl : k < R.length
          · have hne : (Value.slice za zn zc).ownBlock ≠ some w5.heap.size := (own_new2 hown).ne (by omega)
            have hwl := refW_len A most k
            have HSU := hide (refW_succ A most k)
            have hwl2 : (refW A most k).length < 100000 := by omega
            have byq := bx.below hbel hl0
            have q2 : ∀ o, (wr.alloc o).cell? ⟨w.heap.size, 2, none⟩ = some (.slice d A.length cd) := fun o => (byq.push o).cell2
            have q3 : ∀ o, (wr.alloc o).cell? ⟨w.heap.size, 3, none⟩ = some (.slice ea Bl.length ce) := fun o => (byq.push o).cell3
            have hm0 : (most == 0) = false := by rw [beq_eq_false_iff_ne]; omega
            have hm1 : ¬ ((0 : Int) < -most) := by omega
            have hm3 : ¬ (most < (0 : Int)) := by omega
            obtain ⟨y, hy⟩ : ∃ y, y = A.getD k 1 := ⟨_, rfl⟩
            obtain ⟨z, hzc⟩ : ∃ z, z = clampW most y := ⟨_, rfl⟩
            rw [← hy, ← hzc] at HSU
            obtain ⟨q, hq⟩ : ∃ q, q = decide (y < -most ∨ most < y) := ⟨_, rfl⟩
            have HZ := hide (show (y < -most ∧ q = true) ∨ (¬ y < -most ∧ most < y ∧ q = true) ∨ (¬ y < -most ∧ ¬ most < y ∧ q = false) by
              rw [hq]
              by_cases h1 : y < -most
              · exact .inl ⟨h1, by simp [h1]⟩
              · by_cases h2 : most < y
                · exact .inr (.inl ⟨h1, h2, by simp [h2]⟩)
                · exact .inr (.inr ⟨h1, h2, by simp [h1, h2]⟩))
            have HZ2 := hide (show (q = true ∧ z = y.tmod most) ∨ (q = false ∧ z = y) by
              rw [hq, hzc]; unfold clampW
              by_cases h1 : y < -most ∨ most < y
              · exact .inl ⟨by simp [h1], if_pos h1⟩
              · exact .inr ⟨by simp [h1], if_neg h1⟩)
            have HA2 := hide (show (∃ (h : k < A.length), y = A[k]) ∨ (¬ k < A.length ∧ y = 1) by
              by_cases hkA : k < A.length
              · exact .inl ⟨hkA, by rw [hy]; simp [hkA]⟩
              · exact .inr ⟨hkA, by rw [hy, List.getD_eq_getElem?_getD, List.getElem?_eq_none (by omega)]; rfl⟩)
            have HOW := hide hown
            have HY4 := hide y4
            generalize refW A most k = RW at *
            clear hy hzc hq hown y4
            go_upto_if 83 with fail
            go_cut [] from 70 to 142 (fun wx => wx = wr.alloc (.cells #[.int .i64 y, .int .i64 0] 63))
            case first =>
              rcases unhide HA2 with ⟨hkA, hy⟩ | ⟨hkA, hy⟩
              · obtain ⟨bA, oA, hAe, hcA⟩ := (unhide HA _ hbr).at hkA
                subst hAe
                have qA : ∀ o, (wr.alloc o).cell? ⟨bA, oA + k, none⟩ = some (.int .i64 A[k]) := fun o => cell_push hcA o
                go_wp2
                go_meet
                case rel => rw [hy]
              · go_wp2
                go_meet
                case rel => rw [hy]
            case rest =>
              subst hcut
              go_upto_region 19 with fail
              go_cut [98] from 70 to 142 (fun s98 wx => s98 = .bool false ∧ wx = wr.alloc (.cells #[.int .i64 y, .int .i64 0] 63))
              case first =>
                by_cases hkB : k < Bl.length
                · go_wp2
                  go_meet
                  case rel => exact ⟨rfl, rfl⟩
                · go_wp2
                  go_meet
                  case rel => exact ⟨rfl, rfl⟩
              case rest =>
                obtain ⟨rfl, rfl⟩ := hcut
                go_upto_region 21 with fail
                go_cut [115] from 70 to 142 (fun s115 wx => s115 = .bool q ∧ wx = wr.alloc (.cells #[.int .i64 y, .int .i64 0] 63))
                case first =>
                  rcases unhide HZ with ⟨h1, hz1⟩ | ⟨h1, h2, hz1⟩ | ⟨h1, h2, hz1⟩
                  all_goals
                    subst hz1
                    go_wp2
                    go_meet
                    case rel => exact ⟨rfl, rfl⟩
                case rest =>
                obtain ⟨rfl, rfl⟩ := hcut
                go_upto_if 115 with fail
                go_cut [] from 70 to 142 (fun wx => wx = wr.alloc (.cells #[.int .i64 z, .int .i64 0] 63))
                case first =>
                  rcases unhide HZ2 with ⟨h1, hz1⟩ | ⟨h1, hz1⟩
                  · subst h1
                    go_wp2
                    go_meet
                    case rel => rw [hz1]
                  · subst h1
                    go_wp2
                    go_meet
                    case rel => rw [hz1]
                case rest =>
                  subst hcut
                  have hownX := own_below2 (unhide HOW) ((Below.refl _ wr).alloc (Nat.le_refl _) (.cells #[.int .i64 z, .int .i64 0] 63))
                  have y4X := (unhide HY4).push (.cells #[.int .i64 z, .int .i64 0] 63)
                  have c42X := y4X.cell2
                  have hbX := hbel.alloc (show w5.heap.size ≤ wr.heap.size from hz) (.cells #[.int .i64 z, .int .i64 0] 63)
                  have hzX : w5.heap.size + 1 ≤ (wr.alloc (.cells #[.int .i64 z, .int .i64 0] 63)).heap.size := y4X.lt
                  go_wp2_with (at_builtin; refine wp_app_pair2 (y := (z, 0)) rfl (.tmp 138) (.tmp 140) rfl hownX rfl hzX rfl (by simp) (by omega) ?_; intro v' w10 hown10 hgrew; obtain ⟨na, nm, nc, hv10⟩ := own_sl2 hown10; subst hv10; have y5 := y4X.grew hgrew hne; have e0 := y5.cell2; have e1 := y5.frozen 2)
                  have hn4 : (Value.slice na nm nc).ownBlock ≠ some w5.heap.size := (own_new2 hown10).ne (by omega)
                  go_roundw
                  case rel => exact ⟨k + 1, _, by omega, by go_num, y5.set2 _, by rw [unhide HSU]; exact ownsRow_setCell_other hown10 hn4 _, (hbX.trans (hgrew.below.mono (by omega))).setCell (Nat.le_refl _) _⟩
                  case measure => simp [intOf]; omega
          · have hkk : k = R.length := by omega
            subst hkk
            have y2 := x2.below hbel hl2
            have c40 := y4.cell0
            have c42 := y4.cell2
            have hd0 := y2.cell0
            have hd1 := y2.cell1
            have hd2 := y2.cell2
            have hg0 := y2.frozen 0
            have hg1 := y2.frozen 1
            have hg2 := y2.frozen 2
            have hso := hide (own_below (unhide HO3) hbel)
            have hto := hide ((unhide HU5).below hbel)
            have hpo := hide hown
            have hW6 : w.heap.size + 1 < W0.heap.size := unhide HZ0
            have hnp : (Value.slice za zn zc).ownBlock ≠ some (w.heap.size + 1) := (own_new2 hown).ne (by omega)
            have hns : (Value.slice oa s.length oc).ownBlock ≠ some (w.heap.size + 1) := (New.of_own (unhide hso)).ne (by omega)
            clear hown y4
            go_wp2
            refine bodyPost_ret (v := .agg #[.slice oa s.length oc, .slice ra R.length rc, .slice za zn zc]) (by simp [results, Tryz.results11, go_sem, hd0, hd1, hd2]) rfl ⟨_, _, _, rfl, ?_, ?_, ?_, ?_, below_store3 hbr (by omega) _ _ _⟩
            · exact own_mono (own_set3 (unhide hso) hns _ _ _) hzw
            · exact ((unhide hto).kept (set3_by _ _ _) (fun c e => by cases e; show w.heap.size + 1 < _; omega)).weaken (fun g _ hg => by
                have h1 := (New.of_own (unhide HO2)) g hg
                exact h1.2)
            · exact OwnP.pairs (own_set3 (unhide hpo) hnp _ _ _)
            · intro g hg
              obtain ⟨vs, _, h2, _⟩ := unhide hto
              have h3 := h2 g hg
              have h4 := (set3_by (w := wr) (b := w.heap.size + 1) (.slice oa s.length oc) (.slice ra R.length rc) (.slice za zn zc)).size
              exact ⟨by have h5 := h3.1; simp only [Nat.not_lt] at h5; omega, Nat.lt_of_lt_of_le h3.2 h4⟩

set_option maxHeartbeats 8000000 in
theorem number_nw {s : List Int} {ll : List (List Int)} {ps : List (Int × Int)} {vs vr vp : Value} {w : World} (h : RV w (.agg #[vs, vr, vp]) s ll ps) (hl : ps.length < 100000) :
    Calls Tryz.prog 13 #[.agg #[vs, vr, vp]] w fun e w' => ∃ z, e = .returned (.agg #[vs, vr, z]) ∧ OwnWI w.heap.size w' z (ps.map Prod.fst) ∧ Below w.heap.size w w' := by
  obtain ⟨a, ca, b, cb, d, cd, hve, k1, k2, k3, hs1, ht1, hp1⟩ := h.form
  cases hve
  unfold maxLen at k3
  obtain ⟨W0, hW0⟩ : ∃ W, W = (w.alloc (.cells #[.slice a s.length ca, .slice b ll.length cb, .slice d ps.length cd] 34)).alloc (.cells #[.slice none 0 0, .slice none 0 0, .slice none 0 0] 37) := ⟨_, rfl⟩
  have hb0 : Below w.heap.size w W0 := by rw [hW0]; exact b2x w _ _
  have x0 : BoxF W0 w.heap.size (.slice a s.length ca) (.slice b ll.length cb) (.slice d ps.length cd) := by rw [hW0]; exact (BoxF.new w _ _ _).push _
  have x2 : BoxWI W0 (w.heap.size + 1) (.slice none 0 0) (.slice none 0 0) (.slice none 0 0) := by
    rw [hW0]; have := BoxWI.new (w.alloc (.cells #[.slice a s.length ca, .slice b ll.length cb, .slice d ps.length cd] 34)) (.slice none 0 0) (.slice none 0 0) (.slice none 0 0); simpa using this
  have HP := hide (fun W (hb : Below w.heap.size w W) => hp1.below hb)
  have HS := hide (fun W (hb : Below w.heap.size w W) => hs1.below hb)
  have HT := hide (fun W (hb : Below w.heap.size w W) => ht1.below hb)
  have HNE := hide (ht1.inheapE (b := w.heap.size + 1) (by omega))
  have hz0 := hb0.size
  have hl0 := x0.lt
  have hl2 := x2.lt
  have c00 := x0.cell0
  have c01 := x0.cell1
  have HW0 := hide hW0
  have HE0 := hide (show W0.heap.size = w.heap.size + 1 + 1 by rw [hW0]; simp)
  have x4 := BoxWI.new W0 (.slice a s.length ca) (.slice b ll.length cb) (.slice none 0 0)
  clear h hs1 ht1 hp1 hW0
  go_enter Tryz.func13, Tryz.ntmps13
  go_wp2
  rw [← unhide HW0, ← unhide HE0]
  go_loopw [4] (fun i wr => ∃ (k : Nat) (zv : Value), k ≤ ps.length ∧ i = .int .i64 k ∧ BoxWI wr W0.heap.size (.slice a s.length ca) (.slice b ll.length cb) zv ∧ OwnWI (W0.heap.size + 1) wr zv ((ps.take k).map Prod.fst) ∧ Below W0.heap.size W0 wr) (fun i _ => ps.length - (intOf i).toNat)
  case atStart => exact ⟨0, _, by omega, rfl, x4, World.ownsRow_nil _ _ _ _, (Below.refl _ _).alloc (Nat.le_refl _) _⟩
  case round =>
    clear x4 c00 c01
    obtain ⟨k, zv, hk, rfl, y4, hown, hbel⟩ := hrel
    have hz := hbel.size
    have hl4 := y4.lt
    have hbw := hb0.trans (hbel.mono hz0)
    obtain ⟨za, zn, zc, rfl⟩ := own_sl hown
    have y0 := x0.below hbel hl0
    have c02 := y0.cell2
    by_cases hkl : k < ps.length
    · obtain ⟨bl, ol, hble, hcl, hcl2⟩ := (unhide HP _ hbw).at hkl
      subst hble
      have HTK := hide (show (ps.take (k + 1)).map Prod.fst = (ps.take k).map Prod.fst ++ [ps[k].1] by rw [List.take_succ_eq_append_getElem hkl, List.map_append]; rfl)
      have hln : ((ps.take k).map Prod.fst).length < 100000 := by rw [List.length_map, List.length_take]; omega
      have hne : (Value.slice za zn zc).ownBlock ≠ some W0.heap.size := (New.of_own hown).ne (by omega)
      have c42 := y4.cell2
      have c42' := cell_push c42
      generalize (ps.take k).map Prod.fst = KL at *
      have hownd : OwnWI (W0.heap.size + 1) wr.drew (.slice za zn zc) KL := hown
      have y4d : BoxWI wr.drew W0.heap.size (.slice a s.length ca) (.slice b ll.length cb) (.slice za zn zc) := y4
      have hbeld : Below W0.heap.size W0 wr.drew := ⟨hbel.os, hbel.tape, hbel.output, hbel.size, hbel.block⟩
      have hl4d : W0.heap.size + 1 ≤ wr.drew.heap.size := hl4
      go_wp2
      go_region_law ((first
        | (refine step_of rfl (op_app_wI (w := wr.drew) (y := ps[k].1) (.tmp 16) (.tmp 23) rfl hownd rfl hl4d rfl (by omega) ?_); intro v' w10 hown10 hgrew; obtain ⟨na, nm, nc, hv10⟩ := own_sl hown10; rw [hv10] at hown10 hgrew ⊢; clear hv10; have y5 := y4d.grew hgrew hne; have e0 := y5.cell2; have e1 := y5.frozen 2; have hn4 := (New.of_own hown10).ne (b := W0.heap.size) (by omega))))
      all_goals
        go_wp2
        go_roundw
        case rel => exact ⟨k + 1, _, by omega, by go_num, y5.set2 _, by rw [unhide HTK]; exact ownsRow_setCell_other hown10 hn4 _, (hbeld.trans (hgrew.below.mono (by omega))).setCell (Nat.le_refl _) _⟩
        case measure => simp [intOf]; omega
    · have hkk : k = ps.length := by omega
      have hKt : ps.take k = ps := List.take_of_length_le (by omega)
      rw [hKt] at hown
      have y2 := x2.below hbel hl2
      have c40 := y4.cell0
      have c41 := y4.cell1
      have c42 := y4.cell2
      have hd0 := y2.cell0
      have hd1 := y2.cell1
      have hd2 := y2.cell2
      have hg0 := y2.frozen 0
      have hg1 := y2.frozen 1
      have hg2 := y2.frozen 2
      have HWV := hide hown
      have hnw : (Value.slice za zn zc).ownBlock ≠ some (w.heap.size + 1) := (New.of_own hown).ne (by omega)
      clear hown hKt y4
      go_wp2
      refine bodyPost_ret (v := .agg #[.slice a s.length ca, .slice b ll.length cb, .slice za zn zc]) (by simp [results, Tryz.results13, go_sem, hd0, hd1, hd2]) rfl ⟨_, rfl, own_mono (own_set3 (unhide HWV) hnw _ _ _) (by omega), below_store3 hbw (by omega) _ _ _⟩

end Go.Proofs.YtgmbflpngedhnaaGreat

namespace Go.Proofs.YtgmbflpngedhnaaGreat
open Go.RowKit
set_option linter.unusedVariables false
set_option linter.unusedSimpArgs false
set_option maxRecDepth 20000

theorem perm_sum {a b : List Int} (h : a.Perm b) : a.sum = b.sum := by
  induction h with
  | nil => rfl
  | cons x _ ih => simp [ih]
  | swap x y l => simp only [List.sum_cons]; omega
  | trans _ _ h1 h2 => exact h1.trans h2

theorem sortL_perm' {l : List (List Int)} (h : l.Nodup) : (sortL l).Perm l := by
  rw [List.perm_ext_iff_of_nodup (sortL_spec l).1.nodup h]
  intro x
  rw [(sortL_spec l).2]

theorem nodup_inj {α : Type} {l : List α} (h : l.Nodup) {i j : Nat} (hi : i < l.length) (hj : j < l.length) (e : l[i] = l[j]) : i = j := by
  rcases Nat.lt_trichotomy i j with h1 | h1 | h1
  · exact absurd e (List.pairwise_iff_getElem.1 h i j hi hj h1)
  · exact h1
  · exact absurd e.symm (List.pairwise_iff_getElem.1 h j i hj hi h1)

theorem low_self {ll : List (List Int)} (h : AscL ll) {i : Nat} (hi : i < ll.length) : lowN ll ll[i] = i := by
  obtain ⟨h1, h2, _⟩ := find_in h (List.getElem_mem hi)
  exact nodup_inj h.nodup _ _ h2

theorem map_wOf {ll : List (List Int)} {ws : List Int} (h : AscL ll) (hw : ws.length = ll.length) : ll.map (wOfI ll ws) = ws := by
  refine List.ext_getElem (by simp [hw]) fun i h1 h2 => ?_
  have hi : i < ll.length := by simpa using h1
  simp only [List.getElem_map]
  unfold wOfI
  rw [low_self h hi]
  simp [h2]

/-- What the rows of a join weigh, where nothing is shared: each of the pairs. -/
theorem comb_perm {s u : List Int} {la lb : List (List Int)} {wa wb : List Int} {n m : Nat} (g : Fine s la n) (g' : Fine u lb m) (hn : meetL s u = []) (hwa : wa.length = la.length) (hwb : wb.length = lb.length) (f : Int → Int → Int × Bool) :
    (combLI f s la wa u lb wb).Perm (wa.flatMap fun x => wb.map fun y => f x y) := by
  have hp : (joinR s la u lb).Perm (pairR s la u lb) := sortL_perm' (pair_nodup g.asc g'.asc g.asl.nodup g'.asl.nodup g.wide g'.wide)
  have e1 : ∀ U : List Int, ∀ v : List Int, (∀ x ∈ v, x ∈ U) → Asc U → Asc v → idxL U v U.length = v.map (placeL U) := by
    intro U v hv hU hvA
    have h1 := places_meet (s := U) v hU
    have h2 : meetL U v = v := Asc.ext (asc_meetL hU) hvA fun x => by rw [mem_meetL]; exact ⟨fun h => h.2, fun h => ⟨hv x h, h⟩⟩
    rw [h2] at h1
    exact h1
  have hsJ : ∀ x ∈ s, x ∈ joinL s u := fun x hx => mem_joinL.2 (.inl hx)
  have huJ : ∀ x ∈ u, x ∈ joinL s u := fun x hx => mem_joinL.2 (.inr hx)
  have hJ := asc_joinL g.asc g'.asc
  have hfit : ∀ t v, fitB s u t v = true := by
    intro t v
    unfold fitB
    rw [hn]
    simp
  have hpe : pairR s la u lb = la.flatMap fun t => lb.map (bothR s u t) := by
    unfold pairR
    congr 1
    funext t
    rw [List.filter_eq_self.2 (fun v _ => hfit t v)]
  unfold combLI
  refine (hp.map _).trans ?_
  rw [hpe, List.map_flatMap]
  have ea := map_wOf g.asl hwa
  have eb := map_wOf g'.asl hwb
  have : (wa.flatMap fun x => wb.map fun y => f x y) = la.flatMap fun t => lb.map fun v => f (wOfI la wa t) (wOfI lb wb v) := by
    conv => lhs; rw [← ea, ← eb]
    rw [List.flatMap_map]
    congr 1
    funext t
    rw [List.map_map]
    rfl
  rw [this]
  refine List.Perm.of_eq ?_
  rw [List.flatMap_def, List.flatMap_def]
  congr 1
  refine List.map_congr_left fun t ht => ?_
  rw [List.map_map]
  refine List.map_congr_left fun v hv => ?_
  have hb := both_len (s := s) (u := u) (t := t) (v := v)
  show f (wOfI la wa (pickL (bothR s u t v) (idxL (joinL s u) s (joinL s u).length))) (wOfI lb wb (pickL (bothR s u t v) (idxL (joinL s u) u (joinL s u).length))) = _
  rw [e1 _ s hsJ hJ g.asc, e1 _ u huJ hJ g'.asc, pick_map hsJ hb, pick_map huJ hb, both_left g.asc.nodup (g.wide t ht), both_right g'.asc.nodup (g'.wide v hv) (hfit t v)]

theorem comb_length (f : Int → Int → Int × Bool) (s : List Int) (la : List (List Int)) (wa : List Int) (u : List Int) (lb : List (List Int)) (wb : List Int) : (combLI f s la wa u lb wb).length = (joinR s la u lb).length := by simp [combLI]

theorem map_mul_sum (x : Int) : ∀ wb : List Int, (wb.map fun y => x * y).sum = x * wb.sum
  | [] => by simp
  | y :: r => by simp only [List.map_cons, List.sum_cons, map_mul_sum x r, Int.mul_add]
theorem flat_mul_sum (wb : List Int) : ∀ wa : List Int, (wa.flatMap fun x => wb.map fun y => x * y).sum = wa.sum * wb.sum
  | [] => by simp
  | x :: r => by simp only [List.flatMap_cons, List.sum_append, map_mul_sum, flat_mul_sum wb r, List.sum_cons, Int.add_mul]

theorem few_mul {x y : Int} (hx : -1000 < x ∧ x < 1000) (hy : -1000 < y ∧ y < 1000) : (x * y).natAbs ≤ 998001 := by
  rw [Int.natAbs_mul]
  have h1 : x.natAbs ≤ 999 := by omega
  have h2 : y.natAbs ≤ 999 := by omega
  exact Nat.mul_le_mul h1 h2
theorem mulF_few {x y : Int} (hx : -1000 < x ∧ x < 1000) (hy : -1000 < y ∧ y < 1000) : mulF x y = (x * y, true) := by
  have h := few_mul hx hy
  have hf : fitB64 (x * y) = true := fitB64_iff.2 (by unfold Fits; omega)
  have := mul_fits (x := x) (y := y) hf
  unfold mulF at *
  rw [hf]
  exact Prod.ext this rfl
theorem addF_few {x y : Int} (hx : -1000 < x ∧ x < 1000) (hy : -1000 < y ∧ y < 1000) : addF x y = (x + y, true) := by
  have hf : fitB64 (x + y) = true := fitB64_iff.2 (by unfold Fits; omega)
  have := add_fits (x := x) (y := y) hf
  unfold addF at *
  rw [hf]
  exact Prod.ext this rfl

theorem comb_few {f : Int → Int → Int × Bool} {h : Int → Int → Int} {s u : List Int} {la lb : List (List Int)} {wa wb : List Int} {n m : Nat} (g : Fine s la n) (g' : Fine u lb m) (hn : meetL s u = []) (hwa : wa.length = la.length) (hwb : wb.length = lb.length) (fa : Few wa) (fb : Few wb)
    (hf : ∀ x y : Int, (-1000 < x ∧ x < 1000) → (-1000 < y ∧ y < 1000) → f x y = (h x y, true)) :
    (∀ z ∈ combLI f s la wa u lb wb, z.2 = true) ∧ ((combLI f s la wa u lb wb).map Prod.fst).Perm (wa.flatMap fun x => wb.map fun y => h x y) := by
  have hp := comb_perm g g' hn hwa hwb f
  have e : (wa.flatMap fun x => wb.map fun y => f x y) = wa.flatMap fun x => wb.map fun y => (h x y, true) := by
    rw [List.flatMap_def, List.flatMap_def]
    congr 1
    refine List.map_congr_left fun x hx => ?_
    exact List.map_congr_left fun y hy => hf x y (fa x hx) (fb y hy)
  rw [e] at hp
  refine ⟨fun z hz => ?_, ?_⟩
  · have := hp.mem_iff.1 hz
    obtain ⟨x, _, hx⟩ := List.mem_flatMap.1 this
    obtain ⟨y, _, rfl⟩ := List.mem_map.1 hx
    rfl
  · have := hp.map Prod.fst
    rw [List.map_flatMap] at this
    simpa [List.map_map, Function.comp_def] using this

theorem flat_add_least {wa wb : List Int} (ha : wa ≠ []) (hb : wb ≠ []) {P : List Int} (hp : P.Perm (wa.flatMap fun x => wb.map fun y => x + y)) : leastV P = leastV wa + leastV wb := by
  obtain ⟨a1, a2⟩ := least_spec ha
  obtain ⟨b1, b2⟩ := least_spec hb
  refine least_eq (hp.mem_iff.2 (List.mem_flatMap.2 ⟨_, a1, List.mem_map.2 ⟨_, b1, rfl⟩⟩)) fun z hz => ?_
  obtain ⟨x, hx, hx2⟩ := List.mem_flatMap.1 (hp.mem_iff.1 hz)
  obtain ⟨y, hy, rfl⟩ := List.mem_map.1 hx2
  have := a2 x hx
  have := b2 y hy
  omega

end Go.Proofs.YtgmbflpngedhnaaGreat

namespace Go.Proofs.YtgmbflpngedhnaaGreat
open Go.RowKit
set_option linter.unusedVariables false
set_option linter.unusedSimpArgs false
set_option maxRecDepth 20000

/-- Variables, five further. -/
def upL (s : List Int) : List Int := s.map (· + 5)
theorem upL_len (s : List Int) : (upL s).length = s.length := by simp [upL]
/-- While they are written: the first k are further already. -/
def upK (k : Nat) (s : List Int) : List Int := (s.take k).map (· + 5) ++ s.drop k
theorem upK_len (k : Nat) (s : List Int) : (upK k s).length = s.length := by simp [upK]; omega
theorem upK_zero (s : List Int) : upK 0 s = s := by simp [upK]
theorem upK_end (s : List Int) : upK s.length s = upL s := by simp [upK, upL]
theorem upK_at {k : Nat} {s : List Int} (h : k < s.length) (h' : k < (upK k s).length) : (upK k s)[k] = s[k] := by
  have e := List.getElem_of_eq (show upK k s = (s.take k).map (· + 5) ++ s.drop k from rfl) h'
  rw [e, List.getElem_append_right (by simp; omega)]
  simp only [List.getElem_drop]
  congr 1
  simp
  omega
theorem upK_set {k : Nat} {s : List Int} (h : k < s.length) : (upK k s).set k (s[k] + 5) = upK (k + 1) s := by
  unfold upK
  rw [List.take_succ_eq_append_getElem h, List.map_append, List.set_append_right (h := by simp; omega)]
  have e : k - ((s.take k).map (· + 5)).length = 0 := by simp; omega
  rw [e, List.drop_eq_getElem_cons h, List.set_cons_zero, List.append_assoc]
  rfl

theorem fine_up {s : List Int} {ll : List (List Int)} {n : Nat} (g : Fine s ll n) : Fine (upL s) ll n := by
  refine ⟨?_, ?_, g.asl, ?_, ?_, g.llen, g.dig⟩
  · unfold upL Asc
    exact List.Pairwise.map _ (fun a b h => by omega) g.asc
  · intro x hx
    obtain ⟨y, hy, rfl⟩ := List.mem_map.1 hx
    have := g.pos y hy
    omega
  · intro t ht; rw [upL_len]; exact g.wide t ht
  · rw [upL_len]; exact g.slen

theorem meet_up {s u : List Int} (hs : ∀ x ∈ s, 0 ≤ x ∧ x < 5) (hu : ∀ x ∈ u, 0 ≤ x ∧ x < 5) : meetL s (upL u) = [] := by
  unfold meetL
  rw [List.filter_eq_nil_iff]
  intro x hx
  simp only [decide_eq_true_eq]
  intro h
  obtain ⟨y, hy, e⟩ := List.mem_map.1 h
  have h1 := hs x hx
  have h2 := hu y hy
  omega

theorem one_fits {x : Int} (h : Fits x) : ∀ y ∈ [x], Fits y := by intro y hy; rw [List.mem_singleton.1 hy]; exact h

/-- What all weigh together. -/
theorem sum_few {ws : List Int} (fa : Few ws) (hl : ws.length ≤ 12) : sumOk ws = true ∧ sumV ws = ws.sum ∧ ws.sum.natAbs ≤ 12000 := by
  have hx : ∀ x ∈ ws, x.natAbs ≤ 1000 := fun x hx => by have := fa x hx; omega
  have h1 := sum_ok_of hx (by omega)
  have h2 := sizes_le hx
  have h3 := sum_le_sizes ws
  exact ⟨h1.1, h1.2, by omega⟩

theorem unit_comb (f : Int → Int → Int × Bool) (a b : Int) : combLI f [] [[]] [a] [] [[]] [b] = [f a b] := by unfold combLI; rw [sh_joinU, sh_joinRU]; rfl

theorem pair_nil' (s : List Int) (u : List Int) (la : List (List Int)) : pairR s la u [] = [] := pair_nil

theorem flat_len {α β γ : Type} (f : α → β → γ) (lb : List β) : ∀ la : List α, (la.flatMap fun x => lb.map fun y => f x y).length = la.length * lb.length
  | [] => by simp
  | x :: r => by simp only [List.flatMap_cons, List.length_append, List.length_map, flat_len f lb r, List.length_cons, Nat.add_mul, Nat.one_mul]; omega

theorem parts_math {s u : List Int} {la lb : List (List Int)} {wa wb : List Int} (g : Fine s la 12) (g' : Fine u lb 12) (hn : meetL s u = []) (hwa : wa.length = la.length) (hwb : wb.length = lb.length) (fa : Few wa) (fb : Few wb) :
    (∀ z ∈ combLI mulF s la wa u lb wb, z.2 = true) ∧ (∀ x ∈ (combLI mulF s la wa u lb wb).map Prod.fst, Fits x) ∧
    (∀ l ∈ wsrcL (joinL s u) (joinR s la u lb) ((combLI mulF s la wa u lb wb).map Prod.fst) [], sumOk l = true) ∧ (∀ l ∈ wsrcL s la wa [], sumOk l = true) ∧ (∀ l ∈ wsrcL u lb wb [], sumOk l = true) ∧
    (∀ x ∈ (wsrcL s la wa []).map sumV, Fits x) ∧ (∀ x ∈ (wsrcL u lb wb []).map sumV, Fits x) ∧
    (∀ z ∈ combLI mulF (meetL s []) (projL s la []) ((wsrcL s la wa []).map sumV) (meetL u []) (projL u lb []) ((wsrcL u lb wb []).map sumV), z.2 = true) ∧
    (pairR (meetL s []) (projL s la []) (meetL u []) (projL u lb [])).length ≤ 1 ∧
    ∃ P : List Int, (P = [] ∨ ∃ x, P = [x]) ∧ (wsrcL (joinL s u) (joinR s la u lb) ((combLI mulF s la wa u lb wb).map Prod.fst) []).map sumV = P ∧
      (combLI mulF (meetL s []) (projL s la []) ((wsrcL s la wa []).map sumV) (meetL u []) (projL u lb []) ((wsrcL u lb wb []).map sumV)).map Prod.fst = P := by
  obtain ⟨c1, c2⟩ := comb_few (f := mulF) (h := fun x y => x * y) g g' hn hwa hwb fa fb (fun x y hx hy => mulF_few hx hy)
  have hA := sum_few fa (by have := g.llen; omega)
  have hB := sum_few fb (by have := g'.llen; omega)
  have hl1 : ((combLI mulF s la wa u lb wb).map Prod.fst).length = (joinR s la u lb).length := by rw [List.length_map, comb_length]
  have hl2 : ((combLI mulF s la wa u lb wb).map Prod.fst).length = la.length * lb.length := by rw [c2.length_eq, flat_len, hwa, hwb]
  have hmul : la.length * lb.length ≤ 12 * 12 := Nat.mul_le_mul g.llen g'.llen
  have hbig : ∀ x ∈ (combLI mulF s la wa u lb wb).map Prod.fst, x.natAbs ≤ 998001 := by
    intro x hx
    obtain ⟨a, ha, hx⟩ := List.mem_flatMap.1 (c2.mem_iff.1 hx)
    obtain ⟨b, hb, rfl⟩ := List.mem_map.1 hx
    exact few_mul (fa a ha) (fb b hb)
  have hfit : ∀ x ∈ (combLI mulF s la wa u lb wb).map Prod.fst, Fits x := fun x hx => by have := hbig x hx; unfold Fits; omega
  have hKs := sum_ok_of hbig (by rw [hl2]; omega)
  have hsum : ((combLI mulF s la wa u lb wb).map Prod.fst).sum = wa.sum * wb.sum := by rw [perm_sum c2, flat_mul_sum]
  refine ⟨c1, hfit, ?_⟩
  generalize (combLI mulF s la wa u lb wb).map Prod.fst = K1 at *
  rw [meet_none, meet_none]
  by_cases ha : la = []
  · subst ha
    have hJ : joinR s [] u lb = [] := nil_join
    rw [hJ, wsrc_of_nil, wsrc_of_nil, proj_of_nil]
    have hr : (∀ l ∈ wsrcL u lb wb [], sumOk l = true) ∧ ∀ x ∈ (wsrcL u lb wb []).map sumV, Fits x := by
      by_cases hb : lb = []
      · subst hb; rw [wsrc_of_nil]; exact ⟨(fun l h => by cases h), (fun l h => by cases h)⟩
      · rw [wsrc_none hb hwb]
        exact ⟨fun l h => by rw [List.mem_singleton.1 h]; exact hB.1, one_fits (by rw [hB.2.1]; unfold Fits; omega)⟩
    have hcn : combLI mulF [] [] (List.map sumV []) [] (projL u lb []) ((wsrcL u lb wb []).map sumV) = [] := by unfold combLI; rw [nil_join]; rfl
    rw [hcn]
    exact ⟨(fun l h => by cases h), (fun l h => by cases h), hr.1, (fun l h => by cases h), hr.2, (fun l h => by cases h), by rw [nil_pair]; simp, [], .inl rfl, rfl, rfl⟩
  · by_cases hb : lb = []
    · subst hb
      have hJ : joinR s la u [] = [] := join_nil
      rw [hJ, wsrc_of_nil, wsrc_of_nil, proj_of_nil, wsrc_none ha hwa]
      have hcn : combLI mulF [] (projL s la []) (List.map sumV [wa]) [] [] (List.map sumV []) = [] := by unfold combLI; rw [join_nil]; rfl
      rw [hcn]
      exact ⟨(fun l h => by cases h), fun l h => by rw [List.mem_singleton.1 h]; exact hA.1, (fun l h => by cases h), one_fits (by rw [hA.2.1]; unfold Fits; omega), (fun l h => by cases h), (fun l h => by cases h), by rw [pair_nil]; simp, [], .inl rfl, rfl, rfl⟩
    · have hJn : joinR s la u lb ≠ [] := by
        intro e
        rw [e, List.length_nil, hl2] at hl1
        rcases Nat.mul_eq_zero.1 hl1 with h | h
        · exact ha (List.length_eq_zero_iff.1 h)
        · exact hb (List.length_eq_zero_iff.1 h)
      rw [wsrc_none hJn hl1, wsrc_none ha hwa, wsrc_none hb hwb, proj_none ha, proj_none hb]
      simp only [List.map_cons, List.map_nil]
      rw [unit_comb, hA.2.1, hB.2.1, hKs.2, hsum]
      have hprod : (wa.sum * wb.sum).natAbs ≤ 12000 * 12000 := by rw [Int.natAbs_mul]; exact Nat.mul_le_mul hA.2.2 hB.2.2
      have hf : fitB64 (wa.sum * wb.sum) = true := fitB64_iff.2 (by unfold Fits; omega)
      have hm := mul_fits (x := wa.sum) (y := wb.sum) hf
      exact ⟨fun l h => by rw [List.mem_singleton.1 h]; exact hKs.1, fun l h => by rw [List.mem_singleton.1 h]; exact hA.1, fun l h => by rw [List.mem_singleton.1 h]; exact hB.1, one_fits (by unfold Fits; omega), one_fits (by unfold Fits; omega), fun z h => by rw [List.mem_singleton.1 h]; exact hf, by rw [sh_pairU]; simp, [wa.sum * wb.sum], .inr ⟨_, rfl⟩, rfl, by simp only [List.map_cons, List.map_nil]; rw [hm]⟩

theorem least_math {s u : List Int} {la lb : List (List Int)} {wa wb : List Int} (g : Fine s la 12) (g' : Fine u lb 12) (hn : meetL s u = []) (hwa : wa.length = la.length) (hwb : wb.length = lb.length) (fa : Few wa) (fb : Few wb) :
    (∀ z ∈ combLI addF s la wa u lb wb, z.2 = true) ∧
    ((∃ P Q : List Int, (wsrcL (joinL s u) (joinR s la u lb) ((combLI addF s la wa u lb wb).map Prod.fst) []).map leastV = [] ∧ (wsrcL s la wa []).map leastV = P ∧ (wsrcL u lb wb []).map leastV = Q ∧ P.length * Q.length = 0) ∨
     (∃ x y : Int, -1000 < x ∧ x < 1000 ∧ -1000 < y ∧ y < 1000 ∧ (wsrcL (joinL s u) (joinR s la u lb) ((combLI addF s la wa u lb wb).map Prod.fst) []).map leastV = [x + y] ∧ (wsrcL s la wa []).map leastV = [x] ∧ (wsrcL u lb wb []).map leastV = [y])) := by
  obtain ⟨c1, c2⟩ := comb_few (f := addF) (h := fun x y => x + y) g g' hn hwa hwb fa fb (fun x y hx hy => addF_few hx hy)
  have hl1 : ((combLI addF s la wa u lb wb).map Prod.fst).length = (joinR s la u lb).length := by rw [List.length_map, comb_length]
  have hl2 : ((combLI addF s la wa u lb wb).map Prod.fst).length = la.length * lb.length := by rw [c2.length_eq, flat_len, hwa, hwb]
  refine ⟨c1, ?_⟩
  generalize (combLI addF s la wa u lb wb).map Prod.fst = K1 at *
  by_cases ha : la = []
  · subst ha
    have hJ : joinR s [] u lb = [] := nil_join
    rw [hJ, wsrc_of_nil, wsrc_of_nil]
    exact .inl ⟨_, _, rfl, rfl, rfl, by simp⟩
  · by_cases hb : lb = []
    · subst hb
      have hJ : joinR s la u [] = [] := join_nil
      rw [hJ, wsrc_of_nil, wsrc_of_nil]
      exact .inl ⟨_, _, rfl, rfl, rfl, by simp⟩
    · have hJn : joinR s la u lb ≠ [] := by
        intro e
        rw [e, List.length_nil, hl2] at hl1
        rcases Nat.mul_eq_zero.1 hl1 with h | h
        · exact ha (List.length_eq_zero_iff.1 h)
        · exact hb (List.length_eq_zero_iff.1 h)
      have hwa' : wa ≠ [] := by intro e; rw [e] at hwa; exact ha (List.length_eq_zero_iff.1 hwa.symm)
      have hwb' : wb ≠ [] := by intro e; rw [e] at hwb; exact hb (List.length_eq_zero_iff.1 hwb.symm)
      rw [wsrc_none hJn hl1, wsrc_none ha hwa, wsrc_none hb hwb]
      have h1 := fa _ (least_spec hwa').1
      have h2 := fb _ (least_spec hwb').1
      exact .inr ⟨leastV wa, leastV wb, h1.1, h1.2, h2.1, h2.2, by simp only [List.map_cons, List.map_nil]; rw [flat_add_least hwa' hwb' c2], rfl, rfl⟩

end Go.Proofs.YtgmbflpngedhnaaGreat

namespace Go.Proofs.YtgmbflpngedhnaaGreat.weighLeast
open Go.RowKit Go.ChangeShapes Go.WideShapes Go.ChangeAt
set_option linter.unusedVariables false
set_option linter.unusedSimpArgs false
set_option maxRecDepth 20000

theorem box_by {w w' : World} {b : Nat} {x y z : Value} {row : Option Nat} (h : BoxWI w b x y z) (g : w.grownBy w' row) (hne : row ≠ some b) : BoxWI w' b x y z := by
  have hl := h.lt
  unfold BoxWI at *
  rw [g.block b hl (fun e => hne e.symm)]; exact h

theorem by_then {w w1 w2 : World} {row : Option Nat} (g : w.grownBy w1 row) (g' : w1.grownBy w2 row) : w.grownBy w2 row :=
  ⟨g'.os.trans g.os, g'.tape.trans g.tape, g'.output.trans g.output, Nat.le_trans g.size g'.size, fun k hk hne => (g'.block k (Nat.lt_of_lt_of_le hk g.size) hne).trans (g.block k hk hne)⟩

theorem by_drew {w : World} {row : Option Nat} : w.grownBy w.drew row := ⟨rfl, rfl, rfl, Nat.le_refl _, fun _ _ _ => rfl⟩

set_option maxHeartbeats 64000000 in
theorem walk {l0 l1 a0 b0 a1 b1 : List Int} {k0 k1 : List (List Int)} {v0 v1 : Value} {w : World} (i0 : PartV w v0 l0 k0 a0 b0) (i1 : PartV w v1 l1 k1 a1 b1) :
    Calls Tryz.prog 8 #[v0, v1] w fun e w' => e = .returned (.bool true) ∧ Below w.heap.size w w' := by
  obtain ⟨xa, cxa, xb, cxb, xd, cxd, xe, cxe, rfl, _, _, _, _, _, _, _, _, _, _, _⟩ := i0.form
  obtain ⟨ya, cya, yb, cyb, yd, cyd, ye, cye, rfl, _, _, _, _, _, _, _, _, _, _, _⟩ := i1.form
  obtain ⟨W0, hW0⟩ : ∃ W, W = (w.alloc (.cells #[.slice xa l0.length cxa, .slice xb k0.length cxb, .slice xd a0.length cxd, .slice xe b0.length cxe] 26)).alloc (.cells #[.slice ya l1.length cya, .slice yb k1.length cyb, .slice yd a1.length cyd, .slice ye b1.length cye] 26) := ⟨_, rfl⟩
  have hB : Below w.heap.size w W0 := by rw [hW0]; exact b2x w _ _
  have bx : BoxQ W0 w.heap.size (.slice xa l0.length cxa) (.slice xb k0.length cxb) (.slice xd a0.length cxd) (.slice xe b0.length cxe) := by rw [hW0]; exact (BoxQ.new w _ _ _ _).push _
  have by_ : BoxQ W0 (w.heap.size + 1) (.slice ya l1.length cya) (.slice yb k1.length cyb) (.slice yd a1.length cyd) (.slice ye b1.length cye) := by rw [hW0]; have := BoxQ.new (w.alloc (.cells #[.slice xa l0.length cxa, .slice xb k0.length cxb, .slice xd a0.length cxd, .slice xe b0.length cxe] 26)) (.slice ya l1.length cya) (.slice yb k1.length cyb) (.slice yd a1.length cyd) (.slice ye b1.length cye); simpa using this
  replace i0 := i0.below hB
  replace i1 := i1.below hB
  have HW0 := hide hW0
  clear hW0
  go_enter Tryz.func8, Tryz.ntmps8
  have HC := hide (shown4_any W0)
  go_wp2_with fail
  rw [← unhide HW0]
  refine (unhide HC).mono ?_
  rintro e w1 ⟨rfl, hb⟩
  replace i0 := i0.below hb
  replace i1 := i1.below hb
  replace bx := bx.belowH hb
  replace by_ := by_.belowH hb
  replace hB := below_then hB hb
  clear HC hb
  clear HW0
  have HC := hide (ref_ok i0 (most := 999) (by omega) (by omega))
  have c0_bx := bx.cell0
  have c1_bx := bx.cell1
  have c2_bx := bx.cell2
  have c3_bx := bx.cell3
  go_wp2_with fail
  refine (unhide HC).mono ?_
  rintro e w2 ⟨u, rfl, rf, hb⟩
  replace i0 := i0.below hb
  replace i1 := i1.below hb
  replace bx := bx.belowH hb
  replace by_ := by_.belowH hb
  replace hB := below_then hB hb
  clear HC hb c0_bx c1_bx c2_bx c3_bx
  clear i0 bx
  have GF := hide (fine_small l0 k0)
  have HWA := hide (show ((refW a0 999 (smallR3 l0 k0).length).map Prod.fst).length = (smallR3 l0 k0).length by rw [List.length_map, refW_len])
  have FA := hide (few_ref a0 (smallR3 l0 k0).length)
  have HS5 := hide (fun x (hx : x ∈ smallS3 l0) => (smallS3_mem hx))
  have hrl : (refW a0 999 (smallR3 l0 k0).length).length ≤ 12 := by rw [refW_len]; exact smallR3_len l0 k0
  generalize smallS3 l0 = s at *
  generalize smallR3 l0 k0 = la at *
  generalize refW a0 999 la.length = rw0 at *
  obtain ⟨fa, fb, fc, fd, fe, ff, rfl, _, _, _, _, _, _⟩ := rf.form
  have HC := hide (number_any rf (by omega))
  go_wp2_with fail
  refine (unhide HC).mono ?_
  rintro e w3 ⟨u, rfl, ra, hb⟩
  replace i1 := i1.below hb
  replace rf := rf.below hb
  replace by_ := by_.belowH hb
  replace hB := below_then hB hb
  clear HC hb
  clear rf
  generalize rw0.map Prod.fst = wa at *
  obtain ⟨aa, ab, ac, ad, ae, af, rfl, _, _, _, _, _, _, _⟩ := ra.form
  have pb := (Below.refl _ w3).alloc (Nat.le_refl _) (.cells #[.slice aa s.length ab, .slice ac la.length ad, .slice ae wa.length af] 37)
  replace i1 := i1.below pb
  replace ra := ra.below pb
  replace by_ := by_.belowH pb
  replace hB := below_then hB pb
  have xA := BoxWI.new w3 (.slice aa s.length ab) (.slice ac la.length ad) (.slice ae wa.length af)
  clear pb
  have HC := hide (ref_nw i1 (most := 999) (by omega) (by omega))
  have c0_by := by_.cell0
  have c1_by := by_.cell1
  have c2_by := by_.cell2
  have c3_by := by_.cell3
  go_wp2_with fail
  refine (unhide HC).mono ?_
  rintro e w4 ⟨ux, uy, uz, rfl, ho, ht, hp, hn, hb⟩
  obtain ⟨V3, hV3⟩ : ∃ V, V = w3.alloc (.cells #[.slice aa s.length ab, .slice ac la.length ad, .slice ae wa.length af] 37) := ⟨_, rfl⟩
  rw [← hV3] at hB ra xA hb ho hn
  have HB3 := hide hB
  have HRA := hide ra
  have HXA := hide xA
  have hxl := xA.lt
  have HB4 := hide hb
  have hz4 := hb.size
  replace hB := below_then hB hb
  clear hV3 HC c0_by c1_by c2_by c3_by by_ i1 ra xA
  have GG := hide (fine_small l1 k1)
  have HWB := hide (show ((refW a1 999 (smallR3 l1 k1).length).map Prod.fst).length = (smallR3 l1 k1).length by rw [List.length_map, refW_len])
  have FB := hide (few_ref a1 (smallR3 l1 k1).length)
  have HU5 := hide (fun x (hx : x ∈ smallS3 l1) => (smallS3_mem hx))
  have hrl1 : (refW a1 999 (smallR3 l1 k1).length).length ≤ 12 := by rw [refW_len]; exact smallR3_len l1 k1
  generalize smallS3 l1 = u at *
  generalize smallR3 l1 k1 = lb at *
  generalize refW a1 999 lb.length = rw1 at *
  obtain ⟨ua, uc, rfl, _, huc⟩ := (Seq.of_own ho).form
  obtain ⟨va, vc, rfl, _, _⟩ := ht.tups.form
  obtain ⟨qa, qc, rfl, _⟩ := hp.form
  unfold maxLen at huc
  have HC := hide (number_nw (s := u) (ll := lb) (ps := rw1) (w := w4) ⟨_, _, _, rfl, Seq.of_own ho, ht.tups, hp⟩ (by omega))
  have HOX := hide (New.of_own ho)
  clear hp hn
  go_wp2_with fail
  refine (unhide HC).mono ?_
  rintro e w5 ⟨uz, rfl, hz, hb⟩
  replace ho := own_below ho hb
  replace ht := ht.below hb
  replace hB := below_then hB hb
  have HB5 := hide (below_then (unhide HB4) hb)
  have hz5 := hb.size
  clear HC hb HB4
  generalize rw1.map Prod.fst = wb at *
  obtain ⟨za, zc, rfl, _, _⟩ := (Seq.of_own hz).form
  have pb := (Below.refl _ w5).alloc (Nat.le_refl _) (.cells #[.slice ua u.length uc, .slice va lb.length vc, .slice za wb.length zc] 37)
  have xB := BoxWI.new w5 (.slice ua u.length uc) (.slice va lb.length vc) (.slice za wb.length zc)
  replace ho := own_below ho pb
  replace ht := ht.below pb
  replace hz := own_below hz pb
  replace hB := below_then hB pb
  have HB6 := hide (below_then (unhide HB5) pb)
  clear pb HB5
  obtain ⟨Wb, hWb⟩ : ∃ W, W = w5.alloc (.cells #[.slice ua u.length uc, .slice va lb.length vc, .slice za wb.length zc] 37) := ⟨_, rfl⟩
  rw [← hWb] at ho ht hz hB xB
  have HB7 : Hid (Below V3.heap.size V3 Wb) := hide (by rw [hWb]; exact unhide HB6)
  have HWb := hide hWb
  clear hWb HB6
  have HRNE := hide (show (Value.slice ua u.length uc).ownBlock ≠ some w5.heap.size from fun e => by have := (unhide HOX) _ e; omega)
  have HZN := hide (show NotIn (fun g => (Value.slice ua u.length uc).ownBlock = some g) Wb (.slice za wb.length zc) from fun g hg => by have h1 := (New.of_own hz) g hg; exact ⟨fun e => by have := (unhide HOX) g e; omega, h1.2⟩)
  have HT := hide ht
  have HZ := hide (Seq.of_own hz)
  have HXB := hide xB
  have HBB := hide hB
  have HOW := hide ho
  have hzb := (unhide HB7).size
  clear ho ht hz xB hB
  go_wp2
  rw [← unhide HWb]
  clear HWb
  go_loopw [8] (fun i wq => ∃ k : Nat, k ≤ u.length ∧ i = .int .i64 k ∧ OwnI V3.heap.size wq (.slice ua u.length uc) (upK k u) ∧ Wb.grownBy wq (Value.slice ua u.length uc).ownBlock ∧ Below V3.heap.size Wb wq) (fun i _ => u.length - (intOf i).toNat)
  case atStart => exact ⟨0, by omega, rfl, by rw [upK_zero]; exact unhide HOW, ⟨rfl, rfl, rfl, Nat.le_refl _, fun _ _ _ => rfl⟩, Below.refl _ _⟩
  case round =>
  clear HOW
  rename World => wq
  obtain ⟨k, hk, rfl, hown, hgr, hbq⟩ := hrel
  have xB := box_by (unhide HXB) hgr (unhide HRNE)
  have b0 := xB.cell0
  by_cases hkl : k < u.length
  · obtain ⟨gg, hgg⟩ : ∃ gg, ua = some ⟨gg, 0, none⟩ := by
      obtain ⟨_, h2⟩ := hown
      rcases h2 with ⟨he, h0⟩ | ⟨gg, cap, cur, he, _⟩
      · rw [upK_len] at h0; omega
      · injection he with he; exact ⟨gg, he⟩
    subst hgg
    have hul := upK_len k u
    obtain ⟨bb, oo, hbe, hc⟩ := (Seq.of_own hown).at (k := k) (by omega)
    cases hbe
    rw [upK_at hkl, Nat.zero_add] at hc
    have hx0 := ((unhide HU5) _ (List.getElem_mem hkl)).1
    have hx1 := ((unhide HU5) _ (List.getElem_mem hkl)).2
    obtain ⟨⟨old, hcell⟩, hfr, hset, hbs⟩ := own_setI hown hul.symm (i := k) hkl (u[k] + 5)
    rw [upK_set hkl] at hset
    have hold := hcell.symm.trans hc
    cases hold
    have HSET := hide hset
    have HGR := hide (by_then hgr (set_by4 (w := wq) (b := gg) (i := k) (.int .i64 (u[k] + 5))))
    have HBS := hide (hbq.trans hbs)
    clear hset hbs hown hgr hbq xB hul
    generalize u[k] = x at *
    go_wp2
    go_region_law ((fail))
    all_goals
      go_wp2
      go_roundw
      case rel => exact ⟨k + 1, by omega, by go_num, unhide HSET, by_then (unhide HGR) by_drew, (unhide HBS).drew⟩
      case measure => simp [intOf]; omega
  have hke : k = u.length := by omega
  subst hke
  rw [upK_end] at hown
  have hbv := (unhide HB7).trans hbq
  have ra := (unhide HRA).below hbv
  have xA := (unhide HXA).below hbv hxl
  have hB : Below w.heap.size w wq := (unhide HB3).trans (hbv.mono (unhide HB3).size)
  have rb : WVI wq (.agg #[.slice ua u.length uc, .slice va lb.length vc, .slice za wb.length zc]) (upL u) lb wb := ⟨_, _, _, rfl, Seq.of_own hown, ((unhide HT).kept hgr (fun c e => e)).tups, Seq.keptO (unhide HZ) (unhide HZN) hgr (fun c e => e)⟩
  clear hown hgr hbq hbv HRA HXA HB3 HT HZ HZN HXB HBB HB7 b0
  have GU := hide (fine_up (unhide GG))
  have HMN := hide (meet_up (s := s) (u := u) (fun x hx => by have := (unhide HS5) x hx; omega) (fun x hx => by have := (unhide HU5) x hx; omega))
  have hnl : (pairR s la (upL u) lb).length ≤ 12 * 12 := Nat.le_trans (pair_le s (upL u) lb la) (Nat.mul_le_mul (unhide GF).llen (unhide GG).llen)
  have hul : u.length = (upL u).length := (upL_len u).symm
  have HULL := hide hul
  rw [unhide HULL] at rb xB ⊢
  clear hul HRNE HOX HS5 HU5 GG hkl HULL hk
  generalize upL u = t at *
  have hsl := (unhide GF).slen
  have hll := (unhide GF).llen
  have htl := (unhide GU).slen
  have hlbl := (unhide GU).llen
  obtain ⟨m1, m2⟩ := least_math (unhide GF) (unhide GU) (unhide HMN) (unhide HWA) (unhide HWB) (unhide FA) (unhide FB)
  obtain ⟨K0, hK0⟩ : ∃ S, S = combLI addF s la wa t lb wb := ⟨_, rfl⟩
  rw [← hK0] at m1 m2
  obtain ⟨K1, hK1⟩ : ∃ S, S = K0.map Prod.fst := ⟨_, rfl⟩
  obtain ⟨S1, hS1⟩ : ∃ S, S = joinL s t := ⟨_, rfl⟩
  obtain ⟨L1, hL1⟩ : ∃ S, S = joinR s la t lb := ⟨_, rfl⟩
  have HAS := hide (show Asc S1 by rw [hS1]; exact asc_joinL (unhide GF).asc (unhide GU).asc)
  have hs1l : S1.length ≤ 400 := by rw [hS1]; have := joinS_le 0 (unhide GF).asc (unhide GU).asc; omega
  have hl1l : L1.length ≤ 144 := by rw [hL1]; exact Nat.le_trans (join_len_le s t la lb) (Nat.mul_le_mul hll hlbl)
  rw [← hK1, ← hS1, ← hL1] at m2
  obtain ⟨QM, hQM⟩ : ∃ S, S = (wsrcL S1 L1 K1 []).map leastV := ⟨_, rfl⟩
  obtain ⟨QN, hQN⟩ : ∃ S, S = (wsrcL s la wa []).map leastV := ⟨_, rfl⟩
  obtain ⟨QO, hQO⟩ : ∃ S, S = (wsrcL t lb wb []).map leastV := ⟨_, rfl⟩
  rw [← hQM, ← hQN, ← hQO] at m2
  have HhK0 := hide hK0
  have HhK1 := hide hK1
  have HhS1 := hide hS1
  have HhL1 := hide hL1
  have HhQM := hide hQM
  have HhQN := hide hQN
  have HhQO := hide hQO
  have Hm1 := hide m1
  have Hm2 := hide m2
  clear hK0 hK1 hS1 hL1 hQM hQN hQO m1 m2
  have HC := hide (plus_ok (most := 1000) ra rb (unhide GF) (unhide GU) (by omega) (by omega) (by omega) (unhide FA).fits (unhide FB).fits (unhide HhK0).symm (unhide Hm1) (by omega))
  have c0_xA := xA.cell0
  have c1_xA := xA.cell1
  have c2_xA := xA.cell2
  have c0_xB := xB.cell0
  have c1_xB := xB.cell1
  have c2_xB := xB.cell2
  go_wp2_with fail
  refine (unhide HC).mono ?_
  rintro e w6 ⟨u, rfl, rp, hb⟩
  replace ra := ra.below hb
  replace rb := rb.below hb
  replace xA := xA.belowH hb
  replace xB := xB.belowH hb
  replace hB := below_then hB hb
  clear HC hb c0_xA c1_xA c2_xA c0_xB c1_xB c2_xB
  rw [← unhide HhK1, ← unhide HhS1, ← unhide HhL1] at rp
  obtain ⟨ja, jb, jc, jd, je, jf, rfl, _, _, _, _, _, _, _⟩ := rp.form
  have pb := (Below.refl _ w6).alloc (Nat.le_refl _) (.cells #[.slice ja S1.length jb, .slice jc L1.length jd, .slice je K1.length jf] 37)
  replace ra := ra.below pb
  replace rb := rb.below pb
  replace rp := rp.below pb
  replace xA := xA.belowH pb
  replace xB := xB.belowH pb
  replace hB := below_then hB pb
  have xP := BoxWI.new w6 (.slice ja S1.length jb) (.slice jc L1.length jd) (.slice je K1.length jf)
  clear pb
  have HC := hide (mins_ok rp (Seq.nil _ _) (unhide HAS) (by omega) (by omega) (by simp) rfl)
  have c0_xP := xP.cell0
  have c1_xP := xP.cell1
  have c2_xP := xP.cell2
  go_wp2_with fail
  refine (unhide HC).mono ?_
  rintro e w7 ⟨u, rfl, rs, hb⟩
  replace ra := ra.below hb
  replace rb := rb.below hb
  replace rp := rp.below hb
  replace xA := xA.belowH hb
  replace xB := xB.belowH hb
  replace xP := xP.belowH hb
  replace hB := below_then hB hb
  clear HC hb c0_xP c1_xP c2_xP
  rw [← unhide HhQM] at rs
  obtain ⟨S2, hS2⟩ : ∃ S, S = meetL S1 [] := ⟨_, rfl⟩
  obtain ⟨L2, hL2⟩ : ∃ S, S = projL S1 L1 [] := ⟨_, rfl⟩
  rw [← hS2, ← hL2] at rs
  clear hS2 hL2
  obtain ⟨da, db, dc, dd, de, df, rfl, _, _, _, _, _, _, _⟩ := rs.form
  have pb := (Below.refl _ w7).alloc (Nat.le_refl _) (.cells #[.slice da S2.length db, .slice dc L2.length dd, .slice de QM.length df] 37)
  replace ra := ra.below pb
  replace rb := rb.below pb
  replace rp := rp.below pb
  replace rs := rs.below pb
  replace xA := xA.belowH pb
  replace xB := xB.belowH pb
  replace xP := xP.belowH pb
  replace hB := below_then hB pb
  have xS := BoxWI.new w7 (.slice da S2.length db) (.slice dc L2.length dd) (.slice de QM.length df)
  clear pb
  clear rp xP
  have HC := hide (mins_ok ra (Seq.nil _ _) (unhide GF).asc (by omega) (by omega) (by simp) rfl)
  have c0_xA := xA.cell0
  have c1_xA := xA.cell1
  have c2_xA := xA.cell2
  go_wp2_with fail
  refine (unhide HC).mono ?_
  rintro e w8 ⟨u, rfl, rq, hb⟩
  replace ra := ra.below hb
  replace rb := rb.below hb
  replace rs := rs.below hb
  replace xA := xA.belowH hb
  replace xB := xB.belowH hb
  replace xS := xS.belowH hb
  replace hB := below_then hB hb
  clear HC hb c0_xA c1_xA c2_xA
  rw [← unhide HhQN] at rq
  obtain ⟨SA, hSA⟩ : ∃ S, S = meetL s [] := ⟨_, rfl⟩
  obtain ⟨LA, hLA⟩ : ∃ S, S = projL s la [] := ⟨_, rfl⟩
  rw [← hSA, ← hLA] at rq
  clear hSA hLA
  obtain ⟨qa, qb, qc, qd, qe, qf, rfl, _, _, _, _, _, _, _⟩ := rq.form
  have pb := (Below.refl _ w8).alloc (Nat.le_refl _) (.cells #[.slice qa SA.length qb, .slice qc LA.length qd, .slice qe QN.length qf] 37)
  replace ra := ra.below pb
  replace rb := rb.below pb
  replace rs := rs.below pb
  replace rq := rq.below pb
  replace xA := xA.belowH pb
  replace xB := xB.belowH pb
  replace xS := xS.belowH pb
  replace hB := below_then hB pb
  have xQ := BoxWI.new w8 (.slice qa SA.length qb) (.slice qc LA.length qd) (.slice qe QN.length qf)
  clear pb
  have HC := hide (mins_ok rb (Seq.nil _ _) (unhide GU).asc (by omega) (by omega) (by simp) rfl)
  have c0_xB := xB.cell0
  have c1_xB := xB.cell1
  have c2_xB := xB.cell2
  go_wp2_with fail
  refine (unhide HC).mono ?_
  rintro e w9 ⟨u, rfl, rr, hb⟩
  replace ra := ra.below hb
  replace rb := rb.below hb
  replace rs := rs.below hb
  replace rq := rq.below hb
  replace xA := xA.belowH hb
  replace xB := xB.belowH hb
  replace xS := xS.belowH hb
  replace xQ := xQ.belowH hb
  replace hB := below_then hB hb
  clear HC hb c0_xB c1_xB c2_xB
  rw [← unhide HhQO] at rr
  obtain ⟨SB, hSB⟩ : ∃ S, S = meetL t [] := ⟨_, rfl⟩
  obtain ⟨LB, hLB⟩ : ∃ S, S = projL t lb [] := ⟨_, rfl⟩
  rw [← hSB, ← hLB] at rr
  clear hSB hLB
  obtain ⟨oa, ob, oc, od, oe, of, rfl, _, _, _, _, _, _, _⟩ := rr.form
  have pb := (Below.refl _ w9).alloc (Nat.le_refl _) (.cells #[.slice oa SB.length ob, .slice oc LB.length od, .slice oe QO.length of] 37)
  replace ra := ra.below pb
  replace rb := rb.below pb
  replace rs := rs.below pb
  replace rq := rq.below pb
  replace rr := rr.below pb
  replace xA := xA.belowH pb
  replace xB := xB.belowH pb
  replace xS := xS.belowH pb
  replace xQ := xQ.belowH pb
  replace hB := below_then hB pb
  have xR := BoxWI.new w9 (.slice oa SB.length ob) (.slice oc LB.length od) (.slice oe QO.length of)
  clear pb
  obtain ⟨WE, hWE⟩ : ∃ W, W = w9.alloc (.cells #[.slice oa SB.length ob, .slice oc LB.length od, .slice oe QO.length of] 37) := ⟨_, rfl⟩
  rw [← hWE] at hB rs rq rr xS xQ xR
  have HWE := hide hWE
  have dS := xS.cell2
  have dQ := xQ.cell2
  have dR := xR.cell2
  have dS' : (w9.alloc (.cells #[.slice oa SB.length ob, .slice oc LB.length od, .slice oe QO.length of] 37)).cell? ⟨w7.heap.size, 2, none⟩ = some (.slice de QM.length df) := by rw [← hWE]; exact dS
  have dQ' : (w9.alloc (.cells #[.slice oa SB.length ob, .slice oc LB.length od, .slice oe QO.length of] 37)).cell? ⟨w8.heap.size, 2, none⟩ = some (.slice qe QN.length qf) := by rw [← hWE]; exact dQ
  have dR' : (w9.alloc (.cells #[.slice oa SB.length ob, .slice oc LB.length od, .slice oe QO.length of] 37)).cell? ⟨w9.heap.size, 2, none⟩ = some (.slice oe QO.length of) := by rw [← hWE]; exact dR
  have ws_ := rs.wts
  have wq_ := rq.wts
  have wr_ := rr.wts
  clear hWE ra rb rq rr rs xA xB xQ xR xS
  rcases unhide Hm2 with ⟨PP, QQ, e1, e2, e3, e4⟩ | ⟨x, y, x1, x2, y1, y2, e1, e2, e3⟩
  · subst e1 e2 e3
    rcases Nat.mul_eq_zero.1 e4 with h | h
    · have hn := List.length_eq_zero_iff.1 h
      subst hn
      simp only [List.length_nil] at dS dQ dR dS' dQ' dR' ⊢
      clear ws_ wq_ wr_ h
      go_wp2
      have HWE2 := unhide HWE
      try simp only [List.length_cons, List.length_nil, Nat.zero_add] at HWE2
      rw [← HWE2]
      clear HWE2
      go_quiet (fail)
      go_wp2
      go_ret
      exact ⟨rfl, Below.drewN1 hB _⟩
    · have hn := List.length_eq_zero_iff.1 h
      subst hn
      simp only [List.length_nil] at dS dQ dR dS' dQ' dR' ⊢
      clear ws_ wq_ wr_ h
      go_wp2
      have HWE2 := unhide HWE
      try simp only [List.length_cons, List.length_nil, Nat.zero_add] at HWE2
      rw [← HWE2]
      clear HWE2
      go_quiet (fail)
      go_wp2
      go_ret
      exact ⟨rfl, Below.drewN1 hB _⟩
  · subst e1 e2 e3
    obtain ⟨b1, o1, h1, q1⟩ := ws_.at (k := 0) (by simp)
    obtain ⟨b2, o2, h2, q2⟩ := wq_.at (k := 0) (by simp)
    obtain ⟨b3, o3, h3, q3⟩ := wr_.at (k := 0) (by simp)
    subst h1 h2 h3
    simp only [List.length_cons, List.length_nil, List.getElem_cons_zero, Nat.add_zero] at dS dQ dR dS' dQ' dR' q1 q2 q3 ⊢
    clear ws_ wq_ wr_
    go_wp2
    have HWE2 := unhide HWE
    simp only [List.length_cons, List.length_nil, Nat.zero_add] at HWE2
    rw [← HWE2]
    clear HWE2
    go_quiet (fail)
    go_wp2
    go_ret
    exact ⟨rfl, Below.drewN1 hB _⟩

set_option maxRecDepth 100000 in
theorem lifted (os : Os) (started : os.Started) (H : Type) (enc : TypeId × Value → H) :
    ReturnsInHanded {} Tryz.checked os 8 .any (Rows.weighLeastSpec.pre6 enc Tryz.prog Tryz.f8 Rows.weighLeastRow.domain false) (Rows.weighLeastSpec.post enc Tryz.prog Tryz.f8 false true false false) := by
  refine returnsInHanded_of_change (C := Tryz.checked) own started (by kernel_rfl) Tryz.func8
    (ChangeSpec.witness6 (enc := enc) (C := Tryz.checked) false ⟨#[], #[.agg #[.slice none 0 0, .slice none 0 0, .slice none 0 0, .slice none 0 0], .agg #[.slice none 0 0, .slice none 0 0, .slice none 0 0, .slice none 0 0]], []⟩ 8 (by kernel_rfl) (by kernel_rfl) (by kernel_rfl) (by kernel_rfl)) ?_
  intro W base args ds gs before hval0 hW hcnd _
  have hval : ∀ (j : Nat) t v, Tryz.f8.params[j]? = some t → args[j]? = some v → Value.okWide Tryz.prog W .any base t v := hval0
  have hW' := hW
  obtain ⟨p, q, hA0, hV, rfl, hfz, hnd⟩ := hW
  have hA : DataW.TrodAll enc Tryz.prog W 0 (fun _ => true) true Tryz.f8.params.toList args.toList ds p := hA0
  rw [Tryz.params8] at hA hval
  obtain ⟨v0, vs0, d0, ds0, p0, q0, hargs, rfl, rfl, h0, r0⟩ := trodAll_cons hA
  obtain ⟨v1, vs1, d1, ds1, p1, q1, rfl, rfl, rfl, h1, r1⟩ := trodAll_cons r0
  obtain ⟨rfl, rfl, rfl⟩ := trodAll_nil r1
  obtain rfl : args = #[v0, v1] := by cases args; simp_all
  obtain ⟨rfl, rfl⟩ := trodVars_none hV
  obtain ⟨l0, k0, a0, b0, i0⟩ := read_part4 h0 (hval 0 26 v0 rfl rfl)
  have lt0 : ∀ x ∈ p0, x.block < W.heap.size := by obtain ⟨m, hm⟩ := h0; exact DataW.trod_lt m _ _ _ hm
  obtain ⟨l1, k1, a1, b1, i1⟩ := read_part4 h1 (hval 1 26 v1 rfl rfl)
  have lt1 : ∀ x ∈ p1, x.block < W.heap.size := by obtain ⟨m, hm⟩ := h1; exact DataW.trod_lt m _ _ _ hm
  clear hA0 hval0
  refine (walk i0 i1).mono fun e W' ⟨he, bel⟩ => ?_
  subst he
  exact ⟨_, rfl, _, _, _, [], _, [], hW', trodAll_mk1 (shut_bool Tryz.underlying4 _), (trodAll_cons_mk (Below.trod laidOut (by kernel_rfl) (of_decide_eq_true (by kernel_rfl)) h0 bel lt0) (trodAll_cons_mk (Below.trod laidOut (by kernel_rfl) (of_decide_eq_true (by kernel_rfl)) h1 bel lt1) trodAll_mk0)), rfl, bel.frame _, fun h => by cases h⟩

theorem over : Rows.weighLeastRow.holds Tryz.pinned (OpenSpec.ofChange Rows.weighLeastSpec) :=
  OpenClaim.holds_of_wide 8 Tryz.f8 rfl rfl rfl rfl rfl rfl rfl ⟨rfl, rfl, rfl, rfl, rfl⟩ rfl rfl rfl rfl rfl (by kernel_rfl) Tryz.func8 (by kernel_rfl)
    (of_decide_eq_true (by kernel_rfl)) (by unfold Func.isWrapper; first | (rw [if_pos (by decide +kernel)]; kernel_rfl) | (rw [if_neg (by decide +kernel)]; exact ⟨rfl, rfl⟩))
    (fun os started H enc _ => lifted os started H enc)

/-- The statement. -/
theorem proved : Rows.WeighLeastSaid := over
#print axioms proved
end Go.Proofs.YtgmbflpngedhnaaGreat.weighLeast
