/-
  Proved: JoinAll answers true for every slice of Parts and every number, and leaves what was handed in as it was; the listed variables hold what the program's text lays. No other condition.
-/
import Derived.Test.YtoiokplgkanepaaGreatDoorRelBox
import Derived.Test.YtoiokplgkanepaaGreatDoorRefSort
import Derived.Test.YtoiokplgkanepaaGreatDoorLawSmall
import Derived.Test.YtoiokplgkanepaaGreatDoorSmall3
import Derived.Test.YtoiokplgkanepaaGreatDoorFrame3
import Derived.Test.YtoiokplgkanepaaGreatDoorLawKit3
import Derived.Deep.SlicePairs
import Derived.Deep.RegionHeld3
import Derived.Test.YtoiokplgkanepaaGreatDoorLibInts
import Derived.Test.YtoiokplgkanepaaGreatDoorJoinMath
import Derived.Test.YtoiokplgkanepaaGreatDoorApp2
import Derived.Test.YtoiokplgkanepaaGreatDoorRefJoin
import Derived.Test.YtoiokplgkanepaaGreatDoorRelUnion
import Derived.Deep.RegionLaw
import Derived.BigRegion
namespace Go.Proofs.YtoiokplgkanepaaGreatDoor
open Go.RowKit
set_option linter.unusedVariables false
set_option linter.unusedSimpArgs false
set_option maxRecDepth 20000

/-- The value lies in none of the blocks X, and in one that is there. -/
def NotIn (X : Nat → Prop) (w : World) (v : Value) : Prop := ∀ g, v.ownBlock = some g → ¬ X g ∧ g < w.heap.size
theorem NotIn.kept {X : Nat → Prop} {w w' : World} {v : Value} (h : NotIn X w v) (hs : w.heap.size ≤ w'.heap.size) : NotIn X w' v := fun g hg => ⟨(h g hg).1, Nat.lt_of_lt_of_le (h g hg).2 hs⟩
theorem NotIn.weaken {X Y : Nat → Prop} {w : World} {v : Value} (h : NotIn X w v) (hY : ∀ g, g < w.heap.size → Y g → X g) : NotIn Y w v := fun g hg => ⟨fun hy => (h g hg).1 (hY g (h g hg).2 hy), (h g hg).2⟩
theorem NotIn.nil (X : Nat → Prop) (w : World) : NotIn X w (.slice none 0 0) := by intro g h; cases h
theorem NotIn.of_new {B : Nat} {w : World} {v : Value} (h : New B w v) : NotIn (· < B) w v := fun g hg => ⟨by have := h g hg; omega, (h g hg).2⟩

theorem grown_cell {w w' : World} {row : Option Nat} (g : w.grownBy w' row) {a : Addr} {v : Value} (h : w.cell? a = some v) (hne : some a.block ≠ row) : w'.cell? a = some v := by
  rw [World.cell?_of_block (g.block a.block (cell_lt h) hne)]; exact h

theorem Seq.keptO {α : Type} {enc : α → Value} {X : Nat → Prop} {w w' : World} {row : Option Nat} {v : Value} {l : List α} (h : Seq enc w v l) (hn : NotIn X w v) (g : w.grownBy w' row) (hX : ∀ b, row = some b → X b) : Seq enc w' v l := by
  obtain ⟨a, cap, rfl, h2, h3, h4, h5, h6⟩ := h
  refine ⟨a, cap, rfl, h2, h3, h4, h5, fun i y hi => ?_⟩
  obtain ⟨x, rfl, hc⟩ := h6 i y hi
  exact ⟨x, rfl, grown_cell g hc (fun e => (hn x.block rfl).1 (hX _ e.symm))⟩

def IntsO (X : Nat → Prop) (w : World) (v : Value) (l : List Int) : Prop := Ints w v l ∧ NotIn X w v
theorem IntsO.kept {X : Nat → Prop} {w w' : World} {row : Option Nat} {v : Value} {l : List Int} (h : IntsO X w v l) (g : w.grownBy w' row) (hX : ∀ b, row = some b → X b) : IntsO X w' v l := ⟨Seq.keptO h.1 h.2 g hX, h.2.kept g.size⟩
theorem IntsO.weaken {X Y : Nat → Prop} {w : World} {v : Value} {l : List Int} (h : IntsO X w v l) (hY : ∀ g, g < w.heap.size → Y g → X g) : IntsO Y w v l := ⟨h.1, h.2.weaken hY⟩
theorem IntsO.nil (X : Nat → Prop) (w : World) : IntsO X w (.slice none 0 0) [] := ⟨Seq.nil _ _, NotIn.nil _ _⟩

def TupsO (X : Nat → Prop) (w : World) (v : Value) (ll : List (List Int)) : Prop :=
  ∃ vs : List Value, Seq id w v vs ∧ NotIn X w v ∧ vs.length = ll.length ∧ ∀ i (h : i < vs.length) (h' : i < ll.length), IntsO X w vs[i] ll[i]
theorem TupsO.kept {X : Nat → Prop} {w w' : World} {row : Option Nat} {v : Value} {ll : List (List Int)} (h : TupsO X w v ll) (g : w.grownBy w' row) (hX : ∀ b, row = some b → X b) : TupsO X w' v ll := by
  obtain ⟨vs, h1, h2, h3, h4⟩ := h
  exact ⟨vs, Seq.keptO h1 h2 g hX, h2.kept g.size, h3, fun i hi hi' => (h4 i hi hi').kept g hX⟩
theorem TupsO.weaken {X Y : Nat → Prop} {w : World} {v : Value} {ll : List (List Int)} (h : TupsO X w v ll) (hY : ∀ g, g < w.heap.size → Y g → X g) : TupsO Y w v ll := by
  obtain ⟨vs, h1, h2, h3, h4⟩ := h
  exact ⟨vs, h1, h2.weaken hY, h3, fun i hi hi' => (h4 i hi hi').weaken hY⟩
theorem TupsO.tups {X : Nat → Prop} {w : World} {v : Value} {ll : List (List Int)} (h : TupsO X w v ll) : Tups w v ll := by
  obtain ⟨vs, h1, h2, h3, h4⟩ := h
  exact ⟨vs, h1, h3, fun i hi hi' => (h4 i hi hi').1⟩
theorem below_by {w w' : World} (h : Below w.heap.size w w') : w.grownBy w' none := ⟨h.os, h.tape, h.output, h.size, fun k hk _ => h.block k hk⟩
theorem IntsO.below {X : Nat → Prop} {w w' : World} {v : Value} {l : List Int} (h : IntsO X w v l) (hb : Below w.heap.size w w') : IntsO X w' v l := h.kept (below_by hb) (fun b e => by cases e)
theorem TupsO.below {X : Nat → Prop} {w w' : World} {v : Value} {l : List (List Int)} (h : TupsO X w v l) (hb : Below w.heap.size w w') : TupsO X w' v l := h.kept (below_by hb) (fun b e => by cases e)

/-- A relation's two fields, off the blocks X. -/
def RelO (X : Nat → Prop) (w : World) (p : Value × Value) (r : List Int × List (List Int)) : Prop := IntsO X w p.1 r.1 ∧ TupsO X w p.2 r.2
theorem RelO.kept {X : Nat → Prop} {w w' : World} {row : Option Nat} {p : Value × Value} {r : List Int × List (List Int)} (h : RelO X w p r) (g : w.grownBy w' row) (hX : ∀ b, row = some b → X b) : RelO X w' p r := ⟨h.1.kept g hX, h.2.kept g hX⟩
theorem RelO.weaken {X Y : Nat → Prop} {w : World} {p : Value × Value} {r : List Int × List (List Int)} (h : RelO X w p r) (hY : ∀ g, g < w.heap.size → Y g → X g) : RelO Y w p r := ⟨h.1.weaken hY, h.2.weaken hY⟩
theorem RelO.below {X : Nat → Prop} {w w' : World} {p : Value × Value} {r : List Int × List (List Int)} (h : RelO X w p r) (hb : Below w.heap.size w w') : RelO X w' p r := ⟨h.1.below hb, h.2.below hb⟩
theorem RelO.rel {X : Nat → Prop} {w : World} {p : Value × Value} {r : List Int × List (List Int)} (h : RelO X w p r) : RelV w (.agg #[p.1, p.2]) r.1 r.2 := ⟨_, _, rfl, h.1.1, h.2.tups⟩

def flat2 (l : List (Value × Value)) : List Value := l.flatMap fun p => [p.1, p.2]
theorem flat2_at0 : ∀ (l : List (Value × Value)) (i : Nat) (h : i < l.length), (flat2 l)[i * 2]? = some l[i].1
  | x :: r, 0, _ => by simp [flat2]
  | x :: r, i + 1, h => by
    have ih := flat2_at0 r i (by simpa using h)
    have e : flat2 (x :: r) = x.1 :: x.2 :: flat2 r := by simp [flat2]
    rw [e, show (i + 1) * 2 = i * 2 + 1 + 1 by omega, List.getElem?_cons_succ, List.getElem?_cons_succ, ih]; rfl
theorem flat2_at1 : ∀ (l : List (Value × Value)) (i : Nat) (h : i < l.length), (flat2 l)[i * 2 + 1]? = some l[i].2
  | x :: r, 0, _ => by simp [flat2]
  | x :: r, i + 1, h => by
    have ih := flat2_at1 r i (by simpa using h)
    have e : flat2 (x :: r) = x.1 :: x.2 :: flat2 r := by simp [flat2]
    rw [e, show (i + 1) * 2 + 1 = i * 2 + 1 + 1 + 1 by omega, List.getElem?_cons_succ, List.getElem?_cons_succ, ih]; rfl

/-- The call's own slice of relations. -/
def OwnR (B : Nat) (w : World) (v : Value) (rs : List (List Int × List (List Int))) : Prop :=
  ∃ ps : List (Value × Value), w.ownsRow B 27 2 v ps.length (flat2 ps) ∧ ps.length = rs.length ∧ ∀ i (h : i < ps.length) (h' : i < rs.length), RelO (fun g => v.ownBlock = some g) w ps[i] rs[i]

theorem OwnR.nil (B : Nat) (w : World) : OwnR B w (.slice none 0 0) [] := ⟨[], World.ownsRow_nil _ _ _ _, rfl, fun i h => by simp at h⟩
theorem OwnR.below {B : Nat} {w w' : World} {v : Value} {rs : List (List Int × List (List Int))} (h : OwnR B w v rs) (hb : Below w.heap.size w w') : OwnR B w' v rs := by
  obtain ⟨ps, h1, h2, h3⟩ := h
  exact ⟨ps, h1.kept (row := none) (below_by hb) (by cases v.ownBlock <;> simp), h2, fun i hi hi' => (h3 i hi hi').below hb⟩
theorem OwnR.new {B : Nat} {w : World} {v : Value} {rs : List (List Int × List (List Int))} (h : OwnR B w v rs) : New B w v := by
  obtain ⟨ps, h1, _⟩ := h
  exact h1.lt
theorem OwnR.sl {B : Nat} {w : World} {v : Value} {rs : List (List Int × List (List Int))} (h : OwnR B w v rs) : ∃ a c, v = .slice a rs.length c := by
  obtain ⟨ps, ⟨_, h1⟩, h2, _⟩ := h
  rcases h1 with ⟨rfl, h0⟩ | ⟨g, cap, cur, hv, _⟩
  · exact ⟨none, 0, by rw [← h2, h0]⟩
  · exact ⟨_, cap, by rw [hv, h2]⟩

theorem Tryz.infoRel : (Tryz.prog.info? 27).map (fun i => (i.zero, i.size, i.bytes)) = some (some (.agg #[.slice none 0 0, .slice none 0 0]), 2, 48) := by kernel_rfl

theorem op_app_rel {w : World} {o : Oper} {a : Act} {K : Act → World → Prop} {Q : Exit → Act → World → Prop} (s x : Operand)
    (ho : o.op = .call { callee := .builtin .append, args := #[s, x], argTypes := #[37, 37] }) {B : Nat} {v : Value} {rs : List (List Int × List (List Int))} {p : Value × Value} {r : List Int × List (List Int)} (hown : OwnR B w v rs) (hp : RelO (fun g => v.ownBlock = some g) w p r) (hs : a.eval s = v) (hB : B ≤ w.heap.size)
    (hx : a.eval x = .slice (some ⟨w.heap.size, 0, none⟩) 1 1) (hlen : rs.length < 100000000)
    (h : ∀ v' w', OwnR B w' v' (rs ++ [r]) → Grew B w w' v v' → K (a.put o.dst v') w') :
    o.wp Tryz.prog a (w.alloc (.cells #[p.1, p.2] 27)) K Q := by
  obtain ⟨i, hi, hz0, hz1, hz2⟩ := info_parts Tryz.infoRel
  obtain ⟨ps, h1, h2, h3⟩ := hown
  have hone1 := hp.1.1.one
  have hone2 : p.2.oneCell' = true := by obtain ⟨vs, k1, _⟩ := hp.2; exact k1.one
  refine op_append _ s x 37 ho B 27 i (.agg #[.slice none 0 0, .slice none 0 0]) 2 48 Tryz.underlying37 hi hz0 hz1 hz2 rfl (by decide) v ps.length (flat2 ps) hs (h1.alloc _) ⟨w.heap.size, 0, none⟩ 1 1 [p.1, p.2] hx rfl
    ?_ ?_ ?_ ?_ ?_ ?_
  · intro j u hj
    match j, hj with
    | 0, hj => simp at hj; subst hj; simp [Addr.add]
    | 1, hj => simp at hj; subst hj; simp [Addr.add]
  · intro u hu; simp at hu; rcases hu with rfl | rfl
    · exact hone1
    · exact hone2
  · unfold maxLen; omega
  · omega
  · simp; omega
  · intro v' w' hown' hgrow hat
    have hb0 : Below B w (w.alloc (.cells #[p.1, p.2] 27)) := (Below.refl B w).alloc hB _
    have hby : w.grownBy w' v.ownBlock := ⟨hgrow.os, hgrow.tape, hgrow.output, Nat.le_trans (by simp) hgrow.size, fun k hk hne => (hgrow.block k (by simp; omega) hne).trans (Below.heap_alloc _ _ _ hk)⟩
    have hX : ∀ g, g < w.heap.size → v'.ownBlock = some g → v.ownBlock = some g := by
      intro g hg e
      rcases hat with hat | hat
      · rw [← hat]; exact e
      · rw [hat] at e; simp at e; omega
    refine h v' w' ⟨ps ++ [p], by simpa [flat2] using hown', by simp [h2], fun j hj hj' => ?_⟩ ⟨hb0.grown hgrow (by simp; omega) (fun k hk => (h1.lt k hk).1), hby, ?_⟩
    · by_cases hjl : j < ps.length
      · rw [List.getElem_append_left hjl, List.getElem_append_left (by omega)]
        have hw := (h3 j hjl (by omega)).weaken hX
        refine ⟨⟨Seq.keptO (h3 j hjl (by omega)).1.1 (h3 j hjl (by omega)).1.2 hby (fun b e => e), hw.1.2.kept hby.size⟩, ?_⟩
        obtain ⟨vs, k1, k2, k3, k4⟩ := (h3 j hjl (by omega)).2
        exact ⟨vs, Seq.keptO k1 k2 hby (fun b e => e), (k2.weaken hX).kept hby.size, k3, fun m hm hm' => ⟨Seq.keptO (k4 m hm hm').1 (k4 m hm hm').2 hby (fun b e => e), ((k4 m hm hm').2.weaken hX).kept hby.size⟩⟩
      · have hje : j = ps.length := by simp at hj; omega
        subst hje
        have e1 : (ps ++ [p])[ps.length] = p := by simp
        have e2 : (rs ++ [r])[ps.length] = r := by simp [h2]
        rw [e1, e2]
        refine ⟨⟨Seq.keptO hp.1.1 hp.1.2 hby (fun b e => e), (hp.1.2.weaken hX).kept hby.size⟩, ?_⟩
        obtain ⟨vs, k1, k2, k3, k4⟩ := hp.2
        exact ⟨vs, Seq.keptO k1 k2 hby (fun b e => e), (k2.weaken hX).kept hby.size, k3, fun m hm hm' => ⟨Seq.keptO (k4 m hm hm').1 (k4 m hm hm').2 hby (fun b e => e), ((k4 m hm hm').2.weaken hX).kept hby.size⟩⟩
    · rcases hat with hat | hat
      · exact .inl hat
      · exact .inr ⟨_, hat, by simp⟩

end Go.Proofs.YtoiokplgkanepaaGreatDoor

namespace Go.Proofs.YtoiokplgkanepaaGreatDoor
open Go.RowKit
set_option linter.unusedVariables false
set_option linter.unusedSimpArgs false
set_option maxRecDepth 20000
attribute [local go_sem ↓] Go.wp_at_zero Go.wp_at_succ

theorem TupsO.lit (w : World) : TupsO (· < w.heap.size) (w.alloc (.cells #[] 22)) (.slice (some ⟨w.heap.size, 0, none⟩) 0 0) [] := by
  have h := OwnT.lit (w := w) (Nat.le_refl w.heap.size)
  obtain ⟨vs, h1, h2, h3⟩ := h.tups
  exact ⟨vs, h1, NotIn.of_new h.new, h2, fun i hi hi' => by simp at hi'⟩

theorem notin_ins {X : Nat → Prop} {W : World} {vs : List Value} {k : Nat} {u : Value} (h : ∀ i (hi : i < vs.length), NotIn X W vs[i]) (hu : NotIn X W u) : ∀ x, x ∈ vs.take k ++ [u] ++ vs.drop k → NotIn X W x := by
  intro x hx
  simp only [List.mem_append, List.mem_singleton] at hx
  rcases hx with (hx | rfl) | hx
  · obtain ⟨i, hi, rfl⟩ := List.getElem_of_mem (List.mem_of_mem_take hx); exact h i hi
  · exact hu
  · obtain ⟨i, hi, rfl⟩ := List.getElem_of_mem (List.mem_of_mem_drop hx); exact h i hi

set_option maxHeartbeats 8000000 in
theorem refSort_nw {ll : List (List Int)} {v : Value} {w : World} (h : Tups w v ll) (hlen : ll.length < 100000) (hrow : ∀ t ∈ ll, t.length < 100000000) :
    Calls Tryz.prog 19 #[v] w fun e w' => ∃ v, e = .returned v ∧ TupsO (· < w.heap.size) w' v (sortL ll) ∧ Below w.heap.size w w' := by
  obtain ⟨a, ca, rfl, hla, hca⟩ := h.form
  unfold maxLen at hca
  go_enter Tryz.func19, Tryz.ntmps19
  go_wp2
  go_loopw [3, 4] (fun v i wr => ∃ k : Nat, k ≤ ll.length ∧ i = .int .i64 k ∧ TupsO (· < w.heap.size) wr v (sortL (ll.take k)) ∧ Below w.heap.size w wr) (fun _ i _ => ll.length - (intOf i).toNat)
  case atStart => exact ⟨0, by omega, rfl, TupsO.lit w, (Below.refl _ _).alloc (Nat.le_refl _) _⟩
  case round =>
    obtain ⟨i, hi, rfl, hout, hbel⟩ := hrel
    have hz := hbel.size
    by_cases hilt : i < ll.length
    · obtain ⟨bl, ol, ul, rfl, hcl, hil⟩ := (h.below hbel).at hilt
      have hlilen : ll[i].length < 100000000000 := by have := hrow _ (List.getElem_mem hilt); omega
      obtain ⟨lia, lic, rfl, _, _⟩ := hil.form
      have HS := hide (sortL_snoc hilt)
      have hsl := sortL_le (ll.take i)
      have htl := List.length_take_le i ll
      obtain ⟨so, hso⟩ : ∃ so, so = sortL (ll.take i) := ⟨_, rfl⟩
      obtain ⟨li, hli⟩ : ∃ li, li = ll[i] := ⟨_, rfl⟩
      rw [← hso] at hout HS hsl
      rw [← hli] at hil HS hcl hlilen
      have hslen : so.length < 1000000 := by omega
      obtain ⟨ov, ocap, hov, hsol, hocap⟩ := hout.tups.form
      unfold maxLen at hocap
      rw [hov] at hout ⊢
      obtain ⟨vs, hsq, hnew, hvl, hrdO⟩ := hout
      have hrd : ∀ i (h : i < vs.length) (h' : i < so.length), Ints wr vs[i] so[i] := fun i h h' => (hrdO i h h').1
      have HNO := hide (fun i (h : i < vs.length) (h' : i < so.length) => (hrdO i h h').2)
      clear hrdO
      obtain ⟨c, hc0⟩ : ∃ c, c = lowN so li := ⟨_, rfl⟩
      have hcle : c ≤ so.length := by rw [hc0]; exact lowN_le _ _
      have HC0 := hide hc0
      clear h hso hli hsl htl hrow hc0 hov
      go_wp2
      go_loopw [5] (fun si wq => ∃ k n : Nat, k ≤ c ∧ si = .int .i64 k ∧ wq = wr.drewN n ∧ Hid (c = k + lowN (so.drop k) li)) (fun si _ => c - (intOf si).toNat)
      case atStart => exact ⟨0, 0, by omega, rfl, rfl, hide (by simpa using unhide HC0)⟩
      case round =>
        obtain ⟨k, n, hkc, rfl, rfl, Hck⟩ := hrel
        have hck := unhide Hck
        clear Hck
        by_cases hks : k < so.length
        · obtain ⟨bo, oo, e1, hco⟩ := hsq.at (k := k) (by omega)
          subst e1
          have hio := hrd k (by omega) hks
          obtain ⟨oa, oc, hoe, _, _⟩ := hio.form
          have HCMP := hide (fun n => refCompare_any (Seq.drewN hio n) (Seq.drewN hil n))
          obtain ⟨q, hq⟩ : ∃ q, q = cmpL so[k] li := ⟨_, rfl⟩
          rw [← hq] at HCMP
          simp only [id] at hco
          generalize vs[k] = ok at hco HCMP hio hoe
          by_cases hzq : q < 0
          · have hck' := hck
            rw [low_step hks (hq ▸ hzq)] at hck'
            have Hck : Hid (c = (k + 1) + lowN (so.drop (k + 1)) li) := hide (by omega)
            have hk1 : k + 1 ≤ c := by omega
            clear hck hck' hq hio hoe hsq hrd hil
            go_wp2
            go_quiet ((go_at_call 30; exact Calls.quiet_add (unhide HCMP _)))
            go_wp2
            go_roundw
            case rel => exact ⟨k + 1, _, hk1, by go_num, by first | rfl | (simp only [World.drewN_drewN]; rfl), Hck⟩
            case measure => simp [intOf]; omega
          · have hck' := hck
            rw [low_stop hks (hq ▸ hzq), Nat.add_zero] at hck'
            clear hck
            subst hck'
            have hzd : decide (q < 0) = false := by simpa using hzq
            by_cases hq0 : q = 0
            · have hq1 : (q == 0) = true := by simp [hq0]
              have HAT := hide (show isAt so li c = true by unfold isAt; rw [dif_pos hks, ← hq]; simp [hq0])
              have HSO := hide (show insL so li = so by unfold insL; rw [← unhide HC0, if_pos (unhide HAT)])
              have hfin := hide (fun W (hb : Below wr.heap.size wr W) => (TupsO.below (w' := W) (X := (· < w.heap.size)) ⟨vs, hsq, hnew, hvl, fun i h h' => ⟨hrd i h h', unhide HNO i h h'⟩⟩ hb))
              clear hq hio hoe hq0 hsq hrd hil
              go_wp2
              go_quiet ((go_at_call 30; exact Calls.quiet_add (unhide HCMP _)))
              go_wp2
              go_quiet ((go_at_call 30; exact Calls.quiet_add (unhide HCMP _)))
              go_wp2
              go_roundw
              case rel => exact ⟨i + 1, by omega, by go_num, by rw [unhide HS, unhide HSO]; exact unhide hfin _ (below_same rfl rfl rfl rfl), Below.drewN1 hbel _⟩
              case measure => simp [intOf]; omega
            · have hq1 : (q == 0) = false := by simp [hq0]
              have HAT := hide (show isAt so li c = false by unfold isAt; rw [dif_pos hks, ← hq]; simp [hq0])
              clear hq hio hoe hq0
              go_wp2
              go_quiet ((go_at_call 30; exact Calls.quiet_add (unhide HCMP _)))
              go_wp2
              go_quiet ((go_at_call 30; exact Calls.quiet_add (unhide HCMP _)))
              go_wp2
              have HSO := hide (show insL so li = so.take c ++ [li] ++ so.drop c by unfold insL; rw [← unhide HC0, if_neg (by rw [unhide HAT]; simp)])
              have HCOPY := hide (fun W (hb : Below wr.heap.size wr W) => refCopy_any (w := W) (hil.below hb) hlilen)
              have HK := hide (fun W (hb : Below wr.heap.size wr W) => Below.cell_of hb hcl)
              have HT := hide (fun W (hb : Below wr.heap.size wr W) => Seq.below (w' := W) (hsq.take (k := c) (by omega)) hb)
              have HD := hide (fun W (hb : Below wr.heap.size wr W) => Seq.below (w' := W) (hsq.drop (k := c) (by omega)) hb)
              have HR := hide (fun W (hb : Below wr.heap.size wr W) i hi hi' => Seq.below (w' := W) (hrd i hi hi') hb)
              have hcut := run_cutV (some ⟨bo, oo, none⟩) so.length ocap c c rfl (by omega)
              have hdrop := run_dropV (some ⟨bo, oo, none⟩) so.length ocap c c rfl (by omega)
              have HONE := hide (show ∀ y, y ∈ vs → y.oneCell' = true from fun y hy => by obtain ⟨i, hi, rfl⟩ := List.getElem_of_mem hy; exact (hrd i hi (by omega)).one)
              have HVL := hide hvl
              have Hsol := hide hsol
              have Hcle := hide hcle
              have HRD := hide (fun W (hb : Below wr.heap.size wr W) u (hu : Ints W u li) => reads_ins (k := c) hvl (fun i hi hi' => (hrd i hi hi').below hb) hu hcle)
              have HNE := hide (fun W (hz : wr.heap.size ≤ W.heap.size) u (hu : NotIn (· < w.heap.size) W u) => notin_ins (k := c) (vs := vs) (fun i hi => (unhide HNO i hi (by omega)).kept hz) hu)
              have hln : vs.length < 100000000 := by omega
              clear hsq hrd hil hvl hsol hcle
              go_region_held3 (fun w' => w'.cell? ⟨bl, ol + i, none⟩ = some (.slice lia li.length lic)) (first | exact unhide HK _ (by first | exact hB5 | exact hB4 | exact hB3.alloc hB3.size _ | exact hB3 | exact hB2 | exact below_push rfl rfl rfl rfl | exact below_same rfl rfl rfl rfl) | go_keep)
                (first
                  | (refine step_of rfl (op_app_rows (.tmp 47) (.tmp 50) rfl (B := wr.heap.size) (l := []) (by exact own_pushV (Nat.le_refl _) rfl) rfl (by simp) (unhide HT _ (by exact below_push rfl rfl rfl rfl)) rfl (fun y hy => unhide HONE y (List.mem_of_mem_take hy)) (by simp; omega) ?_); intro v1 w2 hown2 hgrew2; have hB2 : Below wr.heap.size wr w2 := Below.trans (by exact below_push rfl rfl rfl rfl) hgrew2.below)
                  | (go_at_call 33; refine (unhide HCOPY _ hB2).mono ?_; rintro e w3 ⟨u, rfl, hu3, hun3, hb3⟩; obtain ⟨ua, uc, hue, _, _⟩ := hu3.form; rw [hue] at hu3 hun3 ⊢; clear hue; have hB3 : Below wr.heap.size wr w3 := hB2.trans (hb3.mono hB2.size))
                  | (refine step_of rfl (op_app_row (.tmp 51) (.tmp 57) rfl (own_below hown2 hb3) rfl hB3.size rfl rfl (by simp; omega) ?_); intro v2 w4 hown4 hgrew4; have hB4 : Below wr.heap.size wr w4 := hB3.trans hgrew4.below)
                  | (refine step_of rfl (op_app_rows (.tmp 58) (.tmp 61) rfl hown4 rfl hB4.size (unhide HD _ hB4) rfl (fun y hy => unhide HONE y (List.mem_of_mem_drop hy)) (by simp; omega) ?_); intro v3 w5 hown5 hgrew5; have hB5 : Below wr.heap.size wr w5 := hB4.trans hgrew5.below))
              all_goals
                have hap4 : Apart (.slice ua li.length uc) li v1 := fun _ => (Sep.of_new (New.of_own hown2) (Nat.le_refl _) hun3).symm
                have hu4 := hu3.grew hgrew4 hap4
                have hu5 := hu4.grew hgrew5 (hap4.grew hu3 hgrew4)
                have hfin : TupsO (· < w.heap.size) w5 v3 (sortL (List.take (i + 1) ll)) := by
                  rw [unhide HS, unhide HSO]
                  have hr := unhide HRD w5 hB5 _ hu5
                  exact ⟨_, Seq.of_own (by simpa [OwnV] using hown5), NotIn.of_new ((New.of_own hown5).grow hz (Nat.le_refl _)), hr.1, fun i hi hi' => ⟨hr.2 i hi hi', unhide HNE w5 hB5.size _ (NotIn.of_new (hun3.grow (Nat.le_trans hz hB2.size) (Nat.le_trans hgrew4.below.size hgrew5.below.size))) _ (List.getElem_mem _)⟩⟩
                have hb5 := hbel.trans (hB5.mono hz)
                go_wp2
                go_roundw
                case rel => exact ⟨i + 1, by omega, by go_num, hfin, hb5⟩
                case measure => simp [intOf]; omega
        · rw [low_end (by omega), Nat.add_zero] at hck
          subst hck
          have HAT := hide (show isAt so li c = false by unfold isAt; rw [dif_neg hks])
          have hkd : decide (c < so.length) = false := by simpa using hks
          go_wp2
          go_quiet (fail)
          go_wp2
          go_quiet (fail)
          go_wp2
          have HSO := hide (show insL so li = so.take c ++ [li] ++ so.drop c by unfold insL; rw [← unhide HC0, if_neg (by rw [unhide HAT]; simp)])
          have HCOPY := hide (fun W (hb : Below wr.heap.size wr W) => refCopy_any (w := W) (hil.below hb) hlilen)
          have HK := hide (fun W (hb : Below wr.heap.size wr W) => Below.cell_of hb hcl)
          have HT := hide (fun W (hb : Below wr.heap.size wr W) => Seq.below (w' := W) (hsq.take (k := c) (by omega)) hb)
          have HD := hide (fun W (hb : Below wr.heap.size wr W) => Seq.below (w' := W) (hsq.drop (k := c) (by omega)) hb)
          have HR := hide (fun W (hb : Below wr.heap.size wr W) i hi hi' => Seq.below (w' := W) (hrd i hi hi') hb)
          have hcut := run_cutV ov so.length ocap c c rfl (by omega)
          have hdrop := run_dropV ov so.length ocap c c rfl (by omega)
          have HONE := hide (show ∀ y, y ∈ vs → y.oneCell' = true from fun y hy => by obtain ⟨i, hi, rfl⟩ := List.getElem_of_mem hy; exact (hrd i hi (by omega)).one)
          have HVL := hide hvl
          have Hsol := hide hsol
          have Hcle := hide hcle
          have HRD := hide (fun W (hb : Below wr.heap.size wr W) u (hu : Ints W u li) => reads_ins (k := c) hvl (fun i hi hi' => (hrd i hi hi').below hb) hu hcle)
          have HNE := hide (fun W (hz : wr.heap.size ≤ W.heap.size) u (hu : NotIn (· < w.heap.size) W u) => notin_ins (k := c) (vs := vs) (fun i hi => (unhide HNO i hi (by omega)).kept hz) hu)
          have hln : vs.length < 100000000 := by omega
          clear hsq hrd hil hvl hsol hcle
          go_region_held3 (fun w' => w'.cell? ⟨bl, ol + i, none⟩ = some (.slice lia li.length lic)) (first | exact unhide HK _ (by first | exact hB5 | exact hB4 | exact hB3.alloc hB3.size _ | exact hB3 | exact hB2 | exact below_push rfl rfl rfl rfl | exact below_same rfl rfl rfl rfl) | go_keep)
            (first
              | (refine step_of rfl (op_app_rows (.tmp 47) (.tmp 50) rfl (B := wr.heap.size) (l := []) (by exact own_pushV (Nat.le_refl _) rfl) rfl (by simp) (unhide HT _ (by exact below_push rfl rfl rfl rfl)) rfl (fun y hy => unhide HONE y (List.mem_of_mem_take hy)) (by simp; omega) ?_); intro v1 w2 hown2 hgrew2; have hB2 : Below wr.heap.size wr w2 := Below.trans (by exact below_push rfl rfl rfl rfl) hgrew2.below)
              | (go_at_call 33; refine (unhide HCOPY _ hB2).mono ?_; rintro e w3 ⟨u, rfl, hu3, hun3, hb3⟩; obtain ⟨ua, uc, hue, _, _⟩ := hu3.form; rw [hue] at hu3 hun3 ⊢; clear hue; have hB3 : Below wr.heap.size wr w3 := hB2.trans (hb3.mono hB2.size))
              | (refine step_of rfl (op_app_row (.tmp 51) (.tmp 57) rfl (own_below hown2 hb3) rfl hB3.size rfl rfl (by simp; omega) ?_); intro v2 w4 hown4 hgrew4; have hB4 : Below wr.heap.size wr w4 := hB3.trans hgrew4.below)
              | (refine step_of rfl (op_app_rows (.tmp 58) (.tmp 61) rfl hown4 rfl hB4.size (unhide HD _ hB4) rfl (fun y hy => unhide HONE y (List.mem_of_mem_drop hy)) (by simp; omega) ?_); intro v3 w5 hown5 hgrew5; have hB5 : Below wr.heap.size wr w5 := hB4.trans hgrew5.below))
          all_goals
            have hap4 : Apart (.slice ua li.length uc) li v1 := fun _ => (Sep.of_new (New.of_own hown2) (Nat.le_refl _) hun3).symm
            have hu4 := hu3.grew hgrew4 hap4
            have hu5 := hu4.grew hgrew5 (hap4.grew hu3 hgrew4)
            have hfin : TupsO (· < w.heap.size) w5 v3 (sortL (List.take (i + 1) ll)) := by
              rw [unhide HS, unhide HSO]
              have hr := unhide HRD w5 hB5 _ hu5
              exact ⟨_, Seq.of_own (by simpa [OwnV] using hown5), NotIn.of_new ((New.of_own hown5).grow hz (Nat.le_refl _)), hr.1, fun i hi hi' => ⟨hr.2 i hi hi', unhide HNE w5 hB5.size _ (NotIn.of_new (hun3.grow (Nat.le_trans hz hB2.size) (Nat.le_trans hgrew4.below.size hgrew5.below.size))) _ (List.getElem_mem _)⟩⟩
            have hb5 := hbel.trans (hB5.mono hz)
            go_wp2
            go_roundw
            case rel => exact ⟨i + 1, by omega, by go_num, hfin, hb5⟩
            case measure => simp [intOf]; omega
    · clear h
      have hii : i = ll.length := by omega
      subst hii
      rw [List.take_length] at hout
      go_wp2
      go_ret
      exact ⟨_, rfl, hout, hbel⟩

end Go.Proofs.YtoiokplgkanepaaGreatDoor

namespace Go.Proofs.YtoiokplgkanepaaGreatDoor
open Go.RowKit
set_option linter.unusedVariables false
set_option linter.unusedSimpArgs false
set_option maxRecDepth 20000

theorem set_by {w : World} {b i : Nat} (y : Value) : w.grownBy (w.setCell ⟨b, i, none⟩ y) (some b) := by
  have h := (Below.refl b w).setCell (p := ⟨b, i, none⟩) (Nat.le_refl _) y
  refine ⟨h.os, h.tape, h.output, h.size, fun k hk hne => ?_⟩
  exact heap_setCell_other w ⟨b, i, none⟩ k y (fun e => hne (by rw [e]))

theorem relO_store {X : Nat → Prop} {w : World} {b : Nat} {x y : Value} {r : List Int × List (List Int)} (h : RelO X w (x, y) r) (hX : X b) (u v : Value) : RelO X ((w.setCell ⟨b, 0, none⟩ u).setCell ⟨b, 1, none⟩ v) (x, y) r :=
  (h.kept (set_by u) (fun c e => by cases e; exact hX)).kept (set_by v) (fun c e => by cases e; exact hX)

set_option maxHeartbeats 8000000 in
theorem small3_nw {sc : List Int} {rows : List (List Int)} {vs v : Value} {w : World} (hs : Ints w vs sc) (h : Tups w v rows) :
    Calls Tryz.prog 6 #[vs, v] w fun e w' => ∃ x y, e = .returned (.agg #[x, y]) ∧ RelO (· < w.heap.size) w' (x, y) (smallS3 sc, smallR3 sc rows) ∧ Below w.heap.size w w' := by
  obtain ⟨a, ca, rfl, hla, hca⟩ := hs.form
  obtain ⟨b, cb, rfl, hlb, hcb⟩ := h.form
  unfold maxLen at hca hcb
  have hb0 := (Below.refl w.heap.size w).alloc (Nat.le_refl _) (.cells #[.slice none 0 0, .slice none 0 0] 27)
  have hbx := Box.new w (.slice none 0 0) (.slice none 0 0)
  have hz0 : w.heap.size + 1 = (w.alloc (.cells #[.slice none 0 0, .slice none 0 0] 27)).heap.size := by simp
  have HS := hide (hs.below hb0)
  have HT := hide (h.below hb0)
  have HZ := hide hz0
  obtain ⟨W0, hW0⟩ : ∃ W, W = w.alloc (.cells #[.slice none 0 0, .slice none 0 0] 27) := ⟨_, rfl⟩
  rw [← hW0] at hbx HS HT HZ hb0
  have HW0 := hide hW0
  clear hs h hW0 hz0
  go_enter Tryz.func6, Tryz.ntmps6
  go_wp2
  rw [← unhide HW0]
  go_loopw [5, 6] (fun v i wr => ∃ k : Nat, k ≤ sc.length ∧ k ≤ 3 ∧ i = .int .i64 k ∧ IntsO (· ≤ w.heap.size) wr v (riseL ((sc.take k).map (modL 5))) ∧ Below W0.heap.size W0 wr) (fun _ i _ => sc.length - (intOf i).toNat)
  case atStart => exact ⟨0, by omega, by omega, rfl, IntsO.nil _ _, Below.refl _ _⟩
  case round =>
    obtain ⟨k, hk, hk4, rfl, hout, hbel⟩ := hrel
    by_cases hkk : k < sc.length ∧ k < 3
    · obtain ⟨hkl, hk4'⟩ := hkk
      obtain ⟨bl, ol, rfl, hcl⟩ := ((unhide HS).below hbel).at hkl
      have HN := hide (show riseL ((sc.take (k + 1)).map (modL 5)) = joinL (riseL ((sc.take k).map (modL 5))) [modL 5 sc[k]] by rw [List.take_succ_eq_append_getElem hkl, List.map_append]; exact riseL_app _ _)
      have hb1 := (Below.refl wr.heap.size wr).alloc (Nat.le_refl _) (.cells #[.int .i64 (modL 5 sc[k])] 3)
      have hrl := riseL_le ((sc.take k).map (modL 5))
      have hrl2 : ((sc.take k).map (modL 5)).length ≤ 3 := by rw [List.length_map]; exact Nat.le_trans (List.length_take_le _ _) hk4
      generalize riseL ((sc.take k).map (modL 5)) = sk at hout HN hrl
      have HJ := hide (refJoin_any (hout.1.below hb1) (lit_one (W := wr) (modL 5 sc[k])) (by simp; omega))
      obtain ⟨oa, oc, hoe, _, _⟩ := hout.1.form
      rw [hoe] at HJ ⊢
      rw [show modL 5 sc[k] = (bits .and .i64 sc[k] 65535).tmod 5 from rfl] at HJ HN hb1
      have hz := hbel.size
      clear hout hoe
      go_wp2_with fail
      refine (unhide HJ).mono ?_
      rintro e w2 ⟨u, rfl, hu, hun, hb2⟩
      go_wp2
      go_roundw
      case rel => exact ⟨k + 1, by omega, by omega, by go_num, by rw [unhide HN]; exact ⟨hu, (NotIn.of_new hun).weaken fun g _ hg => by have h1 := unhide HZ; have h2 : g ≤ w.heap.size := hg; show g < _; simp; omega⟩, hbel.trans ((hb1.trans (hb2.mono (by simp))).mono hz)⟩
      case measure => simp [intOf]; omega
    · have hkd : Hid (riseL ((sc.take k).map (modL 5)) = smallS3 sc) := hide (by
        unfold smallS3
        rw [show sc.take k = sc.take 3 by rw [List.take_eq_take_iff]; omega])
      rw [unhide hkd] at hout
      have hS4 := smallS3_len sc
      have HR := hide (show smallR3 sc rows = sortL ((rows.take 12).map (smallT (smallS3 sc).length)) from rfl)
      obtain ⟨R, hRe⟩ : ∃ R, R = smallR3 sc rows := ⟨_, rfl⟩
      obtain ⟨s, hse⟩ : ∃ s, s = smallS3 sc := ⟨_, rfl⟩
      rw [← hRe, ← hse] at HR
      rw [← hse] at hout hS4 hkd
      have HRE := hide hRe
      have HSE := hide hse
      clear hRe hse
      obtain ⟨oa, oc, hoe, _, hoc⟩ := hout.1.form
      unfold maxLen at hoc
      rw [hoe] at hout ⊢
      have hbx1 := hbx.belowH hbel
      have ht1 := (unhide HT).below hbel
      clear hoe hkd hbx
      rename World => wA
      have hz1 := hbel.size
      have hbw := hb0.trans (hbel.mono (by have := unhide HZ; omega))
      have hwz : w.heap.size < wA.heap.size := hbx1.lt
      by_cases hkl : k < sc.length
      case' pos =>
        have hk4' : ¬ k < 3 := fun h => hkk ⟨hkl, h⟩
      all_goals
        clear hkk
        go_wp2
        go_loopw [7, 8, 9, 10] (fun v i _ _ wq => ∃ k : Nat, k ≤ rows.length ∧ k ≤ 12 ∧ i = .int .i64 k ∧ OwnT wA.heap.size wq v ((rows.take k).map (smallT s.length)) ∧ Below wA.heap.size wA wq) (fun _ i _ _ _ => rows.length - (intOf i).toNat)
        case atStart => exact ⟨0, by omega, by omega, rfl, OwnT.nil _ _, Below.refl _ _⟩
        case round =>
          obtain ⟨j, hj, hj20, rfl, hown, hbel2⟩ := hrel
          have hz2 := hbel2.size
          by_cases hjj : j < rows.length ∧ j < 12
          · obtain ⟨hjl, hj20'⟩ := hjj
            obtain ⟨bl, ol, ul, rfl, hcl, hiL⟩ := (ht1.below hbel2).at hjl
            obtain ⟨ia, ic, rfl, _, hic⟩ := hiL.form
            unfold maxLen at hic
            have HN := hide (show (rows.take (j + 1)).map (smallT s.length) = (rows.take j).map (smallT s.length) ++ [smallT s.length rows[j]] by rw [List.take_succ_eq_append_getElem hjl, List.map_append]; rfl)
            have hll : ((rows.take j).map (smallT s.length)).length ≤ 12 := by rw [List.length_map]; exact Nat.le_trans (List.length_take_le _ _) hj20
            generalize (rows.take j).map (smallT s.length) = L at hown HN hll
            have HRJ := hide (fun k2 (h1 : k2 ≤ s.length) (h2 : k2 ≤ rows[j].length) (h : ¬ (k2 < s.length ∧ k2 < rows[j].length)) => small_end (n := s.length) (r := rows[j]) h1 h2 h)
            have HST := hide (fun k2 (h1 : k2 < s.length) (h2 : k2 < rows[j].length) => small_set (n := s.length) (r := rows[j]) h1 h2)
            rename World => wB
            go_wp2_with (at_make; refine wp_make_ints rfl _ _ rfl (Nat.le_refl _) rfl rfl (by omega) ?_; intro w3 hown3 hb3)
            go_loopw [10] (fun i wi => ∃ k2 : Nat, k2 ≤ s.length ∧ k2 ≤ rows[j].length ∧ i = .int .i64 k2 ∧ OwnI wB.heap.size wi (.slice (some ⟨wB.heap.size, 0, none⟩) s.length s.length) ((rows[j].take k2).map (modL 3) ++ List.replicate (s.length - k2) 0) ∧ Below wB.heap.size wB wi) (fun i _ => s.length - (intOf i).toNat)
            case atStart => exact ⟨0, by omega, by omega, rfl, by simpa using hown3, hb3⟩
            case round =>
              clear hown3 hb3
              obtain ⟨k2, hk2, hk2r, rfl, howni, hbel3⟩ := hrel
              have hz3 := hbel3.size
              by_cases hkk : k2 < s.length ∧ k2 < rows[j].length
              · obtain ⟨hka, hkb⟩ := hkk
                obtain ⟨bi, oi, e1, hci⟩ := (hiL.below hbel3).at hkb
                subst e1
                have hclw := Below.cell_of hbel3 hcl
                obtain ⟨⟨old, hcell⟩, hfr, hset, hbs⟩ := own_setI howni (by simp; omega) (i := k2) hka (modL 3 rows[j][k2])
                rw [unhide HST k2 hka hkb] at hset
                rw [show modL 3 rows[j][k2] = (bits .and .i64 rows[j][k2] 65535).tmod 3 from rfl] at hset hbs
                clear howni hiL hcl ht1 hout HST HRJ
                go_wp2
                go_roundw
                case rel => exact ⟨k2 + 1, by omega, by omega, by go_num, hset, hbel3.trans hbs⟩
                case measure => simp [intOf]; omega
              · have he := unhide HRJ k2 hk2 hk2r hkk
                have hclw := Below.cell_of hbel3 hcl
                have hok : Hid (decide (k2 < s.length) = false ∨ (k2 < s.length ∧ ¬ k2 < rows[j].length)) := hide (by
                  by_cases h1 : k2 < s.length
                  · exact .inr ⟨h1, fun h2 => hkk ⟨h1, h2⟩⟩
                  · exact .inl (by simpa using h1))
                rw [he] at howni
                clear he HST HRJ hiL hkk hcl
                have hti := Seq.of_own howni
                have hnt := New.of_own howni
                have hownL := hown.below hbel3
                have hap := hide (show Sep _ _ from (Sep.of_new hown.new (Nat.le_refl _) hnt).symm)
                have hzz := Nat.le_trans hz2 hz3
                generalize smallT s.length rows[j] = T at howni hti HN
                rcases unhide hok with h1 | ⟨h1, h2⟩
                all_goals
                  clear hok hown howni ht1 hout
                  go_wp2_with (at_builtin; refine wp_app_tup rfl (.tmp 70) (.tmp 72) rfl hownL hti (fun _ => unhide hap) rfl hzz rfl (by omega) ?_; intro v' w4 hown4 hgrew)
                  go_roundw
                  case rel => exact ⟨j + 1, by omega, by omega, by go_num, by rw [unhide HN]; exact hown4, (hbel2.trans (hbel3.mono hz2)).trans hgrew.below⟩
                  case measure => simp [intOf]; omega
          · have hF : (rows.take j).map (smallT s.length) = (rows.take 12).map (smallT s.length) := by
              rw [show rows.take j = rows.take 12 by rw [List.take_eq_take_iff]; omega]
            rw [hF] at hown
            have hlen20 : ((rows.take 12).map (smallT s.length)).length ≤ 12 := by rw [List.length_map]; exact List.length_take_le _ _
            have HSRT := hide (refSort_nw hown.tups (by omega) (fun t ht => by
              obtain ⟨x, _, rfl⟩ := List.mem_map.1 ht
              rw [smallT_len]; omega))
            rw [← unhide HR] at HSRT
            have hok : Hid (decide (j < rows.length) = false ∨ (j < rows.length ∧ ¬ j < 12)) := hide (by
              by_cases h1 : j < rows.length
              · exact .inr ⟨h1, fun h2 => hjj ⟨h1, h2⟩⟩
              · exact .inl (by simpa using h1))
            have hbx2 := hbx1.belowH hbel2
            have hout2 := hout.below hbel2
            obtain ⟨va, vn, vc, hve⟩ := hown.sl
            rw [hve] at HSRT ⊢
            clear hF hlen20 hown hve hjj ht1 hout hbx1
            rcases unhide hok with h1 | ⟨h1, h2⟩
            all_goals
              clear hok
              go_wp2_with fail
              refine (unhide HSRT).mono ?_
              rintro e w5 ⟨u5, rfl, hu5, hb5⟩
              obtain ⟨ra, rc, hre, _, _⟩ := hu5.tups.form
              rw [hre] at hu5 ⊢
              have hbx3 := hbx2.belowH hb5
              have hd0 := hbx3.cell0
              have hd1 := hbx3.cell1
              have hg0 := hbx3.frozen 0
              have hg1 := hbx3.frozen 1
              have hout3 := hout2.below hb5
              have hbl := (hbw.trans (hbel2.mono (by omega))).trans (hb5.mono (by omega))
              clear hre
              go_wp2
              have hfin := relO_store (r := (s, R)) (b := w.heap.size) ⟨hout3, hu5.weaken (Y := (· ≤ w.heap.size)) (fun g _ hg => by have h2 : g ≤ w.heap.size := hg; have h3 := hbel2.size; show g < _; omega)⟩ (Nat.le_refl _) (.slice oa s.length oc) (.slice ra R.length rc)
              refine bodyPost_ret (v := .agg #[.slice oa s.length oc, .slice ra R.length rc]) (by simp [results, Tryz.results6, go_sem, hd0, hd1]) rfl ⟨_, _, rfl, by rw [← unhide HSE, ← unhide HRE]; exact hfin.weaken (fun g _ hg => Nat.le_of_lt hg), below_store hbl (by omega) _ _⟩

end Go.Proofs.YtoiokplgkanepaaGreatDoor

namespace Go.Proofs.YtoiokplgkanepaaGreatDoor
open Go.RowKit
set_option linter.unusedVariables false
set_option linter.unusedSimpArgs false
set_option maxRecDepth 20000

/-- The slice value v reads in w as these relations. -/
def RelS (w : World) (v : Value) (rs : List (List Int × List (List Int))) : Prop :=
  ∃ a cap, v = .slice a rs.length cap ∧ rs.length ≤ cap ∧ cap ≤ maxLen ∧ ∀ i (h : i < rs.length), ∃ b off x y, a = some ⟨b, off, none⟩ ∧ w.cell? ⟨b, off + i * 2, none⟩ = some x ∧ w.cell? ⟨b, off + i * 2 + 1, none⟩ = some y ∧ RelV w (.agg #[x, y]) rs[i].1 rs[i].2

theorem RelS.below {w w' : World} {v : Value} {rs : List (List Int × List (List Int))} (h : RelS w v rs) (hb : Below w.heap.size w w') : RelS w' v rs := by
  obtain ⟨a, cap, h1, h2, h3, h4⟩ := h
  refine ⟨a, cap, h1, h2, h3, fun i hi => ?_⟩
  obtain ⟨b, off, x, y, k1, k2, k3, k4⟩ := h4 i hi
  exact ⟨b, off, x, y, k1, Below.cell_of hb k2, Below.cell_of hb k3, k4.below hb⟩

theorem RelS.nil (w : World) : RelS w (.slice none 0 0) [] := ⟨none, 0, rfl, by simp, by simp [maxLen], fun i h => by simp at h⟩

def stepR (A r : List Int × List (List Int)) : List Int × List (List Int) := (joinL A.1 r.1, joinR A.1 A.2 r.1 r.2)
def allR (rs : List (List Int × List (List Int))) : List Int × List (List Int) := rs.foldl stepR ([], [[]])
theorem all_snoc {rs : List (List Int × List (List Int))} {k : Nat} (hk : k < rs.length) : allR (rs.take (k + 1)) = stepR (allR (rs.take k)) rs[k] := by
  unfold allR
  rw [List.take_succ_eq_append_getElem hk, List.foldl_append]; rfl
/-- How many rows join number k has. -/
def cntR (rs : List (List Int × List (List Int))) (k : Nat) : Nat := (pairR (allR (rs.take k)).1 (allR (rs.take k)).2 (rs.getD k ([], [])).1 (rs.getD k ([], [])).2).length

theorem cnt_at {rs : List (List Int × List (List Int))} {k : Nat} (hk : k < rs.length) : cntR rs k = (pairR (allR (rs.take k)).1 (allR (rs.take k)).2 rs[k].1 rs[k].2).length := by
  unfold cntR; rw [List.getD_eq_getElem?_getD, List.getElem?_eq_getElem hk]; rfl

theorem all_fine {rs : List (List Int × List (List Int))} (hrs : ∀ r ∈ rs, Fine r.1 r.2 12 ∧ r.1.length ≤ 3) (h5 : rs.length ≤ 5) : ∀ k, k ≤ rs.length → Fine (allR (rs.take k)).1 (allR (rs.take k)).2 (allR (rs.take k)).2.length ∧ (allR (rs.take k)).1.length ≤ 3 * k
  | 0, _ => ⟨fine_unit, Nat.le_refl _⟩
  | k + 1, hk => by
    obtain ⟨h1, h2⟩ := all_fine hrs h5 k (by omega)
    have hkl : k < rs.length := by omega
    obtain ⟨g, g3⟩ := hrs rs[k] (List.getElem_mem hkl)
    have hj := h1.join g (by omega)
    have hs := joinS_le 0 h1.asc g.asc
    rw [all_snoc hkl]
    exact ⟨⟨hj.asc, hj.pos, hj.asl, hj.wide, hj.slen, Nat.le_refl _, hj.dig⟩, by show (joinL _ _).length ≤ _; omega⟩

theorem Box.set0 {w : World} {b : Nat} {x y : Value} (h : Box w b x y) (z : Value) : Box (w.setCell ⟨b, 0, none⟩ z) b z y := by
  unfold Box at h ⊢
  rw [heap_setCell_same w b 0 _ _ z h]; simp

theorem box_keep {w : World} {c : Nat} {x y : Value} (h : Box w c x y) {b i : Nat} (hne : c ≠ b) (z : Value) : Box (w.setCell ⟨b, i, none⟩ z) c x y := by
  unfold Box at h ⊢
  rw [heap_setCell_other w ⟨b, i, none⟩ c z hne]; exact h

set_option maxHeartbeats 1000000 in
theorem unitN_any (w : World) : Calls Tryz.prog 40 #[] w fun e w' => ∃ x y, e = .returned (.agg #[x, y]) ∧ RelV w' (.agg #[x, y]) [] [[]] ∧ (∀ b, b < w.heap.size → y.ownBlock ≠ some b) ∧ Below w.heap.size w w' := by
  go_enter Tryz.func40, Tryz.ntmps40
  go_wp2
  refine bodyPost_ret (v := .agg #[.slice (some ⟨w.heap.size + 1, 0, none⟩) 0 0, .slice (some ⟨w.heap.size + 1 + 1 + 1, 0, none⟩) 1 1]) (by simp [results, Tryz.results40, go_sem]) rfl ⟨_, _, rfl, ⟨_, _, rfl, ?_, ?_⟩, ?_, ?_⟩
  · exact litI_at (c := #[]) (e := 3) (fr := (0, 0)) (by simp only [alloc_at, World.size_alloc]; simp) rfl rfl (by simp)
  · refine ⟨[.slice (some ⟨w.heap.size + 1 + 1, 0, none⟩) 0 0], litT_at (c := #[.slice (some ⟨w.heap.size + 1 + 1, 0, none⟩) 0 0]) (e := 22) (fr := (0, 0)) (by simp only [alloc_at, World.size_alloc]; simp) rfl rfl (by simp), rfl, fun i hi hi' => ?_⟩
    match i, hi, hi' with
    | 0, _, _ => exact litI_at (c := #[]) (e := 3) (fr := (0, 0)) (by simp only [alloc_at, World.size_alloc]; simp) rfl rfl (by simp)
  · intro b hb e
    have : w.heap.size + 1 + 1 + 1 = b := by simpa [Value.ownBlock] using e
    omega
  · exact ((((Below.refl _ _).alloc (Nat.le_refl _) _).alloc (by simp) _).alloc (by simp; omega) _).alloc (by simp; omega) _

/-- What All answers. -/
def AllEnds (w' : World) (e : Ending) (rs : List (List Int × List (List Int))) (most : Int) : Prop :=
  (∃ x y, e = .returned (.tuple #[.agg #[x, y], .int .i64 0]) ∧ RelV w' (.agg #[x, y]) (allR rs).1 (allR rs).2 ∧ ∀ k, k < rs.length → (cntR rs k : Int) ≤ most) ∨
  (e = .returned (.tuple #[.agg #[.slice none 0 0, .slice none 0 0], .int .i64 9]) ∧ ∃ k, k < rs.length ∧ (∀ j, j < k → (cntR rs j : Int) ≤ most) ∧ most < (cntR rs k : Int))

set_option maxHeartbeats 16000000 in
theorem all_any {rs : List (List Int × List (List Int))} {v : Value} {most : Int} {w : World} (h : RelS w v rs) (hrs : ∀ r ∈ rs, Fine r.1 r.2 12 ∧ r.1.length ≤ 3) (h5 : rs.length ≤ 5) (hbd : ∀ k, k < rs.length → (∀ j, j < k → (cntR rs j : Int) ≤ most) → (allR (rs.take k)).2.length ≤ 5000) :
    Calls Tryz.prog 16 #[v, .int .i64 most] w fun e w' => AllEnds w' e rs most ∧ Below w.heap.size w w' := by
  have hb0 := (Below.refl w.heap.size w).alloc (Nat.le_refl _) (.cells #[.slice none 0 0, .slice none 0 0] 27)
  have hbx := Box.new w (.slice none 0 0) (.slice none 0 0)
  obtain ⟨W0, hW0⟩ : ∃ W, W = w.alloc (.cells #[.slice none 0 0, .slice none 0 0] 27) := ⟨_, rfl⟩
  rw [← hW0] at hb0 hbx
  have HU := hide (unitN_any W0)
  have HS := hide (fun W (hb : Below w.heap.size w W) => h.below hb)
  have HFI := hide (all_fine hrs h5)
  have HRS := hide hrs
  have HBD := hide hbd
  obtain ⟨a, cap, rfl, hc1, hc2, _⟩ := h
  unfold maxLen at hc2
  have HW0 := hide hW0
  have hz0 := hbx.lt
  clear hW0 hrs hbd
  go_enter Tryz.func16, Tryz.ntmps16
  go_wp2_with fail
  rw [← unhide HW0]
  refine (unhide HU).mono ?_
  rintro e w1 ⟨x1, y1, rfl, hr1, hn1, hb1⟩
  obtain ⟨ua, uc, ub, ud, hue, _, _, _, _, _, _⟩ := hr1.form
  have hue' : Value.agg #[x1, y1] = .agg #[.slice ua 0 uc, .slice ub 1 ud] := hue
  cases hue'
  have hbel1 := hb0.trans (hb1.mono hb0.size)
  have hz1 := hbel1.size
  have hzw1 : w.heap.size < w1.heap.size := Nat.lt_of_lt_of_le hz0 hb1.size
  have hbs := (Below.refl w1.heap.size w1).alloc (Nat.le_refl _) (.cells #[.slice ua 0 uc, .slice ub 1 ud] 27)
  have hx6 := Box.new w1 (.slice ua 0 uc) (.slice ub 1 ud)
  have hr6 := hr1.below hbs
  have hb6 := hbel1.trans (hbs.mono hz1)
  have hbx6 := (hbx.belowH hb1).push (.cells #[.slice ua 0 uc, .slice ub 1 ud] 27)
  have hn6 := hn1 w.heap.size hz0
  clear HU hr1 hb1 hbs hue hn1 hbx hb0
  go_wp2
  go_loopw [8, 9, 10, 14] (fun _ _ _ i wr => ∃ (k : Nat) (xa xb : Option Addr) (xn xc yn yc : Nat), k ≤ rs.length ∧ i = .int .i64 k ∧ Box wr w1.heap.size (.slice xa xn xc) (.slice xb yn yc) ∧ RelV wr (.agg #[.slice xa xn xc, .slice xb yn yc]) (allR (rs.take k)).1 (allR (rs.take k)).2 ∧ Box wr w.heap.size (.slice none 0 0) (.slice none 0 0) ∧ (Value.slice xb yn yc).ownBlock ≠ some w.heap.size ∧ Below w.heap.size w wr ∧ ∀ j, j < k → (cntR rs j : Int) ≤ most) (fun _ _ _ i _ => rs.length - (intOf i).toNat)
  case atStart => exact ⟨0, ua, ub, 0, uc, 1, ud, by omega, rfl, hx6, hr6, hbx6, hn6, hb6, fun j hj => by omega⟩
  case round =>
    clear hx6 hr6 hbx6 hn6 hb6
    obtain ⟨k, xa, xb, xn, xc, yn, yc, hk, rfl, hx, hr, hbo, hne, hbel, hmo⟩ := hrel
    have hz := hbel.size
    have hxl := hx.lt
    by_cases hkl : k < rs.length
    · obtain ⟨a', cap', ha, _, _, hat⟩ := unhide HS _ hbel
      cases ha
      obtain ⟨bl, ol, rx, ry, hae, hcx, hcy, hrk⟩ := hat k hkl
      subst hae
      obtain ⟨ra, rc, rb, rd, hre, _, _, _, _, _, _⟩ := hrk.form
      cases hre
      have hg := (unhide HFI k (by omega)).1
      have hgk := (unhide HRS rs[k] (List.getElem_mem hkl)).1
      have hle := unhide HBD k hkl hmo
      have hbs := (Below.refl wr.heap.size wr).alloc (Nat.le_refl _) (.cells #[.slice ra rs[k].1.length rc, .slice rb rs[k].2.length rd] 27)
      have HJ := hide (join_any (most := most) (hr.below hbs) (hrk.below hbs) hg hgk (by omega) (by omega) (by omega))
      have HCN := hide (cnt_at hkl)
      have HSN := hide (all_snoc hkl)
      have HXX := hide hx
      have hd0 := (hx.push (.cells #[.slice ra rs[k].1.length rc, .slice rb rs[k].2.length rd] 27)).cell0
      have hd1 := (hx.push (.cells #[.slice ra rs[k].1.length rc, .slice rb rs[k].2.length rd] 27)).cell1
      have hgl := hg.llen
      rw [← unhide HCN] at HJ
      obtain ⟨S', hS'⟩ : ∃ S', S' = joinL (allR (rs.take k)).1 rs[k].1 := ⟨_, rfl⟩
      obtain ⟨J', hJ'⟩ : ∃ J', J' = joinR (allR (rs.take k)).1 (allR (rs.take k)).2 rs[k].1 rs[k].2 := ⟨_, rfl⟩
      rw [← hS', ← hJ'] at HJ
      have HS' := hide hS'
      have HJ' := hide hJ'
      obtain ⟨cn, hcn⟩ : ∃ c, c = cntR rs k := ⟨_, rfl⟩
      rw [← hcn] at HJ
      have HC := hide hcn
      generalize rs[k].1.length = rn at *
      generalize rs[k].2.length = rm at *
      clear hg hgk hr hrk hx hS' hJ' hcn hat HCN
      go_wp2_with fail
      refine (unhide HJ).mono ?_
      rintro e w3 ⟨hE, hb3⟩
      have hB3 := below_then hbs hb3
      have hx3 := (unhide HXX).belowH hB3
      have hbo3 := hbo.belowH hB3
      have hbel3 := below_then hbel hB3
      rcases hE with ⟨x, y, rfl, hrj, hle2, hnew⟩ | ⟨rfl, hgt⟩
      · obtain ⟨ja, jc, jb, jd, hje, _, _, _, _, hji, hjt⟩ := hrj.form
        cases hje
        have hx4 := hx3.push (.cells #[.slice ja S'.length jc, .slice jb J'.length jd] 27)
        have hbo4 := hbo3.push (.cells #[.slice ja S'.length jc, .slice jb J'.length jd] 27)
        have hpb := (Below.refl w3.heap.size w3).alloc (Nat.le_refl _) (.cells #[.slice ja S'.length jc, .slice jb J'.length jd] 27)
        have hq0 := hx4.cell0
        have hq1 := hx4.cell1
        have hf0 := hx4.frozen 0
        have hf1 := hx4.frozen 1
        have hfin := hide (rel_store hx4.boxS hq0 (hji.below hpb) (hjt.below hpb) (hnew _ (by simp; omega)))
        have hbx5 := hide ((hx4.set0 (.slice ja S'.length jc)).set1 (.slice jb J'.length jd))
        have hbel4 := hide (below_store ((below_then hbel3 hpb)) (b := w1.heap.size) (by omega) (.slice ja S'.length jc) (.slice jb J'.length jd))
        have hbo5 := hide (box_keep (box_keep hbo4 (b := w1.heap.size) (i := 0) (by omega) (.slice ja S'.length jc)) (b := w1.heap.size) (i := 1) (by omega) (.slice jb J'.length jd))
        have hne5 := hide (hnew w.heap.size (by simp; omega))
        clear HJ hrj hji hjt hd0 hd1 hnew
        go_wp2
        go_roundw
        case rel => exact ⟨k + 1, ja, jb, S'.length, jc, J'.length, jd, by omega, by go_num, unhide hbx5, by rw [unhide HSN]; unfold stepR; rw [← unhide HS', ← unhide HJ']; exact unhide hfin, unhide hbo5, unhide hne5, unhide hbel4, fun j hj => by
          rcases Nat.lt_or_ge j k with h | h
          · exact hmo j h
          · have : j = k := by omega
            subst this
            rw [← unhide HC]; exact hle2⟩
        case measure => simp [intOf]; omega
      · have hbo4 := hbo3.push (.cells #[.slice none 0 0, .slice none 0 0] 27)
        have hpb := (Below.refl w3.heap.size w3).alloc (Nat.le_refl _) (.cells #[.slice none 0 0, .slice none 0 0] 27)
        have hq0 := hbo4.cell0
        have hq1 := hbo4.cell1
        have hf0 := hbo4.frozen 0
        have hf1 := hbo4.frozen 1
        have hbel4 := below_then hbel3 hpb
        clear HJ hd0 hd1
        go_wp2
        refine bodyPost_ret (v := .tuple #[.agg #[.slice none 0 0, .slice none 0 0], .int .i64 9]) (by simp [results, Tryz.results16, go_sem, hq0, hq1]) rfl ⟨.inr ⟨rfl, k, hkl, hmo, by rw [← unhide HC]; exact hgt⟩, below_store hbel4 (Nat.le_refl _) _ _⟩
    · have hkk : k = rs.length := by omega
      subst hkk
      rw [List.take_length] at hr
      obtain ⟨ja, jc, jb, jd, hje, _, _, _, _, hji, hjt⟩ := hr.form
      cases hje
      have hq0 := hx.cell0
      have hq1 := hx.cell1
      have hp0 := hbo.cell0
      have hp1 := hbo.cell1
      have hf0 := hbo.frozen 0
      have hf1 := hbo.frozen 1
      have hfin := hide (rel_store hbo.boxS hp0 hji hjt hne)
      have hbl := hide (below_store hbel (Nat.le_refl _) (.slice xa (allR rs).1.length xc) (.slice xb (allR rs).2.length yc))
      generalize (allR rs).1.length = sn at *
      generalize (allR rs).2.length = sm at *
      clear hr hji hjt hx
      go_wp2
      refine bodyPost_ret (v := .tuple #[.agg #[.slice xa sn xc, .slice xb sm yc], .int .i64 0]) (by simp [results, Tryz.results16, go_sem, hp0, hp1]) rfl ⟨.inl ⟨_, _, rfl, unhide hfin, hmo⟩, unhide hbl⟩

end Go.Proofs.YtoiokplgkanepaaGreatDoor

namespace Go.Proofs.YtoiokplgkanepaaGreatDoor
open Go.RowKit Go.ChangeShapes Go.WideShapes Go.ChangeAt
set_option linter.unusedVariables false
set_option linter.unusedSimpArgs false
set_option maxRecDepth 20000

theorem list_of {α : Type} {p : Nat → α → Prop} : ∀ (n : Nat), (∀ i, i < n → ∃ x, p i x) → ∃ l : List α, l.length = n ∧ ∀ i (h : i < l.length), p i l[i]
  | 0, _ => ⟨[], rfl, fun i h => by simp at h⟩
  | n + 1, h => by
    obtain ⟨l, h1, h2⟩ := list_of n (fun i hi => h i (by omega))
    obtain ⟨x, hx⟩ := h n (by omega)
    refine ⟨l ++ [x], by simp [h1], fun i hi => ?_⟩
    by_cases hil : i < l.length
    · rw [List.getElem_append_left hil]; exact h2 i hil
    · have e : i = l.length := by simp at hi; omega
      subst e
      rw [List.getElem_append_right (by omega)]
      simpa [h1] using hx

theorem spot_none {w : World} {a : Addr} {v : Value} (h : w.cell? (a.add (0 * 2)) = some v) : a.spot = none := by
  simp only [Addr.add, Nat.zero_mul, if_true, World.cell?] at h
  split at h
  · split at h
    · cases h
    · rename_i hs; cases hx : a.spot with
      | none => rfl
      | some y => rw [hx] at hs; simp at hs
  · cases h

/-- A slice of Parts that is handed in. -/
theorem read_parts {H : Type} {enc : TypeId × Value → H} {W : World} {v : Value} {d : DataW H} {ps : List MemPlace} {base : Nat} {held : Bool} (h : DataW.Trod enc Tryz.prog W base (fun _ => true) held 36 v d ps) (hv : ∃ a n c, v = .slice a n c) :
    ∃ rs, RelS W v rs := by
  obtain ⟨a, n, c, rfl⟩ := hv
  obtain ⟨fuel, hf⟩ := h
  obtain ⟨f0, f1, hu, ⟨o0, t0⟩, o1, t1⟩ := part_fields
  rcases Go.Deep.open_slice_pairs Tryz.underlying36 hu partCells o0 o1 (by rw [t0]; exact relCells.2.1) (by rw [t1]; exact relCells.2.2) hf with ⟨hcs, _⟩ | ⟨x, len, cap, m, q, V0, V1, D0, D1, P0, P1, hcs, _, hl, hm, hmm, _, hx⟩
  · simp [Value.cells] at hcs
    obtain ⟨rfl, rfl, rfl⟩ := hcs
    exact ⟨[], RelS.nil _⟩
  · simp [Value.cells] at hcs
    obtain ⟨rfl, rfl, rfl⟩ := hcs
    obtain ⟨rs, hrl, hrs⟩ := list_of (p := fun i (r : List Int × List (List Int)) => ∃ b off x' y', some x = some (⟨b, off, none⟩ : Addr) ∧ W.cell? ⟨b, off + i * 2, none⟩ = some x' ∧ W.cell? ⟨b, off + i * 2 + 1, none⟩ = some y' ∧ RelV W (.agg #[x', y']) r.1 r.2) n (fun i hi => by
      obtain ⟨h0, h1, g0, g1⟩ := hx i (by rw [hmm]; simp; omega)
      have hs := spot_none (hx 0 (by rw [hmm]; simp; omega)).1
      rw [addr_add hs] at h0 h1
      rw [t0] at g0
      rw [t1] at g1
      obtain ⟨s, hs', _⟩ := read_intsC g0
      obtain ⟨ll, hl', _⟩ := read_tupsC g1
      obtain ⟨xb, xo, xs⟩ := x
      simp only at hs
      subst hs
      exact ⟨(s, ll), xb, xo, V0 i, V1 i, rfl, h0, by rw [← Nat.add_assoc] at h1; exact h1, _, _, rfl, hs', hl'⟩)
    exact ⟨rs, some x, c, by rw [hrl], by omega, hm, hrs⟩

/-- The relations that are made of Parts: five at most. -/
def partR (r : List Int × List (List Int)) : List Int × List (List Int) := (smallS3 r.1, smallR3 r.1 r.2)
def partsR (l : List (List Int × List (List Int))) : List (List Int × List (List Int)) := (l.take 5).map partR

theorem partsR_fine (l : List (List Int × List (List Int))) : ∀ r ∈ partsR l, Fine r.1 r.2 12 ∧ r.1.length ≤ 3 := by
  intro r hr
  obtain ⟨x, _, rfl⟩ := List.mem_map.1 hr
  exact ⟨fine_small x.1 x.2, smallS3_len x.1⟩
theorem partsR_len (l : List (List Int × List (List Int))) : (partsR l).length ≤ 5 := by unfold partsR; rw [List.length_map]; exact List.length_take_le _ _

theorem OwnR.relS {B : Nat} {w : World} {v : Value} {rs : List (List Int × List (List Int))} (h : OwnR B w v rs) : RelS w v rs := by
  obtain ⟨ps, ⟨hl, h1⟩, h2, h3⟩ := h
  rcases h1 with ⟨rfl, h0⟩ | ⟨g, cap, cur, hv, hg, hh, hn, hm, hs, ht⟩
  · have : rs = [] := List.length_eq_zero_iff.1 (by omega)
    subst this
    exact RelS.nil _
  · refine ⟨_, cap, by rw [hv, h2], by omega, hm, fun i hi => ⟨g, 0, ps[i].1, ps[i].2, rfl, ?_, ?_, (h3 i (by omega) hi).rel⟩⟩
    · have e := flat2_at0 ps i (by omega)
      rw [← ht, List.getElem?_take] at e
      split at e
      · simp only [World.cell?, hh]; simpa using e
      · cases e
    · have e := flat2_at1 ps i (by omega)
      rw [← ht, List.getElem?_take] at e
      split at e
      · simp only [World.cell?, hh]; simpa using e
      · cases e

set_option maxHeartbeats 8000000 in
theorem parts_any {l : List (List Int × List (List Int))} {v : Value} {w : World} (h : RelS w v l) : Calls Tryz.prog 15 #[v] w fun e w' => ∃ u, e = .returned u ∧ RelS w' u (partsR l) ∧ Below w.heap.size w w' := by
  have HS := hide (fun W (hb : Below w.heap.size w W) => h.below hb)
  obtain ⟨a, cap, rfl, hc1, hc2, _⟩ := h
  unfold maxLen at hc2
  go_enter Tryz.func15, Tryz.ntmps15
  go_wp2
  go_loopw [3, 4] (fun ov i wr => ∃ k : Nat, k ≤ l.length ∧ k ≤ 5 ∧ i = .int .i64 k ∧ OwnR w.heap.size wr ov ((l.take k).map partR) ∧ Below w.heap.size w wr) (fun _ i _ => l.length - (intOf i).toNat)
  case atStart => exact ⟨0, by omega, by omega, rfl, OwnR.nil _ _, Below.refl _ _⟩
  case round =>
    obtain ⟨k, hk, hk5, rfl, hown, hbel⟩ := hrel
    obtain ⟨oa, oc, hoe⟩ := hown.sl
    have hz := hbel.size
    rw [hoe] at hown ⊢
    clear hoe
    by_cases hkk : k < l.length ∧ k < 5
    · obtain ⟨hkl, hk5'⟩ := hkk
      obtain ⟨a', cap', ha, _, _, hat⟩ := unhide HS w (Below.refl _ _)
      cases ha
      obtain ⟨bl, ol, rx, ry, hae, hcx, hcy, hrk⟩ := hat k hkl
      subst hae
      obtain ⟨_, _, hre, hi, ht⟩ := hrk
      cases hre
      have HN := hide (show (l.take (k + 1)).map partR = (l.take k).map partR ++ [partR l[k]] by rw [List.take_succ_eq_append_getElem hkl, List.map_append]; rfl)
      have HSM := hide (fun W (hb : Below w.heap.size w W) => small3_nw (hi.below hb) (ht.below hb))
      have HK := hide (fun W (hb : Below w.heap.size w W) => And.intro (Below.cell_of hb hcx) (Below.cell_of hb hcy))
      have hll : ((l.take k).map partR).length ≤ 5 := by rw [List.length_map]; exact Nat.le_trans (List.length_take_le _ _) hk5
      have hpr : partR l[k] = (smallS3 l[k].1, smallR3 l[k].1 l[k].2) := rfl
      rw [← hpr] at HSM
      generalize partR l[k] = r at *
      generalize (l.take k).map partR = L at *
      have hbR := hbel
      have HOW := hide hown
      clear hi ht hat hcx hcy hpr hown
      go_wp2
      go_region_held3 (fun W => W.cell? ⟨bl, ol + k * 2, none⟩ = some rx ∧ W.cell? ⟨bl, ol + k * 2 + 1, none⟩ = some ry)
        (first | exact unhide HK _ (by first | exact hB5 | exact hB3 | exact hbR | exact below_then hbR (below_same rfl rfl rfl rfl) | exact below_then hB3 (below_push rfl rfl rfl rfl) | exact below_then hB5 (below_same rfl rfl rfl rfl) | exact below_then hB3 (below_same rfl rfl rfl rfl)))
        (first
          | (go_at_call 6; refine (unhide HSM _ (by first | exact hbR | exact below_then hbR (below_same rfl rfl rfl rfl))).mono ?_; rintro e w3 ⟨x3, y3, rfl, hR3, hb3⟩; have hB3 : Below w.heap.size w w3 := below_then (by first | exact hbR | exact below_then hbR (below_same rfl rfl rfl rfl)) hb3; have hown3 : OwnR w.heap.size w3 _ L := OwnR.below (by first | exact unhide HOW | exact OwnR.below (unhide HOW) (below_same rfl rfl rfl rfl)) hb3; have hP3 : RelO (fun g => (Value.slice oa L.length oc).ownBlock = some g) w3 (x3, y3) r := hR3.weaken (fun g _ hg => ((unhide HOW).new g hg).2); clear hb3 hR3)
          | (refine step_of rfl (op_app_rel (p := (x3, y3)) (.tmp 15) (.tmp 27) rfl hown3 hP3 rfl hB3.size rfl (by omega) ?_); intro v5 w5 hown5 hgrew5; have hB5 : Below w.heap.size w w5 := hB3.trans hgrew5.below))
      all_goals
        go_wp2
        go_roundw
        case rel => exact ⟨k + 1, by omega, by omega, by go_num, by rw [unhide HN]; exact hown5, hB5⟩
        case measure => simp [intOf]; omega
    · have hF : (l.take k).map partR = partsR l := by
        unfold partsR
        rw [show l.take k = l.take 5 by rw [List.take_eq_take_iff]; omega]
      rw [hF] at hown ⊢
      have hfin := hide hown.relS
      have hok : Hid (decide (k < l.length) = false ∨ (k < l.length ∧ ¬ k < 5)) := hide (by
        by_cases h1 : k < l.length
        · exact .inr ⟨h1, fun h2 => hkk ⟨h1, h2⟩⟩
        · exact .inl (by simpa using h1))
      generalize (partsR l).length = n at *
      clear hF hown hkk
      rcases unhide hok with h1 | ⟨h1, h2⟩
      all_goals
        clear hok
        go_wp2
        go_ret
        exact ⟨_, rfl, unhide hfin, hbel⟩

end Go.Proofs.YtoiokplgkanepaaGreatDoor

namespace Go.Proofs.YtoiokplgkanepaaGreatDoor
open Go.RowKit
set_option linter.unusedVariables false
set_option linter.unusedSimpArgs false
set_option maxRecDepth 20000

theorem getR_at {s t : List Int} (hn : s.Nodup) (hl : t.length = s.length) {k : Nat} (hk : k < s.length) (hk' : k < t.length) : getR s t s[k] = t[k] := by
  have h := List.getElem_of_eq (map_getR hn hl) (i := k) (by simpa using hk)
  simpa using h

set_option maxHeartbeats 2000000 in
theorem refFit_any {s t u v : List Int} {vs vt vu vv : Value} {w : World} (hs : Ints w vs s) (ht : Ints w vt t) (hu : Ints w vu u) (hv : Ints w vv v) (hn : s.Nodup) (hst : t.length = s.length) (huv : v.length = u.length) :
    Calls Tryz.prog 28 #[vs, vt, vu, vv] w fun e w' => e = .returned (.bool (fitB s u t v)) ∧ ∃ n, w' = w.drewN n := by
  obtain ⟨a, ca, rfl, hla, hca⟩ := hs.form
  obtain ⟨b, cb, rfl, hlb, hcb⟩ := ht.form
  obtain ⟨c, cc, rfl, hlc, hcc⟩ := hu.form
  obtain ⟨d, cd, rfl, hld, hcd⟩ := hv.form
  unfold maxLen at hca hcb hcc hcd
  obtain ⟨q, hq⟩ : ∃ q, q = fitB s u t v := ⟨_, rfl⟩
  rw [← hq]
  have HPl := hide (fun n (m : Nat) => refPlace_any (n := n) (hu.drewN m))
  have HQ := hide hq
  have HS := hide hs
  have HT := hide ht
  have HV := hide hv
  have HN := hide hn
  have HST := hide hst
  have HUV := hide huv
  have hst1 : s.length ≤ t.length := by omega
  have huv1 : u.length ≤ v.length := by omega
  clear hq hs ht hu hv hn hst huv
  go_enter Tryz.func28, Tryz.ntmps28
  go_wp2
  go_loopw [9, 10] (fun i _ wr => ∃ k n : Nat, k ≤ s.length ∧ i = .int .i64 k ∧ wr = w.drewN n ∧ Hid (∀ j (hj : j < s.length) (hj' : j < t.length), j < k → s[j] ∈ u → t[j] = getR u v s[j])) (fun i _ _ => s.length - (intOf i).toNat)
  case atStart => exact ⟨0, 0, by omega, rfl, rfl, hide (fun j _ _ h => by omega)⟩
  case round =>
    obtain ⟨k, m, hk, rfl, rfl, HC⟩ := hrel
    by_cases hlt : k < s.length
    · have hkt : k < t.length := by omega
      obtain ⟨bs, os, rfl, hcs⟩ := (unhide HS).at hlt
      obtain ⟨bt, ot, rfl, hct⟩ := (unhide HT).at hkt
      have HP := hide (unhide HPl s[k] m)
      have hgk := getR_at (unhide HN) (unhide HST) hlt hkt
      rcases placeL_cases u s[k] with ⟨hp, hnm⟩ | ⟨j, hj, hp, hju, _⟩
      · rw [hp] at HP
        have HC2 : Hid (∀ j (hj : j < s.length) (hj' : j < t.length), j < k + 1 → s[j] ∈ u → t[j] = getR u v s[j]) := hide (fun j hj hj' hjk hm => by
          rcases Nat.lt_or_ge j k with h | h
          · exact HC.out j hj hj' h hm
          · have : j = k := by omega
            subst this; exact absurd hm hnm)
        clear HC hp hnm hgk
        go_wp2_with (go_at_call 50; refine (unhide HP).mono ?_; rintro e w' ⟨rfl, rfl⟩)
        go_quiet (fail)
        go_wp2
        go_roundw
        case rel => exact ⟨k + 1, _, by omega, by go_num, by first | rfl | (simp only [World.drewN_drewN]; rfl), HC2⟩
        case measure => simp [intOf]; omega
      · rw [hp] at HP
        have hjv : j < v.length := by omega
        obtain ⟨bv, ov, rfl, hcv⟩ := (unhide HV).at hjv
        have hgv : getR u v s[k] = v[j] := by unfold getR; rw [hp]; simp [hjv]
        by_cases he : v[j] = t[k]
        · have hne : (v[j] != t[k]) = false := by simp [he]
          have HC2 : Hid (∀ j (hj : j < s.length) (hj' : j < t.length), j < k + 1 → s[j] ∈ u → t[j] = getR u v s[j]) := hide (fun j' hj' hj'' hjk hm => by
            rcases Nat.lt_or_ge j' k with h | h
            · exact HC.out j' hj' hj'' h hm
            · have : j' = k := by omega
              subst this; rw [hgv, he])
          clear HC hp hju hgk hgv he
          go_wp2_with (go_at_call 50; refine (unhide HP).mono ?_; rintro e w' ⟨rfl, rfl⟩)
          go_quiet (fail)
          go_wp2
          go_roundw
          case rel => exact ⟨k + 1, _, by omega, by go_num, by first | rfl | (simp only [World.drewN_drewN]; rfl), HC2⟩
          case measure => simp [intOf]; omega
        · have hne : (v[j] != t[k]) = true := by simpa using he
          have HF : Hid (q = false) := hide (by
            rw [unhide HQ]
            cases hf : fitB s u t v with
            | false => rfl
            | true =>
              have := fit_iff.1 hf s[k] (List.getElem_mem _) (by rw [← hju]; exact List.getElem_mem _)
              rw [hgk, hgv] at this
              exact absurd this.symm he)
          clear HC hp hju hgk hgv he
          go_wp2_with (go_at_call 50; refine (unhide HP).mono ?_; rintro e w' ⟨rfl, rfl⟩)
          go_quiet (fail)
          go_wp2
          go_ret
          exact ⟨ret_bool (by rw [HF.out]), by first | exact ⟨_, rfl⟩ | (simp only [World.drewN_drewN]; exact ⟨_, rfl⟩)⟩
    · have HF : Hid (q = true) := hide (by
        rw [unhide HQ]
        refine fit_iff.2 fun x hx hxu => ?_
        obtain ⟨i, hi, rfl⟩ := List.getElem_of_mem hx
        have hit : i < t.length := by omega
        rw [getR_at (unhide HN) (unhide HST) hi hit]
        exact HC.out i hi hit (by omega) hxu)
      clear HC
      go_wp2
      go_ret
      exact ⟨ret_bool (by rw [HF.out]), _, rfl⟩

/-- What Both lays at a variable. -/
def bothF (s u t v : List Int) (x : Int) : Int := if x ∈ s then getR s t x else getR u v x

set_option maxHeartbeats 4000000 in
theorem refBoth_any {s t u v al : List Int} {vs vt vu vv va : Value} {w : World} (hs : Ints w vs s) (ht : Ints w vt t) (hu : Ints w vu u) (hv : Ints w vv v) (ha : Ints w va al) (hst : t.length = s.length) (huv : v.length = u.length) (hall : ∀ x ∈ al, x ∈ s ∨ x ∈ u) (hal : al.length < 100000) :
    Calls Tryz.prog 29 #[vs, vt, vu, vv, va] w fun e w' => ∃ x, e = .returned x ∧ Ints w' x (al.map (bothF s u t v)) ∧ New w.heap.size w' x ∧ Below w.heap.size w w' := by
  obtain ⟨a, ca, rfl, hla, hca⟩ := hs.form
  obtain ⟨b, cb, rfl, hlb, hcb⟩ := ht.form
  obtain ⟨c, cc, rfl, hlc, hcc⟩ := hu.form
  obtain ⟨d, cd, rfl, hld, hcd⟩ := hv.form
  obtain ⟨g, cg, rfl, hlg, hcg⟩ := ha.form
  unfold maxLen at hca hcb hcc hcd hcg
  have HPs := hide (fun W (hb : Below w.heap.size w W) n => refPlace_any (n := n) (hs.below hb))
  have HPu := hide (fun W (hb : Below w.heap.size w W) n => refPlace_any (n := n) (hu.below hb))
  have HT := hide (fun W (hb : Below w.heap.size w W) => ht.below hb)
  have HV := hide (fun W (hb : Below w.heap.size w W) => hv.below hb)
  have HA := hide (fun W (hb : Below w.heap.size w W) => ha.below hb)
  have hst1 : s.length ≤ t.length := by omega
  have huv1 : u.length ≤ v.length := by omega
  have HAL := hide hall
  have hown0 := own_litI (B := w.heap.size) (Nat.le_refl w.heap.size)
  have HO0 := hide hown0
  clear hs ht hu hv ha hst huv hall hown0
  go_enter Tryz.func29, Tryz.ntmps29
  go_wp2
  go_loopw [11, 12, 13] (fun ov i _ wr => ∃ k : Nat, k ≤ al.length ∧ i = .int .i64 k ∧ OwnI w.heap.size wr ov ((al.take k).map (bothF s u t v)) ∧ Below w.heap.size w wr) (fun _ i _ _ => al.length - (intOf i).toNat)
  case atStart => exact ⟨0, by omega, rfl, unhide HO0, (Below.refl _ _).alloc (Nat.le_refl _) _⟩
  case round =>
    clear HO0
    obtain ⟨k, hk, rfl, hown, hbel⟩ := hrel
    rename World => wr
    have hzw := hbel.size
    by_cases hlt : k < al.length
    · obtain ⟨bg, og, rfl, hcg'⟩ := (unhide HA wr hbel).at hlt
      have HPS := hide (unhide HPs wr hbel al[k])
      have HPU := hide (unhide HPu wr hbel al[k])
      have hlen : ((al.take k).map (bothF s u t v)).length ≤ k := by rw [List.length_map]; exact List.length_take_le _ _
      have HNX : Hid ((al.take (k + 1)).map (bothF s u t v) = (al.take k).map (bothF s u t v) ++ [bothF s u t v al[k]]) := hide (by rw [List.take_succ_eq_append_getElem hlt, List.map_append]; rfl)
      generalize (al.take k).map (bothF s u t v) = L at *
      have HBE := hide hbel
      rcases placeL_cases s al[k] with ⟨hp, hnm⟩ | ⟨j, hj, hp, hju, _⟩
      · have hmu := (unhide HAL al[k] (List.getElem_mem _)).resolve_left hnm
        obtain ⟨j, hj, hp2, hju⟩ := place_mem hmu
        rw [hp] at HPS
        rw [hp2] at HPU
        have hjv : j < v.length := by omega
        obtain ⟨bv, ov, rfl, hcv⟩ := (unhide HV wr hbel).at hjv
        have hval : bothF s u t v al[k] = v[j] := by unfold bothF; rw [if_neg hnm]; unfold getR; rw [hp2]; simp [hjv]
        rw [hval] at HNX
        have HOW := hide hown
        clear hp hnm hmu hp2 hju hval hbel hown
        go_wp2_with fail
        refine (unhide HPS).mono ?_
        rintro e w' ⟨rfl, rfl⟩
        go_wp2_with fail
        refine (unhide HPU).mono ?_
        rintro e w' ⟨rfl, rfl⟩
        go_wp2_with (at_builtin; refine wp_app_int rfl (.tmp 36) (.tmp 46) rfl (unhide HOW) rfl hzw rfl (by omega) ?_; intro v' w3 hown4 hgrew)
        go_roundw
        case rel => exact ⟨k + 1, by omega, by go_num, by rw [unhide HNX]; exact hown4, (unhide HBE).trans hgrew.below⟩
        case measure => simp [intOf]; omega
      · rw [hp] at HPS
        have hjt : j < t.length := by omega
        obtain ⟨bt, ot, rfl, hct⟩ := (unhide HT wr hbel).at hjt
        have hval : bothF s u t v al[k] = t[j] := by unfold bothF; rw [if_pos (by rw [← hju]; exact List.getElem_mem _)]; unfold getR; rw [hp]; simp [hjt]
        rw [hval] at HNX
        have HOW := hide hown
        clear hp hju hval hbel hown
        go_wp2_with fail
        refine (unhide HPS).mono ?_
        rintro e w' ⟨rfl, rfl⟩
        go_wp2_with (at_builtin; refine wp_app_int rfl (.tmp 29) (.tmp 34) rfl (unhide HOW) rfl hzw rfl (by omega) ?_; intro v' w3 hown4 hgrew)
        go_roundw
        case rel => exact ⟨k + 1, by omega, by go_num, by rw [unhide HNX]; exact hown4, (unhide HBE).trans hgrew.below⟩
        case measure => simp [intOf]; omega
    · have hkl : k = al.length := by omega
      rw [hkl, List.take_length] at hown
      have HOW := hide hown
      clear hown
      go_wp2
      go_ret
      exact ⟨_, rfl, Seq.of_own (unhide HOW), New.of_own (unhide HOW), hbel⟩

end Go.Proofs.YtoiokplgkanepaaGreatDoor

namespace Go.Proofs.YtoiokplgkanepaaGreatDoor
open Go.RowKit
set_option linter.unusedVariables false
set_option linter.unusedSimpArgs false
set_option maxRecDepth 20000

/-- The rows that are made while the outer loop is at i, the inner one at k. -/
def pairK (s : List Int) (la : List (List Int)) (u : List Int) (lb : List (List Int)) (i k : Nat) (t : List Int) : List (List Int) := pairR s (la.take i) u lb ++ ((lb.take k).filter (fitB s u t)).map (bothR s u t)
theorem pairK_zero (s : List Int) (la : List (List Int)) (u : List Int) (lb : List (List Int)) (i : Nat) (t : List Int) : pairK s la u lb i 0 t = pairR s (la.take i) u lb := by simp [pairK]
theorem pairK_end {s : List Int} {la : List (List Int)} {u : List Int} {lb : List (List Int)} {i : Nat} (hi : i < la.length) : pairK s la u lb i lb.length la[i] = pairR s (la.take (i + 1)) u lb := by
  unfold pairK pairR
  rw [List.take_length, List.take_succ_eq_append_getElem hi, List.flatMap_append]
  simp
theorem pairK_yes {s : List Int} {la : List (List Int)} {u : List Int} {lb : List (List Int)} {i k : Nat} {t : List Int} (hk : k < lb.length) (h : fitB s u t lb[k] = true) : pairK s la u lb i (k + 1) t = pairK s la u lb i k t ++ [bothR s u t lb[k]] := by
  unfold pairK
  rw [List.take_succ_eq_append_getElem hk, List.filter_append, List.map_append, List.append_assoc]
  simp [List.filter_cons, h]
theorem pairK_no {s : List Int} {la : List (List Int)} {u : List Int} {lb : List (List Int)} {i k : Nat} {t : List Int} (hk : k < lb.length) (h : fitB s u t lb[k] = false) : pairK s la u lb i (k + 1) t = pairK s la u lb i k t := by
  unfold pairK
  rw [List.take_succ_eq_append_getElem hk, List.filter_append, List.map_append]
  simp [List.filter_cons, h]
theorem pairK_len {s : List Int} {la : List (List Int)} {u : List Int} {lb : List (List Int)} {i k : Nat} {t : List Int} (hi : i ≤ la.length) : (pairK s la u lb i k t).length ≤ (la.length + 1) * lb.length := by
  have h1 : ∀ l : List (List Int), (pairR s l u lb).length ≤ l.length * lb.length := by
    intro l
    induction l with
    | nil => simp [pairR]
    | cons x r ih =>
      have e : pairR s (x :: r) u lb = (lb.filter (fitB s u x)).map (bothR s u x) ++ pairR s r u lb := by simp [pairR]
      have hf := List.length_filter_le (fitB s u x) lb
      rw [e, List.length_append, List.length_map, List.length_cons, Nat.add_mul, Nat.one_mul]
      omega
  unfold pairK
  have h2 := h1 (la.take i)
  have h3 := List.length_filter_le (fitB s u t) (lb.take k)
  have h4 : (la.take i).length * lb.length ≤ la.length * lb.length := Nat.mul_le_mul_right _ (by rw [List.length_take]; omega)
  have h5 : (lb.take k).length ≤ lb.length := by rw [List.length_take]; omega
  rw [List.length_append, List.length_map, Nat.add_mul, Nat.one_mul]
  omega

theorem pair_wide {s u : List Int} {la lb : List (List Int)} {t : List Int} (h : t ∈ pairR s la u lb) : t.length = (joinL s u).length := by
  unfold pairR at h
  obtain ⟨x, _, hx⟩ := List.mem_flatMap.1 h
  obtain ⟨y, _, rfl⟩ := List.mem_map.1 hx
  simp [bothR]
theorem Box.set0' {w : World} {b : Nat} {x y : Value} (h : Box w b x y) (z : Value) : Box (w.setCell ⟨b, 0, none⟩ z) b z y := by
  unfold Box at *
  rw [heap_setCell_same w b 0 _ _ z h]; simp
theorem litN {n : Nat} {w : World} (hn : n = w.heap.size) : OwnT w.heap.size (w.alloc (.cells #[] 22)) (.slice (some ⟨n, 0, none⟩) 0 0) [] := by
  subst hn
  exact OwnT.lit (Nat.le_refl _)

set_option maxHeartbeats 8000000 in
theorem refJoin3_nw {s u : List Int} {la lb : List (List Int)} {v v' : Value} {w : World} (h : RelV w v s la) (h' : RelV w v' u lb) (hn : s.Nodup) (hwa : ∀ t ∈ la, t.length = s.length) (hwb : ∀ t ∈ lb, t.length = u.length) (hsl : s.length < 10000) (hul : u.length < 10000) (hjl : (joinL s u).length < 100000) (hll : (la.length + 1) * lb.length < 100000) (hlal : la.length < 100000) (hlbl : lb.length < 100000) :
    Calls Tryz.prog 8 #[v, v'] w fun e w' => ∃ x y, e = .returned (.agg #[x, y]) ∧ RelV w' (.agg #[x, y]) (joinL s u) (joinR s la u lb) ∧ (∀ b, b < w.heap.size → y.ownBlock ≠ some b) ∧ Below w.heap.size w w' := by
  obtain ⟨a, ca, b, cb, rfl, k1, k2, k3, k4, hs1, ht1⟩ := h.form
  obtain ⟨a', ca', b', cb', rfl, k1', k2', k3', k4', hs2, ht2⟩ := h'.form
  unfold maxLen at k2 k4 k2' k4'
  obtain ⟨W0, hW0⟩ : ∃ W, W = ((w.alloc (.cells #[.slice a s.length ca, .slice b la.length cb] 27)).alloc (.cells #[.slice a' u.length ca', .slice b' lb.length cb'] 27)).alloc (.cells #[.slice none 0 0, .slice none 0 0] 27) := ⟨_, rfl⟩
  have hb0 : Below w.heap.size w W0 := by rw [hW0]; exact (b2x w _ _).alloc (by simp; omega) _
  have x0 : Box W0 w.heap.size (.slice a s.length ca) (.slice b la.length cb) := by rw [hW0]; exact ((Box.new w _ _).push _).push _
  have x1 : Box W0 (w.heap.size + 1) (.slice a' u.length ca') (.slice b' lb.length cb') := by
    rw [hW0]; have := (Box.new (w.alloc (.cells #[.slice a s.length ca, .slice b la.length cb] 27)) (.slice a' u.length ca') (.slice b' lb.length cb')).push (.cells #[.slice none 0 0, .slice none 0 0] 27); simpa using this
  have x2 : Box W0 (w.heap.size + 1 + 1) (.slice none 0 0) (.slice none 0 0) := by
    rw [hW0]; have := Box.new ((w.alloc (.cells #[.slice a s.length ca, .slice b la.length cb] 27)).alloc (.cells #[.slice a' u.length ca', .slice b' lb.length cb'] 27)) (.slice none 0 0) (.slice none 0 0); simpa using this
  replace hs1 := hs1.below hb0
  replace hs2 := hs2.below hb0
  replace ht1 := ht1.below hb0
  replace ht2 := ht2.below hb0
  have HU := hide (refJoin_any hs1 hs2 (by omega))
  have HW0 := hide hW0
  have hz0 := hb0.size
  clear hW0 h h'
  have c00 := x0.cell0
  have c10 := x1.cell0
  go_enter Tryz.func8, Tryz.ntmps8
  go_wp2_with fail
  rw [← unhide HW0]
  refine (unhide HU).mono ?_
  rintro e w1 ⟨vJ, rfl, rJ, nJ, hb1⟩
  clear HW0 HU c00 c10
  obtain ⟨ja, jc, rfl, _, _⟩ := rJ.form
  obtain ⟨J, hJ⟩ : ∃ J, J = joinL s u := ⟨_, rfl⟩
  rw [← hJ] at rJ nJ ⊢
  replace x0 := x0.belowH hb1
  replace x1 := x1.belowH hb1
  replace x2 := x2.belowH hb1
  have HLT1 := hide (show w.heap.size + 1 + 1 < w1.heap.size from x2.lt)
  replace hs1 := hs1.below hb1
  replace hs2 := hs2.below hb1
  replace ht1 := ht1.below hb1
  replace ht2 := ht2.below hb1
  have pb := (Below.refl _ w1).alloc (Nat.le_refl _) (.cells #[.slice ja J.length jc, .slice none 0 0] 27)
  have x5 := Box.new w1 (.slice ja J.length jc) (.slice none 0 0)
  replace x0 := x0.belowH pb
  replace x1 := x1.belowH pb
  replace x2 := x2.belowH pb
  replace hs1 := hs1.below pb
  replace hs2 := hs2.below pb
  replace ht1 := ht1.below pb
  replace ht2 := ht2.below pb
  replace rJ := rJ.below pb
  have hbb := below_then (below_then hb0 hb1) pb
  obtain ⟨Wb, hWb⟩ : ∃ W, W = w1.alloc (.cells #[.slice ja J.length jc, .slice none 0 0] 27) := ⟨_, rfl⟩
  have hz5 : w1.heap.size + 1 = Wb.heap.size := by rw [hWb]; simp
  rw [← hWb] at x0 x1 x2 x5 hs1 hs2 ht1 ht2 rJ hbb
  have HX := hide (fun W (hb : Below Wb.heap.size Wb W) => And.intro (x0.belowH hb) (And.intro (x1.belowH hb) (And.intro (x5.belowH hb) (x2.belowH hb))))
  have HR := hide (fun W (hb : Below Wb.heap.size Wb W) => And.intro (hs1.below hb) (And.intro (hs2.below hb) (And.intro (ht1.below hb) (And.intro (ht2.below hb) (rJ.below hb)))))
  have HWb := hide hWb
  have HBB := hide hbb
  have HJ := hide hJ
  have HWA := hide hwa
  have HWB := hide hwb
  have HN := hide hn
  have HLL := hide hll
  have HZ5 := hide hz5
  have HLT := hide (show w.heap.size + 1 + 1 < Wb.heap.size from x2.lt)
  clear x0 x1 x2 x5 hs1 hs2 ht1 ht2 rJ hbb pb hWb hJ hwa hwb hn hll hb0 hb1 nJ hz5
  go_wp2
  rw [← unhide HWb]
  clear HWb
  go_loopw [6, 7, 8, 9] (fun ov i _ _ wr => ∃ k : Nat, k ≤ la.length ∧ i = .int .i64 k ∧ OwnT Wb.heap.size wr ov (pairR s (la.take k) u lb) ∧ Below Wb.heap.size Wb wr) (fun _ i _ _ _ => la.length - (intOf i).toNat)
  case atStart => exact ⟨0, by omega, rfl, litN (unhide HZ5), (Below.refl _ _).alloc (Nat.le_refl _) _⟩
  case round =>
    have HZ5' := HZ5
    clear HZ5
    obtain ⟨k, hk, rfl, hown, hbr⟩ := hrel
    rename World => wr
    obtain ⟨x0, x1, x5, x2⟩ := unhide HX wr hbr
    have c01 := x0.cell1
    have hown' := hown
    by_cases hlt : k < la.length
    · rw [← pairK_zero s la u lb k la[k]] at hown'
      have HOW := hide hown'
      have HBR := hide hbr
      clear hown hown' x0 x1 x5 x2 hbr
      go_wp2
      go_loopw [6, 8, 9] (fun ov i _ wq => ∃ k2 : Nat, k2 ≤ lb.length ∧ i = .int .i64 k2 ∧ OwnT Wb.heap.size wq ov (pairK s la u lb k k2 la[k]) ∧ Below Wb.heap.size Wb wq) (fun _ i _ _ => lb.length - (intOf i).toNat)
      case atStart => exact ⟨0, by omega, rfl, unhide HOW, unhide HBR⟩
      case round =>
        clear HOW HBR c01
        obtain ⟨k2, hk2, rfl, hown, hbq⟩ := hrel
        rename World => wq
        obtain ⟨x0, x1, x5, x2⟩ := unhide HX wq hbq
        obtain ⟨hs1, hs2, ht1, ht2, rJ⟩ := unhide HR wq hbq
        have c00 := x0.cell0
        have c01 := x0.cell1
        have c10 := x1.cell0
        have c11 := x1.cell1
        have c50 := x5.cell0
        have hzq := hbq.size
        by_cases hlt2 : k2 < lb.length
        · obtain ⟨_, _, t1b, t2b, _⟩ := unhide HR Wb (Below.refl _ _)
          obtain ⟨ba, oa, ua, rfl, hub1, hia1⟩ := t1b.at hlt
          obtain ⟨bb, ob, ub, rfl, hub2, hib1⟩ := t2b.at hlt2
          have hua := Below.cell_of hbq hub1
          have hub := Below.cell_of hbq hub2
          have hia := hia1.below hbq
          have hib := hib1.below hbq
          clear t1b t2b
          have HF := hide (fun n => refFit_any (hs1.drewN n) (hia.drewN n) (hs2.drewN n) (hib.drewN n) (unhide HN) (unhide HWA _ (List.getElem_mem _)) (unhide HWB _ (List.getElem_mem _)))
          cases hf : fitB s u la[k] lb[k2] with
          | false =>
            rw [hf] at HF
            have HNX := hide (pairK_no (s := s) (la := la) (u := u) (i := k) hlt2 hf)
            have HOW := hide hown
            have HBQ := hide hbq
            clear hf hown hbq x0 x1 x5 x2 hs1 hs2 ht1 ht2 rJ hia hib
            go_wp2
            go_quiet ((go_at_call 28; exact Calls.quiet_of (unhide HF _)))
            go_wp2
            go_roundw
            case rel => exact ⟨k2 + 1, by omega, by go_num, by rw [unhide HNX]; exact (unhide HOW).below (Below.drewN _ _), Below.drewN1 (unhide HBQ) _⟩
            case measure => simp [intOf]; omega
          | true =>
            rw [hf] at HF
            have HNX := hide (pairK_yes (s := s) (la := la) (u := u) (i := k) hlt2 hf)
            have hlenK : (pairK s la u lb k k2 la[k]).length < 100000 := Nat.lt_of_le_of_lt (pairK_len hk) (unhide HLL)
            have HK := hide (fun W (hb : Below Wb.heap.size Wb W) => And.intro (unhide HX W hb).1.cell0 (And.intro (unhide HX W hb).1.cell1 (And.intro (unhide HX W hb).2.1.cell0 (And.intro (unhide HX W hb).2.1.cell1 (And.intro (unhide HX W hb).2.2.1.cell0 (And.intro (Below.cell_of hb hub1) (Below.cell_of hb hub2)))))))
            have HBO := hide (fun W (hb : Below Wb.heap.size Wb W) => refBoth_any (unhide HR W hb).1 (hia1.below hb) (unhide HR W hb).2.1 (hib1.below hb) (unhide HR W hb).2.2.2.2 (unhide HWA _ (List.getElem_mem hlt)) (unhide HWB _ (List.getElem_mem hlt2)) (fun x hx => by rw [unhide HJ] at hx; exact mem_joinL.1 hx) (by rw [unhide HJ]; exact hjl))
            have HBR' : Hid (bothR s u la[k] lb[k2] = J.map (bothF s u la[k] lb[k2])) := hide (by rw [unhide HJ]; rfl)
            rw [unhide HBR'] at HNX
            have HOW := hide hown
            have HBQ := hide hbq
            clear hf hown hbq x0 x1 x5 x2 hs1 hs2 ht1 ht2 rJ hia hib hia1 hib1 hub1 hub2 HBR'
            generalize pairK s la u lb k k2 la[k] = L at *
            generalize J.map (bothF s u la[k] lb[k2]) = bt at *
            go_wp2
            go_quiet ((go_at_call 28; exact Calls.quiet_of (unhide HF _)))
            go_wp2
            have hbW := Below.drewN1 (unhide HBQ) nq
            have hownW := (unhide HOW).below (Below.drewN _ nq)
            clear c00 c01 c10 c11 c50 hua hub hzq HOW HBQ HF
            generalize wq.drewN nq = W at *
            go_region_held3 (fun W => W.cell? ⟨w.heap.size, 0, none⟩ = some (.slice a s.length ca) ∧ W.cell? ⟨w.heap.size, 1, none⟩ = some (.slice (some ⟨ba, oa, none⟩) la.length cb) ∧ W.cell? ⟨w.heap.size + 1, 0, none⟩ = some (.slice a' u.length ca') ∧ W.cell? ⟨w.heap.size + 1, 1, none⟩ = some (.slice (some ⟨bb, ob, none⟩) lb.length cb') ∧ W.cell? ⟨w1.heap.size, 0, none⟩ = some (.slice ja J.length jc) ∧ W.cell? ⟨ba, oa + k, none⟩ = some ua ∧ W.cell? ⟨bb, ob + k2, none⟩ = some ub)
              (first | exact unhide HK _ (by first | exact hB5 | exact hB3 | exact hbW | exact below_then hbW (below_same rfl rfl rfl rfl) | exact below_then hB3 (below_push rfl rfl rfl rfl) | exact below_then hB5 (below_same rfl rfl rfl rfl) | exact below_then hB3 (below_same rfl rfl rfl rfl)))
              (first
                | (go_at_call 29; refine (unhide HBO _ (by first | exact hbW | exact below_then hbW (below_same rfl rfl rfl rfl))).mono ?_; rintro e w3 ⟨u3, rfl, hu3, hun3, hb3⟩; obtain ⟨ua3, uc3, hue, _, _⟩ := hu3.form; rw [hue] at hu3 hun3 ⊢; clear hue; have hB3 : Below Wb.heap.size Wb w3 := below_then (by first | exact hbW | exact below_then hbW (below_same rfl rfl rfl rfl)) hb3; have hown3 : OwnT Wb.heap.size w3 _ L := OwnT.below (by first | exact hownW | exact OwnT.below hownW (below_same rfl rfl rfl rfl)) hb3; have hap3 : Sep (.slice ua3 bt.length uc3) _ := (Sep.of_new hownW.new (Nat.le_refl _) hun3).symm)
                | (refine step_of rfl (op_app_tup (.tmp 47) (.tmp 65) rfl hown3 hu3 (fun _ => hap3) rfl hB3.size rfl (by omega) ?_); intro v5 w5 hown5 hgrew5; have hB5 : Below Wb.heap.size Wb w5 := hB3.trans hgrew5.below))
            all_goals
              go_wp2
              go_roundw
              case rel => exact ⟨k2 + 1, by omega, by go_num, by rw [unhide HNX]; exact hown5, hB5⟩
              case measure => simp [intOf]; omega
        · have hke : k2 = lb.length := by omega
          rw [hke, pairK_end hlt] at hown
          have HOW := hide hown
          have HBQ := hide hbq
          clear hown hbq x0 x1 x5 x2 hs1 hs2 ht1 ht2 rJ
          go_wp2
          go_roundw
          case rel => exact ⟨k + 1, by omega, by go_num, unhide HOW, unhide HBQ⟩
          case measure => simp [intOf]; omega
    · have hke : k = la.length := by omega
      rw [hke, List.take_length] at hown
      have HSO := hide (refSort_any hown.tups (by have := pairK_len (s := s) (u := u) (la := la) (lb := lb) (i := la.length) (k := 0) (t := []) (Nat.le_refl _); rw [pairK_zero, List.take_length] at this; have := unhide HLL; omega) (fun t ht => by rw [pair_wide ht]; omega))
      have HBR := hide hbr
      have hlt1 := unhide HLT1
      have hsz := hbr.size
      have hszb : w1.heap.size < Wb.heap.size := by rw [← unhide HZ5']; omega
      have X5 := hide x5
      have X2 := hide x2
      have RJ := hide (unhide HR wr hbr).2.2.2.2
      clear hown hown' x0 x1 x5 x2 hbr
      subst hke
      go_wp2_with fail
      refine (unhide HSO).mono ?_
      rintro e w6 ⟨v6, rfl, h6, n6, hb6⟩
      obtain ⟨ra, rc, hre, _, _⟩ := h6.form
      rw [hre] at h6 n6 ⊢
      clear hre
      have hz6 := hb6.size
      have y5 := (unhide X5).belowH hb6
      have y2 := (unhide X2).belowH hb6
      have rJ6 := (unhide RJ).below hb6
      have hn5 : (Value.slice ra (sortL (pairR s la u lb)).length rc).ownBlock ≠ some w1.heap.size := n6.ne (by omega)
      have hn2 : (Value.slice ra (sortL (pairR s la u lb)).length rc).ownBlock ≠ some (w.heap.size + 1 + 1) := n6.ne (by omega)
      have HNEW := hide (fun b (hb : b < w.heap.size) => show (Value.slice ra (sortL (pairR s la u lb)).length rc).ownBlock ≠ some b from n6.ne (by omega))
      have d50 := y5.cell0
      have d51 := y5.cell1
      have f50 := y5.frozen 0
      have f51 := y5.frozen 1
      have d20 := y2.cell0
      have d21 := y2.cell1
      have f20 := y2.frozen 0
      have f21 := y2.frozen 1
      have hne : w1.heap.size ≠ w.heap.size + 1 + 1 := by omega
      have hne2 : w.heap.size + 1 + 1 ≠ w1.heap.size := by omega
      have z5 := y5.set1 (.slice ra (sortL (pairR s la u lb)).length rc)
      have z2 : Box (w6.setCell ⟨w1.heap.size, 1, none⟩ (.slice ra (sortL (pairR s la u lb)).length rc)) (w.heap.size + 1 + 1) (.slice none 0 0) (.slice none 0 0) := by unfold Box at *; rw [heap_setCell_other w6 ⟨w1.heap.size, 1, none⟩ (w.heap.size + 1 + 1) _ hne2]; exact y2
      have e50 := z5.cell0
      have e51 := z5.cell1
      have e20 := z2.cell0
      have e21 := z2.cell1
      have g20 := z2.frozen 0
      have g21 := z2.frozen 1
      have rJ7 := rJ6.setBox y5.boxS 1 (.slice ra (sortL (pairR s la u lb)).length rc)
      have h7 := h6.setBox y5.boxS hn5 1 (.slice ra (sortL (pairR s la u lb)).length rc)
      have hfin := rel_store z2.boxS z2.cell0 rJ7 h7 hn2
      have z2' := (z2.set0' (.slice ja J.length jc)).set1 (.slice ra (sortL (pairR s la u lb)).length rc)
      have r0 := z2'.cell0
      have r1 := z2'.cell1
      have HBF := hide (below_store ((below_then (below_then (unhide HBB) (unhide HBR)) hb6).setCell (p := ⟨w1.heap.size, 1, none⟩) (show w.heap.size ≤ w1.heap.size by omega) (.slice ra (sortL (pairR s la u lb)).length rc)) (show w.heap.size ≤ w.heap.size + 1 + 1 by omega) (.slice ja J.length jc) (.slice ra (sortL (pairR s la u lb)).length rc))
      have HFIN := hide hfin
      have R0 := hide r0
      have R1 := hide r1
      clear y5 y2 z5 z2 z2' rJ6 rJ7 h6 h7 hfin n6 hn5 hn2 r0 r1
      go_wp2
      have r0 := unhide R0
      have r1 := unhide R1
      refine bodyPost_ret (v := .agg #[.slice ja J.length jc, .slice ra (sortL (pairR s la u lb)).length rc]) (by simp [results, Tryz.results8, go_sem, r0, r1]) rfl ⟨_, _, rfl, ?_, unhide HNEW, unhide HBF⟩
      rw [← unhide HJ]
      exact unhide HFIN

theorem refJoin3_any {s u : List Int} {la lb : List (List Int)} {v v' : Value} {w : World} (h : RelV w v s la) (h' : RelV w v' u lb) (hn : s.Nodup) (hwa : ∀ t ∈ la, t.length = s.length) (hwb : ∀ t ∈ lb, t.length = u.length) (hsl : s.length < 10000) (hul : u.length < 10000) (hjl : (joinL s u).length < 100000) (hll : (la.length + 1) * lb.length < 100000) (hlal : la.length < 100000) (hlbl : lb.length < 100000) :
    Calls Tryz.prog 8 #[v, v'] w fun e w' => ∃ x, e = .returned x ∧ RelV w' x (joinL s u) (joinR s la u lb) ∧ Below w.heap.size w w' :=
  (refJoin3_nw h h' hn hwa hwb hsl hul hjl hll hlal hlbl).mono fun e w' ⟨x, y, h1, h2, _, h4⟩ => ⟨_, h1, h2, h4⟩

end Go.Proofs.YtoiokplgkanepaaGreatDoor

namespace Go.Proofs.YtoiokplgkanepaaGreatDoor
open Go.RowKit
set_option linter.unusedVariables false
set_option linter.unusedSimpArgs false
set_option maxRecDepth 20000

theorem cnt_join {rs : List (List Int × List (List Int))} (hrs : ∀ r ∈ rs, Fine r.1 r.2 12 ∧ r.1.length ≤ 3) (h5 : rs.length ≤ 5) {k : Nat} (hk : k < rs.length) : (joinR (allR (rs.take k)).1 (allR (rs.take k)).2 rs[k].1 rs[k].2).length = cntR rs k := by
  rw [cnt_at hk]
  exact join_len (all_fine hrs h5 k (by omega)).1 (hrs rs[k] (List.getElem_mem hk)).1

theorem all_small {rs : List (List Int × List (List Int))} (hrs : ∀ r ∈ rs, Fine r.1 r.2 12 ∧ r.1.length ≤ 3) (h5 : rs.length ≤ 5) {most : Int} (hm : most ≤ 4000) : ∀ {k : Nat}, k ≤ rs.length → (∀ j, j < k → (cntR rs j : Int) ≤ most) → (allR (rs.take k)).2.length ≤ 4000
  | 0, _, _ => by show ([[]] : List (List Int)).length ≤ 4000; simp
  | k + 1, hk, hmo => by
    rw [all_snoc (by omega)]
    show (joinR _ _ _ _).length ≤ 4000
    rw [cnt_join hrs h5 (by omega)]
    have := hmo k (by omega)
    omega

/-- What the document's All answers. -/
def AllEndsR (w' : World) (e : Ending) (rs : List (List Int × List (List Int))) (most : Int) : Prop :=
  (∃ x y, e = .returned (.tuple #[.agg #[x, y], .bool true]) ∧ RelV w' (.agg #[x, y]) (allR rs).1 (allR rs).2 ∧ ∀ k, k < rs.length → (cntR rs k : Int) ≤ most) ∨
  (e = .returned (.tuple #[.agg #[.slice none 0 0, .slice none 0 0], .bool false]) ∧ ∃ k, k < rs.length ∧ most < (cntR rs k : Int))

set_option maxHeartbeats 16000000 in
theorem refAll_any {rs : List (List Int × List (List Int))} {v : Value} {most : Int} {w : World} (h : RelS w v rs) (hrs : ∀ r ∈ rs, Fine r.1 r.2 12 ∧ r.1.length ≤ 3) (h5 : rs.length ≤ 5) (hm : most ≤ 4000) :
    Calls Tryz.prog 17 #[v, .int .i64 most] w fun e w' => AllEndsR w' e rs most ∧ Below w.heap.size w w' := by
  obtain ⟨W1, hW1⟩ : ∃ W, W = (((w.alloc (.cells #[.slice none 0 0, .slice none 0 0] 27)).alloc (.cells #[] 3)).alloc (.cells #[.slice (some ⟨w.heap.size + 1, 0, none⟩) 0 0] 22)).alloc (.cells #[.slice none 0 0, .slice (some ⟨w.heap.size + 1 + 1, 0, none⟩) 1 1] 27) := ⟨_, rfl⟩
  have hb6 : Below w.heap.size w W1 := by rw [hW1]; exact ((((Below.refl _ _).alloc (Nat.le_refl _) _).alloc (by simp) _).alloc (by simp; omega) _).alloc (by simp; omega) _
  have hbx6 : Box W1 w.heap.size (.slice none 0 0) (.slice none 0 0) := by rw [hW1]; exact (((Box.new w _ _).push _).push _).push _
  have hx6 : Box W1 (w.heap.size + 1 + 1 + 1) (.slice none 0 0) (.slice (some ⟨w.heap.size + 1 + 1, 0, none⟩) 1 1) := by
    unfold Box; rw [hW1]; simp only [alloc_at, World.size_alloc]; repeat (first | rw [if_pos True.intro] | rw [if_pos rfl] | rw [if_neg (by omega)])
  have q1 : W1.heap[w.heap.size + 1]? = some (.cells #[] 3 (0, 0)) := by rw [hW1]; simp only [alloc_at, World.size_alloc]; repeat (first | rw [if_pos True.intro] | rw [if_pos rfl] | rw [if_neg (by omega)])
  have q2 : W1.heap[w.heap.size + 1 + 1]? = some (.cells #[.slice (some ⟨w.heap.size + 1, 0, none⟩) 0 0] 22 (0, 0)) := by rw [hW1]; simp only [alloc_at, World.size_alloc]; repeat (first | rw [if_pos True.intro] | rw [if_pos rfl] | rw [if_neg (by omega)])
  have hr6 : RelV W1 (.agg #[.slice none 0 0, .slice (some ⟨w.heap.size + 1 + 1, 0, none⟩) 1 1]) [] [[]] := by
    refine ⟨_, _, rfl, Seq.nil _ _, [.slice (some ⟨w.heap.size + 1, 0, none⟩) 0 0], litT_at (c := #[.slice (some ⟨w.heap.size + 1, 0, none⟩) 0 0]) (e := 22) (fr := (0, 0)) q2 rfl rfl (by simp), rfl, fun i hi hi' => ?_⟩
    match i, hi, hi' with
    | 0, _, _ => exact litI_at (c := #[]) (e := 3) (fr := (0, 0)) q1 rfl rfl (by simp)
  have HS := hide (fun W (hb : Below w.heap.size w W) => h.below hb)
  have HFI := hide (all_fine hrs h5)
  have HRS := hide hrs
  have HCJ := hide (fun (k : Nat) (hk : k < rs.length) => cnt_join hrs h5 hk)
  have HSM := hide (fun (k : Nat) (hk : k ≤ rs.length) (hmo : ∀ j, j < k → (cntR rs j : Int) ≤ most) => all_small hrs h5 hm hk hmo)
  obtain ⟨a, cap, rfl, hc1, hc2, _⟩ := h
  unfold maxLen at hc2
  have hz1 := hx6.lt
  have HW1 := hide hW1
  clear hW1 hrs q1 q2
  go_enter Tryz.func17, Tryz.ntmps17
  go_wp2
  rw [← unhide HW1]
  go_loopw [5, 7] (fun _ i wr => ∃ (k : Nat) (xa xb : Option Addr) (xn xc yn yc : Nat), k ≤ rs.length ∧ i = .int .i64 k ∧ Box wr (w.heap.size + 1 + 1 + 1) (.slice xa xn xc) (.slice xb yn yc) ∧ RelV wr (.agg #[.slice xa xn xc, .slice xb yn yc]) (allR (rs.take k)).1 (allR (rs.take k)).2 ∧ Box wr w.heap.size (.slice none 0 0) (.slice none 0 0) ∧ (Value.slice xb yn yc).ownBlock ≠ some w.heap.size ∧ Below w.heap.size w wr ∧ ∀ j, j < k → (cntR rs j : Int) ≤ most) (fun _ i _ => rs.length - (intOf i).toNat)
  case atStart => exact ⟨0, none, some ⟨w.heap.size + 1 + 1, 0, none⟩, 0, 0, 1, 1, by omega, rfl, hx6, hr6, hbx6, by simp [Value.ownBlock]; omega, hb6, fun j hj => by omega⟩
  case round =>
    clear hx6 hr6 hbx6 hb6
    obtain ⟨k, xa, xb, xn, xc, yn, yc, hk, rfl, hx, hr, hbo, hne, hbel, hmo⟩ := hrel
    have hz := hbel.size
    have hxl := hx.lt
    by_cases hkl : k < rs.length
    · obtain ⟨a', cap', ha, _, _, hat⟩ := unhide HS _ hbel
      cases ha
      obtain ⟨bl, ol, rx, ry, hae, hcx, hcy, hrk⟩ := hat k hkl
      subst hae
      obtain ⟨ra, rc, rb, rd, hre, _, _, _, _, _, _⟩ := hrk.form
      cases hre
      have hg := (unhide HFI k (by omega)).1
      have hs15 := (unhide HFI k (by omega)).2
      have hgk := (unhide HRS rs[k] (List.getElem_mem hkl)).1
      have hle := unhide HSM k hk hmo
      have hkn := hgk.llen
      have hks := hgk.slen
      have hjs := joinS_le 0 hg.asc hgk.asc
      have hgs := hg.slen
      have hmul : ((allR (rs.take k)).2.length + 1) * rs[k].2.length ≤ 4001 * 12 := Nat.mul_le_mul (by omega) (by omega)
      have HJ := hide (fun W (hb : Below wr.heap.size wr W) => refJoin3_nw (hr.below hb) (hrk.below hb) hg.asc.nodup hg.wide hgk.wide (by omega) (by omega) (by omega) (by omega) (by omega) (by omega))
      have HCN := hide (unhide HCJ k hkl)
      have HSN := hide (all_snoc hkl)
      have hbR := Below.refl wr.heap.size wr
      have hd0 := hx.cell0
      have hd1 := hx.cell1
      obtain ⟨S', hS'⟩ : ∃ S', S' = joinL (allR (rs.take k)).1 rs[k].1 := ⟨_, rfl⟩
      obtain ⟨J', hJ'⟩ : ∃ J', J' = joinR (allR (rs.take k)).1 (allR (rs.take k)).2 rs[k].1 rs[k].2 := ⟨_, rfl⟩
      rw [← hJ'] at HCN
      rw [← hS', ← hJ'] at HJ
      have HS' := hide hS'
      have HJ' := hide hJ'
      have HC : Hid ((J'.length : Int) = (cntR rs k : Int)) := hide (by rw [unhide HCN])
      generalize rs[k].1.length = rn at *
      generalize rs[k].2.length = rm at *
      clear hg hgk hr hrk hS' hJ' hat HCN hjs hmul hkn hks hgs hle
      go_wp2
      go_region_law ((first | (refine step_of rfl ?_; go_simp; go_at_call 8; refine (unhide HJ _ (by first | exact hbR | exact below_same rfl rfl rfl rfl)).mono ?_; rintro e w3 ⟨x3, y3, rfl, hrj, hnew, hb3⟩; obtain ⟨ja, jc, jb, jd, hje, _, _, _, _, hji, hjt⟩ := hrj.form; cases hje; have hB3 : Below wr.heap.size wr w3 := below_then (by first | exact hbR | exact below_same rfl rfl rfl rfl) hb3; have hx3 := hx.belowH hB3; have hq0 := hx3.cell0; have hq1 := hx3.cell1; have hf0 := hx3.frozen 0; have hf1 := hx3.frozen 1; clear hb3)))
      all_goals
        have hbo3 := hbo.belowH hB3
        have hbel3 := below_then hbel hB3
        have hfin := hide (rel_store hx3.boxS hq0 hji hjt (hnew _ (by exact hxl)))
        have hx5 := (hx3.set0 (.slice ja S'.length jc)).set1 (.slice jb J'.length jd)
        have hbel4 := below_store hbel3 (b := w.heap.size + 1 + 1 + 1) (by omega) (.slice ja S'.length jc) (.slice jb J'.length jd)
        have hbo5 := box_keep (box_keep hbo3 (b := w.heap.size + 1 + 1 + 1) (i := 0) (by omega) (.slice ja S'.length jc)) (b := w.heap.size + 1 + 1 + 1) (i := 1) (by omega) (.slice jb J'.length jd)
        have hne5 := hide (hnew w.heap.size (by show w.heap.size < wr.heap.size; omega))
        have he1 := hx5.cell1
        have hp0 := hbo5.cell0
        have hp1 := hbo5.cell1
        have hg0 := hbo5.frozen 0
        have hg1 := hbo5.frozen 1
        have HX5 := hide hx5
        have HBO5 := hide hbo5
        have HBL4 := hide hbel4
        clear HJ hrj hji hjt hnew hd0 hd1 hq0 hq1 hf0 hf1 hx3 hbo3 hbel3 hx5 hbo5 hbel4
        by_cases hcm : (J'.length : Int) ≤ most
        · have hdm : decide ((J'.length : Int) > most) = false := by simpa using hcm
          have hdm2 : decide (most < (J'.length : Int)) = false := hdm
          go_wp2
          go_roundw
          case rel => exact ⟨k + 1, ja, jb, S'.length, jc, J'.length, jd, by omega, by go_num, unhide HX5, by rw [unhide HSN]; unfold stepR; rw [← unhide HS', ← unhide HJ']; exact unhide hfin, unhide HBO5, unhide hne5, unhide HBL4, fun j hj => by
            rcases Nat.lt_or_ge j k with h | h
            · exact hmo j h
            · have : j = k := by omega
              subst this
              rw [← unhide HC]; exact hcm⟩
          case measure => simp [intOf]; omega
        · have hdm : decide ((J'.length : Int) > most) = true := by simpa using hcm
          have hdm2 : decide (most < (J'.length : Int)) = true := hdm
          go_wp2
          refine bodyPost_ret (v := .tuple #[.agg #[.slice none 0 0, .slice none 0 0], .bool false]) (by simp [results, Tryz.results17, go_sem, hp0, hp1]) rfl ⟨.inr ⟨rfl, k, hkl, by rw [← unhide HC]; omega⟩, below_store (unhide HBL4) (Nat.le_refl _) _ _⟩
    · have hkk : k = rs.length := by omega
      subst hkk
      rw [List.take_length] at hr
      obtain ⟨ja, jc, jb, jd, hje, _, _, _, _, hji, hjt⟩ := hr.form
      cases hje
      have hq0 := hx.cell0
      have hq1 := hx.cell1
      have hp0 := hbo.cell0
      have hp1 := hbo.cell1
      have hf0 := hbo.frozen 0
      have hf1 := hbo.frozen 1
      have hfin := hide (rel_store hbo.boxS hp0 hji hjt hne)
      have hbl := hide (below_store hbel (Nat.le_refl _) (.slice xa (allR rs).1.length xc) (.slice xb (allR rs).2.length yc))
      generalize (allR rs).1.length = sn at *
      generalize (allR rs).2.length = sm at *
      clear hr hji hjt hx
      go_wp2
      refine bodyPost_ret (v := .tuple #[.agg #[.slice xa sn xc, .slice xb sm yc], .bool true]) (by simp [results, Tryz.results17, go_sem, hp0, hp1]) rfl ⟨.inl ⟨_, _, rfl, unhide hfin, hmo⟩, unhide hbl⟩

end Go.Proofs.YtoiokplgkanepaaGreatDoor

namespace Go.Proofs.YtoiokplgkanepaaGreatDoor.joinAll
open Go.RowKit Go.ChangeShapes Go.WideShapes Go.ChangeAt
set_option linter.unusedVariables false
set_option linter.unusedSimpArgs false
set_option maxRecDepth 20000

section
variable {rs : List (List Int × List (List Int))} {v : Value} {most : Int} {w : World} {S : List Int} {J : List (List Int)}

theorem all_ok (h : RelS w v rs) (hrs : ∀ r ∈ rs, Fine r.1 r.2 12 ∧ r.1.length ≤ 3) (h5 : rs.length ≤ 5) (hm : most ≤ 4000) (hall : ∀ k, k < rs.length → (cntR rs k : Int) ≤ most) (e1 : (allR rs).1 = S) (e2 : (allR rs).2 = J) :
    Calls Tryz.prog 16 #[v, .int .i64 most] w fun e w' => ∃ x, e = .returned (.tuple #[x, .int .i64 0]) ∧ RelV w' x S J ∧ Below w.heap.size w w' :=
  (all_any h hrs h5 (fun k hk hmo => Nat.le_trans (all_small hrs h5 hm (Nat.le_of_lt hk) hmo) (by omega))).mono fun e w' ⟨h1, h2⟩ => by
    rcases h1 with ⟨x, y, he, hr, _⟩ | ⟨_, k, hk, _, hgt⟩
    · rw [e1, e2] at hr; exact ⟨_, he, hr, h2⟩
    · have := hall k hk; omega

theorem all_no (h : RelS w v rs) (hrs : ∀ r ∈ rs, Fine r.1 r.2 12 ∧ r.1.length ≤ 3) (h5 : rs.length ≤ 5) (hm : most ≤ 4000) (hall : ¬ ∀ k, k < rs.length → (cntR rs k : Int) ≤ most) :
    Calls Tryz.prog 16 #[v, .int .i64 most] w fun e w' => e = .returned (.tuple #[.agg #[.slice none 0 0, .slice none 0 0], .int .i64 9]) ∧ Below w.heap.size w w' :=
  (all_any h hrs h5 (fun k hk hmo => Nat.le_trans (all_small hrs h5 hm (Nat.le_of_lt hk) hmo) (by omega))).mono fun e w' ⟨h1, h2⟩ => by
    rcases h1 with ⟨x, y, he, hr, hk⟩ | ⟨he, _⟩
    · exact absurd hk hall
    · exact ⟨he, h2⟩

theorem ref_ok (h : RelS w v rs) (hrs : ∀ r ∈ rs, Fine r.1 r.2 12 ∧ r.1.length ≤ 3) (h5 : rs.length ≤ 5) (hm : most ≤ 4000) (hall : ∀ k, k < rs.length → (cntR rs k : Int) ≤ most) (e1 : (allR rs).1 = S) (e2 : (allR rs).2 = J) :
    Calls Tryz.prog 17 #[v, .int .i64 most] w fun e w' => ∃ x, e = .returned (.tuple #[x, .bool true]) ∧ RelV w' x S J ∧ Below w.heap.size w w' :=
  (refAll_any h hrs h5 hm).mono fun e w' ⟨h1, h2⟩ => by
    rcases h1 with ⟨x, y, he, hr, _⟩ | ⟨_, k, hk, hgt⟩
    · rw [e1, e2] at hr; exact ⟨_, he, hr, h2⟩
    · have := hall k hk; omega

theorem ref_no (h : RelS w v rs) (hrs : ∀ r ∈ rs, Fine r.1 r.2 12 ∧ r.1.length ≤ 3) (h5 : rs.length ≤ 5) (hm : most ≤ 4000) (hall : ¬ ∀ k, k < rs.length → (cntR rs k : Int) ≤ most) :
    Calls Tryz.prog 17 #[v, .int .i64 most] w fun e w' => e = .returned (.tuple #[.agg #[.slice none 0 0, .slice none 0 0], .bool false]) ∧ Below w.heap.size w w' :=
  (refAll_any h hrs h5 hm).mono fun e w' ⟨h1, h2⟩ => by
    rcases h1 with ⟨x, y, he, hr, hk⟩ | ⟨he, _⟩
    · exact absurd hk hall
    · exact ⟨he, h2⟩
end

theorem refSame_yes {s : List Int} {ll : List (List Int)} {v v' : Value} {w : World} (h : RelV w v s ll) (h' : RelV w v' s ll) :
    Calls Tryz.prog 9 #[v, v'] w fun e w' => e = .returned (.bool true) ∧ Below w.heap.size w w' := by
  have := refSame_rel h h'
  rwa [show sameR s ll s ll = true from sameR_iff.2 ⟨rfl, rfl⟩] at this

set_option maxHeartbeats 32000000 in
theorem walk {l0 : List (List Int × List (List Int))} {l1 : Int} {v0 v1 : Value} {w : World} (i0 : RelS w v0 l0) (i1 : v1 = .int .i64 l1) :
    Calls Tryz.prog 4 #[v0, v1] w fun e w' => e = .returned (.bool true) ∧ Below w.heap.size w w' := by
  subst i1
  have HF := hide (partsR_fine l0)
  have H5 := partsR_len l0
  have hB := Below.refl w.heap.size w
  have HM := hide (show min l1 4000 ≤ 4000 by omega)
  
  go_enter Tryz.func4, Tryz.ntmps4
  go_wp2_with fail
  refine (shown3_any _).mono ?_
  rintro e w101 ⟨rfl, hb⟩
  replace i0 := i0.below hb
  replace hB := below_then hB hb
  clear hb
  go_wp2_with fail
  refine (parts_any i0).mono ?_
  rintro e w2 ⟨u, rfl, s0, hb⟩
  replace hB := below_then hB hb
  clear hb i0
  
  have hmin : min l1 4000 = min l1 4000 := rfl
  generalize hrs : partsR l0 = rs at *
  clear hmin hrs
  obtain ⟨S, hS⟩ : ∃ S, (allR rs).1 = S := ⟨_, rfl⟩
  obtain ⟨J, hJ⟩ : ∃ J, (allR rs).2 = J := ⟨_, rfl⟩
  have HS := hide hS
  have HJ := hide hJ
  clear hS hJ
  by_cases hall : ∀ k, k < rs.length → (cntR rs k : Int) ≤ min l1 4000
  · have HA := hide hall
    clear hall
    go_wp2_with fail
    refine (all_ok s0 (unhide HF) H5 (unhide HM) (unhide HA) (unhide HS) (unhide HJ)).mono ?_
    rintro e w102 ⟨u_p, rfl, p, hb⟩
    replace s0 := s0.below hb
    replace hB := below_then hB hb
    obtain ⟨a_p, c_p, b_p, d_p, e_p, _, _, _, _, _, _⟩ := p.form
    rw [e_p] at p ⊢
    clear e_p
    clear hb
    have pb := (Below.refl _ w102).alloc (Nat.le_refl _) (.cells #[.slice a_p (S).length c_p, .slice b_p (J).length d_p] 27)
    replace s0 := s0.below pb
    replace p := p.below pb
    have xp := Box.new w102 (.slice a_p (S).length c_p) (.slice b_p (J).length d_p)
    replace hB := below_then hB pb
    clear pb
    have c0_xp := xp.cell0
    have c1_xp := xp.cell1
    go_wp2_with fail
    refine (ref_ok s0 (unhide HF) H5 (unhide HM) (unhide HA) (unhide HS) (unhide HJ)).mono ?_
    rintro e w103 ⟨u_k, rfl, k, hb⟩
    replace s0 := s0.below hb
    replace p := p.below hb
    replace xp := xp.belowH hb
    replace hB := below_then hB hb
    obtain ⟨a_k, c_k, b_k, d_k, e_k, _, _, _, _, _, _⟩ := k.form
    rw [e_k] at k ⊢
    clear e_k
    clear hb c0_xp c1_xp
    have pb := (Below.refl _ w103).alloc (Nat.le_refl _) (.cells #[.slice a_k (S).length c_k, .slice b_k (J).length d_k] 27)
    replace s0 := s0.below pb
    replace p := p.below pb
    replace k := k.below pb
    replace xp := xp.push (.cells #[.slice a_k (S).length c_k, .slice b_k (J).length d_k] 27)
    have xk := Box.new w103 (.slice a_k (S).length c_k) (.slice b_k (J).length d_k)
    replace hB := below_then hB pb
    clear pb
    have c0_xp := xp.cell0
    have c1_xp := xp.cell1
    have c0_xk := xk.cell0
    have c1_xk := xk.cell1
    go_wp2_with fail
    refine (refSame_yes p k).mono ?_
    rintro e w104 ⟨rfl, hb⟩
    replace p := p.below hb
    replace k := k.below hb
    replace xp := xp.belowH hb
    replace xk := xk.belowH hb
    replace hB := below_then hB hb
    clear hb c0_xp c1_xp c0_xk c1_xk
    go_wp2
    go_ret
    exact ⟨rfl, hB⟩
  · have HA := hide hall
    clear hall
    go_wp2_with fail
    refine (all_no s0 (unhide HF) H5 (unhide HM) (unhide HA)).mono ?_
    rintro e w105 ⟨rfl, hb⟩
    replace s0 := s0.below hb
    replace hB := below_then hB hb
    clear hb
    have pb := (Below.refl _ w105).alloc (Nat.le_refl _) (.cells #[.slice none 0 0, .slice none 0 0] 27)
    replace s0 := s0.below pb
    have xp := Box.new w105 (.slice none 0 0) (.slice none 0 0)
    replace hB := below_then hB pb
    clear pb
    have c0_xp := xp.cell0
    have c1_xp := xp.cell1
    go_wp2_with fail
    refine (ref_no s0 (unhide HF) H5 (unhide HM) (unhide HA)).mono ?_
    rintro e w106 ⟨rfl, hb⟩
    replace s0 := s0.below hb
    replace xp := xp.belowH hb
    replace hB := below_then hB hb
    clear hb c0_xp c1_xp
    have pb := (Below.refl _ w106).alloc (Nat.le_refl _) (.cells #[.slice none 0 0, .slice none 0 0] 27)
    replace xp := xp.push (.cells #[.slice none 0 0, .slice none 0 0] 27)
    have xk := Box.new w106 (.slice none 0 0) (.slice none 0 0)
    replace hB := below_then hB pb
    clear pb
    have c0_xp := xp.cell0
    have c1_xp := xp.cell1
    go_wp2
    go_ret
    exact ⟨rfl, hB⟩

set_option maxRecDepth 100000 in
theorem lifted (os : Os) (started : os.Started) (H : Type) (enc : TypeId × Value → H) :
    ReturnsInHanded {} Tryz.checked os 4 .any (fun w args => (Rows.joinAllSpec.pre enc Tryz.prog Tryz.f4 [] false w args ∧ laidMetH Tryz.prog laidIn w) ∧ sizedMet enc Tryz.prog Tryz.f4 (OpenSpec.ofChange Rows.joinAllSpec) false w args)
      (Rows.joinAllSpec.post enc Tryz.prog Tryz.f4 false true false false) := by
  refine returnsInHanded_of_change_and (C := Tryz.checked) (X := fun w _ => laidMetH Tryz.prog laidIn w) (fun _ _ _ hh h => h.of_heap hh) own started (by kernel_rfl) Tryz.func4
    (ChangeSpec.witness_shaped (enc := enc) (C := Tryz.checked) (os := os) (X := fun w _ => laidMetH Tryz.prog laidIn w) false (World.doorLaid Tryz.prog doorN os) #[.slice none 0 0, .int .i64 0] 8 rfl (World.shaped_of_RefB (by kernel_rfl) (by kernel_rfl)) (by kernel_rfl) (by kernel_rfl) (by kernel_rfl) (door_met os _)) ?_
  intro W base args ds gs before hval0 hW _ _ _ _
  have hval : ∀ (j : Nat) t v, Tryz.f4.params[j]? = some t → args[j]? = some v → Value.okWide Tryz.prog W .any base t v := hval0
  have hW' := hW
  obtain ⟨p, q, hA0, hV, rfl, hfz, hnd⟩ := hW
  have hA : DataW.TrodAll enc Tryz.prog W 0 (fun _ => true) true Tryz.f4.params.toList args.toList ds p := hA0
  rw [Tryz.params4] at hA hval
  obtain ⟨v0, vs0, d0, ds0, p0, q0, hargs, rfl, rfl, h0, r0⟩ := trodAll_cons hA
  obtain ⟨v1, vs1, d1, ds1, p1, q1, rfl, rfl, rfl, h1, r1⟩ := trodAll_cons r0
  obtain ⟨rfl, rfl, rfl⟩ := trodAll_nil r1
  obtain rfl : args = #[v0, v1] := by cases args; simp_all
  obtain ⟨rfl, rfl⟩ := trodVars_none hV
  obtain ⟨l0, i0⟩ := read_parts h0 (okWide_slice Tryz.underlying36 (hval 0 36 v0 rfl rfl))
  have lt0 : ∀ x ∈ p0, x.block < W.heap.size := by obtain ⟨m, hm⟩ := h0; exact DataW.trod_lt m _ _ _ hm
  obtain ⟨l1, i1, m1⟩ := read_int h1 (hval 1 3 v1 rfl rfl)
  have lt1 : ∀ x ∈ p1, x.block < W.heap.size := by obtain ⟨m, hm⟩ := h1; exact DataW.trod_lt m _ _ _ hm
  clear hA0 hval0
  refine (walk i0 i1).mono fun e W' ⟨he, bel⟩ => ?_
  subst he
  exact ⟨_, rfl, _, _, _, [], _, [], hW', trodAll_mk1 (shut_bool Tryz.underlying4 _), (trodAll_cons_mk (Below.trod laidOut (by kernel_rfl) (of_decide_eq_true (by kernel_rfl)) h0 bel lt0) (trodAll_cons_mk (Below.trod laidOut (by kernel_rfl) (of_decide_eq_true (by kernel_rfl)) h1 bel lt1) trodAll_mk0)), rfl, bel.frame _, fun h => by cases h⟩

theorem over : Rows.joinAllRow.holds Tryz.pinned (OpenSpec.ofChange Rows.joinAllSpec) :=
  OpenClaim.holds_of_wide 4 Tryz.f4 rfl rfl rfl rfl rfl rfl rfl ⟨rfl, rfl, rfl, rfl, rfl⟩ rfl rfl rfl rfl rfl (by kernel_rfl) Tryz.func4 (by kernel_rfl)
    (of_decide_eq_true (by kernel_rfl)) (by unfold Func.isWrapper; first | (rw [if_pos (by decide +kernel)]; kernel_rfl) | (rw [if_neg (by decide +kernel)]; exact ⟨rfl, rfl⟩))
    (fun os started H enc _ => lifted os started H enc)

/-- The statement: the tied card. -/
theorem proved : Rows.JoinAllCardSaid :=
  Claim7.holds_tied_plain_at .later [] [.data, .data, .data] true (true, "b710a40ed91f1a7ab9323d612b67f05f7a5c93907a40730ac9a60b2e465762de") false
    over (fun _ h => by cases h) (by kernel_rfl) (fun _ h => by cases h) joinAll_row_tie rfl ⟨rfl, rfl⟩ (by kernel_rfl) rfl
    (fun f fn hf hfn => by
      obtain rfl : f = 4 := Option.some.inj ((show Tryz.prog.funcNamed "arborist/arboristlaw03.JoinAll" = some 4 by kernel_rfl).symm.trans hf) |>.symm
      obtain rfl : fn = Tryz.f4 := (Option.some.inj (Tryz.func4.symm.trans hfn)).symm
      exact ⟨by kernel_rfl, fun j t ht => by
        rw [Tryz.params4] at ht
        have hm : t ∈ [36, 3] := by simpa using Array.mem_of_getElem? ht
        have hall : ([36, 3].all fun u => !Tryz.prog.wantsStandIn u) = true := by kernel_rfl
        exact (show Tryz.prog.wantsStandIn t = false by simpa using List.all_eq_true.1 hall t hm)⟩)
    (by kernel_rfl)
#print axioms proved
end Go.Proofs.YtoiokplgkanepaaGreatDoor.joinAll
