/-
  Rows, rows of rows, relations that lie off given blocks; a slice of relations of the call's own.
-/
import Derived.Test.YtoiokplgkanepaaGreatDoorRelBox
namespace Go.Proofs.YtoiokplgkanepaaGreatDoor
open Go.RowKit
set_option linter.unusedVariables false
set_option linter.unusedSimpArgs false
set_option maxRecDepth 20000

/-- The value lies in none of the blocks X, and in one that is there. -/
def NotIn (X : Nat → Prop) (w : World) (v : Value) : Prop := ∀ g, v.ownBlock = some g → ¬ X g ∧ g < w.heap.size
theorem NotIn.kept {X : Nat → Prop} {w w' : World} {v : Value} (h : NotIn X w v) (hs : w.heap.size ≤ w'.heap.size) : NotIn X w' v := fun g hg => ⟨(h g hg).1, Nat.lt_of_lt_of_le (h g hg).2 hs⟩
theorem NotIn.weaken {X Y : Nat → Prop} {w : World} {v : Value} (h : NotIn X w v) (hY : ∀ g, g < w.heap.size → Y g → X g) : NotIn Y w v := fun g hg => ⟨fun hy => (h g hg).1 (hY g (h g hg).2 hy), (h g hg).2⟩
theorem NotIn.nil (X : Nat → Prop) (w : World) : NotIn X w (.slice none 0 0) := by intro g h; cases h
theorem NotIn.of_new {B : Nat} {w : World} {v : Value} (h : New B w v) : NotIn (· < B) w v := fun g hg => ⟨by have := h g hg; omega, (h g hg).2⟩

theorem grown_cell {w w' : World} {row : Option Nat} (g : w.grownBy w' row) {a : Addr} {v : Value} (h : w.cell? a = some v) (hne : some a.block ≠ row) : w'.cell? a = some v := by
  rw [World.cell?_of_block (g.block a.block (cell_lt h) hne)]; exact h

theorem Seq.keptO {α : Type} {enc : α → Value} {X : Nat → Prop} {w w' : World} {row : Option Nat} {v : Value} {l : List α} (h : Seq enc w v l) (hn : NotIn X w v) (g : w.grownBy w' row) (hX : ∀ b, row = some b → X b) : Seq enc w' v l := by
  obtain ⟨a, cap, rfl, h2, h3, h4, h5, h6⟩ := h
  refine ⟨a, cap, rfl, h2, h3, h4, h5, fun i y hi => ?_⟩
  obtain ⟨x, rfl, hc⟩ := h6 i y hi
  exact ⟨x, rfl, grown_cell g hc (fun e => (hn x.block rfl).1 (hX _ e.symm))⟩

def IntsO (X : Nat → Prop) (w : World) (v : Value) (l : List Int) : Prop := Ints w v l ∧ NotIn X w v
theorem IntsO.kept {X : Nat → Prop} {w w' : World} {row : Option Nat} {v : Value} {l : List Int} (h : IntsO X w v l) (g : w.grownBy w' row) (hX : ∀ b, row = some b → X b) : IntsO X w' v l := ⟨Seq.keptO h.1 h.2 g hX, h.2.kept g.size⟩
theorem IntsO.weaken {X Y : Nat → Prop} {w : World} {v : Value} {l : List Int} (h : IntsO X w v l) (hY : ∀ g, g < w.heap.size → Y g → X g) : IntsO Y w v l := ⟨h.1, h.2.weaken hY⟩
theorem IntsO.nil (X : Nat → Prop) (w : World) : IntsO X w (.slice none 0 0) [] := ⟨Seq.nil _ _, NotIn.nil _ _⟩

def TupsO (X : Nat → Prop) (w : World) (v : Value) (ll : List (List Int)) : Prop :=
  ∃ vs : List Value, Seq id w v vs ∧ NotIn X w v ∧ vs.length = ll.length ∧ ∀ i (h : i < vs.length) (h' : i < ll.length), IntsO X w vs[i] ll[i]
theorem TupsO.kept {X : Nat → Prop} {w w' : World} {row : Option Nat} {v : Value} {ll : List (List Int)} (h : TupsO X w v ll) (g : w.grownBy w' row) (hX : ∀ b, row = some b → X b) : TupsO X w' v ll := by
  obtain ⟨vs, h1, h2, h3, h4⟩ := h
  exact ⟨vs, Seq.keptO h1 h2 g hX, h2.kept g.size, h3, fun i hi hi' => (h4 i hi hi').kept g hX⟩
theorem TupsO.weaken {X Y : Nat → Prop} {w : World} {v : Value} {ll : List (List Int)} (h : TupsO X w v ll) (hY : ∀ g, g < w.heap.size → Y g → X g) : TupsO Y w v ll := by
  obtain ⟨vs, h1, h2, h3, h4⟩ := h
  exact ⟨vs, h1, h2.weaken hY, h3, fun i hi hi' => (h4 i hi hi').weaken hY⟩
theorem TupsO.tups {X : Nat → Prop} {w : World} {v : Value} {ll : List (List Int)} (h : TupsO X w v ll) : Tups w v ll := by
  obtain ⟨vs, h1, h2, h3, h4⟩ := h
  exact ⟨vs, h1, h3, fun i hi hi' => (h4 i hi hi').1⟩
theorem below_by {w w' : World} (h : Below w.heap.size w w') : w.grownBy w' none := ⟨h.os, h.tape, h.output, h.size, fun k hk _ => h.block k hk⟩
theorem IntsO.below {X : Nat → Prop} {w w' : World} {v : Value} {l : List Int} (h : IntsO X w v l) (hb : Below w.heap.size w w') : IntsO X w' v l := h.kept (below_by hb) (fun b e => by cases e)
theorem TupsO.below {X : Nat → Prop} {w w' : World} {v : Value} {l : List (List Int)} (h : TupsO X w v l) (hb : Below w.heap.size w w') : TupsO X w' v l := h.kept (below_by hb) (fun b e => by cases e)

/-- A relation's two fields, off the blocks X. -/
def RelO (X : Nat → Prop) (w : World) (p : Value × Value) (r : List Int × List (List Int)) : Prop := IntsO X w p.1 r.1 ∧ TupsO X w p.2 r.2
theorem RelO.kept {X : Nat → Prop} {w w' : World} {row : Option Nat} {p : Value × Value} {r : List Int × List (List Int)} (h : RelO X w p r) (g : w.grownBy w' row) (hX : ∀ b, row = some b → X b) : RelO X w' p r := ⟨h.1.kept g hX, h.2.kept g hX⟩
theorem RelO.weaken {X Y : Nat → Prop} {w : World} {p : Value × Value} {r : List Int × List (List Int)} (h : RelO X w p r) (hY : ∀ g, g < w.heap.size → Y g → X g) : RelO Y w p r := ⟨h.1.weaken hY, h.2.weaken hY⟩
theorem RelO.below {X : Nat → Prop} {w w' : World} {p : Value × Value} {r : List Int × List (List Int)} (h : RelO X w p r) (hb : Below w.heap.size w w') : RelO X w' p r := ⟨h.1.below hb, h.2.below hb⟩
theorem RelO.rel {X : Nat → Prop} {w : World} {p : Value × Value} {r : List Int × List (List Int)} (h : RelO X w p r) : RelV w (.agg #[p.1, p.2]) r.1 r.2 := ⟨_, _, rfl, h.1.1, h.2.tups⟩

def flat2 (l : List (Value × Value)) : List Value := l.flatMap fun p => [p.1, p.2]
theorem flat2_at0 : ∀ (l : List (Value × Value)) (i : Nat) (h : i < l.length), (flat2 l)[i * 2]? = some l[i].1
  | x :: r, 0, _ => by simp [flat2]
  | x :: r, i + 1, h => by
    have ih := flat2_at0 r i (by simpa using h)
    have e : flat2 (x :: r) = x.1 :: x.2 :: flat2 r := by simp [flat2]
    rw [e, show (i + 1) * 2 = i * 2 + 1 + 1 by omega, List.getElem?_cons_succ, List.getElem?_cons_succ, ih]; rfl
theorem flat2_at1 : ∀ (l : List (Value × Value)) (i : Nat) (h : i < l.length), (flat2 l)[i * 2 + 1]? = some l[i].2
  | x :: r, 0, _ => by simp [flat2]
  | x :: r, i + 1, h => by
    have ih := flat2_at1 r i (by simpa using h)
    have e : flat2 (x :: r) = x.1 :: x.2 :: flat2 r := by simp [flat2]
    rw [e, show (i + 1) * 2 + 1 = i * 2 + 1 + 1 + 1 by omega, List.getElem?_cons_succ, List.getElem?_cons_succ, ih]; rfl

/-- The call's own slice of relations. -/
def OwnR (B : Nat) (w : World) (v : Value) (rs : List (List Int × List (List Int))) : Prop :=
  ∃ ps : List (Value × Value), w.ownsRow B 27 2 v ps.length (flat2 ps) ∧ ps.length = rs.length ∧ ∀ i (h : i < ps.length) (h' : i < rs.length), RelO (fun g => v.ownBlock = some g) w ps[i] rs[i]

theorem OwnR.nil (B : Nat) (w : World) : OwnR B w (.slice none 0 0) [] := ⟨[], World.ownsRow_nil _ _ _ _, rfl, fun i h => by simp at h⟩
theorem OwnR.below {B : Nat} {w w' : World} {v : Value} {rs : List (List Int × List (List Int))} (h : OwnR B w v rs) (hb : Below w.heap.size w w') : OwnR B w' v rs := by
  obtain ⟨ps, h1, h2, h3⟩ := h
  exact ⟨ps, h1.kept (row := none) (below_by hb) (by cases v.ownBlock <;> simp), h2, fun i hi hi' => (h3 i hi hi').below hb⟩
theorem OwnR.new {B : Nat} {w : World} {v : Value} {rs : List (List Int × List (List Int))} (h : OwnR B w v rs) : New B w v := by
  obtain ⟨ps, h1, _⟩ := h
  exact h1.lt
theorem OwnR.sl {B : Nat} {w : World} {v : Value} {rs : List (List Int × List (List Int))} (h : OwnR B w v rs) : ∃ a c, v = .slice a rs.length c := by
  obtain ⟨ps, ⟨_, h1⟩, h2, _⟩ := h
  rcases h1 with ⟨rfl, h0⟩ | ⟨g, cap, cur, hv, _⟩
  · exact ⟨none, 0, by rw [← h2, h0]⟩
  · exact ⟨_, cap, by rw [hv, h2]⟩

theorem Tryz.infoRel : (Tryz.prog.info? 27).map (fun i => (i.zero, i.size, i.bytes)) = some (some (.agg #[.slice none 0 0, .slice none 0 0]), 2, 48) := by kernel_rfl

theorem op_app_rel {w : World} {o : Oper} {a : Act} {K : Act → World → Prop} {Q : Exit → Act → World → Prop} (s x : Operand)
    (ho : o.op = .call { callee := .builtin .append, args := #[s, x], argTypes := #[37, 37] }) {B : Nat} {v : Value} {rs : List (List Int × List (List Int))} {p : Value × Value} {r : List Int × List (List Int)} (hown : OwnR B w v rs) (hp : RelO (fun g => v.ownBlock = some g) w p r) (hs : a.eval s = v) (hB : B ≤ w.heap.size)
    (hx : a.eval x = .slice (some ⟨w.heap.size, 0, none⟩) 1 1) (hlen : rs.length < 100000000)
    (h : ∀ v' w', OwnR B w' v' (rs ++ [r]) → Grew B w w' v v' → K (a.put o.dst v') w') :
    o.wp Tryz.prog a (w.alloc (.cells #[p.1, p.2] 27)) K Q := by
  obtain ⟨i, hi, hz0, hz1, hz2⟩ := info_parts Tryz.infoRel
  obtain ⟨ps, h1, h2, h3⟩ := hown
  have hone1 := hp.1.1.one
  have hone2 : p.2.oneCell' = true := by obtain ⟨vs, k1, _⟩ := hp.2; exact k1.one
  refine op_append _ s x 37 ho B 27 i (.agg #[.slice none 0 0, .slice none 0 0]) 2 48 Tryz.underlying37 hi hz0 hz1 hz2 rfl (by decide) v ps.length (flat2 ps) hs (h1.alloc _) ⟨w.heap.size, 0, none⟩ 1 1 [p.1, p.2] hx rfl
    ?_ ?_ ?_ ?_ ?_ ?_
  · intro j u hj
    match j, hj with
    | 0, hj => simp at hj; subst hj; simp [Addr.add]
    | 1, hj => simp at hj; subst hj; simp [Addr.add]
  · intro u hu; simp at hu; rcases hu with rfl | rfl
    · exact hone1
    · exact hone2
  · unfold maxLen; omega
  · omega
  · simp; omega
  · intro v' w' hown' hgrow hat
    have hb0 : Below B w (w.alloc (.cells #[p.1, p.2] 27)) := (Below.refl B w).alloc hB _
    have hby : w.grownBy w' v.ownBlock := ⟨hgrow.os, hgrow.tape, hgrow.output, Nat.le_trans (by simp) hgrow.size, fun k hk hne => (hgrow.block k (by simp; omega) hne).trans (Below.heap_alloc _ _ _ hk)⟩
    have hX : ∀ g, g < w.heap.size → v'.ownBlock = some g → v.ownBlock = some g := by
      intro g hg e
      rcases hat with hat | hat
      · rw [← hat]; exact e
      · rw [hat] at e; simp at e; omega
    refine h v' w' ⟨ps ++ [p], by simpa [flat2] using hown', by simp [h2], fun j hj hj' => ?_⟩ ⟨hb0.grown hgrow (by simp; omega) (fun k hk => (h1.lt k hk).1), hby, ?_⟩
    · by_cases hjl : j < ps.length
      · rw [List.getElem_append_left hjl, List.getElem_append_left (by omega)]
        have hw := (h3 j hjl (by omega)).weaken hX
        refine ⟨⟨Seq.keptO (h3 j hjl (by omega)).1.1 (h3 j hjl (by omega)).1.2 hby (fun b e => e), hw.1.2.kept hby.size⟩, ?_⟩
        obtain ⟨vs, k1, k2, k3, k4⟩ := (h3 j hjl (by omega)).2
        exact ⟨vs, Seq.keptO k1 k2 hby (fun b e => e), (k2.weaken hX).kept hby.size, k3, fun m hm hm' => ⟨Seq.keptO (k4 m hm hm').1 (k4 m hm hm').2 hby (fun b e => e), ((k4 m hm hm').2.weaken hX).kept hby.size⟩⟩
      · have hje : j = ps.length := by simp at hj; omega
        subst hje
        have e1 : (ps ++ [p])[ps.length] = p := by simp
        have e2 : (rs ++ [r])[ps.length] = r := by simp [h2]
        rw [e1, e2]
        refine ⟨⟨Seq.keptO hp.1.1 hp.1.2 hby (fun b e => e), (hp.1.2.weaken hX).kept hby.size⟩, ?_⟩
        obtain ⟨vs, k1, k2, k3, k4⟩ := hp.2
        exact ⟨vs, Seq.keptO k1 k2 hby (fun b e => e), (k2.weaken hX).kept hby.size, k3, fun m hm hm' => ⟨Seq.keptO (k4 m hm hm').1 (k4 m hm hm').2 hby (fun b e => e), ((k4 m hm hm').2.weaken hX).kept hby.size⟩⟩
    · rcases hat with hat | hat
      · exact .inl hat
      · exact .inr ⟨_, hat, by simp⟩

end Go.Proofs.YtoiokplgkanepaaGreatDoor
