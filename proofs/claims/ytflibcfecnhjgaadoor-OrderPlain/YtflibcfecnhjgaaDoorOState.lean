/-
  A search of the call's own: what turns as a point is taken.
-/
import Derived.Test.YtflibcfecnhjgaaDoorOSrch
import Derived.Test.YtflibcfecnhjgaaDoorGOwn
namespace Go.Proofs.YtflibcfecnhjgaaDoor
open Go.RowKit
set_option linter.unusedVariables false
set_option linter.unusedSimpArgs false
set_option maxRecDepth 20000

/-- A search that the call made, from block B on; its graph may be the caller's. -/
structure StO (B : Nat) (w : World) (b : Nat) (s : Srch) (x y z : Value) : Prop where
  box : BoxR w b x y z
  g : Words w x s.g
  t : OwnB B w y s.t
  o : OwnI B w z s.o
  bB : B ≤ b
  nil : s.o = [] → z = .slice none 0 0
  xy : Apart x s.g y
  xz : Apart x s.g z
  xb : s.g ≠ [] → x.ownBlock ≠ some b
  yb : y.ownBlock ≠ some b
  zb : z.ownBlock ≠ some b
  yz : Sep y z

theorem StO.st {B : Nat} {w : World} {b : Nat} {s : Srch} {x y z : Value} (h : StO B w b s x y z) : StV w b s x y z := ⟨h.box, h.g, Seq.of_own h.t, Seq.of_own h.o⟩

theorem StO.below {B : Nat} {w w' : World} {b : Nat} {s : Srch} {x y z : Value} (h : StO B w b s x y z) (hb : Below w.heap.size w w') : StO B w' b s x y z :=
  ⟨h.box.below hb, h.g.below hb, own_below h.t hb, own_below h.o hb, h.bB, h.nil, h.xy, h.xz, h.xb, h.yb, h.zb, h.yz⟩

theorem grown_set (w : World) (b i : Nat) (v : Value) : w.grownBy (w.setCell ⟨b, i, none⟩ v) (some b) :=
  ⟨rfl, rfl, rfl, by simp, fun k hk hne => by
    have : k ≠ b := fun e => hne (by rw [e])
    exact heap_setCell_other _ _ _ _ this⟩

/-- A point is marked. -/
theorem StO.setT {B : Nat} {w : World} {b a : Nat} {s : Srch} {x y z : Value} (h : StO B w b s x y z) (ha : a < s.t.length) :
    ∃ gy cy, y = .slice (some ⟨gy, 0, none⟩) s.t.length cy ∧ cy ≤ maxLen ∧ s.t.length ≤ cy ∧ (∃ u, w.cell? ⟨gy, a, none⟩ = some u) ∧ w.frozen? ⟨gy, a, none⟩ = false ∧ StO B (w.setCell ⟨gy, a, none⟩ (.bool true)) b { s with t := s.t.set a true } x y z ∧ Below B w (w.setCell ⟨gy, a, none⟩ (.bool true)) := by
  obtain ⟨gy, cy, rfl, h1, h2, h3, h4⟩ := own_someB h.t (by omega)
  obtain ⟨k1, k2, k3, k4⟩ := own_setB h.t rfl ha true
  have gr := grown_set w gy a (.bool true)
  refine ⟨gy, cy, rfl, h2, h1, k1, k2, ⟨?_, ?_, ?_, ?_, h.bB, h.nil, h.xy, h.xz, h.xb, h.yb, h.zb, h.yz⟩, k4⟩
  · exact (gr.block b h.box.lt (fun e => h.yb e.symm)).trans h.box
  · exact h.g.setCell (fun hne e => h.xy hne gy e rfl) _
  · simpa using k3
  · exact own_same h.o (fun c hc => gr.block c (h.o.lt c hc).2 (fun e => h.yz gy rfl (by rw [hc, e])))

/-- The order has grown. -/
theorem StO.setO {B : Nat} {w w1 : World} {b : Nat} {s : Srch} {x y z z' : Value} {o' : List Int} (h : StO B w b s x y z) (hB : B ≤ w.heap.size) (ho : OwnI B w1 z' o') (g : Grew B w w1 z z') (hne : o' ≠ []) :
    (∃ u, w1.cell? ⟨b, 2, none⟩ = some u) ∧ w1.frozen? ⟨b, 2, none⟩ = false ∧ StO B (w1.setCell ⟨b, 2, none⟩ z') b { s with o := o' } x y z' ∧ Below B w (w1.setCell ⟨b, 2, none⟩ z') := by
  have hbx : BoxR w1 b x y z := (g.by_.block b h.box.lt (fun e => h.zb e.symm)).trans h.box
  have gr := grown_set w1 b 2 z'
  have hblt := h.box.lt
  have hzb : z'.ownBlock ≠ some b := by
    rcases g.at_ with e | ⟨k, e, hk⟩
    · rw [e]; exact h.zb
    · rw [e]; intro e2; injection e2 with e2; omega
  have hyz : Sep y z' := h.yz.grewN (A := B) h.t.lt g
  have hg1 : Words w1 x s.g := h.g.grew g h.xz
  have ht1 : OwnB B w1 y s.t := own_grew h.t g h.yz.or
  refine ⟨⟨_, hbx.cells.2.2⟩, hbx.frozen 2, ⟨?_, ?_, ?_, ?_, h.bB, fun e => absurd e hne, h.xy, h.xz.grew h.g g, h.xb, h.yb, hzb, hyz⟩, ?_⟩
  · exact heap_setCell_same w1 b 2 _ _ _ hbx
  · exact hg1.setCell (fun hne e => h.xb hne e) _
  · exact own_same ht1 (fun c hc => gr.block c (ht1.lt c hc).2 (fun e => h.yb (by rw [hc, e])))
  · exact own_same ho (fun c hc => gr.block c (ho.lt c hc).2 (fun e => hzb (by rw [hc, e])))
  · exact g.below.setCell h.bB _

/-- The graph is another one. -/
theorem StO.setG {B : Nat} {w w1 : World} {b : Nat} {s : Srch} {x y z x' : Value} {g' : List Nat} (h : StO B w b s x y z) (hB : B ≤ w.heap.size) (ho : OwnW w.heap.size w1 x' g') (hb : Below w.heap.size w w1) :
    (∃ u, w1.cell? ⟨b, 0, none⟩ = some u) ∧ w1.frozen? ⟨b, 0, none⟩ = false ∧ StO B (w1.setCell ⟨b, 0, none⟩ x') b { s with g := g' } x' y z ∧ Below B w (w1.setCell ⟨b, 0, none⟩ x') := by
  have hbx : BoxR w1 b x y z := h.box.below hb
  have gr := grown_set w1 b 0 x'
  have hblt := h.box.lt
  have hx : ∀ c, x'.ownBlock = some c → w.heap.size ≤ c := fun c hc => (ho.lt c hc).1
  have hxb : x'.ownBlock ≠ some b := fun e => by have := hx b e; omega
  have ht1 : OwnB B w1 y s.t := own_below h.t hb
  have ho1 : OwnI B w1 z s.o := own_below h.o hb
  refine ⟨⟨_, hbx.cells.1⟩, hbx.frozen 0, ⟨?_, ?_, ?_, ?_, h.bB, h.nil, fun _ c h1 h2 => ?_, fun _ c h1 h2 => ?_, fun _ => hxb, h.yb, h.zb, h.yz⟩, ?_⟩
  · exact heap_setCell_same w1 b 0 _ _ _ hbx
  · exact (Seq.of_own ho).setCell (fun _ => hxb) _
  · exact own_same ht1 (fun c hc => gr.block c (ht1.lt c hc).2 (fun e => h.yb (by rw [hc, e])))
  · exact own_same ho1 (fun c hc => gr.block c (ho1.lt c hc).2 (fun e => h.zb (by rw [hc, e])))
  · have := hx c h1; have := (h.t.lt c h2).2; omega
  · have := hx c h1; have := (h.o.lt c h2).2; omega
  · exact (hb.mono hB).setCell h.bB _

end Go.Proofs.YtflibcfecnhjgaaDoor
