/-
  Two graphs in variables' blocks.
-/
import Derived.Test.YtcglbopmfdilfaaDoorGJoin2
namespace Go.Proofs.YtcglbopmfdilfaaDoor
open Go.RowKit
set_option linter.unusedVariables false
set_option linter.unusedSimpArgs false
set_option maxRecDepth 20000

theorem BoxG.set {w : World} {b : Nat} {x : Value} (h : BoxG w b x) (y : Value) : BoxG (w.setCell ⟨b, 0, none⟩ y) b y := by
  unfold BoxG at h ⊢
  rw [heap_setCell_same _ _ _ _ _ _ h]
  rfl
theorem BoxG.setO {w : World} {b b' i : Nat} {x : Value} (h : BoxG w b x) (hne : b ≠ b') (y : Value) : BoxG (w.setCell ⟨b', i, none⟩ y) b x := by
  unfold BoxG at h ⊢
  rw [heap_setCell_other _ _ _ _ hne]
  exact h

structure TwoG (b4 b5 : Nat) (w : World) (va vb : Value) (ga gb : List Nat) : Prop where
  boxA : BoxG w b4 va
  boxB : BoxG w b5 vb
  wA : Words w va ga
  wB : Words w vb gb
  offA : OffX (fun b => b = b4 ∨ b = b5) va ga
  offB : OffX (fun b => b = b4 ∨ b = b5) vb gb

theorem TwoG.below {b4 b5 : Nat} {w w' : World} {va vb : Value} {ga gb : List Nat} (h : TwoG b4 b5 w va vb ga gb) (hb : Below w.heap.size w w') : TwoG b4 b5 w' va vb ga gb :=
  ⟨h.boxA.below hb h.boxA.lt, h.boxB.below hb h.boxB.lt, h.wA.below hb, h.wB.below hb, h.offA, h.offB⟩

theorem TwoG.setA {b4 b5 B : Nat} {w : World} {va vb y : Value} {ga gb gy : List Nat} (h : TwoG b4 b5 w va vb ga gb) (hne : b5 ≠ b4) (hy : OwnW B w y gy) (h4 : b4 < B) (h5 : b5 < B) : TwoG b4 b5 (w.setCell ⟨b4, 0, none⟩ y) y vb gy gb := by
  have hk : Keeps (fun b => b = b4 ∨ b = b5) w (w.setCell ⟨b4, 0, none⟩ y) := Keeps.grown (grown_setG _ _ _ _) (fun b e => .inl (by injection e with e; exact e.symm))
  have ho : OffX (fun b => b = b4 ∨ b = b5) y gy := fun _ g hg e => by have := (hy.lt g hg).1; rcases e with e | e <;> omega
  exact ⟨h.boxA.set y, h.boxB.setO hne y, hk.seq (Seq.of_own hy) ho, hk.seq h.wB h.offB, ho, h.offB⟩

theorem TwoG.setB {b4 b5 B : Nat} {w : World} {va vb y : Value} {ga gb gy : List Nat} (h : TwoG b4 b5 w va vb ga gb) (hne : b4 ≠ b5) (hy : OwnW B w y gy) (h4 : b4 < B) (h5 : b5 < B) : TwoG b4 b5 (w.setCell ⟨b5, 0, none⟩ y) va y ga gy := by
  have hk : Keeps (fun b => b = b4 ∨ b = b5) w (w.setCell ⟨b5, 0, none⟩ y) := Keeps.grown (grown_setG _ _ _ _) (fun b e => .inr (by injection e with e; exact e.symm))
  have ho : OffX (fun b => b = b4 ∨ b = b5) y gy := fun _ g hg e => by have := (hy.lt g hg).1; rcases e with e | e <;> omega
  exact ⟨h.boxA.setO hne y, h.boxB.set y, hk.seq h.wA h.offA, hk.seq (Seq.of_own hy) ho, h.offA, ho⟩

end Go.Proofs.YtcglbopmfdilfaaDoor
