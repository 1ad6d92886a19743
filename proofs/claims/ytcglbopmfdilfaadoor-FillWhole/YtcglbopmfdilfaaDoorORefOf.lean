/-
  The contracts of the document's goes, by Fill and Degree.
-/
import Derived.Test.YtcglbopmfdilfaaDoorOGoM
import Derived.Test.YtcglbopmfdilfaaDoorORefGo
import Derived.Test.YtcglbopmfdilfaaDoorOLeast
namespace Go.Proofs.YtcglbopmfdilfaaDoor
open Go.RowKit
set_option linter.unusedVariables false
set_option linter.unusedSimpArgs false
set_option maxRecDepth 20000

def slen : Value → Nat
  | .slice _ n _ => n
  | _ => 0

theorem MatC.belowB {B0 B : Nat} {w w' : World} {v : Value} {n : Nat} {M : List (List Bool)} {bs : List (Nat × Nat)} (h : MatC B0 w v n M bs) (hb : Below B w w') (hr : ∀ p ∈ bs, p.1 < B) (ho : ∀ g, v.ownBlock = some g → g < B) : MatC B0 w' v n M bs :=
  ⟨h.len, own_same h.outer (fun b e => hb.block b (ho b e)), fun i hi hi' => own_same (h.rows i hi hi') (fun b e => hb.block b (by
    have h1 : bs[i].1 = b := by injection e
    rw [← h1]
    exact hr _ (List.getElem_mem _))), h.wide, h.nod, h.apart⟩

theorem own_keeps {B : Nat} {e : TypeId} {X : Nat → Prop} {w w' : World} {v : Value} {n : Nat} {xs : List Value} (h : w.ownsRow B e 1 v n xs) (hk : Keeps X w w') (hx : ∀ g, v.ownBlock = some g → ¬ X g) : w'.ownsRow B e 1 v n xs :=
  own_same h (fun b e => hk.block b (h.lt b e).2 (hx b e))

theorem refNbLen {g : List Nat} (hn : g.length ≤ 40) (a : Int) : (nbL g a).length ≤ 40 := Nat.le_trans (nbL_len g a) hn

end Go.Proofs.YtcglbopmfdilfaaDoor
