/-
  A slice of structs of four fields of one cell each, opened.
-/
import Derived.Test.YtflibcfecnhjgaaDoorRefRight6
import Derived.Deep.SlicePairs
namespace Go.Proofs.YtflibcfecnhjgaaDoor
open Go.RowKit
open Go.Deep
set_option linter.unusedVariables false
set_option linter.unusedSimpArgs false
set_option maxRecDepth 20000

set_option maxHeartbeats 2000000 in
theorem open_slice_quads {H : Type} {enc : TypeId × Value → H} {P : Program} {w : World} {base : Nat} {spare : Nat → Bool} {held : Bool} {t e : TypeId} {f0 f1 f2 f3 : Field} {fuel : Nat} {cs : List Value} {x : DataW H × List MemPlace}
    (ht : P.underlying t = some (.slice e)) (he : P.underlying e = some (.struct #[f0, f1, f2, f3])) (ce : P.cellsOf e = 4) (o0 : f0.offset = 0) (o1 : f1.offset = 1) (o2 : f2.offset = 2) (o3 : f3.offset = 3)
    (c0 : P.cellsOf f0.type = 1) (c1 : P.cellsOf f1.type = 1) (c2 : P.cellsOf f2.type = 1) (c3 : P.cellsOf f3.type = 1) (h : DataW.trod enc P w base spare held fuel t cs = some x) :
    (cs = [.slice none 0 0] ∧ x = (.nil, [])) ∨
    ∃ (a : Addr) (len cap m n : Nat) (V : Nat → Quad) (D0 D1 D2 D3 : Nat → DataW H) (P0 P1 P2 P3 : Nat → List MemPlace), cs = [.slice (some a) len cap] ∧ base ≤ a.block ∧ len ≤ cap ∧ cap ≤ maxLen ∧ m = (if spare a.block then cap else len) ∧
      x = (.slice ((List.range len).map fun i => .agg [D0 i, D1 i, D2 i, D3 i]) ((List.range (m - len)).map fun j => .agg [D0 (len + j), D1 (len + j), D2 (len + j), D3 (len + j)]), MemPlace.row a (m * 4) ++ (List.range m).flatMap fun i => P0 i ++ P1 i ++ P2 i ++ P3 i) ∧
      ∀ i, i < m → w.cell? (a.add (i * 4)) = some (V i).a ∧ w.cell? (a.add (i * 4 + 1)) = some (V i).b ∧ w.cell? (a.add (i * 4 + 2)) = some (V i).c ∧ w.cell? (a.add (i * 4 + 3)) = some (V i).d ∧
        DataW.trod enc P w base spare held n f0.type [(V i).a] = some (D0 i, P0 i) ∧ DataW.trod enc P w base spare held n f1.type [(V i).b] = some (D1 i, P1 i) ∧
        DataW.trod enc P w base spare held n f2.type [(V i).c] = some (D2 i, P2 i) ∧ DataW.trod enc P w base spare held n f3.type [(V i).d] = some (D3 i, P3 i) := by
  rcases open_slice ht h with h0 | ⟨a, len, cap, m, n, D, Pl, rfl, hb, hl, hm, hmm, rfl, hx⟩
  · exact Or.inl h0
  right
  have hlm : len ≤ m := by rw [hmm]; split <;> omega
  have each : ∀ i, i < m → ∃ q : Quad × (DataW H × List MemPlace) × (DataW H × List MemPlace) × (DataW H × List MemPlace) × (DataW H × List MemPlace),
      w.cell? (a.add (i * 4)) = some q.1.a ∧ w.cell? (a.add (i * 4 + 1)) = some q.1.b ∧ w.cell? (a.add (i * 4 + 2)) = some q.1.c ∧ w.cell? (a.add (i * 4 + 3)) = some q.1.d ∧
      DataW.trod enc P w base spare held (n - 1) f0.type [q.1.a] = some q.2.1 ∧ DataW.trod enc P w base spare held (n - 1) f1.type [q.1.b] = some q.2.2.1 ∧
      DataW.trod enc P w base spare held (n - 1) f2.type [q.1.c] = some q.2.2.2.1 ∧ DataW.trod enc P w base spare held (n - 1) f3.type [q.1.d] = some q.2.2.2.2 ∧
      D i = .agg [q.2.1.1, q.2.2.1.1, q.2.2.2.1.1, q.2.2.2.2.1] ∧ Pl i = q.2.1.2 ++ q.2.2.1.2 ++ q.2.2.2.1.2 ++ q.2.2.2.2.2 := by
    intro i hi
    obtain ⟨cs', h1, h2⟩ := hx i hi
    rw [ce] at h1
    obtain ⟨_, hlen, hcell⟩ := World.cells?_some h1
    obtain ⟨xs, k, hk, hxy, _, hxl, hf⟩ := DataW.trod_struct he h2
    have hk' : k = n - 1 := by omega
    subst hk'
    match xs, hxl, cs', hlen with
    | [y0, y1, y2, y3], _, [v0, v1, v2, v3], _ =>
      have g0 := hf 0 f0 rfl
      have g1 := hf 1 f1 rfl
      have g2 := hf 2 f2 rfl
      have g3 := hf 3 f3 rfl
      simp [o0, o1, o2, o3, c0, c1, c2, c3] at g0 g1 g2 g3
      have e0 := hcell 0 (by omega)
      have e1 := hcell 1 (by omega)
      have e2 := hcell 2 (by omega)
      have e3 := hcell 3 (by omega)
      rw [add_add] at e0 e1 e2 e3
      simp only [Prod.mk.injEq] at hxy
      refine ⟨(⟨v0, v1, v2, v3⟩, y0, y1, y2, y3), by simpa using e0, by simpa using e1, by simpa using e2, by simpa using e3, g0, g1, g2, g3, ?_, ?_⟩
      · simpa using hxy.1
      · simpa using hxy.2
  haveI : Inhabited (Quad × (DataW H × List MemPlace) × (DataW H × List MemPlace) × (DataW H × List MemPlace) × (DataW H × List MemPlace)) := ⟨(⟨.bool true, .bool true, .bool true, .bool true⟩, (.nil, []), (.nil, []), (.nil, []), (.nil, []))⟩
  obtain ⟨q, hq⟩ := choose_lt each
  refine ⟨a, len, cap, m, n - 1, fun i => (q i).1, fun i => (q i).2.1.1, fun i => (q i).2.2.1.1, fun i => (q i).2.2.2.1.1, fun i => (q i).2.2.2.2.1, fun i => (q i).2.1.2, fun i => (q i).2.2.1.2, fun i => (q i).2.2.2.1.2, fun i => (q i).2.2.2.2.2, rfl, hb, hl, hm, hmm, ?_,
    fun i hi => ⟨(hq i hi).1, (hq i hi).2.1, (hq i hi).2.2.1, (hq i hi).2.2.2.1, (hq i hi).2.2.2.2.1, (hq i hi).2.2.2.2.2.1, (hq i hi).2.2.2.2.2.2.1, (hq i hi).2.2.2.2.2.2.2.1⟩⟩
  rw [ce, List.map_congr_left (fun i hi => (hq i (by have := List.mem_range.1 hi; omega)).2.2.2.2.2.2.2.2.1), List.map_congr_left (fun j hj => (hq (len + j) (by have := List.mem_range.1 hj; omega)).2.2.2.2.2.2.2.2.1),
    flatMap_congr_range (fun i hi => (hq i hi).2.2.2.2.2.2.2.2.2)]

end Go.Proofs.YtflibcfecnhjgaaDoor
