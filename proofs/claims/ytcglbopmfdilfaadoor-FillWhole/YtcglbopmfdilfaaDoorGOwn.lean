/-
  The call's own slices of truths; what may turn behind the first world.
-/
import Derived.Test.YtcglbopmfdilfaaDoorApp3
import Derived.Test.YtcglbopmfdilfaaDoorOffs
namespace Go.Proofs.YtcglbopmfdilfaaDoor
open Go.RowKit
set_option linter.unusedVariables false
set_option linter.unusedSimpArgs false
set_option maxRecDepth 20000

/-- The call's own slice of truths. -/
abbrev OwnB (B : Nat) (w : World) (v : Value) (l : List Bool) : Prop := w.ownsRow B 4 1 v l.length (l.map Value.bool)

theorem own_setB {B : Nat} {w : World} {g n c : Nat} {l : List Bool} (h : OwnB B w (.slice (some ⟨g, 0, none⟩) n c) l) (hn : n = l.length) {i : Nat} (hi : i < n) (y : Bool) :
    (∃ u, w.cell? ⟨g, i, none⟩ = some u) ∧ w.frozen? ⟨g, i, none⟩ = false ∧ OwnB B (w.setCell ⟨g, i, none⟩ (.bool y)) (.slice (some ⟨g, 0, none⟩) n c) (l.set i y) ∧ Below B w (w.setCell ⟨g, i, none⟩ (.bool y)) := by
  subst hn
  obtain ⟨h1, h2, h3, h4⟩ := own_set h hi (.bool y)
  refine ⟨h1, h2, ?_, h4⟩
  simpa [OwnB, List.map_set] using h3

theorem own_oneI {B : Nat} {w : World} (hB : B ≤ w.heap.size) (a : Int) : OwnI B (w.alloc (.cells #[.int .i64 a] 3)) (.slice (some ⟨w.heap.size, 0, none⟩) 1 1) [a] :=
  World.ownsRow_lit w #[.int .i64 a] 1 hB (by simp [maxLen]) (by simp)

theorem own_same {B n : Nat} {e : TypeId} {w w' : World} {v : Value} {xs : List Value} (h : w.ownsRow B e 1 v n xs) (hk : ∀ b, v.ownBlock = some b → w'.heap[b]? = w.heap[b]?) : w'.ownsRow B e 1 v n xs := by
  obtain ⟨h1, h2⟩ := h
  refine ⟨h1, ?_⟩
  rcases h2 with h2 | ⟨g, cap, cur, rfl, hg, hh, r⟩
  · exact .inl h2
  · exact .inr ⟨g, cap, cur, rfl, hg, (hk g rfl).trans hh, r⟩

theorem own_someB {B : Nat} {w : World} {v : Value} {S : List Bool} (h : OwnB B w v S) (hS : 0 < S.length) : ∃ vb c, v = .slice (some ⟨vb, 0, none⟩) S.length c ∧ S.length ≤ c ∧ c ≤ maxLen ∧ B ≤ vb ∧ vb < w.heap.size := by
  have h0 := h
  obtain ⟨h1, h2⟩ := h
  rcases h2 with ⟨_, h3⟩ | ⟨g, cap, cur, rfl, hg, hh, hn, hm, r⟩
  · omega
  · exact ⟨g, cap, rfl, hn, hm, hg, (h0.lt g rfl).2⟩

theorem Tryd.infoBool : (Tryd.prog.info? 4).map (fun i => (i.zero, i.size, i.bytes)) = some (some (.bool false), 1, 1) := by kernel_rfl

/-- A slice of n untruths is made. -/
theorem wp_make_bools {w : World} {ops : Array Oper} {rest : List Oper} {o : Oper} {a : Act} {Q : Exit → Act → World → Prop} (hgd : o.guard = none) (l c : Operand) (ho : o.op = Op.makeSlice 55 l c) {B : Nat} (hB : B ≤ w.heap.size)
    {n : Nat} (hl : a.eval l = .int .i64 (n : Int)) (hc : a.eval c = .int .i64 (n : Int)) (hlen : n < 100000000000)
    (h : ∀ w', OwnB B w' (.slice (some ⟨w.heap.size, 0, none⟩) n n) (List.replicate n false) → Below w.heap.size w w' → wpList Tryd.prog ops Q rest (a.put o.dst (.slice (some ⟨w.heap.size, 0, none⟩) n n)) w') :
    wpList Tryd.prog ops Q (o :: rest) a w := by
  obtain ⟨i, hi, hz0, hz1, hz2⟩ := info_parts Tryd.infoBool
  refine wpList_make_full w hgd l c 55 ho B 4 i (.bool false) 1 Tryd.underlying55 hi hz0 hz1 .i64 .i64 _ _ n hl hc rfl rfl (by rw [hz2]; omega) (by unfold maxLen; omega) hB ?_
  intro w' hown hg
  refine h w' ?_ ⟨hg.os, hg.tape, hg.output, hg.size, fun k hk => hg.block k hk (by simp)⟩
  have : (madeCells (Value.bool false).cells (n * 1)).toList = (List.replicate n false).map Value.bool := by
    rw [show (Value.bool false).cells = #[.bool false] from rfl, toList_madeCells_one]; simp
  rw [this] at hown
  simpa [OwnB] using hown

/-- What lies behind the first world may turn. -/
theorem Keeps.thenB {X : Nat → Prop} {a b c : World} (h : Keeps X a b) (k : Below a.heap.size b c) : Keeps X a c :=
  ⟨k.os.trans h.os, k.tape.trans h.tape, k.output.trans h.output, Nat.le_trans h.size k.size, fun i hi hx => (k.block i hi).trans (h.block i hi hx)⟩

end Go.Proofs.YtcglbopmfdilfaaDoor
