/-
  Words on what reading makes: rows, and rows of rows, that lie off given blocks; slices whose elements have four cells.
-/
import Derived.Test.YtoiokplgkanepaaDoorScanBox
import Derived.Test.YtoiokplgkanepaaDoorInstMath
namespace Go.Proofs.YtoiokplgkanepaaDoor
open Go.RowKit
set_option linter.unusedVariables false
set_option linter.unusedSimpArgs false
set_option maxRecDepth 20000

/-- The value lies in none of the blocks X, and in one that is there. -/
def NotIn (X : Nat → Prop) (w : World) (v : Value) : Prop := ∀ g, v.ownBlock = some g → ¬ X g ∧ g < w.heap.size

theorem NotIn.kept {X : Nat → Prop} {w w' : World} {v : Value} (h : NotIn X w v) (hs : w.heap.size ≤ w'.heap.size) : NotIn X w' v := fun g hg => ⟨(h g hg).1, Nat.lt_of_lt_of_le (h g hg).2 hs⟩
theorem NotIn.weaken {X Y : Nat → Prop} {w : World} {v : Value} (h : NotIn X w v) (hY : ∀ g, g < w.heap.size → Y g → X g) : NotIn Y w v := fun g hg => ⟨fun hy => (h g hg).1 (hY g (h g hg).2 hy), (h g hg).2⟩
theorem NotIn.nil (X : Nat → Prop) (w : World) : NotIn X w (.slice none 0 0) := by intro g h; cases h
theorem NotIn.of_new {B : Nat} {w : World} {v : Value} (h : New B w v) : NotIn (· < B) w v := fun g hg => ⟨by have := h g hg; omega, (h g hg).2⟩

theorem Seq.keptO {α : Type} {enc : α → Value} {X : Nat → Prop} {w w' : World} {row : Option Nat} {v : Value} {l : List α} (h : Seq enc w v l) (hn : NotIn X w v) (g : w.grownBy w' row) (hX : ∀ b, row = some b → X b) : Seq enc w' v l := by
  obtain ⟨a, cap, rfl, h2, h3, h4, h5, h6⟩ := h
  refine ⟨a, cap, rfl, h2, h3, h4, h5, fun i y hi => ?_⟩
  obtain ⟨x, rfl, hc⟩ := h6 i y hi
  exact ⟨x, rfl, g.cell hc (fun e => (hn x.block rfl).1 (hX _ e.symm))⟩

def IntsO (X : Nat → Prop) (w : World) (v : Value) (l : List Int) : Prop := Ints w v l ∧ NotIn X w v
theorem IntsO.kept {X : Nat → Prop} {w w' : World} {row : Option Nat} {v : Value} {l : List Int} (h : IntsO X w v l) (g : w.grownBy w' row) (hX : ∀ b, row = some b → X b) : IntsO X w' v l := ⟨Seq.keptO h.1 h.2 g hX, h.2.kept g.size⟩
theorem IntsO.weaken {X Y : Nat → Prop} {w : World} {v : Value} {l : List Int} (h : IntsO X w v l) (hY : ∀ g, g < w.heap.size → Y g → X g) : IntsO Y w v l := ⟨h.1, h.2.weaken hY⟩
theorem IntsO.nil (X : Nat → Prop) (w : World) : IntsO X w (.slice none 0 0) [] := ⟨Seq.nil _ _, NotIn.nil _ _⟩

def TupsO (X : Nat → Prop) (w : World) (v : Value) (ll : List (List Int)) : Prop :=
  ∃ vs : List Value, Seq id w v vs ∧ NotIn X w v ∧ vs.length = ll.length ∧ ∀ i (h : i < vs.length) (h' : i < ll.length), IntsO X w vs[i] ll[i]
theorem TupsO.kept {X : Nat → Prop} {w w' : World} {row : Option Nat} {v : Value} {ll : List (List Int)} (h : TupsO X w v ll) (g : w.grownBy w' row) (hX : ∀ b, row = some b → X b) : TupsO X w' v ll := by
  obtain ⟨vs, h1, h2, h3, h4⟩ := h
  exact ⟨vs, Seq.keptO h1 h2 g hX, h2.kept g.size, h3, fun i hi hi' => (h4 i hi hi').kept g hX⟩
theorem TupsO.weaken {X Y : Nat → Prop} {w : World} {v : Value} {ll : List (List Int)} (h : TupsO X w v ll) (hY : ∀ g, g < w.heap.size → Y g → X g) : TupsO Y w v ll := by
  obtain ⟨vs, h1, h2, h3, h4⟩ := h
  exact ⟨vs, h1, h2.weaken hY, h3, fun i hi hi' => (h4 i hi hi').weaken hY⟩
theorem TupsO.nil (X : Nat → Prop) (w : World) : TupsO X w (.slice none 0 0) [] := ⟨[], Seq.nil _ _, NotIn.nil _ _, rfl, fun i h => by simp at h⟩
theorem TupsO.tups {X : Nat → Prop} {w : World} {v : Value} {ll : List (List Int)} (h : TupsO X w v ll) : Tups w v ll := by
  obtain ⟨vs, h1, h2, h3, h4⟩ := h
  exact ⟨vs, h1, h3, fun i hi hi' => (h4 i hi hi').1⟩

/-- Four cells. -/
structure Quad where
  a : Value
  b : Value
  c : Value
  d : Value
def Quad.cells (q : Quad) : List Value := [q.a, q.b, q.c, q.d]
def flatQ (l : List Quad) : List Value := l.flatMap Quad.cells
theorem flatQ_len (l : List Quad) : (flatQ l).length = l.length * 4 := by
  induction l with
  | nil => rfl
  | cons x r ih => simp only [flatQ, List.flatMap_cons, List.length_append, List.length_cons, Quad.cells, List.length_nil] at *; omega
theorem flatQ_at : ∀ (l : List Quad) (i : Nat) (h : i < l.length) (j : Nat) (hj : j < 4), (flatQ l)[i * 4 + j]? = (Quad.cells l[i])[j]?
  | x :: r, 0, _, j, hj => by
    have e : flatQ (x :: r) = Quad.cells x ++ flatQ r := by simp [flatQ]
    rw [e, List.getElem?_append_left (by simp [Quad.cells]; omega)]; simp
  | x :: r, i + 1, h, j, hj => by
    have ih := flatQ_at r i (by simpa using h) j hj
    have e : flatQ (x :: r) = Quad.cells x ++ flatQ r := by simp [flatQ]
    have e1 : (i + 1) * 4 + j = (i * 4 + j) + 4 := by omega
    rw [e, e1, List.getElem?_append_right (by simp [Quad.cells])]
    simpa [Quad.cells] using ih

/-- The slice value v reads as these elements of four cells. -/
def SeqQ (w : World) (v : Value) (l : List Quad) : Prop :=
  ∃ a cap, v = .slice a l.length cap ∧ l.length ≤ cap ∧ cap ≤ maxLen ∧ ∀ i (h : i < l.length), ∃ b off, a = some ⟨b, off, none⟩ ∧ w.cell? ⟨b, off + i * 4, none⟩ = some l[i].a ∧ w.cell? ⟨b, off + i * 4 + 1, none⟩ = some l[i].b ∧ w.cell? ⟨b, off + i * 4 + 2, none⟩ = some l[i].c ∧ w.cell? ⟨b, off + i * 4 + 3, none⟩ = some l[i].d
theorem SeqQ.keptO {X : Nat → Prop} {w w' : World} {row : Option Nat} {v : Value} {l : List Quad} (h : SeqQ w v l) (hn : NotIn X w v) (g : w.grownBy w' row) (hX : ∀ b, row = some b → X b) : SeqQ w' v l := by
  obtain ⟨a, cap, rfl, h2, h3, h4⟩ := h
  refine ⟨a, cap, rfl, h2, h3, fun i hi => ?_⟩
  obtain ⟨b, off, rfl, k2, k3, k4, k5⟩ := h4 i hi
  have hne : ¬ some b = row := fun e => (hn b rfl).1 (hX _ e.symm)
  exact ⟨b, off, rfl, g.cell k2 hne, g.cell k3 hne, g.cell k4 hne, g.cell k5 hne⟩
theorem SeqQ.nil (w : World) : SeqQ w (.slice none 0 0) [] := ⟨none, 0, rfl, by simp, by simp [maxLen], fun i h => by simp at h⟩
theorem SeqQ.form {w : World} {v : Value} {l : List Quad} (h : SeqQ w v l) : ∃ a cap, v = .slice a l.length cap ∧ l.length ≤ cap ∧ cap ≤ maxLen := by
  obtain ⟨a, cap, h1, h2, h3, h4⟩ := h
  exact ⟨a, cap, h1, h2, h3⟩
theorem SeqQ.at {w : World} {a : Option Addr} {n cap : Nat} {l : List Quad} (h : SeqQ w (.slice a n cap) l) {i : Nat} (hi : i < l.length) :
    ∃ b off, a = some ⟨b, off, none⟩ ∧ w.cell? ⟨b, off + i * 4, none⟩ = some l[i].a ∧ w.cell? ⟨b, off + i * 4 + 1, none⟩ = some l[i].b ∧ w.cell? ⟨b, off + i * 4 + 2, none⟩ = some l[i].c ∧ w.cell? ⟨b, off + i * 4 + 3, none⟩ = some l[i].d := by
  obtain ⟨a', cap', h1, h2, h3, h4⟩ := h
  cases h1
  exact h4 i hi

/-- The call's own slice of them. -/
abbrev OwnQ (e : TypeId) (B : Nat) (w : World) (v : Value) (l : List Quad) : Prop := w.ownsRow B e 4 v l.length (flatQ l)
theorem OwnQ.seq {e : TypeId} {B : Nat} {w : World} {v : Value} {l : List Quad} (h : OwnQ e B w v l) : SeqQ w v l := by
  obtain ⟨h1, h2⟩ := h
  rcases h2 with ⟨rfl, h0⟩ | ⟨g, cap, cur, hv, hg, hh, hn, hm, hs, ht⟩
  · have : l = [] := List.length_eq_zero_iff.1 h0
    subst this
    exact SeqQ.nil _
  · have key : ∀ i (hi : i < l.length) j (hj : j < 4) u, (Quad.cells l[i])[j]? = some u → w.cell? ⟨g, 0 + i * 4 + j, none⟩ = some u := by
      intro i hi j hj u hu
      have e := flatQ_at l i hi j hj
      rw [hu, ← ht, List.getElem?_take] at e
      split at e
      · simp only [World.cell?, hh]; simpa using e
      · cases e
    exact ⟨_, cap, hv, hn, hm, fun i hi => ⟨g, 0, rfl, key i hi 0 (by omega) _ rfl, key i hi 1 (by omega) _ rfl, key i hi 2 (by omega) _ rfl, key i hi 3 (by omega) _ rfl⟩⟩
theorem OwnQ.nil (e : TypeId) (B : Nat) (w : World) : OwnQ e B w (.slice none 0 0) [] := World.ownsRow_nil _ _ _ _

theorem op_app_quad {t e : TypeId} {z : Value} {bytes : Nat} (ht : Tryd.prog.underlying t = some (.slice e)) (hinfo : (Tryd.prog.info? e).map (fun i => (i.zero, i.size, i.bytes)) = some (some z, 4, bytes)) (hz : z.cells.size = 4) (hby : bytes ≤ 1000)
    {w : World} {o : Oper} {a : Act} {K : Act → World → Prop} {Q : Exit → Act → World → Prop} (s x : Operand)
    (ho : o.op = .call { callee := .builtin .append, args := #[s, x], argTypes := #[t, t] }) {B : Nat} {v : Value} {l : List Quad} {y : Quad} (hown : OwnQ e B w v l) (hs : a.eval s = v) (hB : B ≤ w.heap.size)
    (hx : a.eval x = .slice (some ⟨w.heap.size, 0, none⟩) 1 1) (hy : ∀ u ∈ y.cells, u.oneCell' = true) (hlen : l.length < 100000000)
    (h : ∀ v' w', OwnQ e B w' v' (l ++ [y]) → Grew B w w' v v' → K (a.put o.dst v') w') :
    o.wp Tryd.prog a (w.alloc (.cells #[y.a, y.b, y.c, y.d] e)) K Q := by
  obtain ⟨i, hi, hz0, hz1, hz2⟩ := info_parts hinfo
  have hmul : (l.length + 1) * bytes ≤ (l.length + 1) * 1000 := Nat.mul_le_mul_left _ hby
  refine op_append _ s x t ho B e i z 4 bytes ht hi hz0 hz1 hz2 hz (by decide) v l.length (flatQ l) hs (hown.alloc _) ⟨w.heap.size, 0, none⟩ 1 1 y.cells hx rfl
    ?_ hy ?_ ?_ ?_ ?_
  · intro j u hj
    match j, hj with
    | 0, hj => simp [Quad.cells] at hj; subst hj; simp [Addr.add]
    | 1, hj => simp [Quad.cells] at hj; subst hj; simp [Addr.add]
    | 2, hj => simp [Quad.cells] at hj; subst hj; simp [Addr.add]
    | 3, hj => simp [Quad.cells] at hj; subst hj; simp [Addr.add]
  · unfold maxLen; omega
  · omega
  · simp; omega
  · intro v' w' hown' hgrow hat
    refine h v' w' (by simpa [OwnQ, flatQ] using hown') ⟨?_, ?_, ?_⟩
    · exact ((Below.refl B w).alloc hB _).grown hgrow (by simp; omega) (fun k hk => (hown.lt k hk).1)
    · exact ⟨hgrow.os, hgrow.tape, hgrow.output, Nat.le_trans (by simp) hgrow.size, fun k hk hne => (hgrow.block k (by simp; omega) hne).trans (Below.heap_alloc _ _ _ hk)⟩
    · rcases hat with hat | hat
      · exact .inl hat
      · exact .inr ⟨_, hat, by simp⟩

theorem Tryd.infoCon : (Tryd.prog.info? 42).map (fun i => (i.zero, i.size, i.bytes)) = some (some (.agg #[.int .i64 0, .slice none 0 0, .slice none 0 0, .slice none 0 0]), 4, 80) := by kernel_rfl
theorem Tryd.infoSft : (Tryd.prog.info? 57).map (fun i => (i.zero, i.size, i.bytes)) = some (some (.agg #[.slice none 0 0, .slice none 0 0, .slice none 0 0, .int .i64 0]), 4, 80) := by kernel_rfl

def ConO (X : Nat → Prop) (w : World) (q : Quad) (c : Con) : Prop := q.a = .int .i64 c.kind ∧ IntsO X w q.b c.scope ∧ TupsO X w q.c c.rows ∧ IntsO X w q.d c.args
theorem ConO.kept {X : Nat → Prop} {w w' : World} {row : Option Nat} {q : Quad} {c : Con} (h : ConO X w q c) (g : w.grownBy w' row) (hX : ∀ b, row = some b → X b) : ConO X w' q c := ⟨h.1, h.2.1.kept g hX, h.2.2.1.kept g hX, h.2.2.2.kept g hX⟩
theorem ConO.weaken {X Y : Nat → Prop} {w : World} {q : Quad} {c : Con} (h : ConO X w q c) (hY : ∀ g, g < w.heap.size → Y g → X g) : ConO Y w q c := ⟨h.1, h.2.1.weaken hY, h.2.2.1.weaken hY, h.2.2.2.weaken hY⟩
def SftO (X : Nat → Prop) (w : World) (q : Quad) (s : Sft) : Prop := IntsO X w q.a s.scope ∧ TupsO X w q.b s.rows ∧ IntsO X w q.c s.costs ∧ q.d = .int .i64 s.dflt
theorem SftO.kept {X : Nat → Prop} {w w' : World} {row : Option Nat} {q : Quad} {s : Sft} (h : SftO X w q s) (g : w.grownBy w' row) (hX : ∀ b, row = some b → X b) : SftO X w' q s := ⟨h.1.kept g hX, h.2.1.kept g hX, h.2.2.1.kept g hX, h.2.2.2⟩
theorem SftO.weaken {X Y : Nat → Prop} {w : World} {q : Quad} {s : Sft} (h : SftO X w q s) (hY : ∀ g, g < w.heap.size → Y g → X g) : SftO Y w q s := ⟨h.1.weaken hY, h.2.1.weaken hY, h.2.2.1.weaken hY, h.2.2.2⟩

/-- Two rows of the call's own whose elements are of different types lie in different blocks. -/
theorem sep_typesQ {B B' k k' : Nat} {e e' : TypeId} {w : World} {u v : Value} {n m : Nat} {xs ys : List Value} (h : w.ownsRow B e k u n xs) (h' : w.ownsRow B' e' k' v m ys) (hne : e ≠ e') : Sep u v := by
  intro g h1 h2
  obtain ⟨_, k⟩ := h
  obtain ⟨_, k'⟩ := h'
  rcases k with ⟨rfl, _⟩ | ⟨b, cap, cur, rfl, hg, hh, _⟩
  · cases h1
  · rcases k' with ⟨rfl, _⟩ | ⟨b', cap', cur', rfl, hg', hh', _⟩
    · cases h2
    · have e1 : b = g := by simpa [Value.ownBlock] using h1
      have e2 : b' = g := by simpa [Value.ownBlock] using h2
      subst e1
      subst e2
      rw [hh] at hh'
      injection hh' with hh'
      injection hh' with _ ht _
      exact hne ht

end Go.Proofs.YtoiokplgkanepaaDoor
