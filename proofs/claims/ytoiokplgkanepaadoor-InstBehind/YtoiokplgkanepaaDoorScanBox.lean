/-
  A block that holds a token (four cells); tokens as values; slices of tokens.
-/
import Derived.Test.YtoiokplgkanepaaDoorScanNum
import Derived.Test.YtoiokplgkanepaaDoorShelfC
namespace Go.Proofs.YtoiokplgkanepaaDoor
open Go.RowKit
set_option linter.unusedVariables false
set_option linter.unusedSimpArgs false
set_option maxRecDepth 20000

/-- The block b holds these four cells. -/
def BoxK (e : TypeId) (w : World) (b : Nat) (x y z u : Value) : Prop := w.heap[b]? = some (.cells #[x, y, z, u] e (0, 0))
theorem BoxK.lt {e : TypeId} {w : World} {b : Nat} {x y z u : Value} (h : BoxK e w b x y z u) : b < w.heap.size := by
  rcases Nat.lt_or_ge b w.heap.size with hl | hl
  · exact hl
  · unfold BoxK at h; rw [Array.getElem?_eq_none hl] at h; cases h
theorem BoxK.cell0 {e : TypeId} {w : World} {b : Nat} {x y z u : Value} (h : BoxK e w b x y z u) : w.cell? ⟨b, 0, none⟩ = some x := by unfold BoxK at h; simp only [World.cell?, h]; simp
theorem BoxK.cell1 {e : TypeId} {w : World} {b : Nat} {x y z u : Value} (h : BoxK e w b x y z u) : w.cell? ⟨b, 1, none⟩ = some y := by unfold BoxK at h; simp only [World.cell?, h]; simp
theorem BoxK.cell2 {e : TypeId} {w : World} {b : Nat} {x y z u : Value} (h : BoxK e w b x y z u) : w.cell? ⟨b, 2, none⟩ = some z := by unfold BoxK at h; simp only [World.cell?, h]; simp
theorem BoxK.cell3 {e : TypeId} {w : World} {b : Nat} {x y z u : Value} (h : BoxK e w b x y z u) : w.cell? ⟨b, 3, none⟩ = some u := by unfold BoxK at h; simp only [World.cell?, h]; simp
theorem BoxK.frozen {e : TypeId} {w : World} {b : Nat} {x y z u : Value} (h : BoxK e w b x y z u) (i : Nat) : w.frozen? ⟨b, i, none⟩ = false := frozen_of_row w b i _ _ h
theorem BoxK.new (e : TypeId) (w : World) (x y z u : Value) : BoxK e (w.alloc (.cells #[x, y, z, u] e)) w.heap.size x y z u := heap_alloc_new w _
theorem BoxK.below {e : TypeId} {w w' : World} {b B : Nat} {x y z u : Value} (h : BoxK e w b x y z u) (hb : Below B w w') (hB : b < B) : BoxK e w' b x y z u := by
  unfold BoxK at *; rw [hb.block b hB]; exact h
theorem BoxK.belowH {e : TypeId} {w w' : World} {b : Nat} {x y z u : Value} (h : BoxK e w b x y z u) (hb : Below w.heap.size w w') : BoxK e w' b x y z u := h.below hb h.lt
theorem BoxK.push {e : TypeId} {w : World} {b : Nat} {x y z u : Value} (h : BoxK e w b x y z u) (o : Obj) : BoxK e (w.alloc o) b x y z u := h.belowH ((Below.refl _ _).alloc (Nat.le_refl _) o)
theorem BoxK.grew {e : TypeId} {w w' : World} {b B : Nat} {x y z u v v' : Value} (h : BoxK e w b x y z u) (g : Grew B w w' v v') (hne : v.ownBlock ≠ some b) : BoxK e w' b x y z u := by
  have hl := h.lt
  unfold BoxK at *
  rw [g.by_.block b hl (fun e => hne e.symm)]; exact h
theorem BoxK.set {e : TypeId} {w : World} {b : Nat} {x y z u : Value} (h : BoxK e w b x y z u) (x' y' z' u' : Value) : BoxK e ((((w.setCell ⟨b, 0, none⟩ x').setCell ⟨b, 1, none⟩ y').setCell ⟨b, 2, none⟩ z').setCell ⟨b, 3, none⟩ u') b x' y' z' u' := by
  unfold BoxK at *
  have h1 := heap_setCell_same w b 0 _ _ x' h
  have h2 := heap_setCell_same _ b 1 _ _ y' h1
  have h3 := heap_setCell_same _ b 2 _ _ z' h2
  rw [heap_setCell_same _ b 3 _ _ u' h3]; simp

theorem below_set4 {B : Nat} {w w' : World} (h : Below B w w') {b : Nat} (hb : B ≤ b) (x y z u : Value) : Below B w ((((w'.setCell ⟨b, 0, none⟩ x).setCell ⟨b, 1, none⟩ y).setCell ⟨b, 2, none⟩ z).setCell ⟨b, 3, none⟩ u) :=
  (((h.setCell (by exact hb) _).setCell (by exact hb) _).setCell (by exact hb) _).setCell (by exact hb) _

def tokV (t : Tok) : Value := .agg #[.int .i64 t.kind, .string ⟨t.text.toArray⟩, .int .i64 t.n, .int .i64 (t.at_ : Int)]

/-- What taking a token, at the place p, answers. -/
def takeV (p : Nat) : Got → Value
  | .bad e => .tuple #[tokV ⟨0, [], 0, 0⟩, .int .i64 0, .int .i64 e]
  | .tok k t n len => .tuple #[tokV ⟨k, t, n, p⟩, .int .i64 ((p + len : Nat) : Int), .int .i64 0]

theorem ba_of (l : Bytes) (s : ByteArray) (h : lb s = l) : s = ⟨l.toArray⟩ := by subst h; rfl

theorem lb_extract (s : ByteArray) (a b : Nat) : lb (s.extract a b) = ((lb s).drop a).take (b - a) := by
  have h := ByteArray.extract_mk (lb s) a b
  have e : (⟨(lb s).toArray⟩ : ByteArray) = s := rfl
  rw [e] at h
  rw [h]

theorem take_run (p : UInt8 → Bool) (l : Bytes) : l.take (runN p l) = l.takeWhile p := by
  unfold runN
  induction l with
  | nil => rfl
  | cons c r ih => simp only [List.takeWhile_cons]; split <;> simp [ih]

theorem lb_run (s : ByteArray) (a : Nat) (p : UInt8 → Bool) : lb (s.extract a (a + runN p ((lb s).drop a))) = ((lb s).drop a).takeWhile p := by
  rw [lb_extract, Nat.add_sub_cancel_left, take_run]

def cellsK (t : Tok) : List Value := [.int .i64 t.kind, .string ⟨t.text.toArray⟩, .int .i64 t.n, .int .i64 (t.at_ : Int)]
def flatK (l : List Tok) : List Value := l.flatMap cellsK
theorem flatK_len (l : List Tok) : (flatK l).length = l.length * 4 := by
  induction l with
  | nil => rfl
  | cons x r ih => simp only [flatK, List.flatMap_cons, List.length_append, List.length_cons, cellsK, List.length_nil] at *; omega
theorem flatK_at : ∀ (l : List Tok) (i : Nat) (h : i < l.length) (j : Nat) (hj : j < 4), (flatK l)[i * 4 + j]? = (cellsK l[i])[j]?
  | x :: r, 0, _, j, hj => by
    have e : flatK (x :: r) = cellsK x ++ flatK r := by simp [flatK]
    rw [e, List.getElem?_append_left (by simp [cellsK]; omega)]; simp
  | x :: r, i + 1, h, j, hj => by
    have ih := flatK_at r i (by simpa using h) j hj
    have e : flatK (x :: r) = cellsK x ++ flatK r := by simp [flatK]
    have e1 : (i + 1) * 4 + j = (i * 4 + j) + 4 := by omega
    rw [e, e1, List.getElem?_append_right (by simp [cellsK])]
    simpa [cellsK] using ih

/-- The slice value v reads as these tokens. -/
def ToksV (w : World) (v : Value) (l : List Tok) : Prop :=
  ∃ a cap, v = .slice a l.length cap ∧ l.length ≤ cap ∧ cap ≤ maxLen ∧ ∀ i (h : i < l.length), ∃ b off, a = some ⟨b, off, none⟩ ∧ w.cell? ⟨b, off + i * 4, none⟩ = some (.int .i64 l[i].kind) ∧ w.cell? ⟨b, off + i * 4 + 1, none⟩ = some (.string ⟨l[i].text.toArray⟩) ∧ w.cell? ⟨b, off + i * 4 + 2, none⟩ = some (.int .i64 l[i].n) ∧ w.cell? ⟨b, off + i * 4 + 3, none⟩ = some (.int .i64 (l[i].at_ : Int))
theorem ToksV.below {w w' : World} {v : Value} {l : List Tok} (h : ToksV w v l) (hb : Below w.heap.size w w') : ToksV w' v l := by
  obtain ⟨a, cap, h1, h2, h3, h4⟩ := h
  refine ⟨a, cap, h1, h2, h3, fun i hi => ?_⟩
  obtain ⟨b, off, k1, k2, k3, k4, k5⟩ := h4 i hi
  exact ⟨b, off, k1, Below.cell_of hb k2, Below.cell_of hb k3, Below.cell_of hb k4, Below.cell_of hb k5⟩
theorem ToksV.nil (w : World) : ToksV w (.slice none 0 0) [] := ⟨none, 0, rfl, by simp, by simp [maxLen], fun i h => by simp at h⟩
theorem ToksV.form {w : World} {v : Value} {l : List Tok} (h : ToksV w v l) : ∃ a cap, v = .slice a l.length cap ∧ l.length ≤ cap ∧ cap ≤ maxLen := by
  obtain ⟨a, cap, h1, h2, h3, h4⟩ := h
  exact ⟨a, cap, h1, h2, h3⟩
theorem ToksV.at {w : World} {a : Option Addr} {n cap : Nat} {l : List Tok} (h : ToksV w (.slice a n cap) l) {i : Nat} (hi : i < l.length) :
    ∃ b off, a = some ⟨b, off, none⟩ ∧ w.cell? ⟨b, off + i * 4, none⟩ = some (.int .i64 l[i].kind) ∧ w.cell? ⟨b, off + i * 4 + 1, none⟩ = some (.string ⟨l[i].text.toArray⟩) ∧ w.cell? ⟨b, off + i * 4 + 2, none⟩ = some (.int .i64 l[i].n) ∧ w.cell? ⟨b, off + i * 4 + 3, none⟩ = some (.int .i64 (l[i].at_ : Int)) := by
  obtain ⟨a', cap', h1, h2, h3, h4⟩ := h
  cases h1
  exact h4 i hi

/-- The call's own slice of tokens. -/
abbrev OwnK (e : TypeId) (B : Nat) (w : World) (v : Value) (l : List Tok) : Prop := w.ownsRow B e 4 v l.length (flatK l)

theorem OwnK.toks {e : TypeId} {B : Nat} {w : World} {v : Value} {l : List Tok} (h : OwnK e B w v l) : ToksV w v l := by
  obtain ⟨h1, h2⟩ := h
  rcases h2 with ⟨rfl, h0⟩ | ⟨g, cap, cur, hv, hg, hh, hn, hm, hs, ht⟩
  · have : l = [] := List.length_eq_zero_iff.1 h0
    subst this
    exact ToksV.nil _
  · have key : ∀ i (hi : i < l.length) j (hj : j < 4) u, (cellsK l[i])[j]? = some u → w.cell? ⟨g, 0 + i * 4 + j, none⟩ = some u := by
      intro i hi j hj u hu
      have e := flatK_at l i hi j hj
      rw [hu, ← ht, List.getElem?_take] at e
      split at e
      · simp only [World.cell?, hh]; simpa using e
      · cases e
    exact ⟨_, cap, hv, hn, hm, fun i hi => ⟨g, 0, rfl, key i hi 0 (by omega) _ rfl, key i hi 1 (by omega) _ rfl, key i hi 2 (by omega) _ rfl, key i hi 3 (by omega) _ rfl⟩⟩

theorem own4_new {B : Nat} {e : TypeId} {k : Nat} {w : World} {v : Value} {n : Nat} {xs : List Value} (h : w.ownsRow B e k v n xs) : New B w v := h.lt
theorem own4_below {B : Nat} {e : TypeId} {k : Nat} {w w' : World} {v : Value} {n : Nat} {xs : List Value} (h : w.ownsRow B e k v n xs) (hb : Below w.heap.size w w') : w'.ownsRow B e k v n xs :=
  h.kept (row := none) ⟨hb.os, hb.tape, hb.output, hb.size, fun k hk _ => hb.block k hk⟩ (by cases v.ownBlock <;> simp)

theorem op_app_tok {t e : TypeId} (ht : Tryd.prog.underlying t = some (.slice e)) (hinfo : (Tryd.prog.info? e).map (fun i => (i.zero, i.size, i.bytes)) = some (some (.agg #[.int .i64 0, .string ⟨#[]⟩, .int .i64 0, .int .i64 0]), 4, 40))
    {w : World} {o : Oper} {a : Act} {K : Act → World → Prop} {Q : Exit → Act → World → Prop} (s x : Operand)
    (ho : o.op = .call { callee := .builtin .append, args := #[s, x], argTypes := #[t, t] }) {B : Nat} {v : Value} {l : List Tok} {y : Tok} (hown : OwnK e B w v l) (hs : a.eval s = v) (hB : B ≤ w.heap.size)
    (hx : a.eval x = .slice (some ⟨w.heap.size, 0, none⟩) 1 1) (hlen : l.length < 100000000)
    (h : ∀ v' w', OwnK e B w' v' (l ++ [y]) → Grew B w w' v v' → K (a.put o.dst v') w') :
    o.wp Tryd.prog a (w.alloc (.cells #[.int .i64 y.kind, .string ⟨y.text.toArray⟩, .int .i64 y.n, .int .i64 (y.at_ : Int)] e)) K Q := by
  obtain ⟨i, hi, hz0, hz1, hz2⟩ := info_parts hinfo
  refine op_append _ s x t ho B e i (.agg #[.int .i64 0, .string ⟨#[]⟩, .int .i64 0, .int .i64 0]) 4 40 ht hi hz0 hz1 hz2 rfl (by decide) v l.length (flatK l) hs (hown.alloc _) ⟨w.heap.size, 0, none⟩ 1 1 (cellsK y) hx rfl
    ?_ ?_ ?_ ?_ ?_ ?_
  · intro j u hj
    match j, hj with
    | 0, hj => simp [cellsK] at hj; subst hj; simp [Addr.add]
    | 1, hj => simp [cellsK] at hj; subst hj; simp [Addr.add]
    | 2, hj => simp [cellsK] at hj; subst hj; simp [Addr.add]
    | 3, hj => simp [cellsK] at hj; subst hj; simp [Addr.add]
  · intro u hu; simp [cellsK] at hu; rcases hu with rfl | rfl | rfl | rfl <;> rfl
  · unfold maxLen; omega
  · omega
  · simp; omega
  · intro v' w' hown' hgrow hat
    refine h v' w' (by simpa [OwnK, flatK] using hown') ⟨?_, ?_, ?_⟩
    · exact ((Below.refl B w).alloc hB _).grown hgrow (by simp; omega) (fun k hk => (hown.lt k hk).1)
    · exact ⟨hgrow.os, hgrow.tape, hgrow.output, Nat.le_trans (by simp) hgrow.size, fun k hk hne => (hgrow.block k (by simp; omega) hne).trans (Below.heap_alloc _ _ _ hk)⟩
    · rcases hat with hat | hat
      · exact .inl hat
      · exact .inr ⟨_, hat, by simp⟩

theorem wp_app_tok {t e : TypeId} (ht : Tryd.prog.underlying t = some (.slice e)) (hinfo : (Tryd.prog.info? e).map (fun i => (i.zero, i.size, i.bytes)) = some (some (.agg #[.int .i64 0, .string ⟨#[]⟩, .int .i64 0, .int .i64 0]), 4, 40))
    {w : World} {ops : Array Oper} {rest : List Oper} {o : Oper} {a : Act} {Q : Exit → Act → World → Prop} (hgd : o.guard = none) (s x : Operand)
    (ho : o.op = .call { callee := .builtin .append, args := #[s, x], argTypes := #[t, t] }) {B : Nat} {v : Value} {l : List Tok} (y : Tok) (hown : OwnK e B w v l) (hs : a.eval s = v) (hB : B ≤ w.heap.size)
    (hx : a.eval x = .slice (some ⟨w.heap.size, 0, none⟩) 1 1) (hlen : l.length < 100000000)
    (h : ∀ v' w', OwnK e B w' v' (l ++ [y]) → Grew B w w' v v' → wpList Tryd.prog ops Q rest (a.put o.dst v') w') :
    wpList Tryd.prog ops Q (o :: rest) a (w.alloc (.cells #[.int .i64 y.kind, .string ⟨y.text.toArray⟩, .int .i64 y.n, .int .i64 (y.at_ : Int)] e)) :=
  wpList_plain hgd fun _ hK => op_app_tok ht hinfo s x ho hown hs hB hx hlen fun v' w' h1 h2 => hK _ _ (h v' w' h1 h2)

theorem Tryd.infoTok : (Tryd.prog.info? 52).map (fun i => (i.zero, i.size, i.bytes)) = some (some (.agg #[.int .i64 0, .string ⟨#[]⟩, .int .i64 0, .int .i64 0]), 4, 40) := by kernel_rfl

end Go.Proofs.YtoiokplgkanepaaDoor
