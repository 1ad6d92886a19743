/-
  The document's weighted relations in memory; the contract of number.
-/
import Derived.Test.YtafpecdmaogohaaGreatWghCombI
import Derived.Test.YtafpecdmaogohaaGreatRefSort
import Derived.Test.YtafpecdmaogohaaGreatLawSmall
import Derived.Deep.RegionLaw
import Derived.BigRegion
namespace Go.Proofs.YtafpecdmaogohaaGreat
open Go.RowKit
set_option linter.unusedVariables false
set_option linter.unusedSimpArgs false
set_option maxRecDepth 20000

/-- The block of a variable that holds one of the document's. -/
def BoxF (w : World) (b : Nat) (x y z : Value) : Prop := w.heap[b]? = some (.cells #[x, y, z] 32 (0, 0))
theorem BoxF.lt {w : World} {b : Nat} {x y z : Value} (h : BoxF w b x y z) : b < w.heap.size := by
  rcases Nat.lt_or_ge b w.heap.size with hl | hl
  · exact hl
  · unfold BoxF at h; rw [Array.getElem?_eq_none hl] at h; cases h
theorem BoxF.cell0 {w : World} {b : Nat} {x y z : Value} (h : BoxF w b x y z) : w.cell? ⟨b, 0, none⟩ = some x := by unfold BoxF at h; simp only [World.cell?, h]; simp
theorem BoxF.cell1 {w : World} {b : Nat} {x y z : Value} (h : BoxF w b x y z) : w.cell? ⟨b, 1, none⟩ = some y := by unfold BoxF at h; simp only [World.cell?, h]; simp
theorem BoxF.cell2 {w : World} {b : Nat} {x y z : Value} (h : BoxF w b x y z) : w.cell? ⟨b, 2, none⟩ = some z := by unfold BoxF at h; simp only [World.cell?, h]; simp
theorem BoxF.frozen {w : World} {b : Nat} {x y z : Value} (h : BoxF w b x y z) (i : Nat) : w.frozen? ⟨b, i, none⟩ = false := frozen_of_row w b i _ _ h
theorem BoxF.new (w : World) (x y z : Value) : BoxF (w.alloc (.cells #[x, y, z] 32)) w.heap.size x y z := heap_alloc_new w _
theorem BoxF.below {w w' : World} {b B : Nat} {x y z : Value} (h : BoxF w b x y z) (hb : Below B w w') (hB : b < B) : BoxF w' b x y z := by
  unfold BoxF at *; rw [hb.block b hB]; exact h
theorem BoxF.belowH {w w' : World} {b : Nat} {x y z : Value} (h : BoxF w b x y z) (hb : Below w.heap.size w w') : BoxF w' b x y z := h.below hb h.lt
theorem BoxF.push {w : World} {b : Nat} {x y z : Value} (h : BoxF w b x y z) (o : Obj) : BoxF (w.alloc o) b x y z := h.belowH ((Below.refl _ _).alloc (Nat.le_refl _) o)
theorem BoxF.grew {w w' : World} {b B : Nat} {x y z v v' : Value} (h : BoxF w b x y z) (g : Grew B w w' v v') (hne : v.ownBlock ≠ some b) : BoxF w' b x y z := by
  have hl := h.lt
  unfold BoxF at *
  rw [g.by_.block b hl (fun e => hne e.symm)]; exact h
theorem BoxF.set {w : World} {b : Nat} {x y z : Value} (h : BoxF w b x y z) (x' y' z' : Value) : BoxF (((w.setCell ⟨b, 0, none⟩ x').setCell ⟨b, 1, none⟩ y').setCell ⟨b, 2, none⟩ z') b x' y' z' := by
  unfold BoxF at *
  have h1 := heap_setCell_same w b 0 _ _ x' h
  have h2 := heap_setCell_same _ b 1 _ _ y' h1
  rw [heap_setCell_same _ b 2 _ _ z' h2]; simp
theorem BoxF.set1 {w : World} {b : Nat} {x y z : Value} (h : BoxF w b x y z) (y' : Value) : BoxF (w.setCell ⟨b, 1, none⟩ y') b x y' z := by
  unfold BoxF at *
  rw [heap_setCell_same w b 1 _ _ y' h]; simp
theorem BoxF.set2 {w : World} {b : Nat} {x y z : Value} (h : BoxF w b x y z) (z' : Value) : BoxF (w.setCell ⟨b, 2, none⟩ z') b x y z' := by
  unfold BoxF at *
  rw [heap_setCell_same w b 2 _ _ z' h]; simp
theorem BoxF.keep {w : World} {b : Nat} {x y z : Value} (h : BoxF w b x y z) {c i : Nat} (hne : b ≠ c) (u : Value) : BoxF (w.setCell ⟨c, i, none⟩ u) b x y z := by
  unfold BoxF at *
  rw [heap_setCell_other w ⟨c, i, none⟩ b u hne]; exact h

theorem BoxF.boxS {w : World} {b : Nat} {a a' a'' : Option Addr} {n n' n'' c c' c'' : Nat} (h : BoxF w b (.slice a n c) (.slice a' n' c') (.slice a'' n'' c'')) : BoxS w b := by
  intro off u hu
  unfold BoxF at h
  simp only [World.cell?, h] at hu
  match off, hu with
  | 0, hu => simp at hu; exact ⟨_, _, _, hu.symm⟩
  | 1, hu => simp at hu; exact ⟨_, _, _, hu.symm⟩
  | 2, hu => simp at hu; exact ⟨_, _, _, hu.symm⟩
  | off + 3, hu => simp at hu

/-- The slice value v reads as these weights of two parts. -/
def PairsV (w : World) (v : Value) (l : List (Int × Int)) : Prop :=
  ∃ a cap, v = .slice a l.length cap ∧ l.length ≤ cap ∧ cap ≤ maxLen ∧ ∀ i (h : i < l.length), ∃ b off, a = some ⟨b, off, none⟩ ∧ w.cell? ⟨b, off + i * 2, none⟩ = some (.int .i64 l[i].1) ∧ w.cell? ⟨b, off + i * 2 + 1, none⟩ = some (.int .i64 l[i].2)
theorem PairsV.below {w w' : World} {v : Value} {l : List (Int × Int)} (h : PairsV w v l) (hb : Below w.heap.size w w') : PairsV w' v l := by
  obtain ⟨a, cap, h1, h2, h3, h4⟩ := h
  refine ⟨a, cap, h1, h2, h3, fun i hi => ?_⟩
  obtain ⟨b, off, k1, k2, k3⟩ := h4 i hi
  exact ⟨b, off, k1, Below.cell_of hb k2, Below.cell_of hb k3⟩
theorem PairsV.nil (w : World) : PairsV w (.slice none 0 0) [] := ⟨none, 0, rfl, by simp, by simp [maxLen], fun i h => by simp at h⟩
theorem PairsV.form {w : World} {v : Value} {l : List (Int × Int)} (h : PairsV w v l) : ∃ a cap, v = .slice a l.length cap ∧ cap ≤ maxLen := by
  obtain ⟨a, cap, h1, h2, h3, h4⟩ := h
  exact ⟨a, cap, h1, h3⟩
theorem PairsV.at {w : World} {a : Option Addr} {n cap : Nat} {l : List (Int × Int)} (h : PairsV w (.slice a n cap) l) {k : Nat} (hk : k < l.length) :
    ∃ b off, a = some ⟨b, off, none⟩ ∧ w.cell? ⟨b, off + k * 2, none⟩ = some (.int .i64 l[k].1) ∧ w.cell? ⟨b, off + k * 2 + 1, none⟩ = some (.int .i64 l[k].2) := by
  obtain ⟨a', cap', h1, h2, h3, h4⟩ := h
  cases h1
  exact h4 k hk
theorem PairsV.setBox {w : World} {v : Value} {l : List (Int × Int)} (h : PairsV w v l) {b : Nat} (hb : BoxS w b) (i : Nat) (y : Value) : PairsV (w.setCell ⟨b, i, none⟩ y) v l := by
  obtain ⟨a, cap, h1, h2, h3, h4⟩ := h
  refine ⟨a, cap, h1, h2, h3, fun j hj => ?_⟩
  obtain ⟨g, off, k1, k2, k3⟩ := h4 j hj
  have hne : g ≠ b := by
    rintro rfl
    obtain ⟨_, _, _, e⟩ := hb _ _ k2
    cases e
  refine ⟨g, off, k1, ?_, ?_⟩
  · rw [World.cell?_setCell_other]
    · exact k2
    · intro e; exact hne (by injection e with e1; exact e1.symm)
  · rw [World.cell?_setCell_other]
    · exact k3
    · intro e; exact hne (by injection e with e1; exact e1.symm)

def flatP (l : List (Int × Int)) : List Value := l.flatMap fun p => [Value.int .i64 p.1, Value.int .i64 p.2]
theorem flatP_len (l : List (Int × Int)) : (flatP l).length = l.length * 2 := by
  induction l with
  | nil => rfl
  | cons x r ih => simp only [flatP, List.flatMap_cons, List.length_append, List.length_cons, List.length_nil] at *; omega
theorem flatP_at : ∀ (l : List (Int × Int)) (i : Nat) (h : i < l.length), (flatP l)[i * 2]? = some (.int .i64 l[i].1) ∧ (flatP l)[i * 2 + 1]? = some (.int .i64 l[i].2)
  | x :: r, 0, _ => by simp [flatP]
  | x :: r, i + 1, h => by
    have ih := flatP_at r i (by simpa using h)
    have e : flatP (x :: r) = [Value.int .i64 x.1, Value.int .i64 x.2] ++ flatP r := by simp [flatP]
    have e1 : (i + 1) * 2 = i * 2 + 2 := by omega
    rw [e, e1]
    refine ⟨?_, ?_⟩
    · rw [List.getElem?_append_right (by simp)]; simpa using ih.1
    · rw [List.getElem?_append_right (by simp)]; simpa [Nat.add_sub_cancel] using ih.2

/-- The call's own slice of such weights. -/
abbrev OwnP (B : Nat) (w : World) (v : Value) (l : List (Int × Int)) : Prop := w.ownsRow B 56 2 v l.length (flatP l)

theorem OwnP.pairs {B : Nat} {w : World} {v : Value} {l : List (Int × Int)} (h : OwnP B w v l) : PairsV w v l := by
  obtain ⟨h1, h2⟩ := h
  rcases h2 with ⟨rfl, h0⟩ | ⟨g, cap, cur, hv, hg, hh, hn, hm, hs, ht⟩
  · have : l = [] := List.length_eq_zero_iff.1 h0
    subst this
    exact PairsV.nil _
  · refine ⟨_, cap, hv, hn, hm, fun i hi => ⟨g, 0, rfl, ?_, ?_⟩⟩
    · have e := (flatP_at l i hi).1
      rw [← ht, List.getElem?_take] at e
      split at e
      · simp only [World.cell?, hh]; simpa using e
      · cases e
    · have e := (flatP_at l i hi).2
      rw [← ht, List.getElem?_take] at e
      split at e
      · simp only [World.cell?, hh]; simpa using e
      · cases e

theorem Tryz.infoWeight : (Tryz.prog.info? 56).map (fun i => (i.zero, i.size, i.bytes)) = some (some (.agg #[.int .i64 0, .int .i64 0]), 2, 16) := by kernel_rfl

theorem op_app_pair {w : World} {o : Oper} {a : Act} {K : Act → World → Prop} {Q : Exit → Act → World → Prop} (s x : Operand)
    (ho : o.op = .call { callee := .builtin .append, args := #[s, x], argTypes := #[30, 30] }) {B : Nat} {v : Value} {l : List (Int × Int)} {y : Int × Int} (hown : OwnP B w v l) (hs : a.eval s = v) (hB : B ≤ w.heap.size)
    (hx : a.eval x = .slice (some ⟨w.heap.size, 0, none⟩) 1 1) (hlen : l.length < 100000000)
    (h : ∀ v' w', OwnP B w' v' (l ++ [y]) → Grew B w w' v v' → K (a.put o.dst v') w') :
    o.wp Tryz.prog a (w.alloc (.cells #[.int .i64 y.1, .int .i64 y.2] 56)) K Q := by
  obtain ⟨i, hi, hz0, hz1, hz2⟩ := info_parts Tryz.infoWeight
  refine op_append _ s x 30 ho B 56 i (.agg #[.int .i64 0, .int .i64 0]) 2 16 Tryz.underlying30 hi hz0 hz1 hz2 rfl (by decide) v l.length (flatP l) hs (hown.alloc _) ⟨w.heap.size, 0, none⟩ 1 1 [.int .i64 y.1, .int .i64 y.2] hx rfl
    ?_ ?_ ?_ ?_ ?_ ?_
  · intro j u hj
    match j, hj with
    | 0, hj => simp at hj; subst hj; simp [Addr.add]
    | 1, hj => simp at hj; subst hj; simp [Addr.add]
  · intro u hu; simp at hu; rcases hu with rfl | rfl <;> rfl
  · unfold maxLen; omega
  · omega
  · simp; omega
  · intro v' w' hown' hgrow hat
    refine h v' w' (by simpa [OwnP, flatP] using hown') ⟨?_, ?_, ?_⟩
    · exact ((Below.refl B w).alloc hB _).grown hgrow (by simp; omega) (fun k hk => (hown.lt k hk).1)
    · exact ⟨hgrow.os, hgrow.tape, hgrow.output, Nat.le_trans (by simp) hgrow.size, fun k hk hne => (hgrow.block k (by simp; omega) hne).trans (Below.heap_alloc _ _ _ hk)⟩
    · rcases hat with hat | hat
      · exact .inl hat
      · exact .inr ⟨_, hat, by simp⟩

theorem wp_app_pair {w : World} {ops : Array Oper} {rest : List Oper} {o : Oper} {a : Act} {Q : Exit → Act → World → Prop} (hgd : o.guard = none) (s x : Operand)
    (ho : o.op = .call { callee := .builtin .append, args := #[s, x], argTypes := #[30, 30] }) {B : Nat} {v : Value} {l : List (Int × Int)} {y : Int × Int} (hown : OwnP B w v l) (hs : a.eval s = v) (hB : B ≤ w.heap.size)
    (hx : a.eval x = .slice (some ⟨w.heap.size, 0, none⟩) 1 1) (hlen : l.length < 100000000)
    (h : ∀ v' w', OwnP B w' v' (l ++ [y]) → Grew B w w' v v' → wpList Tryz.prog ops Q rest (a.put o.dst v') w') :
    wpList Tryz.prog ops Q (o :: rest) a (w.alloc (.cells #[.int .i64 y.1, .int .i64 y.2] 56)) :=
  wpList_plain hgd fun _ hK => op_app_pair s x ho hown hs hB hx hlen fun v' w' h1 h2 => hK _ _ (h v' w' h1 h2)

theorem wp_app_pair2 {w : World} {ops : Array Oper} {rest : List Oper} {o : Oper} {a : Act} {Q : Exit → Act → World → Prop} (hgd : o.guard = none) (s x : Operand)
    (ho : o.op = .call { callee := .builtin .append, args := #[s, x], argTypes := #[30, 30] }) {B n : Nat} {v : Value} {l : List (Int × Int)} {y : Int × Int} (hown : OwnP B w v l) (hs : a.eval s = v) (hB : B ≤ w.heap.size)
    (hx : a.eval x = .slice (some ⟨n, 0, none⟩) 1 1) (hn : n = w.heap.size) (hlen : l.length < 100000000)
    (h : ∀ v' w', OwnP B w' v' (l ++ [y]) → Grew B w w' v v' → wpList Tryz.prog ops Q rest (a.put o.dst v') w') :
    wpList Tryz.prog ops Q (o :: rest) a (w.alloc (.cells #[.int .i64 y.1, .int .i64 y.2] 56)) := by
  subst hn
  exact wp_app_pair hgd s x ho hown hs hB hx hlen h

theorem own_new2 {B : Nat} {e : TypeId} {k : Nat} {w : World} {v : Value} {n : Nat} {xs : List Value} (h : w.ownsRow B e k v n xs) : New B w v := h.lt
theorem own_sl2 {B : Nat} {e : TypeId} {k : Nat} {w : World} {v : Value} {n : Nat} {xs : List Value} (h : w.ownsRow B e k v n xs) : ∃ a m c, v = .slice a m c := by
  obtain ⟨h1, h2⟩ := h
  rcases h2 with ⟨rfl, rfl⟩ | ⟨g, cap, cur, hv, _⟩
  · exact ⟨_, _, _, rfl⟩
  · exact ⟨_, _, _, hv⟩
theorem own_below2 {B : Nat} {e : TypeId} {k : Nat} {w w' : World} {v : Value} {n : Nat} {xs : List Value} (h : w.ownsRow B e k v n xs) (hb : Below w.heap.size w w') : w'.ownsRow B e k v n xs :=
  h.kept (row := none) ⟨hb.os, hb.tape, hb.output, hb.size, fun k hk _ => hb.block k hk⟩ (by cases v.ownBlock <;> simp)

/-- The value v reads as one of the document's: rows ll over s, which weigh ps. -/
def RV (w : World) (v : Value) (s : List Int) (ll : List (List Int)) (ps : List (Int × Int)) : Prop := ∃ vs vr vw, v = .agg #[vs, vr, vw] ∧ Ints w vs s ∧ Tups w vr ll ∧ PairsV w vw ps
theorem RV.below {w w' : World} {v : Value} {s : List Int} {ll : List (List Int)} {ps : List (Int × Int)} (h : RV w v s ll ps) (hb : Below w.heap.size w w') : RV w' v s ll ps := by
  obtain ⟨vs, vr, vw, rfl, h1, h2, h3⟩ := h
  exact ⟨vs, vr, vw, rfl, h1.below hb, h2.below hb, h3.below hb⟩
theorem RV.form {w : World} {v : Value} {s : List Int} {ll : List (List Int)} {ps : List (Int × Int)} (h : RV w v s ll ps) :
    ∃ a ca b cb d cd, v = .agg #[.slice a s.length ca, .slice b ll.length cb, .slice d ps.length cd] ∧ ca ≤ maxLen ∧ cb ≤ maxLen ∧ cd ≤ maxLen ∧ Ints w (.slice a s.length ca) s ∧ Tups w (.slice b ll.length cb) ll ∧ PairsV w (.slice d ps.length cd) ps := by
  obtain ⟨vs, vr, vw, rfl, h1, h2, h3⟩ := h
  obtain ⟨a, ca, rfl, k1, k2⟩ := h1.form
  obtain ⟨b, cb, rfl, k3, k4⟩ := h2.form
  obtain ⟨d, cd, rfl, k5⟩ := h3.form
  exact ⟨a, ca, b, cb, d, cd, rfl, k2, k4, k5, h1, h2, h3⟩
theorem RV.rel {w : World} {x y z : Value} {s : List Int} {ll : List (List Int)} {ps : List (Int × Int)} (h : RV w (.agg #[x, y, z]) s ll ps) : RelV w (.agg #[x, y]) s ll := by
  obtain ⟨vs, vr, vw, e, h1, h2, h3⟩ := h
  cases e
  exact ⟨_, _, rfl, h1, h2⟩

theorem rv_store {w : World} {b : Nat} {p q r : Value} {a a' a'' : Option Addr} {n n' n'' c c' c'' : Nat} {s : List Int} {ll : List (List Int)} {ps : List (Int × Int)} (hb : BoxS w b) (hx : BoxF w b p q r)
    (h : RV w (.agg #[.slice a n c, .slice a' n' c', .slice a'' n'' c'']) s ll ps) (hne : (Value.slice a' n' c').ownBlock ≠ some b) :
    RV (((w.setCell ⟨b, 0, none⟩ (.slice a n c)).setCell ⟨b, 1, none⟩ (.slice a' n' c')).setCell ⟨b, 2, none⟩ (.slice a'' n'' c'')) (.agg #[.slice a n c, .slice a' n' c', .slice a'' n'' c'']) s ll ps := by
  obtain ⟨vs, vr, vw, e, h1, h2, h3⟩ := h
  cases e
  have hb1 := hb.setCell hx.cell0 a n c
  have hx1 : (w.setCell ⟨b, 0, none⟩ (.slice a n c)).cell? ⟨b, 1, none⟩ = some q := by
    rw [World.cell?_setCell_other]
    · exact hx.cell1
    · intro e; cases e
  have hb2 := hb1.setCell hx1 a' n' c'
  exact ⟨_, _, _, rfl, ((h1.setBox hb _ _).setBox hb1 _ _).setBox hb2 _ _, ((h2.setBox hb hne _ _).setBox hb1 hne _ _).setBox hb2 hne _ _, ((h3.setBox hb _ _).setBox hb1 _ _).setBox hb2 _ _⟩

end Go.Proofs.YtafpecdmaogohaaGreat

namespace Go.Proofs.YtafpecdmaogohaaGreat
open Go.RowKit
set_option linter.unusedVariables false
set_option linter.unusedSimpArgs false
set_option maxRecDepth 20000

theorem Tups.setBoxE {w : World} {v : Value} {ll : List (List Int)} (h : Tups w v ll) {b : Nat} (hb : BoxS w b) (hne : ll ≠ [] → v.ownBlock ≠ some b) (i : Nat) (y : Value) : Tups (w.setCell ⟨b, i, none⟩ y) v ll := by
  obtain ⟨vs, h1, h2, h3⟩ := h
  exact ⟨vs, h1.setCell (fun hv => hne (by rintro rfl; exact hv (List.length_eq_zero_iff.1 h2))) y, h2, fun i hi hi' => (h3 i hi hi').setBox hb _ y⟩

theorem Tups.inheapE {w : World} {v : Value} {ll : List (List Int)} (h : Tups w v ll) {b : Nat} (hb : w.heap.size ≤ b) : ll ≠ [] → v.ownBlock ≠ some b := by
  intro hl e
  obtain ⟨vs, h1, h2, h3⟩ := h
  have := h1.inheap (by rintro rfl; exact hl (List.length_eq_zero_iff.1 h2.symm)) b e
  omega

theorem wv_storeE {w : World} {b : Nat} {p q r : Value} {a a' a'' : Option Addr} {n n' n'' c c' c'' : Nat} {s : List Int} {ll : List (List Int)} {ws : List Int} (hb : BoxS w b) (hx : BoxWI w b p q r)
    (h : WVI w (.agg #[.slice a n c, .slice a' n' c', .slice a'' n'' c'']) s ll ws) (hne : ll ≠ [] → (Value.slice a' n' c').ownBlock ≠ some b) :
    WVI (((w.setCell ⟨b, 0, none⟩ (.slice a n c)).setCell ⟨b, 1, none⟩ (.slice a' n' c')).setCell ⟨b, 2, none⟩ (.slice a'' n'' c'')) (.agg #[.slice a n c, .slice a' n' c', .slice a'' n'' c'']) s ll ws := by
  obtain ⟨vs, vr, vw, e, h1, h2, h3⟩ := h
  cases e
  have hb1 := hb.setCell hx.cell0 a n c
  have hx1 : (w.setCell ⟨b, 0, none⟩ (.slice a n c)).cell? ⟨b, 1, none⟩ = some q := by
    rw [World.cell?_setCell_other]
    · exact hx.cell1
    · intro e; cases e
  have hb2 := hb1.setCell hx1 a' n' c'
  exact ⟨_, _, _, rfl, ((h1.setBox hb _ _).setBox hb1 _ _).setBox hb2 _ _, ((h2.setBoxE hb hne _ _).setBoxE hb1 hne _ _).setBoxE hb2 hne _ _, ((h3.setBox hb _ _).setBox hb1 _ _).setBox hb2 _ _⟩

set_option maxHeartbeats 8000000 in
theorem number_any {s : List Int} {ll : List (List Int)} {ps : List (Int × Int)} {v : Value} {w : World} (h : RV w v s ll ps) (hl : ps.length < 100000) :
    Calls Tryz.prog 11 #[v] w fun e w' => ∃ x, e = .returned x ∧ WVI w' x s ll (ps.map Prod.fst) ∧ Below w.heap.size w w' := by
  obtain ⟨a, ca, b, cb, d, cd, rfl, k1, k2, k3, hs1, ht1, hp1⟩ := h.form
  unfold maxLen at k3
  obtain ⟨W0, hW0⟩ : ∃ W, W = (w.alloc (.cells #[.slice a s.length ca, .slice b ll.length cb, .slice d ps.length cd] 32)).alloc (.cells #[.slice none 0 0, .slice none 0 0, .slice none 0 0] 35) := ⟨_, rfl⟩
  have hb0 : Below w.heap.size w W0 := by rw [hW0]; exact b2x w _ _
  have x0 : BoxF W0 w.heap.size (.slice a s.length ca) (.slice b ll.length cb) (.slice d ps.length cd) := by rw [hW0]; exact (BoxF.new w _ _ _).push _
  have x2 : BoxWI W0 (w.heap.size + 1) (.slice none 0 0) (.slice none 0 0) (.slice none 0 0) := by
    rw [hW0]; have := BoxWI.new (w.alloc (.cells #[.slice a s.length ca, .slice b ll.length cb, .slice d ps.length cd] 32)) (.slice none 0 0) (.slice none 0 0) (.slice none 0 0); simpa using this
  have HP := hide (fun W (hb : Below w.heap.size w W) => hp1.below hb)
  have HS := hide (fun W (hb : Below w.heap.size w W) => hs1.below hb)
  have HT := hide (fun W (hb : Below w.heap.size w W) => ht1.below hb)
  have HNE := hide (ht1.inheapE (b := w.heap.size + 1) (by omega))
  have hz0 := hb0.size
  have hl0 := x0.lt
  have hl2 := x2.lt
  have c00 := x0.cell0
  have c01 := x0.cell1
  have HW0 := hide hW0
  have HE0 := hide (show W0.heap.size = w.heap.size + 1 + 1 by rw [hW0]; simp)
  have x4 := BoxWI.new W0 (.slice a s.length ca) (.slice b ll.length cb) (.slice none 0 0)
  clear h hs1 ht1 hp1 hW0
  go_enter Tryz.func11, Tryz.ntmps11
  go_wp2
  rw [← unhide HW0, ← unhide HE0]
  go_loopw [4] (fun i wr => ∃ (k : Nat) (zv : Value), k ≤ ps.length ∧ i = .int .i64 k ∧ BoxWI wr W0.heap.size (.slice a s.length ca) (.slice b ll.length cb) zv ∧ OwnWI (W0.heap.size + 1) wr zv ((ps.take k).map Prod.fst) ∧ Below W0.heap.size W0 wr) (fun i _ => ps.length - (intOf i).toNat)
  case atStart => exact ⟨0, _, by omega, rfl, x4, World.ownsRow_nil _ _ _ _, (Below.refl _ _).alloc (Nat.le_refl _) _⟩
  case round =>
    clear x4 c00 c01
    obtain ⟨k, zv, hk, rfl, y4, hown, hbel⟩ := hrel
    have hz := hbel.size
    have hl4 := y4.lt
    have hbw := hb0.trans (hbel.mono hz0)
    obtain ⟨za, zn, zc, rfl⟩ := own_sl hown
    have y0 := x0.below hbel hl0
    have c02 := y0.cell2
    by_cases hkl : k < ps.length
    · obtain ⟨bl, ol, hble, hcl, hcl2⟩ := (unhide HP _ hbw).at hkl
      subst hble
      have HTK := hide (show (ps.take (k + 1)).map Prod.fst = (ps.take k).map Prod.fst ++ [ps[k].1] by rw [List.take_succ_eq_append_getElem hkl, List.map_append]; rfl)
      have hln : ((ps.take k).map Prod.fst).length < 100000 := by rw [List.length_map, List.length_take]; omega
      have hne : (Value.slice za zn zc).ownBlock ≠ some W0.heap.size := (New.of_own hown).ne (by omega)
      have c42 := y4.cell2
      have c42' := cell_push c42
      generalize (ps.take k).map Prod.fst = KL at *
      have hownd : OwnWI (W0.heap.size + 1) wr.drew (.slice za zn zc) KL := hown
      have y4d : BoxWI wr.drew W0.heap.size (.slice a s.length ca) (.slice b ll.length cb) (.slice za zn zc) := y4
      have hbeld : Below W0.heap.size W0 wr.drew := ⟨hbel.os, hbel.tape, hbel.output, hbel.size, hbel.block⟩
      have hl4d : W0.heap.size + 1 ≤ wr.drew.heap.size := hl4
      go_wp2
      go_region_law ((first
        | (refine step_of rfl (op_app_wI (w := wr.drew) (y := ps[k].1) (.tmp 16) (.tmp 23) rfl hownd rfl hl4d rfl (by omega) ?_); intro v' w10 hown10 hgrew; obtain ⟨na, nm, nc, hv10⟩ := own_sl hown10; rw [hv10] at hown10 hgrew ⊢; clear hv10; have y5 := y4d.grew hgrew hne; have e0 := y5.cell2; have e1 := y5.frozen 2; have hn4 := (New.of_own hown10).ne (b := W0.heap.size) (by omega))))
      all_goals
        go_wp2
        go_roundw
        case rel => exact ⟨k + 1, _, by omega, by go_num, y5.set2 _, by rw [unhide HTK]; exact ownsRow_setCell_other hown10 hn4 _, (hbeld.trans (hgrew.below.mono (by omega))).setCell (Nat.le_refl _) _⟩
        case measure => simp [intOf]; omega
    · have hkk : k = ps.length := by omega
      have hKt : ps.take k = ps := List.take_of_length_le (by omega)
      rw [hKt] at hown
      have y2 := x2.below hbel hl2
      have c40 := y4.cell0
      have c41 := y4.cell1
      have c42 := y4.cell2
      have hd0 := y2.cell0
      have hd1 := y2.cell1
      have hd2 := y2.cell2
      have hg0 := y2.frozen 0
      have hg1 := y2.frozen 1
      have hg2 := y2.frozen 2
      have HWV : Hid (WVI wr (.agg #[.slice a s.length ca, .slice b ll.length cb, .slice za zn zc]) s ll (ps.map Prod.fst)) := hide ⟨_, _, _, rfl, unhide HS _ hbw, unhide HT _ hbw, Seq.of_own hown⟩
      clear hown hKt y4
      go_wp2
      have hfin := wv_storeE y2.boxS y2 (unhide HWV) (unhide HNE)
      refine bodyPost_ret (v := .agg #[.slice a s.length ca, .slice b ll.length cb, .slice za zn zc]) (by simp [results, Tryz.results11, go_sem, hd0, hd1, hd2]) rfl ⟨_, rfl, hfin, below_store3 hbw (by omega) _ _ _⟩

end Go.Proofs.YtafpecdmaogohaaGreat
