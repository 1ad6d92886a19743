/-
  Shelves: rows that stand together by their key: the memory that shelve makes, and what like reads of it; the contracts of like, placesOf, shelve.
-/
import Derived.Test.YtoiokplgkanepaaGreatDoorJoinKey
import Derived.Test.YtoiokplgkanepaaGreatDoorApp3
import Derived.Test.YtoiokplgkanepaaGreatDoorRelRight
import Derived.Test.YtoiokplgkanepaaGreatDoorUntil
import Derived.Maps.OwnSet
import Derived.Maps.OwnOps
import Derived.Deep.RegionHeld3
import Derived.Test.YtoiokplgkanepaaGreatDoorRelBox
namespace Go.Proofs.YtoiokplgkanepaaGreatDoor
open Go.RowKit Go.Maps Go.WideMaps
set_option linter.unusedVariables false
set_option linter.unusedSimpArgs false
set_option maxRecDepth 20000

theorem strLaw : Keyed Tryz.prog 9 := string_keyed Tryz.underlying9
theorem zeroI (w : World) : (zeroValue 3).run Tryz.prog w = .ok (.int .i64 0) w := by kernel_rfl

abbrev Dig (p : List Int) : Prop := ∀ x ∈ p, 0 ≤ x ∧ x < 10
def kl (p : List Int) : Lit := .string (keyB p)
theorem kl_key (p : List Int) : WideAt.IsKeyLit (kl p) := trivial
theorem kl_ne {p q : List Int} (hp : Dig p) (hq : Dig q) (h : p ≠ q) : kl p ≠ kl q := fun e => h (keyB_inj hp hq (by unfold kl at e; injection e))

theorem key_lit {p : List Int} (h : p.length < 1000000) : keyOf Tryz.prog 9 (.string ⟨(keyB p).toArray⟩) = some (kl p) := by
  have := keyOf_string_mk (P := Tryz.prog) (s := ⟨(keyB p).toArray⟩) Tryz.underlying9 (by show (keyB p).toArray.size ≤ _; rw [List.size_toArray, keyB_len]; unfold maxLen; omega)
  simpa [kl] using this

/-- The map tells each key's place. -/
def MapOf (D : DataW Unit) (ks : List (List Int)) : Prop := IsMap D ∧ ∀ p, Dig p → Maps.has D (kl p) = decide (p ∈ ks) ∧ ∀ i (h : i < ks.length), ks[i] = p → D.atKey (kl p) (.lit (.int .i64 0)) = .lit (.int .i64 (i : Int))

theorem MapOf.nil : MapOf (.map []) [] := ⟨isMap_empty, fun p _ => ⟨rfl, fun i h => by simp at h⟩⟩

theorem MapOf.add {D : DataW Unit} {ks : List (List Int)} (h : MapOf D ks) {p : List Int} (hd : Dig p) (hks : ∀ q ∈ ks, Dig q) (hp : p ∉ ks) : MapOf (D.put (kl p) (.lit (.int .i64 (ks.length : Int)))) (ks ++ [p]) := by
  refine ⟨h.1.put _ _, fun q hq => ?_⟩
  by_cases e : q = p
  · subst e
    refine ⟨by rw [has_put_same h.1 (kl_key _)]; simp, fun i hi hiq => ?_⟩
    have hi2 : i = ks.length := by
      rcases Nat.lt_or_ge i ks.length with hl | hl
      · rw [List.getElem_append_left hl] at hiq
        exact absurd (hiq ▸ List.getElem_mem hl) hp
      · simp at hi; omega
    rw [atKey_put_same h.1 (kl_key _), hi2]
  · have hne := kl_ne hq hd e
    have hh := h.2 q hq
    refine ⟨by rw [has_put_other hne, hh.1]; simp [e], fun i hi hiq => ?_⟩
    rcases Nat.lt_or_ge i ks.length with hl | hl
    · rw [List.getElem_append_left hl] at hiq
      rw [atKey_put_other hne, hh.2 i hl hiq]
    · rw [List.getElem_append_right hl] at hiq
      simp at hiq
      exact absurd hiq.symm e

/-- Is it there, and where? -/
theorem MapOf.no {D : DataW Unit} {ks : List (List Int)} (h : MapOf D ks) {p : List Int} (hd : Dig p) (hp : p ∉ ks) : Maps.has D (kl p) = false ∧ D.atKey (kl p) (.lit (.int .i64 0)) = .lit (.int .i64 0) := by
  have h1 : Maps.has D (kl p) = false := by rw [(h.2 p hd).1]; simpa using hp
  exact ⟨h1, atKey_of_not_has h1 _⟩
theorem MapOf.yes {D : DataW Unit} {ks : List (List Int)} (h : MapOf D ks) {i : Nat} (hi : i < ks.length) (hd : Dig ks[i]) : Maps.has D (kl ks[i]) = true ∧ D.atKey (kl ks[i]) (.lit (.int .i64 0)) = .lit (.int .i64 (i : Int)) := by
  refine ⟨by rw [(h.2 _ hd).1]; simp, (h.2 _ hd).2 i hi rfl⟩

abbrev OwnM (w : World) (b n : Nat) (D : DataW Unit) : Prop := w.ownsMap Tryz.prog 9 (plainElem Tryz.prog 3) b n D

theorem look_run {w : World} {b n : Nat} {D : DataW Unit} (hown : OwnM w b n D) {p : List Int} {c : Int} {q : Bool} (hp : p.length < 1000000) (hq : Maps.has D (kl p) = q) (hc : D.atKey (kl p) (.lit (.int .i64 0)) = .lit (.int .i64 c)) :
    (Instr.lookup 45 (.map (some b)) (.string ⟨(keyB p).toArray⟩) true).run Tryz.prog w = .ok (.tuple #[.int .i64 c, .bool q]) w := by
  obtain ⟨v, ps, hrun, hv⟩ := hown.look_ok strLaw Tryz.underlying45 (zeroI w) (plainElem_int Tryz.underlying3 (by decide)) (key_lit hp)
  obtain ⟨c', rfl, hc', hwc⟩ := plainElem_int_inv Tryz.underlying3 hv
  have e : c' = c := by
    have := congrArg Prod.fst hc'
    simp only [hc] at this
    injection this with this
    injection this with _ this
    exact this.symm
  subst e
  rw [hrun, hq]

/-- v, ok := m[k]. -/
theorem op_look {w : World} {o : Oper} {a : Act} {K : Act → World → Prop} {Q : Exit → Act → World → Prop} (m x : Operand) (ho : o.op = Op.lookup 45 m x true) {b n : Nat} {D : DataW Unit} (hown : OwnM w b n D) {p : List Int} {c : Int} {q : Bool}
    (hm : a.eval m = .map (some b)) (hx : a.eval x = .string ⟨(keyB p).toArray⟩) (hp : p.length < 1000000) (hq : Maps.has D (kl p) = q) (hc : D.atKey (kl p) (.lit (.int .i64 0)) = .lit (.int .i64 c))
    (h : K (a.put o.dst (.tuple #[.int .i64 c, .bool q])) w) : o.wp Tryz.prog a w K Q := by
  have hrun := look_run hown hp hq hc
  unfold Oper.wp
  simp [execOp, ho, hm, hx, hrun, Result.andThen]
  exact h

theorem wp_look {w : World} {ops : Array Oper} {rest : List Oper} {o : Oper} {a : Act} {Q : Exit → Act → World → Prop} (hgd : o.guard = none) (m x : Operand) (ho : o.op = Op.lookup 45 m x true) {b n : Nat} {D : DataW Unit} (hown : OwnM w b n D) {p : List Int} {c : Int} {q : Bool}
    (hm : a.eval m = .map (some b)) (hx : a.eval x = .string ⟨(keyB p).toArray⟩) (hp : p.length < 1000000) (hq : Maps.has D (kl p) = q) (hc : D.atKey (kl p) (.lit (.int .i64 0)) = .lit (.int .i64 c))
    (h : wpList Tryz.prog ops Q rest (a.put o.dst (.tuple #[.int .i64 c, .bool q])) w) : wpList Tryz.prog ops Q (o :: rest) a w :=
  wpList_plain hgd fun _ hK => op_look m x ho hown hm hx hp hq hc (hK _ _ h)

theorem OwnM.below {w w' : World} {b n : Nat} {D : DataW Unit} (h : OwnM w b n D) (hb : Below w.heap.size w w') : OwnM w' b n D :=
  h.kept (row := none) ⟨hb.os, hb.tape, hb.output, hb.size, fun k hk _ => hb.block k hk⟩ (by simp)

/-- What shelve answers: v, of a relation's rows lb, by what they have at the places ps. -/
def ShelfV (w : World) (v : Value) (ps : List Int) (lb : List (List Int)) : Prop :=
  ∃ (b n : Nat) (rv : Value) (D : DataW Unit) (ks : List (List Int)) (gs : List Value),
    v = .agg #[.map (some b), rv] ∧ OwnM w b n D ∧ MapOf D ks ∧ Seq id w rv gs ∧ gs.length = ks.length ∧ (∀ i (h : i < gs.length) (h' : i < ks.length), Tups w gs[i] (likeL ps ks[i] lb)) ∧ (∀ p, p ∉ ks → likeL ps p lb = []) ∧ ∀ p ∈ ks, Dig p

theorem ShelfV.below {w w' : World} {v : Value} {ps : List Int} {lb : List (List Int)} (h : ShelfV w v ps lb) (hb : Below w.heap.size w w') : ShelfV w' v ps lb := by
  obtain ⟨b, n, rv, D, ks, gs, h1, h2, h3, h4, h5, h6, h7⟩ := h
  exact ⟨b, n, rv, D, ks, gs, h1, OwnM.below h2 hb, h3, h4.below hb, h5, fun i hi hi' => (h6 i hi hi').below hb, h7⟩

theorem pick_len (t ps : List Int) : (pickL t ps).length ≤ ps.length := by unfold pickL; exact List.length_filterMap_le _ _

theorem Tups.none (w : World) : Tups w (.slice none 0 0) [] := ⟨[], Seq.nil _ _, rfl, fun i h => by simp at h⟩

set_option maxHeartbeats 8000000 in
theorem like_any {ps qs t : List Int} {lb : List (List Int)} {v vt vq : Value} {w0 w : World} (h : ShelfV w0 v ps lb) (hb00 : Below w0.heap.size w0 w) (ht : Ints w vt t) (hq : Ints w vq qs) (hd : Dig t) (hql : qs.length < 100000) :
    Calls Tryz.prog 24 #[v, vt, vq] w fun e w' => ∃ u, e = .returned u ∧ Tups w0 u (likeL ps (pickL t qs) lb) ∧ Below w.heap.size w w' := by
  obtain ⟨b, n, rv, D, ks, gs, rfl, h2, h3, h40, h5, h6, h7, h8⟩ := h
  replace h2 := OwnM.below h2 hb00
  have h4 := h40.below hb00
  obtain ⟨ra, rc, rfl, k1, k2⟩ := h4.form
  unfold maxLen at k2
  have hb0 := (Below.refl w.heap.size w).alloc (Nat.le_refl _) (.cells #[.map (some b), .slice ra gs.length rc] 48)
  have hpl := pick_len t qs
  have hpd := pick_dig (ps := qs) hd
  have hp6 : (pickL t qs).length < 1000000 := by omega
  obtain ⟨ta, tc, rfl, _, _⟩ := ht.form
  obtain ⟨qa, qc, rfl, _, _⟩ := hq.form
  obtain ⟨W0, hW0⟩ : ∃ W, W = w.alloc (.cells #[.map (some b), .slice ra gs.length rc] 48) := ⟨_, rfl⟩
  have hc0 : W0.cell? ⟨w.heap.size, 0, none⟩ = some (.map (some b)) := by rw [hW0]; simp
  have hc1 : W0.cell? ⟨w.heap.size, 1, none⟩ = some (.slice ra gs.length rc) := by rw [hW0]; simp
  rw [← hW0] at hb0
  have HKY := hide (fun W (hb : Below W0.heap.size W0 W) => key_any ((ht.below hb0).below hb) ((hq.below hb0).below hb) hd hql)
  generalize pickL t qs = p at *
  have HM := hide (h2.below hb0)
  have hz0 := hb0.size
  have HW0 := hide hW0
  have HK := hide (fun W (hb : Below W0.heap.size W0 W) => And.intro (Below.cell_of hb hc0) (Below.cell_of hb hc1))
  have hbR := Below.refl W0.heap.size W0
  clear hW0 ht hq hd
  by_cases hp : p ∈ ks
  · obtain ⟨i, hi, hip⟩ := List.getElem_of_mem hp
    have hig : i < gs.length := by omega
    obtain ⟨hq1, hq2⟩ := h3.yes hi (h8 _ (List.getElem_mem hi))
    rw [hip] at hq1 hq2
    have hT := h6 i hig hi
    rw [hip] at hT
    obtain ⟨bg, og, rfl, hcg⟩ := h4.at hig
    have HT := hide hT
    have HCG := hide hcg
    obtain ⟨ga, gc, hge, _, _⟩ := hT.form
    simp only [id] at hcg
    rw [hge] at hcg
    have hcg0 := Below.cell_of hb0 hcg
    have HK2 := hide (fun W (hb : Below W0.heap.size W0 W) => And.intro (Below.cell_of hb hc0) (And.intro (Below.cell_of hb hc1) (Below.cell_of hb hcg0)))
    rw [hge] at HT
    clear h2 h3 h4 h40 hb00 h5 h6 h7 h8 hT hcg HCG hge hcg0 HK
    go_enter Tryz.func24, Tryz.ntmps24
    go_wp2
    rw [← unhide HW0]
    go_region_held3 (fun W => W.cell? ⟨w.heap.size, 0, none⟩ = some (.map (some b)) ∧ W.cell? ⟨w.heap.size, 1, none⟩ = some (.slice (some ⟨bg, og, none⟩) gs.length rc))
      (first | exact And.intro (unhide HK2 _ (by first | exact hB1 | exact hbR | exact below_same rfl rfl rfl rfl)).1 (unhide HK2 _ (by first | exact hB1 | exact hbR | exact below_same rfl rfl rfl rfl)).2.1)
      (first
        | (go_at_call 46; refine (unhide HKY _ (by first | exact hbR | exact below_same rfl rfl rfl rfl)).mono ?_; rintro e w1 ⟨rfl, hb1⟩; have hB1 : Below W0.heap.size W0 w1 := below_then (by first | exact hbR | exact below_same rfl rfl rfl rfl) hb1; have hlk := look_run ((unhide HM).below hB1) hp6 hq1 hq2))
    all_goals
      obtain ⟨hd0, hd1, hd2⟩ := unhide HK2 _ hB1
      go_wp2
      go_ret
      exact ⟨_, rfl, unhide HT, hb0.trans (hB1.mono hz0)⟩
  · obtain ⟨hq1, hq2⟩ := h3.no hpd hp
    rw [h7 p hp]
    clear h2 h3 h4 h40 hb00 h5 h6 h7 h8
    go_enter Tryz.func24, Tryz.ntmps24
    go_wp2
    rw [← unhide HW0]
    go_region_held3 (fun W => W.cell? ⟨w.heap.size, 0, none⟩ = some (.map (some b)) ∧ W.cell? ⟨w.heap.size, 1, none⟩ = some (.slice ra gs.length rc))
      (first | exact unhide HK _ (by first | exact hB1 | exact hbR | exact below_same rfl rfl rfl rfl))
      (first
        | (go_at_call 46; refine (unhide HKY _ (by first | exact hbR | exact below_same rfl rfl rfl rfl)).mono ?_; rintro e w1 ⟨rfl, hb1⟩; have hB1 : Below W0.heap.size W0 w1 := below_then (by first | exact hbR | exact below_same rfl rfl rfl rfl) hb1; have hlk := look_run ((unhide HM).below hB1) hp6 hq1 hq2))
    all_goals
      go_wp2
      go_ret
      exact ⟨_, rfl, Tups.none _, hb0.trans (hB1.mono hz0)⟩

end Go.Proofs.YtoiokplgkanepaaGreatDoor

namespace Go.Proofs.YtoiokplgkanepaaGreatDoor
open Go.RowKit Go.Maps Go.WideMaps
set_option linter.unusedVariables false
set_option linter.unusedSimpArgs false
set_option maxRecDepth 20000

theorem Tryz.infoTups : (Tryz.prog.info? 23).map (fun i => (i.zero, i.size, i.bytes)) = some (some (.slice none 0 0), 1, 24) := by kernel_rfl

/-- The call's own slice of slices of rows. -/
abbrev OwnX (B : Nat) (w : World) (v : Value) (l : List Value) : Prop := w.ownsRow B 23 1 v l.length l

/-- Block b holds a map and a slice. -/
def BoxM (w : World) (b : Nat) (x y : Value) : Prop := w.heap[b]? = some (.cells #[x, y] 48 (0, 0))
theorem BoxM.lt {w : World} {b : Nat} {x y : Value} (h : BoxM w b x y) : b < w.heap.size := by
  unfold BoxM at h
  rcases Nat.lt_or_ge b w.heap.size with hl | hl
  · exact hl
  · rw [Array.getElem?_eq_none hl] at h; cases h
theorem BoxM.cell0 {w : World} {b : Nat} {x y : Value} (h : BoxM w b x y) : w.cell? ⟨b, 0, none⟩ = some x := by unfold BoxM at h; simp only [World.cell?, h]; simp
theorem BoxM.cell1 {w : World} {b : Nat} {x y : Value} (h : BoxM w b x y) : w.cell? ⟨b, 1, none⟩ = some y := by unfold BoxM at h; simp only [World.cell?, h]; simp
theorem BoxM.frozen {w : World} {b : Nat} {x y : Value} (h : BoxM w b x y) (i : Nat) : w.frozen? ⟨b, i, none⟩ = false := frozen_of_row w b i _ _ h
theorem BoxM.grown {w w' : World} {b : Nat} {x y : Value} {row : Option Nat} (h : BoxM w b x y) (g : w.grownBy w' row) (hne : some b ≠ row) : BoxM w' b x y := (g.block b h.lt hne).trans h
theorem BoxM.set1 {w : World} {b : Nat} {x y : Value} (h : BoxM w b x y) (z : Value) : BoxM (w.setCell ⟨b, 1, none⟩ z) b x z := by
  unfold BoxM at h ⊢
  rw [heap_setCell_same w b 1 _ _ z h]; simp

theorem grown_setCell (w : World) (g i : Nat) (z : Value) : w.grownBy (w.setCell ⟨g, i, none⟩ z) (some g) := by
  refine ⟨rfl, rfl, rfl, Nat.le_of_eq (by simp), fun k hk hne => by rw [heap_setCell_other w ⟨g, i, none⟩ k z (fun e => hne (by rw [e]))]⟩

/-- Shelves that the call itself made: block B a map, block B + 1 the two fields, the rest from B + 2 on. -/
structure ShSt (B : Nat) (w : World) (V : Value) (n : Nat) (D : DataW Unit) (ks : List (List Int)) (gs : List Value) (f : List Int → List Value) : Prop where
  map : OwnM w B n D
  mof : MapOf D ks
  box : BoxM w (B + 1) (.map (some B)) V
  own : OwnX (B + 2) w V gs
  len : gs.length = ks.length
  grp : ∀ i (h : i < gs.length) (h' : i < ks.length), OwnV (B + 2) w gs[i] (f ks[i])
  sepV : ∀ i (h : i < gs.length), Sep gs[i] V
  sepG : ∀ i j (hi : i < gs.length) (hj : j < gs.length), i ≠ j → Sep gs[i] gs[j]
  kn : ks.Nodup
  kd : ∀ p ∈ ks, Dig p
  out : ∀ p, p ∉ ks → f p = []

theorem own_new {B : Nat} {e : TypeId} {w : World} {v : Value} {n : Nat} {xs : List Value} (h : w.ownsRow B e 1 v n xs) : New B w v := h.lt

theorem ShSt.below {B : Nat} {w w' : World} {V : Value} {n : Nat} {D : DataW Unit} {ks : List (List Int)} {gs : List Value} {f : List Int → List Value} (h : ShSt B w V n D ks gs f) (hb : Below w.heap.size w w') : ShSt B w' V n D ks gs f := by
  have g : w.grownBy w' none := ⟨hb.os, hb.tape, hb.output, hb.size, fun k hk _ => hb.block k hk⟩
  exact ⟨h.map.below hb, h.mof, h.box.grown g (by simp), own_below h.own hb, h.len, fun i hi hi' => own_below (h.grp i hi hi') hb, h.sepV, h.sepG, h.kn, h.kd, h.out⟩

/-- A new shelf, with nothing on it. -/
theorem ShSt.add {B : Nat} {w w2 w3 : World} {V V3 : Value} {n : Nat} {D : DataW Unit} {ks : List (List Int)} {gs : List Value} {f : List Int → List Value} (h : ShSt B w V n D ks gs f) {p : List Int} (hd : Dig p) (hp : p ∉ ks)
    (hm : OwnM w2 B (n + 1) (D.put (kl p) (.lit (.int .i64 (gs.length : Int))))) (g2 : w.grownBy w2 (some B)) (own3 : OwnX (B + 2) w3 V3 (gs ++ [.slice none 0 0])) (g3 : Grew (B + 2) w2 w3 V V3) :
    ShSt B (w3.setCell ⟨B + 1, 1, none⟩ V3) V3 (n + 1) (D.put (kl p) (.lit (.int .i64 (gs.length : Int)))) (ks ++ [p]) (gs ++ [.slice none 0 0]) f := by
  have hVne : ∀ b, b < B + 2 → V.ownBlock ≠ some b := fun b hb e => by have := own_new h.own b e; omega
  have gS := grown_setCell w3 (B + 1) 1 V3
  have hbox2 := h.box.grown g2 (by simp)
  have hbox3 := hbox2.grown g3.by_ (fun e => hVne (B + 1) (by omega) e.symm)
  have hlt := h.box.lt
  have k2 : ∀ {u : Value} {e : TypeId} {m : Nat} {xs : List Value}, w.ownsRow (B + 2) e 1 u m xs → w2.ownsRow (B + 2) e 1 u m xs := fun hu => hu.kept g2 (by
    cases hub : Value.ownBlock _ with
    | none => exact .inl rfl
    | some b => right; intro e; have := own_new hu b hub; injection e with e; omega)
  have kS : ∀ {u : Value} {e : TypeId} {m : Nat} {xs : List Value}, w3.ownsRow (B + 2) e 1 u m xs → (w3.setCell ⟨B + 1, 1, none⟩ V3).ownsRow (B + 2) e 1 u m xs := fun hu => hu.kept gS (by
    cases hub : Value.ownBlock _ with
    | none => exact .inl rfl
    | some b => right; intro e; have := own_new hu b hub; injection e with e; omega)
  have hsz2 : ∀ i (hi : i < gs.length), New (B + 2) w2 gs[i] := fun i hi => (own_new (h.grp i hi (by have := h.len; omega))).grow (Nat.le_refl _) g2.size
  refine ⟨?_, by rw [h.len]; exact h.mof.add hd h.kd hp, hbox3.set1 _, kS own3, by simp [h.len], ?_, ?_, ?_, ?_, ?_, ?_⟩
  · exact (hm.kept g3.by_ (fun e => hVne B (by omega) e.symm)).kept gS (by simp)
  · intro i hi hi'
    by_cases hig : i < gs.length
    · have hik : i < ks.length := by have := h.len; omega
      rw [List.getElem_append_left hig, List.getElem_append_left hik]
      exact kS ((k2 (h.grp i hig hik)).kept g3.by_ (h.sepV i hig).or)
    · have e1 : i = gs.length := by simp at hi; omega
      have e2 : i = ks.length := by have := h.len; omega
      rw [List.getElem_append_right (by omega), List.getElem_append_right (by omega)]
      simp only [e1, Nat.sub_self, List.getElem_cons_zero, h.len]
      rw [h.out p hp]
      exact own_nilV _ _
  · intro i hi
    by_cases hig : i < gs.length
    · rw [List.getElem_append_left hig]
      exact (h.sepV i hig).grewN (hsz2 i hig) g3
    · have e1 : i = gs.length := by simp at hi; omega
      rw [List.getElem_append_right (by omega)]
      simp only [e1, Nat.sub_self, List.getElem_cons_zero]
      exact Sep.nil _
  · intro i j hi hj hij
    by_cases hig : i < gs.length
    · by_cases hjg : j < gs.length
      · rw [List.getElem_append_left hig, List.getElem_append_left hjg]; exact h.sepG i j hig hjg hij
      · rw [List.getElem_append_right (Nat.le_of_not_lt hjg)]
        have e1 : j = gs.length := by simp at hj; omega
        simp only [e1, Nat.sub_self, List.getElem_cons_zero]
        exact (Sep.nil _).symm
    · rw [List.getElem_append_right (Nat.le_of_not_lt hig)]
      have e1 : i = gs.length := by simp at hi; omega
      simp only [e1, Nat.sub_self, List.getElem_cons_zero]
      exact Sep.nil _
  · rw [List.nodup_append]
    exact ⟨h.kn, by simp, fun a ha b hb e => by simp at hb; subst hb; subst e; exact hp ha⟩
  · intro q hq
    rcases List.mem_append.1 hq with hq | hq
    · exact h.kd q hq
    · simp at hq; subst hq; exact hd
  · intro q hq; exact h.out q (fun e => hq (List.mem_append_left _ e))

theorem ShSt.at {B : Nat} {w : World} {V : Value} {n : Nat} {D : DataW Unit} {ks : List (List Int)} {gs : List Value} {f : List Int → List Value} (h : ShSt B w V n D ks gs f) {i : Nat} (hi : i < gs.length) :
    ∃ gv c, V = .slice (some ⟨gv, 0, none⟩) gs.length c ∧ w.cell? ⟨gv, i, none⟩ = some gs[i] ∧ w.frozen? ⟨gv, i, none⟩ = false ∧ B + 2 ≤ gv ∧ gs.length ≤ c ∧ c ≤ maxLen := by
  obtain ⟨h1, h2⟩ := h.own
  rcases h2 with ⟨_, h2⟩ | ⟨g, cap, cur, hv, hg, hh, hn, hm, hs, ht⟩
  · omega
  · refine ⟨g, cap, hv, ?_, frozen_of_row w g i cur _ hh, hg, hn, hm⟩
    have e1 : (cur.toList.take (gs.length * 1))[i]? = gs[i]? := by rw [ht]
    rw [List.getElem?_take, if_pos (by omega)] at e1
    simp only [World.cell?, hh]
    simpa [hi] using e1

theorem nodup_at {l : List (List Int)} (h : l.Nodup) {i j : Nat} (hi : i < l.length) (hj : j < l.length) (e : l[i] = l[j]) : i = j := by
  rcases Nat.lt_trichotomy i j with h1 | h1 | h1
  · exact absurd e (List.pairwise_iff_getElem.1 h i j hi hj h1)
  · exact h1
  · exact absurd e.symm (List.pairwise_iff_getElem.1 h j i hj hi h1)

/-- One more row on a shelf. -/
theorem ShSt.put {B : Nat} {w w2 : World} {n : Nat} {D : DataW Unit} {ks : List (List Int)} {gs : List Value} {f f' : List Int → List Value} {gv m c i : Nat} {g' y : Value} (h : ShSt B w (.slice (some ⟨gv, 0, none⟩) m c) n D ks gs f) (hi : i < gs.length) (hik : i < ks.length)
    (hf : f' ks[i] = f ks[i] ++ [y]) (hf' : ∀ q, q ≠ ks[i] → f' q = f q) (own2 : OwnV (B + 2) w2 g' (f ks[i] ++ [y])) (g2 : Grew (B + 2) w w2 gs[i] g') :
    ShSt B (w2.setCell ⟨gv, i, none⟩ g') (.slice (some ⟨gv, 0, none⟩) m c) n D ks (gs.set i g') f' := by
  have hVn := own_new h.own gv rfl
  have hm : m = gs.length := ownsRow_len (v := .slice none 0 0) h.own
  subst hm
  have hne : ∀ b, b < B + 2 → gs[i].ownBlock ≠ some b := fun b hb e => by have := own_new (h.grp i hi hik) b e; omega
  have hown2 : OwnX (B + 2) w2 (.slice (some ⟨gv, 0, none⟩) gs.length c) gs := h.own.kept g2.by_ (h.sepV i hi).symm.or
  obtain ⟨_, _, hset, _⟩ := own_set hown2 (i := i) hi g'
  have gS := grown_setCell w2 gv i g'
  have hg'n := own_new own2
  have hsepg : ∀ j (hj : j < gs.length), j ≠ i → Sep gs[j] g' := fun j hj hji => (h.sepG j i hj hi hji).grewN (own_new (h.grp j hj (by have := h.len; omega))) g2
  have hsepV' : Sep g' (.slice (some ⟨gv, 0, none⟩) gs.length c) := by
    intro k h1 h2
    have e2 : gv = k := by simpa [Value.ownBlock] using h2
    rcases g2.at_ with h' | ⟨q, hq, hle⟩
    · exact h.sepV i hi k (h' ▸ h1) h2
    · rw [hq] at h1; cases h1; omega
  refine ⟨?_, h.mof, ?_, by simpa [OwnX] using hset, by simp [h.len], ?_, ?_, ?_, h.kn, h.kd, ?_⟩
  · exact (h.map.kept g2.by_ (fun e => hne B (by omega) e.symm)).kept gS (by intro e; injection e with e; omega)
  · exact (h.box.grown g2.by_ (fun e => hne (B + 1) (by omega) e.symm)).grown gS (by intro e; injection e with e; omega)
  · intro j hj hj'
    have hj0 : j < gs.length := by simpa using hj
    by_cases e : i = j
    · subst e
      simp only [List.getElem_set_self]
      rw [hf]
      exact own2.kept gS (hsepV'.or.imp id (fun h e => h (by rw [e]; rfl)))
    · rw [List.getElem_set_ne e]
      have hne2 : ks[j] ≠ ks[i] := fun e2 => e (nodup_at h.kn hik hj' e2.symm)
      rw [hf' _ hne2]
      exact ((h.grp j hj0 hj').kept g2.by_ (h.sepG j i hj0 hi (Ne.symm e)).or).kept gS ((h.sepV j hj0).or.imp id (fun h e => h (by rw [e]; rfl)))
  · intro j hj
    have hj0 : j < gs.length := by simpa using hj
    by_cases e : i = j
    · subst e; simp only [List.getElem_set_self]; exact hsepV'
    · rw [List.getElem_set_ne e]; exact h.sepV j hj0
  · intro j k hj hk hjk
    have hj0 : j < gs.length := by simpa using hj
    have hk0 : k < gs.length := by simpa using hk
    by_cases e : i = j
    · subst e
      simp only [List.getElem_set_self]
      rw [List.getElem_set_ne hjk]
      exact (hsepg k hk0 (Ne.symm hjk)).symm
    · rw [List.getElem_set_ne e]
      by_cases e2 : i = k
      · subst e2; simp only [List.getElem_set_self]; exact hsepg j hj0 (Ne.symm e)
      · rw [List.getElem_set_ne e2]; exact h.sepG j k hj0 hk0 hjk
  · intro q hq
    have hqi : q ≠ ks[i] := fun e => hq (e ▸ List.getElem_mem hik)
    rw [hf' q hqi]; exact h.out q hq

theorem shst_own {B : Nat} {w w3 : World} {V : Value} {gs : List Value} (h : OwnX (B + 2) w V gs) (hg : w.grownBy w3 (some B)) : OwnX (B + 2) w3 V gs := h.kept hg (by
  cases hub : V.ownBlock with
  | none => exact .inl rfl
  | some b => right; intro e; have := own_new h b hub; injection e with e; omega)
theorem shst_ne {B : Nat} {w : World} {V : Value} {gs : List Value} (h : OwnX (B + 2) w V gs) : some (B + 1) ≠ V.ownBlock := fun e => by have := own_new h _ e.symm; omega
theorem ownX_sl {B : Nat} {w : World} {v : Value} {l : List Value} (h : OwnX B w v l) : ∃ a n c, v = .slice a n c := by
  obtain ⟨a, c, e, _, _⟩ := (Seq.of_own (enc := id) (l := l) (by simpa using h)).form
  exact ⟨_, _, _, e⟩
theorem ownV_sl {B : Nat} {w : World} {v : Value} {l : List Value} (h : OwnV B w v l) : ∃ a n c, v = .slice a n c := by
  obtain ⟨a, c, e, _, _⟩ := (Seq.of_own (enc := id) (l := l) (by simpa using h)).form
  exact ⟨_, _, _, e⟩

/-- What the last region of a round finds. -/
theorem ShSt.get {B : Nat} {w : World} {va : Option Addr} {vn vc : Nat} {n : Nat} {D : DataW Unit} {ks : List (List Int)} {gs : List Value} {f : List Int → List Value} (h : ShSt B w (.slice va vn vc) n D ks gs f) {i : Nat} (hi : i < gs.length) (hik : i < ks.length) :
    ∃ gv ga gn gc, va = some ⟨gv, 0, none⟩ ∧ vn = gs.length ∧ gs[i] = .slice ga gn gc ∧ w.cell? ⟨B + 1, 1, none⟩ = some (.slice (some ⟨gv, 0, none⟩) vn vc) ∧ w.cell? ⟨gv, i, none⟩ = some (.slice ga gn gc) ∧ OwnV (B + 2) w (.slice ga gn gc) (f ks[i]) ∧ vn ≤ vc ∧ vc ≤ maxLen ∧ B + 2 ≤ gv ∧
      (∀ w2 g', Grew (B + 2) w w2 (.slice ga gn gc) g' → w2.cell? ⟨B + 1, 1, none⟩ = some (.slice (some ⟨gv, 0, none⟩) vn vc) ∧ w2.cell? ⟨gv, i, none⟩ = some (.slice ga gn gc) ∧ w2.frozen? ⟨gv, i, none⟩ = false) := by
  obtain ⟨gv, c, hV, hc, hfr, hB, h1, h2⟩ := h.at hi
  cases hV
  obtain ⟨ga, gn, gc, hg⟩ := ownV_sl (h.grp i hi hik)
  have hgr := h.grp i hi hik
  have hsv := h.sepV i hi
  rw [hg] at hc hgr hsv
  refine ⟨gv, ga, gn, gc, rfl, rfl, hg, h.box.cell1, hc, hgr, h1, h2, hB, fun w2 g' G => ⟨?_, ?_, ?_⟩⟩
  · exact (h.box.grown G.by_ (fun e => by have := own_new hgr _ e.symm; omega)).cell1
  · exact G.by_.cell hc (fun e => hsv gv e.symm rfl)
  · have hh := h.own
    obtain ⟨q1, q2⟩ := hh
    rcases q2 with ⟨q2, _⟩ | ⟨g, cap, cur, hv, hg', hh, _⟩
    · cases q2
    · cases hv
      have : w2.heap[gv]? = some (.cells cur 23 (0, 0)) := (G.by_.block gv (cell_lt hc) (fun e => hsv gv e.symm rfl)).trans hh
      exact frozen_of_row w2 gv i cur _ this

/-- One more shelf. -/
theorem wp_app_tupsX {w : World} {ops : Array Oper} {rest : List Oper} {o : Oper} {a : Act} {Q : Exit → Act → World → Prop} (hgd : o.guard = none) (s x : Operand)
    (ho : o.op = .call { callee := .builtin .append, args := #[s, x], argTypes := #[46, 46] }) {B : Nat} {v : Value} {l : List Value} {y : Value} (hown : OwnX B w v l) (hs : a.eval s = v) (hB : B ≤ w.heap.size)
    (hx : a.eval x = .slice (some ⟨w.heap.size, 0, none⟩) 1 1) (h1 : y.oneCell' = true) (hlen : l.length < 100000000000)
    (h : ∀ v' w', OwnX B w' v' (l ++ [y]) → Grew B w w' v v' → wpList Tryz.prog ops Q rest (a.put o.dst v') w') :
    wpList Tryz.prog ops Q (o :: rest) a (w.alloc (.cells #[y] 23)) :=
  wpList_plain hgd fun _ hK => op_app_one (enc := id) Tryz.underlying46 Tryz.infoTups rfl (by decide) s x ho (by simpa using hown) hs hB hx h1 hlen fun v' w' h1 h2 => hK _ _ (h v' w' (by simpa [OwnX] using h1) h2)

theorem ShSt.shelf {B : Nat} {w : World} {V : Value} {n : Nat} {D : DataW Unit} {ks : List (List Int)} {gs : List Value} {f : List Int → List Value} (h : ShSt B w V n D ks gs f) {ps : List Int} {lb : List (List Int)}
    (hr : ∀ p v, OwnV (B + 2) w v (f p) → Tups w v (likeL ps p lb)) (hn : ∀ p, f p = [] → likeL ps p lb = []) : ShelfV w (.agg #[.map (some B), V]) ps lb :=
  ⟨B, n, V, D, ks, gs, rfl, h.map, h.mof, Seq.of_own (enc := id) (by simpa using h.own), h.len, fun i hi hi' => hr _ _ (h.grp i hi hi'), fun p hp => hn p (h.out p hp), h.kd⟩

end Go.Proofs.YtoiokplgkanepaaGreatDoor

namespace Go.Proofs.YtoiokplgkanepaaGreatDoor
open Go.RowKit Go.Maps Go.WideMaps
set_option linter.unusedVariables false
set_option linter.unusedSimpArgs false
set_option maxRecDepth 20000
attribute [local go_sem ↓] Go.wp_at_zero Go.wp_at_succ

set_option maxHeartbeats 8000000 in
theorem placesOf_any {s vars : List Int} {vs vv : Value} {w : World} (hs : Ints w vs s) (hv : Ints w vv vars) (hup : vars.Pairwise (· ≤ ·)) (hsl : s.length < 100000000) (hvl : vars.length < 100000000) :
    Calls Tryz.prog 22 #[vs, vv] w fun e w' => ∃ u, e = .returned u ∧ Ints w' u (idxL s vars s.length) ∧ New w.heap.size w' u ∧ Below w.heap.size w w' := by
  obtain ⟨a, ca, rfl, k1, k2⟩ := hs.form
  obtain ⟨d, cd, rfl, k3, k4⟩ := hv.form
  unfold maxLen at k2 k4
  go_enter Tryz.func22, Tryz.ntmps22
  go_wp2
  go_loopw [5, 6, 7, 8, 9, 13] (fun v _ _ _ _ i wr => ∃ k : Nat, k ≤ s.length ∧ i = .int .i64 k ∧ OwnI w.heap.size wr v (idxL s vars k) ∧ Below w.heap.size w wr) (fun _ _ _ _ _ i _ => s.length - (intOf i).toNat)
  case atStart => exact ⟨0, by omega, rfl, own_litI (Nat.le_refl _), (Below.refl _ _).alloc (Nat.le_refl _) _⟩
  case round =>
    obtain ⟨k, hk, rfl, hown, hbel⟩ := hrel
    have hz := hbel.size
    have hil := idxL_le s vars k
    by_cases hkl : k < s.length
    · obtain ⟨bl, ol, rfl, hcl⟩ := (hs.below hbel).at hkl
      have HBS := hide (search_ints (x := s[k]) (hv.below hbel) hup (by omega))
      have HH := hide (fun h => idxL_hit (vars := vars) hkl h)
      have HM := hide (fun h => idxL_miss (vars := vars) hkl h)
      generalize inB vars s[k] = q at HBS HH HM
      clear hs hv
      cases q with
      | true =>
        have HN := hide (unhide HH rfl)
        clear HH HM
        go_wp2_with (first | (go_at_call 45; refine (unhide HBS).mono ?_; rintro e w' ⟨j, rfl, m, rfl⟩) | (at_builtin; refine wp_app_int rfl (.tmp 25) (.tmp 27) rfl (own_drewN hown m) rfl hz rfl (by omega) ?_; intro v' w3 hown3 hgrew))
        go_roundw
        case rel => exact ⟨k + 1, by omega, by go_num, by rw [unhide HN]; exact hown3, (Below.drewN1 hbel m).trans hgrew.below⟩
        case measure => simp [intOf]; omega
      | false =>
        have HN := hide (unhide HM rfl)
        clear HH HM
        go_wp2_with (go_at_call 45; refine (unhide HBS).mono ?_; rintro e w' ⟨j, rfl, m, rfl⟩)
        go_roundw
        case rel => exact ⟨k + 1, by omega, by go_num, by rw [unhide HN]; exact own_drewN hown m, Below.drewN1 hbel m⟩
        case measure => simp [intOf]; omega
    · have hkk : k = s.length := by omega
      subst hkk
      have hps := Seq.of_own hown
      have hnw := New.of_own hown
      clear hs hv hown
      go_wp2
      go_ret
      exact ⟨_, rfl, hps, hnw, hbel⟩

/-- The values of rows, of these, that have p at the places ps. -/
def fOf (ps : List Int) (vl : List (Value × List Int)) (p : List Int) : List Value := (vl.filter fun x => decide (pickL x.2 ps = p)).map Prod.fst

theorem fOf_snoc (ps : List Int) (vl : List (Value × List Int)) (y : Value) (t p : List Int) : fOf ps (vl ++ [(y, t)]) p = fOf ps vl p ++ if pickL t ps = p then [y] else [] := by
  unfold fOf
  rw [List.filter_append, List.map_append]
  by_cases h : pickL t ps = p <;> simp [List.filter_cons, h]

theorem fOf_len (ps : List Int) (vl : List (Value × List Int)) (p : List Int) (h : vl.length < 1000000) : (fOf ps vl p).length < 100000000000 := by
  unfold fOf
  rw [List.length_map]
  have := List.length_filter_le (fun x : Value × List Int => decide (pickL x.2 ps = p)) vl
  omega

theorem zip_like {ps p : List Int} {vl : List (Value × List Int)} : likeL ps p (vl.map Prod.snd) = (vl.filter fun x => decide (pickL x.2 ps = p)).map Prod.snd := by
  unfold likeL
  rw [List.filter_map]; rfl

theorem fOf_tups {w : World} {ps p : List Int} {vl : List (Value × List Int)} {B : Nat} {v : Value} (hv : ∀ x ∈ vl, Ints w x.1 x.2) (h : OwnV B w v (fOf ps vl p)) : Tups w v (likeL ps p (vl.map Prod.snd)) := by
  rw [zip_like]
  refine ⟨fOf ps vl p, Seq.of_own (enc := id) (by simpa using h), by simp [fOf], fun i hi hi' => ?_⟩
  unfold fOf at hi ⊢
  simp only [List.getElem_map]
  exact hv _ (List.mem_filter.1 (List.getElem_mem _)).1

theorem fOf_none {ps p : List Int} {vl : List (Value × List Int)} (h : fOf ps vl p = []) : likeL ps p (vl.map Prod.snd) = [] := by
  rw [zip_like]
  unfold fOf at h
  rw [List.map_eq_nil_iff] at h
  rw [h]; rfl

theorem ShSt.setOut {B : Nat} {w : World} {V : Value} {n : Nat} {D : DataW Unit} {ks : List (List Int)} {gs : List Value} {f : List Int → List Value} (h : ShSt B w V n D ks gs f) {b i : Nat} (hb : b < B) (z : Value) : ShSt B (w.setCell ⟨b, i, none⟩ z) V n D ks gs f := by
  have g := grown_setCell w b i z
  have k : ∀ {u : Value} {e : TypeId} {m : Nat} {xs : List Value}, w.ownsRow (B + 2) e 1 u m xs → (w.setCell ⟨b, i, none⟩ z).ownsRow (B + 2) e 1 u m xs := fun hu => hu.kept g (by
    cases hub : Value.ownBlock _ with
    | none => exact .inl rfl
    | some c => right; intro e; have := own_new hu c hub; injection e with e; omega)
  exact ⟨h.map.kept g (by intro e; injection e with e; omega), h.mof, h.box.grown g (by intro e; injection e with e; omega), k h.own, h.len, fun i hi hi' => k (h.grp i hi hi'), h.sepV, h.sepG, h.kn, h.kd, h.out⟩

theorem ShSt.start (w : World) (ps : List Int) : ShSt w.heap.size ((w.alloc (.map #[] 0)).alloc (.cells #[.map (some w.heap.size), .slice none 0 0] 48)) (.slice none 0 0) 0 (.map []) [] [] (fOf ps []) := by
  refine ⟨(World.ownsMap_made w _ _ _).alloc _, MapOf.nil, ?_, World.ownsRow_nil _ _ _ _, rfl, fun i h => by simp at h, fun i h => by simp at h, fun i j h => by simp at h, List.Pairwise.nil, by simp, fun p _ => rfl⟩
  have := heap_alloc_new (w.alloc (.map #[] 0)) (.cells #[.map (some w.heap.size), .slice none 0 0] 48)
  unfold BoxM
  simpa using this

theorem Tups.rows {w : World} {v : Value} {ll : List (List Int)} (h : Tups w v ll) : ∃ vl : List (Value × List Int), vl.map Prod.snd = ll ∧ Seq id w v (vl.map Prod.fst) ∧ ∀ x ∈ vl, Ints w x.1 x.2 := by
  obtain ⟨vs, h1, h2, h3⟩ := h
  refine ⟨vs.zip ll, ?_, ?_, fun x hx => ?_⟩
  · rw [List.map_snd_zip]; omega
  · rw [List.map_fst_zip (by omega)]; exact h1
  · obtain ⟨i, hi, rfl⟩ := List.getElem_of_mem hx
    simp only [List.length_zip] at hi
    simp only [List.getElem_zip]
    exact h3 i (by omega) (by omega)

theorem wf_len {n : Nat} (h : n < 100000000) : (Lit.int .i64 (n : Int)).wf = true := WalkArith.wf_i64 (by omega)

set_option maxHeartbeats 40000000 in
theorem shelve_any {s vars : List Int} {ll : List (List Int)} {v vv : Value} {w : World} (h : RelV w v s ll) (hv : Ints w vv vars) (hup : vars.Pairwise (· ≤ ·)) (hd : ∀ t ∈ ll, Dig t) (hl : ll.length < 1000000) (hsl : s.length < 10000) (hvl : vars.length < 10000) :
    Calls Tryz.prog 23 #[v, vv] w fun e w' => ∃ u, e = .returned u ∧ ShelfV w' u (idxL s vars s.length) ll ∧ Below w.heap.size w w' := by
  obtain ⟨a, ca, b, cb, rfl, k1, k2, k3, k4, hs, ht⟩ := h.form
  obtain ⟨d, cd, rfl, k5, k6⟩ := hv.form
  unfold maxLen at k2 k4 k6
  have hb0 := b2x w (.cells #[.slice a s.length ca, .slice b ll.length cb] 27) (.cells #[.map none, .slice none 0 0] 48)
  obtain ⟨W0, hW0⟩ : ∃ W, W = (w.alloc (.cells #[.slice a s.length ca, .slice b ll.length cb] 27)).alloc (.cells #[.map none, .slice none 0 0] 48) := ⟨_, rfl⟩
  have hbx0 : Box W0 w.heap.size (.slice a s.length ca) (.slice b ll.length cb) := by rw [hW0]; exact (Box.new w _ _).push _
  have hbx1 : BoxM W0 (w.heap.size + 1) (.map none) (.slice none 0 0) := by
    rw [hW0]; have := heap_alloc_new (w.alloc (.cells #[.slice a s.length ca, .slice b ll.length cb] 27)) (.cells #[.map none, .slice none 0 0] 48); unfold BoxM; simpa using this
  rw [← hW0] at hb0
  have HPL := hide (placesOf_any (hs.below hb0) (hv.below hb0) hup (by omega) (by omega))
  have hpl := idxL_le s vars s.length
  generalize idxL s vars s.length = ps at HPL hpl ⊢
  have HW0 := hide hW0
  have HD := hide hd
  have HT := hide ht
  have hz0 := hb0.size
  clear h hv hup hW0 hd hs ht
  go_enter Tryz.func23, Tryz.ntmps23
  go_wp2_with fail
  rw [← unhide HW0]
  refine (unhide HPL).mono ?_
  rintro e w1 ⟨u1, rfl, hu1, hun1, hb1⟩
  obtain ⟨ua, uc, rfl, k7, k8⟩ := hu1.form
  have hbw1 := hb0.trans (hb1.mono hz0)
  replace hbx0 := hbx0.belowH hb1
  have gN : W0.grownBy w1 none := ⟨hb1.os, hb1.tape, hb1.output, hb1.size, fun k hk _ => hb1.block k hk⟩
  replace hbx1 := hbx1.grown gN (by simp)
  have hzb := hbx1.lt
  have hmm := @run_makeMap Tryz.prog
  have hc1 := hbx0.cell1
  obtain ⟨vl, hvl1, hvs, hvi⟩ := (unhide HT).rows
  have hlen : vl.length = ll.length := by rw [← hvl1]; simp
  have HLEN := hide hlen
  have HVL := hide hvl1
  have HVS := hide (hvs.below hbw1)
  have HVI := hide (fun W (hb : Below w.heap.size w W) x hx => (hvi x hx).below (w' := W) hb)
  have HU1 := hide hu1
  have HST := hide (ShSt.start w1 ps)
  have hc1' := cell_push (cell_push hc1 (.map #[] 0)) (.cells #[.map (some w1.heap.size), .slice none 0 0] 48)
  clear HPL hu1 hun1 hvs hvi hvl1 hlen hb1 gN
  go_wp2
  go_loopw [8, 9, 10, 11, 21] (fun _ _ _ _ i wr => ∃ (k : Nat) (V : Value) (n : Nat) (D : DataW Unit) (ks : List (List Int)) (gs : List Value), k ≤ ll.length ∧ i = .int .i64 k ∧ ShSt w1.heap.size wr V n D ks gs (fOf ps (vl.take k)) ∧ Below w1.heap.size w1 wr ∧ n ≤ k ∧ gs.length ≤ k) (fun _ _ _ _ i _ => ll.length - (intOf i).toNat)
  case atStart => exact ⟨0, _, 0, _, _, _, by omega, rfl, unhide HST, ((Below.refl _ _).alloc (Nat.le_refl _) _).alloc (by simp) _, Nat.le_refl _, by simp⟩
  case round =>
    clear hc1' hmm HST
    obtain ⟨k, V, n, D, ks, gs, hk, rfl, hst, hbel, hn, hg⟩ := hrel
    have hz := hbel.size
    by_cases hkl : k < ll.length
    · have hkv : k < vl.length := by have := unhide HLEN; omega
      obtain ⟨bl, ol, hble, hcl⟩ := ((unhide HVS).below hbel).at (k := k) (by simpa using hkv)
      subst hble
      simp only [id, List.getElem_map] at hcl
      have hrow := unhide HVI _ (hbw1.trans (hbel.mono hbw1.size)) _ (List.getElem_mem hkv)
      have etk : vl[k].2 = ll[k] := by have := unhide HVL; subst this; simp
      have hdg := unhide HD ll[k] (List.getElem_mem hkl)
      rw [etk] at hrow
      have HTK := hide (show vl.take (k + 1) = vl.take k ++ [(vl[k].1, ll[k])] by rw [List.take_succ_eq_append_getElem hkv, ← etk])
      have hpd := pick_dig (ps := ps) hdg
      have hpn := pick_len ll[k] ps
      have hp6 : (pickL ll[k] ps).length < 1000000 := by omega
      have HKY := hide (key_any hrow ((unhide HU1).below hbel) hdg (by omega))
      have HF := hide (fOf_snoc ps (vl.take k) vl[k].1 ll[k])
      obtain ⟨y, hye⟩ : ∃ y, y = vl[k].1 := ⟨_, rfl⟩
      rw [← hye] at hrow hcl HTK HF HKY
      obtain ⟨ya, yc, hyf, _, _⟩ := hrow.form
      have HYE := hide hye
      have HFL := hide (fun q => fOf_len ps (vl.take k) q (by rw [List.length_take]; have := unhide HLEN; omega))
      generalize fOf ps (vl.take k) = f at hst HF HFL
      obtain ⟨t, hte⟩ : ∃ t, t = ll[k] := ⟨_, rfl⟩
      rw [← hte] at hrow hpd hp6 HKY HTK HF hyf hpn
      have HTE := hide hte
      have HROW := hide hrow
      subst hyf
      generalize pickL t ps = p at *
      clear hye hte etk hdg hrow hpn
      go_wp2_with fail
      refine (unhide HKY).mono ?_
      rintro e w2 ⟨rfl, hb2⟩
      have hst2 := hst.below hb2
      have hbel2 := below_then hbel hb2
      have hrow2 := hide ((unhide HROW).below hb2)
      have hbx := hst2.box
      have hcc0 := hbx.cell0
      have hcc1 := hbx.cell1
      obtain ⟨va, vc, hVe, _, _⟩ := (Seq.of_own (enc := id) (l := gs) (by simpa using hst2.own)).form
      subst hVe
      have hmb := hst2.map
      have HST2 := hide hst2
      clear HKY hst hbx hst2 hcl
      by_cases hp : p ∈ ks
      case pos =>
        obtain ⟨iX, hikX, hipX⟩ := List.getElem_of_mem hp
        have hlenX := (unhide HST2).len
        have hiX : iX < gs.length := by omega
        obtain ⟨hq1, hq2⟩ := (unhide HST2).mof.yes hikX ((unhide HST2).kd _ (List.getElem_mem hikX))
        rw [hipX] at hq1 hq2
        clear hlenX
        go_wp2_with (at_lookup; refine wp_look rfl _ _ rfl hmb rfl rfl hp6 hq1 hq2 ?_)
        obtain ⟨gv, ga, gn, gc, eg1, eg2, eg3, hS1, hS2, hgo, hm1, hm2, hgvl, hnext⟩ := (unhide HST2).get hiX hikX
        subst eg1
        unfold maxLen at hm2
        have hiV : iX < gs.length := by exact hiX
        have HNX := hide hnext
        have HXX := hide ((unhide HST2).below ((Below.refl _ _).drew))
        have HG3 := hide eg3
        have hgo2 := hide (own_below hgo ((Below.refl _ _).drew))
        have HBZ := hide (show w1.heap.size + 2 ≤ w2.heap.size by have := (unhide HST2).box.lt; omega)
        clear hnext eg2 eg3 hgo hq1 hq2 hmb hcc0 hcc1
        refine wp_region_noPanic ?_
        refine wp_region_till (st := 12) (S := fun W => W.cell? ⟨w1.heap.size + 1, 1, none⟩ = some (.slice (some ⟨gv, 0, none⟩) gs.length vc) ∧ W.cell? ⟨gv, iX, none⟩ = some (.slice ga gn gc)) (by kernel_rfl) ?_
        have hS0 : w2.drew.cell? ⟨w1.heap.size + 1, 1, none⟩ = some (.slice (some ⟨gv, 0, none⟩) gs.length vc) ∧ w2.drew.cell? ⟨gv, iX, none⟩ = some (.slice ga gn gc) := ⟨hS1, hS2⟩
        refine till_take (i := 0) (v := ?_) rfl (by kernel_rfl) (by kernel_rfl) (by kernel_rfl) (by kernel_rfl) (fun _ _ _ h => h) (Or.inl ⟨by rfl, ?_⟩) (by assumption) ?_
        rotate_left
        · intro W hSW; obtain ⟨hS1, hS2⟩ := hSW; go_simp; first | done | rfl
        simp only [Act.put, List.setIfInBounds_toArray, List.set_cons_zero, List.set_cons_succ]
        refine till_take (i := 1) (v := ?_) rfl (by kernel_rfl) (by kernel_rfl) (by kernel_rfl) (by kernel_rfl) (fun _ _ _ h => h) (Or.inl ⟨by rfl, ?_⟩) (by assumption) ?_
        rotate_left
        · intro W hSW; obtain ⟨hS1, hS2⟩ := hSW; go_simp; first | done | rfl
        simp only [Act.put, List.setIfInBounds_toArray, List.set_cons_zero, List.set_cons_succ]
        refine till_take (i := 2) (v := ?_) rfl (by kernel_rfl) (by kernel_rfl) (by kernel_rfl) (by kernel_rfl) (fun _ _ _ h => h) (Or.inl ⟨by rfl, ?_⟩) (by assumption) ?_
        rotate_left
        · intro W hSW; obtain ⟨hS1, hS2⟩ := hSW; go_simp; first | done | rfl
        simp only [Act.put, List.setIfInBounds_toArray, List.set_cons_zero, List.set_cons_succ]
        refine till_take (i := 3) (v := ?_) rfl (by kernel_rfl) (by kernel_rfl) (by kernel_rfl) (by kernel_rfl) (fun _ _ _ h => h) (Or.inl ⟨by rfl, ?_⟩) (by assumption) ?_
        rotate_left
        · intro W hSW; obtain ⟨hS1, hS2⟩ := hSW; go_simp; first | done | rfl
        simp only [Act.put, List.setIfInBounds_toArray, List.set_cons_zero, List.set_cons_succ]
        refine till_take (i := 4) (v := ?_) rfl (by kernel_rfl) (by kernel_rfl) (by kernel_rfl) (by kernel_rfl) (fun _ _ _ h => h) (Or.inl ⟨by rfl, ?_⟩) (by assumption) ?_
        rotate_left
        · intro W hSW; obtain ⟨hS1, hS2⟩ := hSW; go_simp; first | done | rfl
        simp only [Act.put, List.setIfInBounds_toArray, List.set_cons_zero, List.set_cons_succ]
        refine till_take (i := 5) (v := ?_) rfl (by kernel_rfl) (by kernel_rfl) (by kernel_rfl) (by kernel_rfl) (fun _ _ _ h => h) (Or.inl ⟨by rfl, ?_⟩) (by assumption) ?_
        rotate_left
        · intro W hSW; obtain ⟨hS1, hS2⟩ := hSW; go_simp; first | done | rfl
        simp only [Act.put, List.setIfInBounds_toArray, List.set_cons_zero, List.set_cons_succ]
        refine till_take (i := 6) (v := ?_) rfl (by kernel_rfl) (by kernel_rfl) (by kernel_rfl) (by kernel_rfl) (fun _ _ _ h => h) (Or.inl ⟨by rfl, ?_⟩) (by assumption) ?_
        rotate_left
        · intro W hSW; obtain ⟨hS1, hS2⟩ := hSW; go_simp; first | done | rfl
        simp only [Act.put, List.setIfInBounds_toArray, List.set_cons_zero, List.set_cons_succ]
        refine till_take (i := 7) (v := ?_) rfl (by kernel_rfl) (by kernel_rfl) (by kernel_rfl) (by kernel_rfl) (fun _ _ _ h => h) (Or.inl ⟨by rfl, ?_⟩) (by assumption) ?_
        rotate_left
        · intro W hSW; obtain ⟨hS1, hS2⟩ := hSW; go_simp; first | done | rfl
        simp only [Act.put, List.setIfInBounds_toArray, List.set_cons_zero, List.set_cons_succ]
        refine till_take (i := 8) (v := ?_) rfl (by kernel_rfl) (by kernel_rfl) (by kernel_rfl) (by kernel_rfl) (fun _ _ _ h => h) (Or.inl ⟨by rfl, ?_⟩) (by assumption) ?_
        rotate_left
        · intro W hSW; obtain ⟨hS1, hS2⟩ := hSW; go_simp; first | done | rfl
        simp only [Act.put, List.setIfInBounds_toArray, List.set_cons_zero, List.set_cons_succ]
        refine till_one (i := 9) (by kernel_rfl) rfl rfl (by decide) (fun K hK => ?_)
        go_simp
        refine hK.out _ _ ⟨cell_push hS0.1 _, cell_push hS0.2 _⟩ (fun hHeld => ?_)
        clear hK K
        try simp only [Act.put, List.setIfInBounds_toArray, List.set_cons_zero, List.set_cons_succ]
        refine till_one (i := 10) (by kernel_rfl) rfl rfl (by decide) (fun K hK => ?_)
        refine op_app_row (.tmp 56) (.tmp 58) rfl (B := w1.heap.size + 2) (w := w2.drew) (unhide hgo2) rfl (unhide HBZ) rfl rfl (unhide HFL _) ?_
        intro g5 w6 hown6 hgrew6
        obtain ⟨g5a, g5n, g5c, hg5⟩ := ownV_sl hown6
        subst hg5
        obtain ⟨hn1, hn2, hn3⟩ := unhide HNX w6 _ ⟨((Below.refl (w1.heap.size + 2) w2).drew).trans hgrew6.below, ⟨hgrew6.by_.os, hgrew6.by_.tape, hgrew6.by_.output, hgrew6.by_.size, hgrew6.by_.block⟩, hgrew6.at_⟩
        refine hK.out _ _ ⟨hn1, hn2⟩ (fun hHeld => ?_)
        clear hK K
        try simp only [Act.put, List.setIfInBounds_toArray, List.set_cons_zero, List.set_cons_succ]
        refine till_one (i := 11) (by kernel_rfl) rfl rfl (by decide) (fun K hK => ?_)
        go_simp
        refine hK.out _ _ hHeld (fun hHeld => ?_)
        clear hK K
        try simp only [Act.put, List.setIfInBounds_toArray, List.set_cons_zero, List.set_cons_succ]
        refine till_last (by kernel_rfl) rfl rfl (by kernel_rfl) (fun K hK => ?_)
        go_simp
        refine hK.out _ _ (NoPanic.normal ?_)
        have HFX := hide ((unhide HXX).put hiX hikX (f' := fOf ps (vl.take (k + 1))) (g' := .slice g5a g5n g5c) (y := .slice ya t.length yc) (by rw [unhide HTK, unhide HF, hipX]; simp) (fun q hq => by rw [unhide HTK, unhide HF, if_neg (fun e => hq (by rw [hipX]; exact e.symm))]; simp) hown6 (by rw [unhide HG3]; exact hgrew6))
        have hB6 : Below w1.heap.size w1 (w6.setCell ⟨gv, iX, none⟩ (.slice g5a g5n g5c)) := (hbel2.trans (((Below.refl (w1.heap.size + 2) w2).drew.trans hgrew6.below).mono (by omega))).setCell (show w1.heap.size ≤ gv by omega) _
        clear hHeld hS0 hS1 hS2 hn1 hn2 hn3
        go_wp2
        go_roundw
        case rel => first | exact ⟨k + 1, _, n, D, ks, _, by omega, by go_num, unhide HFX, hB6, by omega, by simp; omega⟩ | ((repeat apply Exists.intro); exact ⟨⟨k + 1, _, n, D, ks, _, by omega, by go_num, unhide HFX, hB6, by omega, by simp; omega⟩, rfl⟩)
        case measure => simp [intOf]; omega
      case neg =>
        obtain ⟨hq1, hq2⟩ := (unhide HST2).mof.no hpd hp
        have hown0 := (unhide HST2).own
        have hwg := wf_len (n := gs.length) (by omega)
        go_wp2_with (first
          | (at_lookup; refine wp_look rfl _ _ rfl hmb rfl rfl hp6 hq1 hq2 ?_)
          | (at_mapUpdate; refine wpList_mapUpdate_own _ rfl _ _ _ 45 rfl 9 3 strLaw Tryz.underlying45 _ w1.heap.size n D rfl hmb (by unfold maxLen; omega) _ _ (kl p) rfl rfl (key_lit hp6) (.lit (.int .i64 (gs.length : Int))) [] (plainElem_int Tryz.underlying3 hwg) ?_; intro w3 hm3 hg3; have hbx3 := (unhide HST2).box.grown hg3 (by simp); have hd0 := hbx3.cell0; have hd1 := hbx3.cell1; have hown3 := shst_own hown0 hg3)
          | (at_builtin; refine wp_app_tupsX rfl (.tmp 45) (.tmp 46) rfl hown3 rfl (by have := hbx3.lt; omega) rfl rfl (by omega) ?_; intro V4 w4 hown4 hg4; obtain ⟨v4a, v4n, v4c, hV4⟩ := ownX_sl hown4; subst hV4; have hbx4 := hbx3.grown hg4.by_ (shst_ne hown3); have he0 := hbx4.cell1; have hf1 := hbx4.frozen 1))
        have HX := hide ((unhide HST2).add hpd hp hm3 hg3 hown4 hg4)
        have hb4 : Below w1.heap.size w1 (w4.setCell ⟨w1.heap.size + 1, 1, none⟩ (.slice v4a v4n v4c)) := ((hbel2.grown hg3 hbel2.size (fun k hk => by cases hk; exact Nat.le_refl _)).trans (hg4.below.mono (by omega))).setCell (show w1.heap.size ≤ w1.heap.size + 1 by omega) _
        have hlX := (unhide HST2).len
        obtain ⟨iX, hiX, hikX, hipX, hiE⟩ : ∃ i, ∃ _ : i < (gs ++ [Value.slice none 0 0]).length, ∃ hk : i < (ks ++ [p]).length, (ks ++ [p])[i] = p ∧ i = gs.length := ⟨gs.length, by simp, by simp; omega, by rw [List.getElem_append_right (by omega)]; simp [hlX], rfl⟩
        have hrowX := hide (fun W hb => Seq.below (w' := W) (unhide hrow2) hb)
        have hbX2 : Below w2.heap.size w2 (w4.setCell ⟨w1.heap.size + 1, 1, none⟩ (.slice v4a v4n v4c)) → True := fun _ => trivial
        have hgl : (gs ++ [Value.slice none 0 0]).length ≤ k + 1 := by simp; omega
        rw [← hiE]
        generalize gs ++ [Value.slice none 0 0] = gs' at *
        generalize ks ++ [p] = ks' at *
        generalize D.put (kl p) (.lit (.int .i64 (gs.length : Int))) = D' at *
        generalize w4.setCell ⟨w1.heap.size + 1, 1, none⟩ (.slice v4a v4n v4c) = w5 at *
        clear hlX hm3 hg3 hown4 hg4 hbx4 he0 hf1 hbx3 hd0 hd1 hown3 hown0 hcc0 hcc1 hmb hbX2 hiE
        obtain ⟨gv, ga, gn, gc, eg1, eg2, eg3, hS1, hS2, hgo, hm1, hm2, hgvl, hnext⟩ := (unhide HX).get hiX hikX
        subst eg1
        unfold maxLen at hm2
        have hiV : iX < v4n := by omega
        have HNX := hide hnext
        have HXX := hide ((unhide HX).below ((Below.refl _ _).drew))
        have HG3 := hide eg3
        have hgo2 := hide (own_below hgo ((Below.refl _ _).drew))
        have HBZ := hide (show w1.heap.size + 2 ≤ w5.heap.size by have := (unhide HX).box.lt; omega)
        clear hnext eg2 eg3 hgo hq1 hq2
        refine wp_region_noPanic ?_
        refine wp_region_till (st := 12) (S := fun W => W.cell? ⟨w1.heap.size + 1, 1, none⟩ = some (.slice (some ⟨gv, 0, none⟩) v4n v4c) ∧ W.cell? ⟨gv, iX, none⟩ = some (.slice ga gn gc)) (by kernel_rfl) ?_
        have hS0 : w5.drew.cell? ⟨w1.heap.size + 1, 1, none⟩ = some (.slice (some ⟨gv, 0, none⟩) v4n v4c) ∧ w5.drew.cell? ⟨gv, iX, none⟩ = some (.slice ga gn gc) := ⟨hS1, hS2⟩
        refine till_take (i := 0) (v := ?_) rfl (by kernel_rfl) (by kernel_rfl) (by kernel_rfl) (by kernel_rfl) (fun _ _ _ h => h) (Or.inl ⟨by rfl, ?_⟩) (by assumption) ?_
        rotate_left
        · intro W hSW; obtain ⟨hS1, hS2⟩ := hSW; go_simp; first | done | rfl
        simp only [Act.put, List.setIfInBounds_toArray, List.set_cons_zero, List.set_cons_succ]
        refine till_take (i := 1) (v := ?_) rfl (by kernel_rfl) (by kernel_rfl) (by kernel_rfl) (by kernel_rfl) (fun _ _ _ h => h) (Or.inl ⟨by rfl, ?_⟩) (by assumption) ?_
        rotate_left
        · intro W hSW; obtain ⟨hS1, hS2⟩ := hSW; go_simp; first | done | rfl
        simp only [Act.put, List.setIfInBounds_toArray, List.set_cons_zero, List.set_cons_succ]
        refine till_take (i := 2) (v := ?_) rfl (by kernel_rfl) (by kernel_rfl) (by kernel_rfl) (by kernel_rfl) (fun _ _ _ h => h) (Or.inl ⟨by rfl, ?_⟩) (by assumption) ?_
        rotate_left
        · intro W hSW; obtain ⟨hS1, hS2⟩ := hSW; go_simp; first | done | rfl
        simp only [Act.put, List.setIfInBounds_toArray, List.set_cons_zero, List.set_cons_succ]
        refine till_take (i := 3) (v := ?_) rfl (by kernel_rfl) (by kernel_rfl) (by kernel_rfl) (by kernel_rfl) (fun _ _ _ h => h) (Or.inl ⟨by rfl, ?_⟩) (by assumption) ?_
        rotate_left
        · intro W hSW; obtain ⟨hS1, hS2⟩ := hSW; go_simp; first | done | rfl
        simp only [Act.put, List.setIfInBounds_toArray, List.set_cons_zero, List.set_cons_succ]
        refine till_take (i := 4) (v := ?_) rfl (by kernel_rfl) (by kernel_rfl) (by kernel_rfl) (by kernel_rfl) (fun _ _ _ h => h) (Or.inl ⟨by rfl, ?_⟩) (by assumption) ?_
        rotate_left
        · intro W hSW; obtain ⟨hS1, hS2⟩ := hSW; go_simp; first | done | rfl
        simp only [Act.put, List.setIfInBounds_toArray, List.set_cons_zero, List.set_cons_succ]
        refine till_take (i := 5) (v := ?_) rfl (by kernel_rfl) (by kernel_rfl) (by kernel_rfl) (by kernel_rfl) (fun _ _ _ h => h) (Or.inl ⟨by rfl, ?_⟩) (by assumption) ?_
        rotate_left
        · intro W hSW; obtain ⟨hS1, hS2⟩ := hSW; go_simp; first | done | rfl
        simp only [Act.put, List.setIfInBounds_toArray, List.set_cons_zero, List.set_cons_succ]
        refine till_take (i := 6) (v := ?_) rfl (by kernel_rfl) (by kernel_rfl) (by kernel_rfl) (by kernel_rfl) (fun _ _ _ h => h) (Or.inl ⟨by rfl, ?_⟩) (by assumption) ?_
        rotate_left
        · intro W hSW; obtain ⟨hS1, hS2⟩ := hSW; go_simp; first | done | rfl
        simp only [Act.put, List.setIfInBounds_toArray, List.set_cons_zero, List.set_cons_succ]
        refine till_take (i := 7) (v := ?_) rfl (by kernel_rfl) (by kernel_rfl) (by kernel_rfl) (by kernel_rfl) (fun _ _ _ h => h) (Or.inl ⟨by rfl, ?_⟩) (by assumption) ?_
        rotate_left
        · intro W hSW; obtain ⟨hS1, hS2⟩ := hSW; go_simp; first | done | rfl
        simp only [Act.put, List.setIfInBounds_toArray, List.set_cons_zero, List.set_cons_succ]
        refine till_take (i := 8) (v := ?_) rfl (by kernel_rfl) (by kernel_rfl) (by kernel_rfl) (by kernel_rfl) (fun _ _ _ h => h) (Or.inl ⟨by rfl, ?_⟩) (by assumption) ?_
        rotate_left
        · intro W hSW; obtain ⟨hS1, hS2⟩ := hSW; go_simp; first | done | rfl
        simp only [Act.put, List.setIfInBounds_toArray, List.set_cons_zero, List.set_cons_succ]
        refine till_one (i := 9) (by kernel_rfl) rfl rfl (by decide) (fun K hK => ?_)
        go_simp
        refine hK.out _ _ ⟨cell_push hS0.1 _, cell_push hS0.2 _⟩ (fun hHeld => ?_)
        clear hK K
        try simp only [Act.put, List.setIfInBounds_toArray, List.set_cons_zero, List.set_cons_succ]
        refine till_one (i := 10) (by kernel_rfl) rfl rfl (by decide) (fun K hK => ?_)
        refine op_app_row (.tmp 56) (.tmp 58) rfl (B := w1.heap.size + 2) (w := w5.drew) (unhide hgo2) rfl (unhide HBZ) rfl rfl (unhide HFL _) ?_
        intro g5 w6 hown6 hgrew6
        obtain ⟨g5a, g5n, g5c, hg5⟩ := ownV_sl hown6
        subst hg5
        obtain ⟨hn1, hn2, hn3⟩ := unhide HNX w6 _ ⟨((Below.refl (w1.heap.size + 2) w5).drew).trans hgrew6.below, ⟨hgrew6.by_.os, hgrew6.by_.tape, hgrew6.by_.output, hgrew6.by_.size, hgrew6.by_.block⟩, hgrew6.at_⟩
        refine hK.out _ _ ⟨hn1, hn2⟩ (fun hHeld => ?_)
        clear hK K
        try simp only [Act.put, List.setIfInBounds_toArray, List.set_cons_zero, List.set_cons_succ]
        refine till_one (i := 11) (by kernel_rfl) rfl rfl (by decide) (fun K hK => ?_)
        go_simp
        refine hK.out _ _ hHeld (fun hHeld => ?_)
        clear hK K
        try simp only [Act.put, List.setIfInBounds_toArray, List.set_cons_zero, List.set_cons_succ]
        refine till_last (by kernel_rfl) rfl rfl (by kernel_rfl) (fun K hK => ?_)
        go_simp
        refine hK.out _ _ (NoPanic.normal ?_)
        have HFX := hide ((unhide HXX).put hiX hikX (f' := fOf ps (vl.take (k + 1))) (g' := .slice g5a g5n g5c) (y := .slice ya t.length yc) (by rw [unhide HTK, unhide HF, hipX]; simp) (fun q hq => by rw [unhide HTK, unhide HF, if_neg (fun e => hq (by rw [hipX]; exact e.symm))]; simp) hown6 (by rw [unhide HG3]; exact hgrew6))
        have hB6 : Below w1.heap.size w1 (w6.setCell ⟨gv, iX, none⟩ (.slice g5a g5n g5c)) := (hb4.trans (((Below.refl (w1.heap.size + 2) w5).drew.trans hgrew6.below).mono (by omega))).setCell (show w1.heap.size ≤ gv by omega) _
        clear hHeld hS0 hS1 hS2 hn1 hn2 hn3
        go_wp2
        go_roundw
        case rel => first | exact ⟨k + 1, _, n + 1, D', ks', _, by omega, by go_num, unhide HFX, hB6, by omega, by simp; omega⟩ | ((repeat apply Exists.intro); exact ⟨⟨k + 1, _, n + 1, D', ks', _, by omega, by go_num, unhide HFX, hB6, by omega, by simp; omega⟩, rfl⟩)
        case measure => simp [intOf]; omega
    · have hkk : k = ll.length := by omega
      subst hkk
      have hLV := unhide HLEN
      rw [← hLV, List.take_length] at hst
      obtain ⟨va, vc, hVe, _, _⟩ := (Seq.of_own (enc := id) (l := gs) (by simpa using hst.own)).form
      subst hVe
      have hbxr := hst.box
      have hcc0 := hbxr.cell0
      have hcc1 := hbxr.cell1
      have hout := hbx1.grown (w' := wr) (row := none) ⟨hbel.os, hbel.tape, hbel.output, hbel.size, fun k hk _ => hbel.block k hk⟩ (by simp)
      have ho0 := hout.cell0
      have ho1 := hout.cell1
      have hf0 := hout.frozen 0
      have hf1 := hout.frozen 1
      have HFIN := hide ((hst.setOut (b := w.heap.size + 1) (i := 0) (by omega) (.map (some w1.heap.size))).setOut (b := w.heap.size + 1) (i := 1) (by omega) (.slice va gs.length vc))
      have hbF := below_store (hbw1.trans (hbel.mono hbw1.size)) (b := w.heap.size + 1) (by omega) (.map (some w1.heap.size)) (.slice va gs.length vc)
      clear hst hbxr hout hLV
      go_wp2
      refine bodyPost_ret (v := .agg #[.map (some w1.heap.size), .slice va gs.length vc]) (by simp [results, Tryz.results23, go_sem, ho0, ho1]) rfl ⟨_, rfl, ?_, hbF⟩
      have hV := unhide HVL
      rw [← hV]
      exact (unhide HFIN).shelf (fun p v hv => fOf_tups (unhide HVI _ hbF) hv) (fun p hp => fOf_none hp)

end Go.Proofs.YtoiokplgkanepaaGreatDoor
