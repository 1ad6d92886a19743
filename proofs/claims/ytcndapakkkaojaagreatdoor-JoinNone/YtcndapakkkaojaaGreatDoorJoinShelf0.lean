/-
  Shelves: rows that stand together by their key: the memory that shelve makes, and what like reads of it.
-/
import Derived.Test.YtcndapakkkaojaaGreatDoorJoinKey
import Derived.Test.YtcndapakkkaojaaGreatDoorApp3
import Derived.Test.YtcndapakkkaojaaGreatDoorRelRight
import Derived.Test.YtcndapakkkaojaaGreatDoorUntil
import Derived.Maps.OwnSet
import Derived.Maps.OwnOps
import Derived.Deep.RegionHeld3
namespace Go.Proofs.YtcndapakkkaojaaGreatDoor
open Go.RowKit Go.Maps Go.WideMaps
set_option linter.unusedVariables false
set_option linter.unusedSimpArgs false
set_option maxRecDepth 20000

theorem strLaw : Keyed Tryz.prog 9 := string_keyed Tryz.underlying9
theorem zeroI (w : World) : (zeroValue 3).run Tryz.prog w = .ok (.int .i64 0) w := by kernel_rfl

abbrev Dig (p : List Int) : Prop := ∀ x ∈ p, 0 ≤ x ∧ x < 10
def kl (p : List Int) : Lit := .string (keyB p)
theorem kl_key (p : List Int) : WideAt.IsKeyLit (kl p) := trivial
theorem kl_ne {p q : List Int} (hp : Dig p) (hq : Dig q) (h : p ≠ q) : kl p ≠ kl q := fun e => h (keyB_inj hp hq (by unfold kl at e; injection e))

theorem key_lit {p : List Int} (h : p.length < 1000000) : keyOf Tryz.prog 9 (.string ⟨(keyB p).toArray⟩) = some (kl p) := by
  have := keyOf_string_mk (P := Tryz.prog) (s := ⟨(keyB p).toArray⟩) Tryz.underlying9 (by show (keyB p).toArray.size ≤ _; rw [List.size_toArray, keyB_len]; unfold maxLen; omega)
  simpa [kl] using this

/-- The map tells each key's place. -/
def MapOf (D : DataW Unit) (ks : List (List Int)) : Prop := IsMap D ∧ ∀ p, Dig p → Maps.has D (kl p) = decide (p ∈ ks) ∧ ∀ i (h : i < ks.length), ks[i] = p → D.atKey (kl p) (.lit (.int .i64 0)) = .lit (.int .i64 (i : Int))

theorem MapOf.nil : MapOf (.map []) [] := ⟨isMap_empty, fun p _ => ⟨rfl, fun i h => by simp at h⟩⟩

theorem MapOf.add {D : DataW Unit} {ks : List (List Int)} (h : MapOf D ks) {p : List Int} (hd : Dig p) (hks : ∀ q ∈ ks, Dig q) (hp : p ∉ ks) : MapOf (D.put (kl p) (.lit (.int .i64 (ks.length : Int)))) (ks ++ [p]) := by
  refine ⟨h.1.put _ _, fun q hq => ?_⟩
  by_cases e : q = p
  · subst e
    refine ⟨by rw [has_put_same h.1 (kl_key _)]; simp, fun i hi hiq => ?_⟩
    have hi2 : i = ks.length := by
      rcases Nat.lt_or_ge i ks.length with hl | hl
      · rw [List.getElem_append_left hl] at hiq
        exact absurd (hiq ▸ List.getElem_mem hl) hp
      · simp at hi; omega
    rw [atKey_put_same h.1 (kl_key _), hi2]
  · have hne := kl_ne hq hd e
    have hh := h.2 q hq
    refine ⟨by rw [has_put_other hne, hh.1]; simp [e], fun i hi hiq => ?_⟩
    rcases Nat.lt_or_ge i ks.length with hl | hl
    · rw [List.getElem_append_left hl] at hiq
      rw [atKey_put_other hne, hh.2 i hl hiq]
    · rw [List.getElem_append_right hl] at hiq
      simp at hiq
      exact absurd hiq.symm e

/-- Is it there, and where? -/
theorem MapOf.no {D : DataW Unit} {ks : List (List Int)} (h : MapOf D ks) {p : List Int} (hd : Dig p) (hp : p ∉ ks) : Maps.has D (kl p) = false ∧ D.atKey (kl p) (.lit (.int .i64 0)) = .lit (.int .i64 0) := by
  have h1 : Maps.has D (kl p) = false := by rw [(h.2 p hd).1]; simpa using hp
  exact ⟨h1, atKey_of_not_has h1 _⟩
theorem MapOf.yes {D : DataW Unit} {ks : List (List Int)} (h : MapOf D ks) {i : Nat} (hi : i < ks.length) (hd : Dig ks[i]) : Maps.has D (kl ks[i]) = true ∧ D.atKey (kl ks[i]) (.lit (.int .i64 0)) = .lit (.int .i64 (i : Int)) := by
  refine ⟨by rw [(h.2 _ hd).1]; simp, (h.2 _ hd).2 i hi rfl⟩

abbrev OwnM (w : World) (b n : Nat) (D : DataW Unit) : Prop := w.ownsMap Tryz.prog 9 (plainElem Tryz.prog 3) b n D

theorem look_run {w : World} {b n : Nat} {D : DataW Unit} (hown : OwnM w b n D) {p : List Int} {c : Int} {q : Bool} (hp : p.length < 1000000) (hq : Maps.has D (kl p) = q) (hc : D.atKey (kl p) (.lit (.int .i64 0)) = .lit (.int .i64 c)) :
    (Instr.lookup 54 (.map (some b)) (.string ⟨(keyB p).toArray⟩) true).run Tryz.prog w = .ok (.tuple #[.int .i64 c, .bool q]) w := by
  obtain ⟨v, ps, hrun, hv⟩ := hown.look_ok strLaw Tryz.underlying54 (zeroI w) (plainElem_int Tryz.underlying3 (by decide)) (key_lit hp)
  obtain ⟨c', rfl, hc', hwc⟩ := plainElem_int_inv Tryz.underlying3 hv
  have e : c' = c := by
    have := congrArg Prod.fst hc'
    simp only [hc] at this
    injection this with this
    injection this with _ this
    exact this.symm
  subst e
  rw [hrun, hq]

/-- v, ok := m[k]. -/
theorem op_look {w : World} {o : Oper} {a : Act} {K : Act → World → Prop} {Q : Exit → Act → World → Prop} (m x : Operand) (ho : o.op = Op.lookup 54 m x true) {b n : Nat} {D : DataW Unit} (hown : OwnM w b n D) {p : List Int} {c : Int} {q : Bool}
    (hm : a.eval m = .map (some b)) (hx : a.eval x = .string ⟨(keyB p).toArray⟩) (hp : p.length < 1000000) (hq : Maps.has D (kl p) = q) (hc : D.atKey (kl p) (.lit (.int .i64 0)) = .lit (.int .i64 c))
    (h : K (a.put o.dst (.tuple #[.int .i64 c, .bool q])) w) : o.wp Tryz.prog a w K Q := by
  have hrun := look_run hown hp hq hc
  unfold Oper.wp
  simp [execOp, ho, hm, hx, hrun, Result.andThen]
  exact h

theorem wp_look {w : World} {ops : Array Oper} {rest : List Oper} {o : Oper} {a : Act} {Q : Exit → Act → World → Prop} (hgd : o.guard = none) (m x : Operand) (ho : o.op = Op.lookup 54 m x true) {b n : Nat} {D : DataW Unit} (hown : OwnM w b n D) {p : List Int} {c : Int} {q : Bool}
    (hm : a.eval m = .map (some b)) (hx : a.eval x = .string ⟨(keyB p).toArray⟩) (hp : p.length < 1000000) (hq : Maps.has D (kl p) = q) (hc : D.atKey (kl p) (.lit (.int .i64 0)) = .lit (.int .i64 c))
    (h : wpList Tryz.prog ops Q rest (a.put o.dst (.tuple #[.int .i64 c, .bool q])) w) : wpList Tryz.prog ops Q (o :: rest) a w :=
  wpList_plain hgd fun _ hK => op_look m x ho hown hm hx hp hq hc (hK _ _ h)

theorem OwnM.below {w w' : World} {b n : Nat} {D : DataW Unit} (h : OwnM w b n D) (hb : Below w.heap.size w w') : OwnM w' b n D :=
  h.kept (row := none) ⟨hb.os, hb.tape, hb.output, hb.size, fun k hk _ => hb.block k hk⟩ (by simp)

/-- What shelve answers: v, of a relation's rows lb, by what they have at the places ps. -/
def ShelfV (w : World) (v : Value) (ps : List Int) (lb : List (List Int)) : Prop :=
  ∃ (b n : Nat) (rv : Value) (D : DataW Unit) (ks : List (List Int)) (gs : List Value),
    v = .agg #[.map (some b), rv] ∧ OwnM w b n D ∧ MapOf D ks ∧ Seq id w rv gs ∧ gs.length = ks.length ∧ (∀ i (h : i < gs.length) (h' : i < ks.length), Tups w gs[i] (likeL ps ks[i] lb)) ∧ (∀ p, p ∉ ks → likeL ps p lb = []) ∧ ∀ p ∈ ks, Dig p

theorem ShelfV.below {w w' : World} {v : Value} {ps : List Int} {lb : List (List Int)} (h : ShelfV w v ps lb) (hb : Below w.heap.size w w') : ShelfV w' v ps lb := by
  obtain ⟨b, n, rv, D, ks, gs, h1, h2, h3, h4, h5, h6, h7⟩ := h
  exact ⟨b, n, rv, D, ks, gs, h1, OwnM.below h2 hb, h3, h4.below hb, h5, fun i hi hi' => (h6 i hi hi').below hb, h7⟩

theorem pick_len (t ps : List Int) : (pickL t ps).length ≤ ps.length := by unfold pickL; exact List.length_filterMap_le _ _

theorem Tups.none (w : World) : Tups w (.slice none 0 0) [] := ⟨[], Seq.nil _ _, rfl, fun i h => by simp at h⟩

set_option maxHeartbeats 8000000 in
theorem like_any {ps qs t : List Int} {lb : List (List Int)} {v vt vq : Value} {w0 w : World} (h : ShelfV w0 v ps lb) (hb00 : Below w0.heap.size w0 w) (ht : Ints w vt t) (hq : Ints w vq qs) (hd : Dig t) (hql : qs.length < 100000) :
    Calls Tryz.prog 38 #[v, vt, vq] w fun e w' => ∃ u, e = .returned u ∧ Tups w0 u (likeL ps (pickL t qs) lb) ∧ Below w.heap.size w w' := by
  obtain ⟨b, n, rv, D, ks, gs, rfl, h2, h3, h40, h5, h6, h7, h8⟩ := h
  replace h2 := OwnM.below h2 hb00
  have h4 := h40.below hb00
  obtain ⟨ra, rc, rfl, k1, k2⟩ := h4.form
  unfold maxLen at k2
  have hb0 := (Below.refl w.heap.size w).alloc (Nat.le_refl _) (.cells #[.map (some b), .slice ra gs.length rc] 57)
  have hpl := pick_len t qs
  have hpd := pick_dig (ps := qs) hd
  have hp6 : (pickL t qs).length < 1000000 := by omega
  obtain ⟨ta, tc, rfl, _, _⟩ := ht.form
  obtain ⟨qa, qc, rfl, _, _⟩ := hq.form
  obtain ⟨W0, hW0⟩ : ∃ W, W = w.alloc (.cells #[.map (some b), .slice ra gs.length rc] 57) := ⟨_, rfl⟩
  have hc0 : W0.cell? ⟨w.heap.size, 0, none⟩ = some (.map (some b)) := by rw [hW0]; simp
  have hc1 : W0.cell? ⟨w.heap.size, 1, none⟩ = some (.slice ra gs.length rc) := by rw [hW0]; simp
  rw [← hW0] at hb0
  have HKY := hide (fun W (hb : Below W0.heap.size W0 W) => key_any ((ht.below hb0).below hb) ((hq.below hb0).below hb) hd hql)
  generalize pickL t qs = p at *
  have HM := hide (h2.below hb0)
  have hz0 := hb0.size
  have HW0 := hide hW0
  have HK := hide (fun W (hb : Below W0.heap.size W0 W) => And.intro (Below.cell_of hb hc0) (Below.cell_of hb hc1))
  have hbR := Below.refl W0.heap.size W0
  clear hW0 ht hq hd
  by_cases hp : p ∈ ks
  · obtain ⟨i, hi, hip⟩ := List.getElem_of_mem hp
    have hig : i < gs.length := by omega
    obtain ⟨hq1, hq2⟩ := h3.yes hi (h8 _ (List.getElem_mem hi))
    rw [hip] at hq1 hq2
    have hT := h6 i hig hi
    rw [hip] at hT
    obtain ⟨bg, og, rfl, hcg⟩ := h4.at hig
    have HT := hide hT
    have HCG := hide hcg
    obtain ⟨ga, gc, hge, _, _⟩ := hT.form
    simp only [id] at hcg
    rw [hge] at hcg
    have hcg0 := Below.cell_of hb0 hcg
    have HK2 := hide (fun W (hb : Below W0.heap.size W0 W) => And.intro (Below.cell_of hb hc0) (And.intro (Below.cell_of hb hc1) (Below.cell_of hb hcg0)))
    rw [hge] at HT
    clear h2 h3 h4 h40 hb00 h5 h6 h7 h8 hT hcg HCG hge hcg0 HK
    go_enter Tryz.func38, Tryz.ntmps38
    go_wp2
    rw [← unhide HW0]
    go_region_held3 (fun W => W.cell? ⟨w.heap.size, 0, none⟩ = some (.map (some b)) ∧ W.cell? ⟨w.heap.size, 1, none⟩ = some (.slice (some ⟨bg, og, none⟩) gs.length rc))
      (first | exact And.intro (unhide HK2 _ (by first | exact hB1 | exact hbR | exact below_same rfl rfl rfl rfl)).1 (unhide HK2 _ (by first | exact hB1 | exact hbR | exact below_same rfl rfl rfl rfl)).2.1)
      (first
        | (go_at_call 64; refine (unhide HKY _ (by first | exact hbR | exact below_same rfl rfl rfl rfl)).mono ?_; rintro e w1 ⟨rfl, hb1⟩; have hB1 : Below W0.heap.size W0 w1 := below_then (by first | exact hbR | exact below_same rfl rfl rfl rfl) hb1; have hlk := look_run ((unhide HM).below hB1) hp6 hq1 hq2))
    all_goals
      obtain ⟨hd0, hd1, hd2⟩ := unhide HK2 _ hB1
      go_wp2
      go_ret
      exact ⟨_, rfl, unhide HT, hb0.trans (hB1.mono hz0)⟩
  · obtain ⟨hq1, hq2⟩ := h3.no hpd hp
    rw [h7 p hp]
    clear h2 h3 h4 h40 hb00 h5 h6 h7 h8
    go_enter Tryz.func38, Tryz.ntmps38
    go_wp2
    rw [← unhide HW0]
    go_region_held3 (fun W => W.cell? ⟨w.heap.size, 0, none⟩ = some (.map (some b)) ∧ W.cell? ⟨w.heap.size, 1, none⟩ = some (.slice ra gs.length rc))
      (first | exact unhide HK _ (by first | exact hB1 | exact hbR | exact below_same rfl rfl rfl rfl))
      (first
        | (go_at_call 64; refine (unhide HKY _ (by first | exact hbR | exact below_same rfl rfl rfl rfl)).mono ?_; rintro e w1 ⟨rfl, hb1⟩; have hB1 : Below W0.heap.size W0 w1 := below_then (by first | exact hbR | exact below_same rfl rfl rfl rfl) hb1; have hlk := look_run ((unhide HM).below hB1) hp6 hq1 hq2))
    all_goals
      go_wp2
      go_ret
      exact ⟨_, rfl, Tups.none _, hb0.trans (hB1.mono hz0)⟩

end Go.Proofs.YtcndapakkkaojaaGreatDoor
