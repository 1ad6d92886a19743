/-
  What the reader has read, in memory.
-/
import Derived.Test.YtoiokplgkanepaaDoorReadO
namespace Go.Proofs.YtoiokplgkanepaaDoor
open Go.RowKit
set_option linter.unusedVariables false
set_option linter.unusedSimpArgs false
set_option maxRecDepth 20000

/-- The blocks that reading still writes into. -/
def XX (R : Nat) (dv hv sv : Value) (g : Nat) : Prop := g ≤ R ∨ dv.ownBlock = some g ∨ hv.ownBlock = some g ∨ sv.ownBlock = some g

structure InSt (w0 : World) (R : Nat) (w : World) (x : Ins) (ts : List Tok) (dv hv sv : Value) : Prop where
  rd : Rd w0 R w ts dv hv sv
  d : ∃ vs : List Value, OwnV (R + 1) w dv vs ∧ vs.length = x.doms.length ∧ ∀ i (h : i < vs.length) (h' : i < x.doms.length), IntsO (XX R dv hv sv) w vs[i] x.doms[i]
  h : ∃ qs : List Quad, OwnQ 42 (R + 1) w hv qs ∧ qs.length = x.hard.length ∧ ∀ i (h : i < qs.length) (h' : i < x.hard.length), ConO (XX R dv hv sv) w qs[i] x.hard[i]
  s : ∃ qs : List Quad, OwnQ 57 (R + 1) w sv qs ∧ qs.length = x.soft.length ∧ ∀ i (h : i < qs.length) (h' : i < x.soft.length), SftO (XX R dv hv sv) w qs[i] x.soft[i]

theorem ownR_kept {R k : Nat} {e : TypeId} {w w' : World} {v : Value} {n : Nat} {xs : List Value} {row : Option Nat} (h : w.ownsRow (R + 1) e k v n xs) (g : w.grownBy w' row) (hr : ∀ b, row = some b → b = R ∨ v.ownBlock ≠ some b) : w'.ownsRow (R + 1) e k v n xs := h.kept g (by
  cases e : v.ownBlock with
  | none => exact .inl rfl
  | some j => exact .inr (fun e2 => by
      have := own4_new h j e
      rcases hr j e2.symm with h | h
      · omega
      · exact h e))

theorem InSt.kept {w0 : World} {R : Nat} {w w' : World} {x : Ins} {ts ts' : List Tok} {dv hv sv : Value} (a : InSt w0 R w x ts dv hv sv) (g : w.grownBy w' (some R)) (hr : Rd w0 R w' ts' dv hv sv) : InSt w0 R w' x ts' dv hv sv := by
  obtain ⟨vs, d1, d2, d3⟩ := a.d
  obtain ⟨qs, h1, h2, h3⟩ := a.h
  obtain ⟨us, s1, s2, s3⟩ := a.s
  have k : ∀ b, some R = some b → XX R dv hv sv b := fun b e => by cases e; exact .inl (Nat.le_refl _)
  have k' : ∀ (v : Value) b, some R = some b → b = R ∨ v.ownBlock ≠ some b := fun v b e => by cases e; exact .inl rfl
  exact ⟨hr, ⟨vs, ownR_kept d1 g (k' _), d2, fun i hi hi' => (d3 i hi hi').kept g k⟩, ⟨qs, ownR_kept h1 g (k' _), h2, fun i hi hi' => (h3 i hi hi').kept g k⟩, ⟨us, ownR_kept s1 g (k' _), s2, fun i hi hi' => (s3 i hi hi').kept g k⟩⟩
theorem InSt.below {w0 : World} {R : Nat} {w w' : World} {x : Ins} {ts : List Tok} {dv hv sv : Value} (a : InSt w0 R w x ts dv hv sv) (g : Below w.heap.size w w') : InSt w0 R w' x ts dv hv sv := a.kept (grown_below g _) (a.rd.below g)
theorem InSt.doms {w0 : World} {R : Nat} {w : World} {x : Ins} {ts : List Tok} {dv hv sv : Value} (a : InSt w0 R w x ts dv hv sv) : TupsO (· = R) w dv x.doms := by
  obtain ⟨vs, d1, d2, d3⟩ := a.d
  exact ⟨vs, Seq.of_own (enc := id) (by simpa using d1), fun g hg => ⟨fun e => by have := (New.of_own d1) g hg; omega, ((New.of_own d1) g hg).2⟩, d2, fun i hi hi' => (d3 i hi hi').weaken (fun g _ e => .inl (Nat.le_of_eq e))⟩
theorem InSt.formD {w0 : World} {R : Nat} {w : World} {x : Ins} {ts : List Tok} {dv hv sv : Value} (a : InSt w0 R w x ts dv hv sv) : ∃ b c, dv = .slice b x.doms.length c ∧ x.doms.length ≤ c ∧ c ≤ maxLen := a.doms.form
theorem InSt.formH {w0 : World} {R : Nat} {w : World} {x : Ins} {ts : List Tok} {dv hv sv : Value} (a : InSt w0 R w x ts dv hv sv) : ∃ b c, hv = .slice b x.hard.length c ∧ x.hard.length ≤ c ∧ c ≤ maxLen := by
  obtain ⟨qs, h1, h2, h3⟩ := a.h
  rw [← h2]
  exact h1.seq.form
theorem InSt.formS {w0 : World} {R : Nat} {w : World} {x : Ins} {ts : List Tok} {dv hv sv : Value} (a : InSt w0 R w x ts dv hv sv) : ∃ b c, sv = .slice b x.soft.length c ∧ x.soft.length ≤ c ∧ c ≤ maxLen := by
  obtain ⟨qs, h1, h2, h3⟩ := a.s
  rw [← h2]
  exact h1.seq.form
theorem Rd.cell2 {w0 : World} {R : Nat} {w : World} {ts : List Tok} {dv hv sv : Value} (h : Rd w0 R w ts dv hv sv) : w.cell? ⟨R, 2, none⟩ = some hv := by
  obtain ⟨tv, hb, _⟩ := h.box
  exact hb.cell2
theorem Rd.cell3 {w0 : World} {R : Nat} {w : World} {ts : List Tok} {dv hv sv : Value} (h : Rd w0 R w ts dv hv sv) : w.cell? ⟨R, 3, none⟩ = some sv := by
  obtain ⟨tv, hb, _⟩ := h.box
  exact hb.cell3
theorem Rd.frozen {w0 : World} {R : Nat} {w : World} {ts : List Tok} {dv hv sv : Value} (h : Rd w0 R w ts dv hv sv) (i : Nat) : w.frozen? ⟨R, i, none⟩ = false := by
  obtain ⟨tv, hb, _⟩ := h.box
  exact hb.frozen i
theorem Rd.oldG {w0 : World} {R : Nat} {w w' : World} {ts : List Tok} {dv hv sv : Value} (h : Rd w0 R w ts dv hv sv) (g : w.grownBy w' (some R)) : Below w0.heap.size w0 w' := by
  have hs := h.old.size
  have hl := h.le
  exact h.old.trans ⟨g.os, g.tape, g.output, g.size, fun k hk => g.block k (by omega) (fun e => by cases e; omega)⟩

/-- How statement ends. -/
def SEnds (w0 : World) (R : Nat) (X : Res Ins) (e : Ending) (w' : World) : Prop :=
  match X with
  | .fault p c => e = .panicked (faultE p c) ∧ Below w0.heap.size w0 w'
  | .ok x r => e = .returned (.tuple #[]) ∧ ∃ dv hv sv, InSt w0 R w' x r dv hv sv
theorem sends_no {w0 : World} {R : Nat} {X : Res Ins} {w' : World} {p : Nat} {c : Int} (h : X = .fault p c) (hb : Below w0.heap.size w0 w') : SEnds w0 R X (.panicked (faultE p c)) w' := by subst h; exact ⟨rfl, hb⟩
theorem sends_ok {w0 : World} {R : Nat} {X : Res Ins} {w' : World} {x : Ins} {r : List Tok} {dv hv sv : Value} (h : X = .ok x r) (a : InSt w0 R w' x r dv hv sv) : SEnds w0 R X (.returned (.tuple #[])) w' := by subst h; exact ⟨rfl, dv, hv, sv, a⟩

/-- One more of them. -/
theorem InSt.addD {w0 : World} {R : Nat} {w w' : World} {x : Ins} {ts : List Tok} {dv hv sv dv' : Value} {vs : List Value} {u : Value} {y : List Int} (a : InSt w0 R w x ts dv hv sv) (hv0 : OwnV (R + 1) w dv vs) (hvl : vs.length = x.doms.length) (hv3 : ∀ i (h : i < vs.length) (h' : i < x.doms.length), IntsO (XX R dv hv sv) w vs[i] x.doms[i])
    (hu : IntsO (XX R dv hv sv) w u y) (ho : OwnV (R + 1) w' dv' (vs ++ [u])) (g : Grew (R + 1) w w' dv dv') : InSt w0 R (w'.setCell ⟨R, 1, none⟩ dv') { x with doms := x.doms ++ [y] } ts dv' hv sv := by
  obtain ⟨ds, d1, d2, d3⟩ := a.d
  obtain ⟨qs, h1, h2, h3⟩ := a.h
  obtain ⟨us, s1, s2, s3⟩ := a.s
  have hn := own4_new hv0
  have wk : ∀ k, k < w.heap.size → XX R dv hv sv k ∨ XX R dv' hv sv k → XX R dv hv sv k := fun k hk hy => by
    rcases hy with h | h
    · exact h
    · have hm : dv'.ownBlock = some k → dv.ownBlock = some k := fun e => by
        rcases g.at_ with h' | ⟨m, hm, hle⟩
        · exact h' ▸ e
        · rw [hm] at e; cases e; omega
      unfold XX at h ⊢
      rcases h with h | h | h | h
      · exact .inl h
      · exact .inr (.inl (hm h))
      · exact .inr (.inr (.inl h))
      · exact .inr (.inr (.inr h))
  have k1 : ∀ b, dv.ownBlock = some b → XX R dv hv sv b ∨ XX R dv' hv sv b := fun b e => .inl (by unfold XX; simp [e])
  have k2 : ∀ b, some R = some b → XX R dv hv sv b ∨ XX R dv' hv sv b := fun b e => by cases e; exact .inl (.inl (Nat.le_refl _))
  have wk2 : ∀ {W : World} k, k < W.heap.size → XX R dv' hv sv k → XX R dv hv sv k ∨ XX R dv' hv sv k := fun k _ h => .inr h
  have mI : ∀ {p : Value} {q : List Int}, IntsO (XX R dv hv sv) w p q → IntsO (XX R dv' hv sv) (w'.setCell ⟨R, 1, none⟩ dv') p q := fun h => (((h.weaken wk).kept g.by_ k1).kept (grown_set _ _ _ _) k2).weaken wk2
  have mC : ∀ {p : Quad} {q : Con}, ConO (XX R dv hv sv) w p q → ConO (XX R dv' hv sv) (w'.setCell ⟨R, 1, none⟩ dv') p q := fun h => (((h.weaken wk).kept g.by_ k1).kept (grown_set _ _ _ _) k2).weaken wk2
  have mS : ∀ {p : Quad} {q : Sft}, SftO (XX R dv hv sv) w p q → SftO (XX R dv' hv sv) (w'.setCell ⟨R, 1, none⟩ dv') p q := fun h => (((h.weaken wk).kept g.by_ k1).kept (grown_set _ _ _ _) k2).weaken wk2
  have kR : ∀ (v : Value) b, some R = some b → b = R ∨ v.ownBlock ≠ some b := fun v b e => by cases e; exact .inl rfl
  have rd' : Rd w0 R (w'.setCell ⟨R, 1, none⟩ dv') ts dv' hv sv := by
    have r1 := a.rd.grown g.by_ (fun b e => .inr (by have := hn b e; omega))
    obtain ⟨tv, hb, ht⟩ := r1.box
    exact ⟨⟨tv, hb.set1 _, ht⟩, r1.oldG (grown_set _ _ _ _), r1.le⟩
  refine ⟨rd', ⟨vs ++ [u], ownR_kept ho (grown_set _ _ _ _) (kR _), by simp [hvl], fun i hi hi' => ?_⟩, ⟨qs, ownR_kept (ownR_kept h1 g.by_ (fun b e => .inr (fun e2 => sep_typesQ h1 hv0 (by decide) b e2 e))) (grown_set _ _ _ _) (kR _), h2, fun i hi hi' => mC (h3 i hi hi')⟩, ⟨us, ownR_kept (ownR_kept s1 g.by_ (fun b e => .inr (fun e2 => sep_typesQ s1 hv0 (by decide) b e2 e))) (grown_set _ _ _ _) (kR _), s2, fun i hi hi' => mS (s3 i hi hi')⟩⟩
  by_cases hiv : i < vs.length
  · have hil : i < x.doms.length := by omega
    rw [List.getElem_append_left hiv]
    simp only [List.getElem_append_left hil]
    exact mI (hv3 i hiv hil)
  · have e : i = vs.length := by simp at hi; omega
    subst e
    rw [List.getElem_append_right (by omega)]
    simp only [hvl, List.getElem_append_right (Nat.le_refl _), Nat.sub_self, List.getElem_cons_zero]
    exact mI hu

/-- One more of them. -/
theorem InSt.addH {w0 : World} {R : Nat} {w w' : World} {x : Ins} {ts : List Tok} {dv hv sv hv' : Value} {vs : List Quad} {u : Quad} {y : Con} (a : InSt w0 R w x ts dv hv sv) (hv0 : OwnQ 42 (R + 1) w hv vs) (hvl : vs.length = x.hard.length) (hv3 : ∀ i (h : i < vs.length) (h' : i < x.hard.length), ConO (XX R dv hv sv) w vs[i] x.hard[i])
    (hu : ConO (XX R dv hv sv) w u y) (ho : OwnQ 42 (R + 1) w' hv' (vs ++ [u])) (g : Grew (R + 1) w w' hv hv') : InSt w0 R (w'.setCell ⟨R, 2, none⟩ hv') { x with hard := x.hard ++ [y] } ts dv hv' sv := by
  obtain ⟨ds, d1, d2, d3⟩ := a.d
  obtain ⟨qs, h1, h2, h3⟩ := a.h
  obtain ⟨us, s1, s2, s3⟩ := a.s
  have hn := own4_new hv0
  have wk : ∀ k, k < w.heap.size → XX R dv hv sv k ∨ XX R dv hv' sv k → XX R dv hv sv k := fun k hk hy => by
    rcases hy with h | h
    · exact h
    · have hm : hv'.ownBlock = some k → hv.ownBlock = some k := fun e => by
        rcases g.at_ with h' | ⟨m, hm, hle⟩
        · exact h' ▸ e
        · rw [hm] at e; cases e; omega
      unfold XX at h ⊢
      rcases h with h | h | h | h
      · exact .inl h
      · exact .inr (.inl h)
      · exact .inr (.inr (.inl (hm h)))
      · exact .inr (.inr (.inr h))
  have k1 : ∀ b, hv.ownBlock = some b → XX R dv hv sv b ∨ XX R dv hv' sv b := fun b e => .inl (by unfold XX; simp [e])
  have k2 : ∀ b, some R = some b → XX R dv hv sv b ∨ XX R dv hv' sv b := fun b e => by cases e; exact .inl (.inl (Nat.le_refl _))
  have wk2 : ∀ {W : World} k, k < W.heap.size → XX R dv hv' sv k → XX R dv hv sv k ∨ XX R dv hv' sv k := fun k _ h => .inr h
  have mI : ∀ {p : Value} {q : List Int}, IntsO (XX R dv hv sv) w p q → IntsO (XX R dv hv' sv) (w'.setCell ⟨R, 2, none⟩ hv') p q := fun h => (((h.weaken wk).kept g.by_ k1).kept (grown_set _ _ _ _) k2).weaken wk2
  have mC : ∀ {p : Quad} {q : Con}, ConO (XX R dv hv sv) w p q → ConO (XX R dv hv' sv) (w'.setCell ⟨R, 2, none⟩ hv') p q := fun h => (((h.weaken wk).kept g.by_ k1).kept (grown_set _ _ _ _) k2).weaken wk2
  have mS : ∀ {p : Quad} {q : Sft}, SftO (XX R dv hv sv) w p q → SftO (XX R dv hv' sv) (w'.setCell ⟨R, 2, none⟩ hv') p q := fun h => (((h.weaken wk).kept g.by_ k1).kept (grown_set _ _ _ _) k2).weaken wk2
  have kR : ∀ (v : Value) b, some R = some b → b = R ∨ v.ownBlock ≠ some b := fun v b e => by cases e; exact .inl rfl
  have rd' : Rd w0 R (w'.setCell ⟨R, 2, none⟩ hv') ts dv hv' sv := by
    have r1 := a.rd.grown g.by_ (fun b e => .inr (by have := hn b e; omega))
    obtain ⟨tv, hb, ht⟩ := r1.box
    exact ⟨⟨tv, hb.set2 _, ht⟩, r1.oldG (grown_set _ _ _ _), r1.le⟩
  refine ⟨rd', ⟨ds, ownR_kept (ownR_kept d1 g.by_ (fun b e => .inr (fun e2 => sep_typesQ d1 hv0 (by decide) b e2 e))) (grown_set _ _ _ _) (kR _), d2, fun i hi hi' => mI (d3 i hi hi')⟩, ⟨vs ++ [u], ownR_kept ho (grown_set _ _ _ _) (kR _), by simp [hvl], fun i hi hi' => ?_⟩, ⟨us, ownR_kept (ownR_kept s1 g.by_ (fun b e => .inr (fun e2 => sep_typesQ s1 hv0 (by decide) b e2 e))) (grown_set _ _ _ _) (kR _), s2, fun i hi hi' => mS (s3 i hi hi')⟩⟩
  by_cases hiv : i < vs.length
  · have hil : i < x.hard.length := by omega
    rw [List.getElem_append_left hiv]
    simp only [List.getElem_append_left hil]
    exact mC (hv3 i hiv hil)
  · have e : i = vs.length := by simp at hi; omega
    subst e
    rw [List.getElem_append_right (by omega)]
    simp only [hvl, List.getElem_append_right (Nat.le_refl _), Nat.sub_self, List.getElem_cons_zero]
    exact mC hu

/-- One more of them. -/
theorem InSt.addS {w0 : World} {R : Nat} {w w' : World} {x : Ins} {ts : List Tok} {dv hv sv sv' : Value} {vs : List Quad} {u : Quad} {y : Sft} (a : InSt w0 R w x ts dv hv sv) (hv0 : OwnQ 57 (R + 1) w sv vs) (hvl : vs.length = x.soft.length) (hv3 : ∀ i (h : i < vs.length) (h' : i < x.soft.length), SftO (XX R dv hv sv) w vs[i] x.soft[i])
    (hu : SftO (XX R dv hv sv) w u y) (ho : OwnQ 57 (R + 1) w' sv' (vs ++ [u])) (g : Grew (R + 1) w w' sv sv') : InSt w0 R (w'.setCell ⟨R, 3, none⟩ sv') { x with soft := x.soft ++ [y] } ts dv hv sv' := by
  obtain ⟨ds, d1, d2, d3⟩ := a.d
  obtain ⟨qs, h1, h2, h3⟩ := a.h
  obtain ⟨us, s1, s2, s3⟩ := a.s
  have hn := own4_new hv0
  have wk : ∀ k, k < w.heap.size → XX R dv hv sv k ∨ XX R dv hv sv' k → XX R dv hv sv k := fun k hk hy => by
    rcases hy with h | h
    · exact h
    · have hm : sv'.ownBlock = some k → sv.ownBlock = some k := fun e => by
        rcases g.at_ with h' | ⟨m, hm, hle⟩
        · exact h' ▸ e
        · rw [hm] at e; cases e; omega
      unfold XX at h ⊢
      rcases h with h | h | h | h
      · exact .inl h
      · exact .inr (.inl h)
      · exact .inr (.inr (.inl h))
      · exact .inr (.inr (.inr (hm h)))
  have k1 : ∀ b, sv.ownBlock = some b → XX R dv hv sv b ∨ XX R dv hv sv' b := fun b e => .inl (by unfold XX; simp [e])
  have k2 : ∀ b, some R = some b → XX R dv hv sv b ∨ XX R dv hv sv' b := fun b e => by cases e; exact .inl (.inl (Nat.le_refl _))
  have wk2 : ∀ {W : World} k, k < W.heap.size → XX R dv hv sv' k → XX R dv hv sv k ∨ XX R dv hv sv' k := fun k _ h => .inr h
  have mI : ∀ {p : Value} {q : List Int}, IntsO (XX R dv hv sv) w p q → IntsO (XX R dv hv sv') (w'.setCell ⟨R, 3, none⟩ sv') p q := fun h => (((h.weaken wk).kept g.by_ k1).kept (grown_set _ _ _ _) k2).weaken wk2
  have mC : ∀ {p : Quad} {q : Con}, ConO (XX R dv hv sv) w p q → ConO (XX R dv hv sv') (w'.setCell ⟨R, 3, none⟩ sv') p q := fun h => (((h.weaken wk).kept g.by_ k1).kept (grown_set _ _ _ _) k2).weaken wk2
  have mS : ∀ {p : Quad} {q : Sft}, SftO (XX R dv hv sv) w p q → SftO (XX R dv hv sv') (w'.setCell ⟨R, 3, none⟩ sv') p q := fun h => (((h.weaken wk).kept g.by_ k1).kept (grown_set _ _ _ _) k2).weaken wk2
  have kR : ∀ (v : Value) b, some R = some b → b = R ∨ v.ownBlock ≠ some b := fun v b e => by cases e; exact .inl rfl
  have rd' : Rd w0 R (w'.setCell ⟨R, 3, none⟩ sv') ts dv hv sv' := by
    have r1 := a.rd.grown g.by_ (fun b e => .inr (by have := hn b e; omega))
    obtain ⟨tv, hb, ht⟩ := r1.box
    exact ⟨⟨tv, hb.set3 _, ht⟩, r1.oldG (grown_set _ _ _ _), r1.le⟩
  refine ⟨rd', ⟨ds, ownR_kept (ownR_kept d1 g.by_ (fun b e => .inr (fun e2 => sep_typesQ d1 hv0 (by decide) b e2 e))) (grown_set _ _ _ _) (kR _), d2, fun i hi hi' => mI (d3 i hi hi')⟩, ⟨qs, ownR_kept (ownR_kept h1 g.by_ (fun b e => .inr (fun e2 => sep_typesQ h1 hv0 (by decide) b e2 e))) (grown_set _ _ _ _) (kR _), h2, fun i hi hi' => mC (h3 i hi hi')⟩, ⟨vs ++ [u], ownR_kept ho (grown_set _ _ _ _) (kR _), by simp [hvl], fun i hi hi' => ?_⟩⟩
  by_cases hiv : i < vs.length
  · have hil : i < x.soft.length := by omega
    rw [List.getElem_append_left hiv]
    simp only [List.getElem_append_left hil]
    exact mS (hv3 i hiv hil)
  · have e : i = vs.length := by simp at hi; omega
    subst e
    rw [List.getElem_append_right (by omega)]
    simp only [hvl, List.getElem_append_right (Nat.le_refl _), Nat.sub_self, List.getElem_cons_zero]
    exact mS hu

end Go.Proofs.YtoiokplgkanepaaDoor
