/-
  Reading tokens: the contract of soft.
-/
import Derived.Test.YtoiokplgkanepaaDoorReadM
namespace Go.Proofs.YtoiokplgkanepaaDoor
open Go.RowKit
set_option linter.unusedVariables false
set_option linter.unusedSimpArgs false
set_option maxRecDepth 20000

theorem Tryd.infoI64 : (Tryd.prog.info? 2).map (fun i => (i.zero, i.size, i.bytes)) = some (some (.int .i64 0), 1, 8) := by kernel_rfl
theorem Tryd.undI64s : Tryd.prog.underlying 55 = some (.slice 2) := by kernel_rfl

/-- The call's own row of costs. -/
abbrev OwnL (B : Nat) (w : World) (v : Value) (l : List Int) : Prop := w.ownsRow B 2 1 v l.length (l.map (Value.int .i64))
theorem ownL_keptB {B : Nat} {w w' : World} {v : Value} {l : List Int} {row : Option Nat} (h : OwnL B w v l) (g : w.grownBy w' row) (hr : ∀ b, row = some b → b < B ∨ w.heap.size ≤ b) : OwnL B w' v l := h.kept g (by
  cases e : v.ownBlock with
  | none => exact .inl rfl
  | some k => exact .inr (fun e2 => by have := (New.of_own h) k e; rcases hr k e2.symm with h | h <;> omega))
theorem ownL_fresh {B : Nat} {w : World} {v : Value} {l : List Int} (h : OwnL B w v l) : IntsO (· < B) w v l := ⟨Seq.of_own h, NotIn.of_new (New.of_own h)⟩

theorem OwnTF.sepL {B B' : Nat} {w : World} {v u : Value} {ll : List (List Int)} {l : List Int} (h : OwnTF B w v ll) (h' : OwnL B' w u l) : Sep v u := by
  obtain ⟨vs, h1, _⟩ := h
  exact sep_typesQ h1 h' (by decide)
/-- The call's own rows, no inner one of which lies in the block of u. -/
def OwnTU (B : Nat) (w : World) (v : Value) (ll : List (List Int)) (u : Value) : Prop :=
  ∃ vs : List Value, OwnV B w v vs ∧ vs.length = ll.length ∧ ∀ i (h : i < vs.length) (h' : i < ll.length), IntsO (fun g => (g < B ∨ v.ownBlock = some g) ∨ u.ownBlock = some g) w vs[i] ll[i]
theorem OwnTU.tf {B : Nat} {w : World} {v u : Value} {ll : List (List Int)} (h : OwnTU B w v ll u) : OwnTF B w v ll := by
  obtain ⟨vs, h1, h2, h3⟩ := h
  exact ⟨vs, h1, h2, fun i hi hi' => (h3 i hi hi').weaken (fun g _ h => .inl h)⟩
theorem OwnTU.nil (B : Nat) (w : World) (u : Value) : OwnTU B w (.slice none 0 0) [] u := ⟨[], own_nilV _ _, rfl, fun i h => by simp at h⟩
theorem OwnTU.kept {B : Nat} {w w' : World} {v u : Value} {ll : List (List Int)} {row : Option Nat} (h : OwnTU B w v ll u) (g : w.grownBy w' row) (hr : ∀ b, row = some b → b < B ∨ w.heap.size ≤ b) : OwnTU B w' v ll u := by
  obtain ⟨vs, h1, h2, h3⟩ := h
  have hn := New.of_own h1
  refine ⟨vs, h1.kept g (by
    cases e : v.ownBlock with
    | none => exact .inl rfl
    | some k => exact .inr (fun e2 => by have := hn k e; rcases hr k e2.symm with h | h <;> omega)), h2, fun i hi hi' => ?_⟩
  have hk := h3 i hi hi'
  have : IntsO (fun g => ((g < B ∨ v.ownBlock = some g) ∨ u.ownBlock = some g) ∨ w.heap.size ≤ g) w vs[i] ll[i] := hk.weaken (fun g hg hy => by
    rcases hy with h | h
    · exact h
    · omega)
  exact (this.kept g (fun b e => by rcases hr b e with h | h; exact .inl (.inl (.inl h)); exact .inr h)).weaken (fun g _ h => .inl h)
/-- The costs grow. -/
theorem OwnTU.grewU {B : Nat} {w w' : World} {v u u' : Value} {ll : List (List Int)} (h : OwnTU B w v ll u) (hs : Sep v u) (g : Grew B w w' u u') : OwnTU B w' v ll u' := by
  obtain ⟨vs, h1, h2, h3⟩ := h
  refine ⟨vs, own_grew h1 g hs.or, h2, fun i hi hi' => ?_⟩
  have hk := h3 i hi hi'
  have h4 : IntsO (fun k => ((k < B ∨ v.ownBlock = some k) ∨ u.ownBlock = some k) ∨ u'.ownBlock = some k) w vs[i] ll[i] := hk.weaken (fun k hk' hy => by
    rcases hy with h | h
    · exact h
    · rcases g.at_ with h' | ⟨m, hm, hle⟩
      · exact .inr (h' ▸ h)
      · rw [hm] at h; cases h; omega)
  exact (h4.kept g.by_ (fun b e => .inl (.inr e))).weaken (fun k _ h => by
    rcases h with h | h
    · exact .inl (.inl h)
    · exact .inr h)
/-- One more row, made since. -/
theorem OwnTU.snoc {B : Nat} {w w' : World} {v v' u x : Value} {vs : List Value} {ll : List (List Int)} {l : List Int} (hlen : vs.length = ll.length)
    (h3 : ∀ i (h : i < vs.length) (h' : i < ll.length), IntsO (fun g => (g < B ∨ v.ownBlock = some g) ∨ u.ownBlock = some g) w vs[i] ll[i]) (hx : IntsO (fun g => (g < B ∨ v.ownBlock = some g) ∨ u.ownBlock = some g) w x l) (hown : OwnV B w' v' (vs ++ [x])) (g : Grew B w w' v v') : OwnTU B w' v' (ll ++ [l]) u := by
  have key : ∀ {x : Value} {y : List Int}, IntsO (fun g => (g < B ∨ v.ownBlock = some g) ∨ u.ownBlock = some g) w x y → IntsO (fun g => (g < B ∨ v'.ownBlock = some g) ∨ u.ownBlock = some g) w' x y := by
    intro x y hx
    have h1 : IntsO (fun g => ((g < B ∨ v.ownBlock = some g) ∨ u.ownBlock = some g) ∨ v'.ownBlock = some g) w x y := hx.weaken (fun k hk hy => by
      rcases hy with h | h
      · exact h
      · rcases g.at_ with h' | ⟨m, hm, hle⟩
        · exact .inl (.inr (h' ▸ h))
        · rw [hm] at h; cases h; omega)
    exact (h1.kept g.by_ (fun b e => .inl (.inl (.inr e)))).weaken (fun k _ h => by
      rcases h with (h | h) | h
      · exact .inl (.inl (.inl h))
      · exact .inr h
      · exact .inl (.inr h))
  refine ⟨vs ++ [x], hown, by simp [hlen], fun i hi hi' => ?_⟩
  by_cases hiv : i < vs.length
  · have hil : i < ll.length := by omega
    rw [List.getElem_append_left hiv, List.getElem_append_left hil]
    exact key (h3 i hiv hil)
  · have e : i = vs.length := by simp at hi; omega
    subst e
    rw [List.getElem_append_right (by omega), List.getElem_append_right (by omega)]
    simp only [hlen, Nat.sub_self, List.getElem_cons_zero]
    exact key hx
theorem op_app_rowU {w : World} {o : Oper} {a : Act} {K : Act → World → Prop} {Q : Exit → Act → World → Prop} (s x : Operand)
    (ho : o.op = .call { callee := .builtin .append, args := #[s, x], argTypes := #[23, 23] }) {B : Nat} {v u c : Value} {ll : List (List Int)} {l : List Int} (hown : OwnTU B w v ll c) (hu : IntsO (fun g => (g < B ∨ v.ownBlock = some g) ∨ c.ownBlock = some g) w u l) (hs : a.eval s = v) (hB : B ≤ w.heap.size)
    (hx : a.eval x = .slice (some ⟨w.heap.size, 0, none⟩) 1 1) (hlen : ll.length < 100000000000)
    (h : ∀ v' w', OwnTU B w' v' (ll ++ [l]) c → Grew B w w' v v' → K (a.put o.dst v') w') :
    o.wp Tryd.prog a (w.alloc (.cells #[u] 40)) K Q := by
  obtain ⟨vs, h1, h2, h3⟩ := hown
  exact op_app_row s x ho h1 hs hB hx hu.1.one (by omega) fun v' w' k1 k2 => h v' w' (OwnTU.snoc h2 h3 hu k1 k2) k2

def softT (scope : List Int) (d : Int) (rc : List (List Int) × List Int) (r : List Tok) : Res Sft := .ok ⟨scope, rc.1, rc.2, d⟩ r

/-- A soft constraint as a value. -/
def SftV (B : Nat) (c : Sft) (v : Value) (w : World) : Prop := ∃ q : Quad, v = .agg #[q.a, q.b, q.c, q.d] ∧ SftO (· < B) w q c

/-- What holds of soft's variables, whenever the loop comes round. -/
structure SofSt (w0 : World) (R : Nat) (w : World) (dv hv sv : Value) (sb : Nat) (scv : Value) (scope : List Int) (d : Int) (wr : World) (rows : List (List Int)) (costs : List Int) (ts : List Tok) (xr xc : Value) : Prop where
  box : BoxK 57 wr sb scv xr xc (.int .i64 d)
  res : BoxK 57 wr w.heap.size (.slice none 0 0) (.slice none 0 0) (.slice none 0 0) (.int .i64 0)
  sco : IntsO (fun g => g < w.heap.size + 1 ∨ sb ≤ g) wr scv scope
  own1 : OwnTU (sb + 1) wr xr rows xc
  own2 : OwnL (sb + 1) wr xc costs
  rd : Rd w0 R wr ts dv hv sv
  gr : w.grownBy wr (some R)
  lt : R < w.heap.size
  le : w.heap.size < sb

theorem SofSt.kept {w0 : World} {R : Nat} {w : World} {dv hv sv : Value} {sb : Nat} {scv : Value} {scope : List Int} {d : Int} {wr w' : World} {rows : List (List Int)} {costs : List Int} {ts ts' : List Tok} {xr xc : Value} (h : SofSt w0 R w dv hv sv sb scv scope d wr rows costs ts xr xc) (g : wr.grownBy w' (some R)) (hr : Rd w0 R w' ts' dv hv sv) : SofSt w0 R w dv hv sv sb scv scope d w' rows costs ts' xr xc := by
  have hl := h.lt
  have hl2 := h.le
  exact ⟨h.box.keep g (by simp; omega), h.res.keep g (by simp; omega), h.sco.kept g (fun b e => by cases e; exact .inl (by omega)), h.own1.kept g (fun b e => by cases e; exact .inl (by omega)), ownL_keptB h.own2 g (fun b e => by cases e; exact .inl (by omega)), hr, grown_then h.gr g (fun b e => .inr e), hl, hl2⟩
theorem SofSt.below {w0 : World} {R : Nat} {w : World} {dv hv sv : Value} {sb : Nat} {scv : Value} {scope : List Int} {d : Int} {wr w' : World} {rows : List (List Int)} {costs : List Int} {ts : List Tok} {xr xc : Value} (h : SofSt w0 R w dv hv sv sb scv scope d wr rows costs ts xr xc) (g : Below wr.heap.size wr w') : SofSt w0 R w dv hv sv sb scv scope d w' rows costs ts xr xc :=
  h.kept (grown_below g (some R)) (h.rd.below g)
theorem SofSt.addR {w0 : World} {R : Nat} {w : World} {dv hv sv : Value} {sb : Nat} {scv : Value} {scope : List Int} {d : Int} {wr w' : World} {rows rows' : List (List Int)} {costs : List Int} {ts : List Tok} {xr xr' xc : Value} (h : SofSt w0 R w dv hv sv sb scv scope d wr rows costs ts xr xc) (ho : OwnTU (sb + 1) w' xr' rows' xc) (g : Grew (sb + 1) wr w' xr xr') : SofSt w0 R w dv hv sv sb scv scope d (w'.setCell ⟨sb, 1, none⟩ xr') rows' costs ts xr' xc := by
  have hl := h.lt
  have hl2 := h.le
  have hn := h.own1.tf.new
  have hs1 : OwnL (sb + 1) w' xc costs := own_grew h.own2 g (h.own1.tf.sepL h.own2).symm.or
  have hb : ∀ b, some sb = some b → b < sb + 1 ∨ w'.heap.size ≤ b := fun b e => by cases e; exact .inl (by omega)
  refine ⟨(h.box.grew g (fun e => by have := hn _ e; omega)).set1 _, (h.res.grew g (fun e => by have := hn _ e; omega)).keep (grown_set _ _ _ _) (by simp; omega), (h.sco.kept g.by_ (fun b e => .inr (by have := hn b e; omega))).kept (grown_set _ _ _ _) (fun b e => by cases e; exact .inr (Nat.le_refl _)), ho.kept (grown_set _ _ _ _) hb, ownL_keptB hs1 (grown_set _ _ _ _) hb, ?_, ?_, hl, hl2⟩
  · exact (h.rd.grown g.by_ (fun b e => .inr (by have := hn b e; omega))).grown (grown_set _ _ _ _) (fun b e => by cases e; exact .inr (by omega))
  · exact grown_then (grown_then h.gr g.by_ (fun b e => .inl (by have := hn b e; omega))) (grown_set _ _ _ _) (fun b e => by cases e; exact .inl (by omega))
theorem SofSt.addC {w0 : World} {R : Nat} {w : World} {dv hv sv : Value} {sb : Nat} {scv : Value} {scope : List Int} {d : Int} {wr w' : World} {rows : List (List Int)} {costs costs' : List Int} {ts : List Tok} {xr xc xc' : Value} (h : SofSt w0 R w dv hv sv sb scv scope d wr rows costs ts xr xc) (ho : OwnL (sb + 1) w' xc' costs') (g : Grew (sb + 1) wr w' xc xc') : SofSt w0 R w dv hv sv sb scv scope d (w'.setCell ⟨sb, 2, none⟩ xc') rows costs' ts xr xc' := by
  have hl := h.lt
  have hl2 := h.le
  have hn := New.of_own h.own2
  have hs1 := h.own1.grewU (h.own1.tf.sepL h.own2) g
  have hb : ∀ b, some sb = some b → b < sb + 1 ∨ w'.heap.size ≤ b := fun b e => by cases e; exact .inl (by omega)
  refine ⟨(h.box.grew g (fun e => by have := hn _ e; omega)).set2 _, (h.res.grew g (fun e => by have := hn _ e; omega)).keep (grown_set _ _ _ _) (by simp; omega), (h.sco.kept g.by_ (fun b e => .inr (by have := hn b e; omega))).kept (grown_set _ _ _ _) (fun b e => by cases e; exact .inr (Nat.le_refl _)), hs1.kept (grown_set _ _ _ _) hb, ownL_keptB ho (grown_set _ _ _ _) hb, ?_, ?_, hl, hl2⟩
  · exact (h.rd.grown g.by_ (fun b e => .inr (by have := hn b e; omega))).grown (grown_set _ _ _ _) (fun b e => by cases e; exact .inr (by omega))
  · exact grown_then (grown_then h.gr g.by_ (fun b e => .inl (by have := hn b e; omega))) (grown_set _ _ _ _) (fun b e => by cases e; exact .inl (by omega))

theorem sft_res {w0 : World} {R : Nat} {w w9 : World} {ts : List Tok} {dv hv sv : Value} {B : Nat} {q : Quad} {c : Sft} (hr : Rd w0 R w9 ts dv hv sv) (hg : w.grownBy w9 (some R)) (hlt : R < w.heap.size) (hc : SftO (· < B) w9 q c) (hB : w.heap.size < B) :
    w.grownBy ((((w9.setCell ⟨w.heap.size, 0, none⟩ q.a).setCell ⟨w.heap.size, 1, none⟩ q.b).setCell ⟨w.heap.size, 2, none⟩ q.c).setCell ⟨w.heap.size, 3, none⟩ q.d) (some R) ∧
    SftV w.heap.size c (.agg #[q.a, q.b, q.c, q.d]) ((((w9.setCell ⟨w.heap.size, 0, none⟩ q.a).setCell ⟨w.heap.size, 1, none⟩ q.b).setCell ⟨w.heap.size, 2, none⟩ q.c).setCell ⟨w.heap.size, 3, none⟩ q.d) ∧
    Rd w0 R ((((w9.setCell ⟨w.heap.size, 0, none⟩ q.a).setCell ⟨w.heap.size, 1, none⟩ q.b).setCell ⟨w.heap.size, 2, none⟩ q.c).setCell ⟨w.heap.size, 3, none⟩ q.d) ts dv hv sv := by
  have gs := grown_set4 w9 w.heap.size q.a q.b q.c q.d
  refine ⟨grown_then hg gs (fun b e => .inl (by cases e; exact Nat.le_refl _)), ⟨q, rfl, ?_⟩, hr.setVar hlt _ _ _ _⟩
  exact (hc.kept gs (fun b e => by cases e; exact hB)).weaken (fun g _ h => by have : g < w.heap.size := h; show g < B; omega)

end Go.Proofs.YtoiokplgkanepaaDoor
