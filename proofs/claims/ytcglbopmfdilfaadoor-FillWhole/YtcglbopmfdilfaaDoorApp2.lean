/-
  append of a whole slice onto a slice that the call itself made; a slice that is made and copied into; rows of rows.
-/
import Derived.Test.YtcglbopmfdilfaaDoorApp
import Derived.Laws.CopyOwn
namespace Go.Proofs.YtcglbopmfdilfaaDoor
open Go.RowKit
set_option linter.unusedVariables false
set_option linter.unusedSimpArgs false
set_option maxRecDepth 20000

theorem addr_add {x : Addr} (h : x.spot = none) (j : Nat) : x.add j = ⟨x.block, x.off + j, none⟩ := by
  obtain ⟨b, o, s⟩ := x
  simp at h
  subst h
  cases j <;> simp [Addr.add]

theorem op_app_all {t e : TypeId} {z : Value} {bytes : Nat} (ht : Tryd.prog.underlying t = some (.slice e)) (hinfo : (Tryd.prog.info? e).map (fun i => (i.zero, i.size, i.bytes)) = some (some z, 1, bytes)) (hz : z.cells.size = 1) (hby : bytes ≤ 1000)
    {w : World} {o : Oper} {a : Act} {K : Act → World → Prop} {Q : Exit → Act → World → Prop} (s x : Operand)
    (ho : o.op = .call { callee := .builtin .append, args := #[s, x], argTypes := #[t, t] }) {α : Type} {enc : α → Value} {B : Nat} {v : Value} {l : List α} (hown : w.ownsRow B e 1 v l.length (l.map enc)) (hs : a.eval s = v) (hB : B ≤ w.heap.size)
    {u : Value} {m : List α} (hu : Seq enc w u m) (hx : a.eval x = u) (h1 : ∀ y, y ∈ m → (enc y).oneCell' = true) (hlen : l.length + m.length < 100000000000)
    (h : ∀ v' w', w'.ownsRow B e 1 v' (l ++ m).length ((l ++ m).map enc) → Grew B w w' v v' → K (a.put o.dst v') w') :
    o.wp Tryd.prog a w K Q := by
  obtain ⟨i, hi, hz0, hz1, hz2⟩ := info_parts hinfo
  have hmul : (l.length + m.length) * bytes ≤ (l.length + m.length) * 1000 := Nat.mul_le_mul_left _ hby
  obtain ⟨a', cap, rfl, k2, k3, k4, k5, k6⟩ := hu
  cases a' with
  | none =>
    have hc := k4 rfl
    subst hc
    have hm : m = [] := List.length_eq_zero_iff.1 (by omega)
    subst hm
    have hr := run_append_owned_none (P := Tryd.prog) (w := w) B t o.type e i 1 ht hi v l.length (l.map enc) hown
    unfold Oper.wp execOp
    simp only [ho, resolve, invoke, builtin, Sem.run_bind, Sem.run_pure, Result.andThen_ok, List.map_toArray, List.map_cons, List.map_nil, hs, hx, hr, List.length_nil]
    exact h v w (by simpa using hown) ⟨Below.refl _ _, ⟨rfl, rfl, rfl, Nat.le_refl _, fun _ _ _ => rfl⟩, .inl rfl⟩
  | some ad =>
    refine op_append _ s x t ho B e i z 1 bytes ht hi hz0 hz1 hz2 hz (by decide) v l.length (l.map enc) hs hown ad m.length cap (m.map enc) hx (by simp)
      ?_ ?_ ?_ ?_ ?_ ?_
    · intro j y hj
      rw [List.getElem?_map] at hj
      cases hm : m[j]? with
      | none => rw [hm] at hj; cases hj
      | some q =>
        rw [hm] at hj
        cases hj
        obtain ⟨x', hx', hc⟩ := k6 j q hm
        cases hx'
        rw [addr_add (k5 ad rfl (by rintro rfl; simp at hm))]; exact hc
    · intro y hy
      obtain ⟨q, hq, rfl⟩ := List.mem_map.1 hy
      exact h1 q hq
    · unfold maxLen; omega
    · omega
    · omega
    · intro v' w' hown' hgrow hat
      refine h v' w' (by simpa using hown') ⟨?_, hgrow, ?_⟩
      · exact (Below.refl B w).grown hgrow hB (fun k hk => (hown.lt k hk).1)
      · rcases hat with hat | hat
        · exact .inl hat
        · exact .inr ⟨_, hat, Nat.le_refl _⟩

theorem op_app_ints {w : World} {o : Oper} {a : Act} {K : Act → World → Prop} {Q : Exit → Act → World → Prop} (s x : Operand)
    (ho : o.op = .call { callee := .builtin .append, args := #[s, x], argTypes := #[23, 23] }) {B : Nat} {v : Value} {l : List Int} (hown : OwnI B w v l) (hs : a.eval s = v) (hB : B ≤ w.heap.size)
    {u : Value} {m : List Int} (hu : Ints w u m) (hx : a.eval x = u) (hlen : l.length + m.length < 100000000000)
    (h : ∀ v' w', OwnI B w' v' (l ++ m) → Grew B w w' v v' → K (a.put o.dst v') w') :
    o.wp Tryd.prog a w K Q :=
  op_app_all Tryd.underlying23 Tryd.infoInt rfl (by decide) s x ho hown hs hB hu hx (fun _ _ => rfl) hlen h

/-- .. the new slice's value written out. -/
theorem op_app_intsX {w : World} {o : Oper} {a : Act} {K : Act → World → Prop} {Q : Exit → Act → World → Prop} (s x : Operand)
    (ho : o.op = .call { callee := .builtin .append, args := #[s, x], argTypes := #[23, 23] }) {B : Nat} {v : Value} {l : List Int} (hown : OwnI B w v l) (hs : a.eval s = v) (hB : B ≤ w.heap.size)
    {u : Value} {m : List Int} (hu : Ints w u m) (hx : a.eval x = u) (hlen : l.length + m.length < 100000000000)
    (h : ∀ (a' : Option Addr) (n' c' : Nat) (w' : World), n' = (l ++ m).length → OwnI B w' (.slice a' n' c') (l ++ m) → Grew B w w' v (.slice a' n' c') → K (a.put o.dst (.slice a' n' c')) w') :
    o.wp Tryd.prog a w K Q :=
  op_app_ints s x ho hown hs hB hu hx hlen fun v' w' h1 h2 => by
    obtain ⟨a', c', rfl, _, _⟩ := (Seq.of_own h1).form
    exact h a' _ c' w' rfl h1 h2

theorem wp_app_ints {w : World} {ops : Array Oper} {rest : List Oper} {o : Oper} {a : Act} {Q : Exit → Act → World → Prop} (hgd : o.guard = none) (s x : Operand)
    (ho : o.op = .call { callee := .builtin .append, args := #[s, x], argTypes := #[23, 23] }) {B : Nat} {v : Value} {l : List Int} (hown : OwnI B w v l) (hs : a.eval s = v) (hB : B ≤ w.heap.size)
    {u : Value} {m : List Int} (hu : Ints w u m) (hx : a.eval x = u) (hlen : l.length + m.length < 100000000000)
    (h : ∀ v' w', OwnI B w' v' (l ++ m) → Grew B w w' v v' → wpList Tryd.prog ops Q rest (a.put o.dst v') w') :
    wpList Tryd.prog ops Q (o :: rest) a w :=
  wpList_plain hgd fun _ hK => op_app_ints s x ho hown hs hB hu hx hlen fun v' w' h1 h2 => hK _ _ (h v' w' h1 h2)

/-- One-cell values that are slices: rows of rows. -/
theorem op_app_rows {w : World} {o : Oper} {a : Act} {K : Act → World → Prop} {Q : Exit → Act → World → Prop} (s x : Operand)
    (ho : o.op = .call { callee := .builtin .append, args := #[s, x], argTypes := #[22, 22] }) {B : Nat} {v : Value} {l : List Value} (hown : OwnV B w v l) (hs : a.eval s = v) (hB : B ≤ w.heap.size)
    {u : Value} {m : List Value} (hu : Seq id w u m) (hx : a.eval x = u) (h1 : ∀ y, y ∈ m → y.oneCell' = true) (hlen : l.length + m.length < 100000000000)
    (h : ∀ v' w', OwnV B w' v' (l ++ m) → Grew B w w' v v' → K (a.put o.dst v') w') :
    o.wp Tryd.prog a w K Q :=
  op_app_all (enc := id) Tryd.underlying22 Tryd.infoInts rfl (by decide) s x ho (by simpa using hown) hs hB hu hx h1 hlen (fun v' w' h1 h2 => h v' w' (by simpa [OwnV] using h1) h2)

theorem wp_app_rows {w : World} {ops : Array Oper} {rest : List Oper} {o : Oper} {a : Act} {Q : Exit → Act → World → Prop} (hgd : o.guard = none) (s x : Operand)
    (ho : o.op = .call { callee := .builtin .append, args := #[s, x], argTypes := #[22, 22] }) {B : Nat} {v : Value} {l : List Value} (hown : OwnV B w v l) (hs : a.eval s = v) (hB : B ≤ w.heap.size)
    {u : Value} {m : List Value} (hu : Seq id w u m) (hx : a.eval x = u) (h1 : ∀ y, y ∈ m → y.oneCell' = true) (hlen : l.length + m.length < 100000000000)
    (h : ∀ v' w', OwnV B w' v' (l ++ m) → Grew B w w' v v' → wpList Tryd.prog ops Q rest (a.put o.dst v') w') :
    wpList Tryd.prog ops Q (o :: rest) a w :=
  wpList_plain hgd fun _ hK => op_app_rows s x ho hown hs hB hu hx h1 hlen fun v' w' h1 h2 => hK _ _ (h v' w' h1 h2)

/-- A slice of n numbers is made: all nought. -/
theorem wp_make_ints {w : World} {ops : Array Oper} {rest : List Oper} {o : Oper} {a : Act} {Q : Exit → Act → World → Prop} (hgd : o.guard = none) (l c : Operand) (ho : o.op = Op.makeSlice 23 l c) {B : Nat} (hB : B ≤ w.heap.size)
    {n : Nat} (hl : a.eval l = .int .i64 (n : Int)) (hc : a.eval c = .int .i64 (n : Int)) (hlen : n < 100000000000)
    (h : ∀ w', OwnI B w' (.slice (some ⟨w.heap.size, 0, none⟩) n n) (List.replicate n 0) → Below w.heap.size w w' → wpList Tryd.prog ops Q rest (a.put o.dst (.slice (some ⟨w.heap.size, 0, none⟩) n n)) w') :
    wpList Tryd.prog ops Q (o :: rest) a w := by
  obtain ⟨i, hi, hz0, hz1, hz2⟩ := info_parts Tryd.infoInt
  refine wpList_make_full w hgd l c 23 ho B 3 i (.int .i64 0) 1 Tryd.underlying23 hi hz0 hz1 .i64 .i64 _ _ n hl hc rfl rfl (by rw [hz2]; omega) (by unfold maxLen; omega) hB ?_
  intro w' hown hg
  refine h w' ?_ ⟨hg.os, hg.tape, hg.output, hg.size, fun k hk => hg.block k hk (by simp)⟩
  have : (madeCells (Value.int IntKind.i64 0).cells (n * 1)).toList = (List.replicate n (0 : Int)).map (Value.int .i64) := by
    rw [show (Value.int IntKind.i64 0).cells = #[.int .i64 0] from rfl, toList_madeCells_one]; simp
  rw [this] at hown
  simpa [OwnI] using hown

/-- copy(dst, src) over the whole of a row of the call's own. -/
theorem wp_copy_ints {w : World} {ops : Array Oper} {rest : List Oper} {o : Oper} {a : Act} {Q : Exit → Act → World → Prop} (hgd : o.guard = none) (d s : Operand)
    (ho : o.op = .call { callee := .builtin .copy, args := #[d, s], argTypes := #[23, 23] }) {B g n : Nat} {l m : List Int} (hown : OwnI B w (.slice (some ⟨g, 0, none⟩) n n) l) (hd : a.eval d = .slice (some ⟨g, 0, none⟩) n n)
    {u : Value} (hu : Ints w u m) (hx : a.eval s = u) (hn : m.length = n) (hB : B ≤ w.heap.size)
    (h : ∀ w', OwnI B w' (.slice (some ⟨g, 0, none⟩) n n) m → Below B w w' → wpList Tryd.prog ops Q rest (a.put o.dst (.int .i64 n)) w') :
    wpList Tryd.prog ops Q (o :: rest) a w := by
  obtain ⟨a', cap, rfl, k2, k3, k4, k5, k6⟩ := hu
  obtain ⟨j1, j2⟩ := hown
  rcases j2 with ⟨j2, _⟩ | ⟨g', cap', cur, hv, hg, hh, hnn, hm, hsz, ht⟩
  · cases j2
  cases hv
  have hcur : cur = cur.toList.toArray := rfl
  rw [hcur] at hh
  refine wpList_copy_splice hgd d s _ _ ho 3 Tryd.underlying23 (by kernel_rfl) (some ⟨g, 0, none⟩) a' _ _ _ cap hd hx g 0 cur.toList 3 hh (m.map (Value.int .i64)) ?_ ?_ ?_ ?_ B w (Below.refl _ _) hg ?_
  · simp [hn]
  · intro hpos
    refine ⟨rfl, ?_⟩
    have hmp : 0 < m.length := by simpa using hpos
    obtain ⟨x, rfl, _⟩ := k6 0 m[0] (by simp [hmp])
    refine ⟨x, rfl, fun j y hj => ?_⟩
    rw [List.getElem?_map] at hj
    cases hmj : m[j]? with
    | none => rw [hmj] at hj; cases hj
    | some q =>
      rw [hmj] at hj
      cases hj
      obtain ⟨x', hx', hc⟩ := k6 j q hmj
      cases hx'
      rw [addr_add (k5 x rfl (by rintro rfl; simp at hmj))]; exact hc
  · simp; omega
  · exact ints_oneCell _ _
  · intro w' hh' hb
    rw [show (goInt (List.map (Value.int IntKind.i64) m).length) = .int .i64 l.length by simp [goInt, hn]]
    refine h w' ⟨by simp, .inr ⟨g, _, _, by rw [hn], hg, hh'.out, by omega, hm, ?_, ?_⟩⟩ hb
    · simp [splice]; omega
    · have : cur.toList.length = m.length := by simp; omega
      simp [splice, hn, this]

theorem Tups.form {w : World} {v : Value} {ll : List (List Int)} (h : Tups w v ll) : ∃ a cap, v = .slice a ll.length cap ∧ ll.length ≤ cap ∧ cap ≤ maxLen := by
  obtain ⟨vs, h1, h2, h3⟩ := h
  obtain ⟨a, cap, rfl, k1, k2⟩ := h1.form
  rw [h2] at k1 ⊢
  exact ⟨a, cap, rfl, k1, k2⟩

theorem Tups.at {w : World} {a : Option Addr} {n cap : Nat} {ll : List (List Int)} (h : Tups w (.slice a n cap) ll) {k : Nat} (hk : k < ll.length) :
    ∃ b off v, a = some ⟨b, off, none⟩ ∧ w.cell? ⟨b, off + k, none⟩ = some v ∧ Ints w v ll[k] := by
  obtain ⟨vs, h1, h2, h3⟩ := h
  obtain ⟨b, off, rfl, hc⟩ := h1.at (k := k) (by omega)
  exact ⟨b, off, _, rfl, hc, h3 k (by omega) hk⟩

theorem Seq.one {α : Type} {enc : α → Value} {w : World} {u : Value} {l : List α} (h : Seq enc w u l) : u.oneCell' = true := by
  obtain ⟨a, cap, rfl, _⟩ := h
  rfl

theorem Seq.cells1 {α : Type} {enc : α → Value} {w : World} {u : Value} {l : List α} (h : Seq enc w u l) : u.cells = #[u] := by
  obtain ⟨a, cap, rfl, _⟩ := h
  rfl

/-- The call's own rows of numbers: the outer row lies from B on, no inner one lies in its block. -/
def OwnT (B : Nat) (w : World) (v : Value) (ll : List (List Int)) : Prop :=
  ∃ vs : List Value, OwnV B w v vs ∧ vs.length = ll.length ∧ ∀ i (h : i < vs.length) (h' : i < ll.length), Ints w vs[i] ll[i] ∧ Apart vs[i] ll[i] v

theorem OwnT.nil (B : Nat) (w : World) : OwnT B w (.slice none 0 0) [] := ⟨[], own_nilV _ _, rfl, fun i h => by simp at h⟩
theorem OwnT.lit {B : Nat} {w : World} (hB : B ≤ w.heap.size) : OwnT B (w.alloc (.cells #[] 23)) (.slice (some ⟨w.heap.size, 0, none⟩) 0 0) [] := ⟨[], own_litV hB, rfl, fun i h => by simp at h⟩

theorem OwnT.below {B : Nat} {w w' : World} {v : Value} {ll : List (List Int)} (h : OwnT B w v ll) (hb : Below w.heap.size w w') : OwnT B w' v ll := by
  obtain ⟨vs, h1, h2, h3⟩ := h
  exact ⟨vs, own_below h1 hb, h2, fun i hi hi' => ⟨(h3 i hi hi').1.below hb, (h3 i hi hi').2⟩⟩

theorem OwnT.new {B : Nat} {w : World} {v : Value} {ll : List (List Int)} (h : OwnT B w v ll) : New B w v := by
  obtain ⟨vs, h1, h2, h3⟩ := h
  exact New.of_own h1

theorem OwnT.tups {B : Nat} {w : World} {v : Value} {ll : List (List Int)} (h : OwnT B w v ll) : Tups w v ll := by
  obtain ⟨vs, h1, h2, h3⟩ := h
  exact ⟨vs, Seq.of_own (enc := id) (by simpa using h1), h2, fun i hi hi' => (h3 i hi hi').1⟩

theorem OwnT.snoc {B : Nat} {w w' : World} {v v' u : Value} {vs : List Value} {ll : List (List Int)} {l : List Int} (hlen : vs.length = ll.length)
    (h3 : ∀ i (h : i < vs.length) (h' : i < ll.length), Ints w vs[i] ll[i] ∧ Apart vs[i] ll[i] v) (hu : Ints w u l) (ha : Apart u l v) (hown : OwnV B w' v' (vs ++ [u])) (g : Grew B w w' v v') : OwnT B w' v' (ll ++ [l]) := by
  refine ⟨vs ++ [u], hown, by simp [hlen], fun i hi hi' => ?_⟩
  by_cases hiv : i < vs.length
  · have hil : i < ll.length := by omega
    rw [List.getElem_append_left hiv, List.getElem_append_left hil]
    have := h3 i hiv hil
    exact ⟨this.1.grew g this.2, this.2.grew this.1 g⟩
  · have e : i = vs.length := by simp at hi; omega
    subst e
    rw [List.getElem_append_right (by omega), List.getElem_append_right (by omega)]
    simp only [hlen, Nat.sub_self, List.getElem_cons_zero]
    exact ⟨hu.grew g ha, ha.grew hu g⟩

/-- One more row. -/
theorem op_app_tup {w : World} {o : Oper} {a : Act} {K : Act → World → Prop} {Q : Exit → Act → World → Prop} (s x : Operand)
    (ho : o.op = .call { callee := .builtin .append, args := #[s, x], argTypes := #[22, 22] }) {B : Nat} {v u : Value} {ll : List (List Int)} {l : List Int} (hown : OwnT B w v ll) (hu : Ints w u l) (ha : Apart u l v) (hs : a.eval s = v) (hB : B ≤ w.heap.size)
    (hx : a.eval x = .slice (some ⟨w.heap.size, 0, none⟩) 1 1) (hlen : ll.length < 100000000000)
    (h : ∀ v' w', OwnT B w' v' (ll ++ [l]) → Grew B w w' v v' → K (a.put o.dst v') w') :
    o.wp Tryd.prog a (w.alloc (.cells #[u] 23)) K Q := by
  obtain ⟨vs, h1, h2, h3⟩ := hown
  exact op_app_row s x ho h1 hs hB hx hu.one (by omega) fun v' w' k1 k2 => h v' w' (OwnT.snoc h2 h3 hu ha k1 k2) k2

theorem wp_app_tup {w : World} {ops : Array Oper} {rest : List Oper} {o : Oper} {a : Act} {Q : Exit → Act → World → Prop} (hgd : o.guard = none) (s x : Operand)
    (ho : o.op = .call { callee := .builtin .append, args := #[s, x], argTypes := #[22, 22] }) {B : Nat} {v u : Value} {ll : List (List Int)} {l : List Int} (hown : OwnT B w v ll) (hu : Ints w u l) (ha : Apart u l v) (hs : a.eval s = v) (hB : B ≤ w.heap.size)
    (hx : a.eval x = .slice (some ⟨w.heap.size, 0, none⟩) 1 1) (hlen : ll.length < 100000000000)
    (h : ∀ v' w', OwnT B w' v' (ll ++ [l]) → Grew B w w' v v' → wpList Tryd.prog ops Q rest (a.put o.dst v') w') :
    wpList Tryd.prog ops Q (o :: rest) a (w.alloc (.cells #[u] 23)) :=
  wpList_plain hgd fun _ hK => op_app_tup s x ho hown hu ha hs hB hx hlen fun v' w' h1 h2 => hK _ _ (h v' w' h1 h2)

theorem Seq.take {α : Type} {enc : α → Value} {w : World} {a : Option Addr} {n cap : Nat} {l : List α} (h : Seq enc w (.slice a n cap) l) {k : Nat} (hk : k ≤ l.length) : Seq enc w (.slice a k cap) (l.take k) := by
  obtain ⟨a', cap', e, h2, h3, h4, h5, h6⟩ := h
  cases e
  refine ⟨a, cap, by rw [List.length_take, Nat.min_eq_left hk], by simp; omega, h3, h4, fun x hx hne => h5 x hx (by rintro rfl; simp at hne), fun i y hi => ?_⟩
  rw [List.getElem?_take] at hi
  split at hi
  · exact h6 i y hi
  · cases hi

/-- 't[:h]' of a slice of numbers. -/
theorem run_cut (a : Option Addr) (len cap : Nat) (h : Int) (n : Nat) (hn : h = n) (h2 : n ≤ cap) (w : World) :
    (Instr.slice 23 (.slice a len cap) none (some (.int .i64 h)) none).run Tryd.prog w = .ok (.slice a n cap) w := by
  have hu : Tryd.prog.underlying 23 = some (.slice (Tryd.prog.elem 23)) := by kernel_rfl
  have hsz : (sizeOf (Tryd.prog.elem 23)).run Tryd.prog w = .ok 1 w := by kernel_rfl
  subst hn
  rw [run_slice_h w 23 a len cap hu .i64 (n : Int) (by omega) (by omega), hsz]
  simp only [Result.andThen_ok, sliced]
  congr 1
  cases a with
  | none => simp
  | some x => simp [Addr.add]

/-- 't[:h]' of a slice of rows. -/
theorem run_cutV (a : Option Addr) (len cap : Nat) (h : Int) (n : Nat) (hn : h = n) (h2 : n ≤ cap) (w : World) :
    (Instr.slice 22 (.slice a len cap) none (some (.int .i64 h)) none).run Tryd.prog w = .ok (.slice a n cap) w := by
  have hu : Tryd.prog.underlying 22 = some (.slice (Tryd.prog.elem 22)) := by kernel_rfl
  have hsz : (sizeOf (Tryd.prog.elem 22)).run Tryd.prog w = .ok 1 w := by kernel_rfl
  subst hn
  rw [run_slice_h w 22 a len cap hu .i64 (n : Int) (by omega) (by omega), hsz]
  simp only [Result.andThen_ok, sliced]
  congr 1
  cases a with
  | none => simp
  | some x => simp [Addr.add]

/-- Where 't[k:]' begins. -/
def dropA (a : Option Addr) (cap k : Nat) : Option Addr := if cap = k then a else a.map (·.add k)

/-- 't[k:]' of a slice of rows. -/
theorem run_dropV (a : Option Addr) (len cap : Nat) (h : Int) (n : Nat) (hn : h = n) (h2 : n ≤ len) (w : World) :
    (Instr.slice 22 (.slice a len cap) (some (.int .i64 h)) none none).run Tryd.prog w = .ok (.slice (dropA a cap n) (len - n) (cap - n)) w := by
  have hu : Tryd.prog.underlying 22 = some (.slice (Tryd.prog.elem 22)) := by kernel_rfl
  have hsz : (sizeOf (Tryd.prog.elem 22)).run Tryd.prog w = .ok 1 w := by kernel_rfl
  subst hn
  rw [run_slice_l w 22 a len cap hu .i64 (n : Int) (by omega) (by omega), hsz]
  simp [Result.andThen_ok, sliced, dropA]

theorem Seq.drop {α : Type} {enc : α → Value} {w : World} {a : Option Addr} {n cap : Nat} {l : List α} (h : Seq enc w (.slice a n cap) l) {k : Nat} (hk : k ≤ l.length) : Seq enc w (.slice (dropA a cap k) (n - k) (cap - k)) (l.drop k) := by
  obtain ⟨a', cap', e, h2, h3, h4, h5, h6⟩ := h
  cases e
  refine ⟨dropA a cap k, cap - k, by rw [List.length_drop], by simp; omega, by omega, ?_, ?_, fun i y hi => ?_⟩
  · intro h
    unfold dropA at h
    split at h
    · omega
    · cases a with
      | none => have := h4 rfl; omega
      | some x => cases h
  · intro x hx hne
    have hl : l ≠ [] := by rintro rfl; simp at hne
    unfold dropA at hx
    split at hx
    · exact h5 x hx hl
    · cases a with
      | none => cases hx
      | some y => simp at hx; subst hx; rw [addr_add (h5 y rfl hl)]
  · rw [List.getElem?_drop] at hi
    obtain ⟨x, rfl, hc⟩ := h6 _ y hi
    have hlt : k + i < l.length := by
      rcases Nat.lt_or_ge (k + i) l.length with h | h
      · exact h
      · rw [List.getElem?_eq_none h] at hi; cases hi
    unfold dropA
    rw [if_neg (by omega)]
    refine ⟨_, rfl, ?_⟩
    show w.cell? ⟨(x.add k).block, (x.add k).off + i, none⟩ = _
    rw [addr_add (h5 x rfl (by rintro rfl; simp at hlt))]
    simpa [Nat.add_assoc] using hc

/-- A world that differs from wr by draws alone, or by draws and one new block: shown by 'rfl's. -/
theorem below_same {wr W : World} (h1 : W.os = wr.os) (h2 : W.tape = wr.tape) (h3 : W.output = wr.output) (h4 : W.heap = wr.heap) : Below wr.heap.size wr W := ⟨h1, h2, h3, by rw [h4]; exact Nat.le_refl _, fun k hk => by rw [h4]⟩
theorem below_push {wr W : World} {o : Obj} (h1 : W.os = wr.os) (h2 : W.tape = wr.tape) (h3 : W.output = wr.output) (h4 : W.heap = wr.heap.push o) : Below wr.heap.size wr W :=
  ⟨h1, h2, h3, by rw [h4]; simp, fun k hk => by rw [h4, Array.getElem?_push, if_neg (by omega)]⟩
theorem own_pushV {B : Nat} {wr W : World} (hB : B ≤ wr.heap.size) (h4 : W.heap = wr.heap.push (.cells #[] 23)) : OwnV B W (.slice (some ⟨wr.heap.size, 0, none⟩) 0 0) [] := by
  refine ⟨by simp, .inr ⟨wr.heap.size, 0, #[], rfl, hB, ?_, by simp, by simp [maxLen], by simp, by simp⟩⟩
  rw [h4]; simp
theorem own_pushI {B : Nat} {wr W : World} (hB : B ≤ wr.heap.size) (h4 : W.heap = wr.heap.push (.cells #[] 3)) : OwnI B W (.slice (some ⟨wr.heap.size, 0, none⟩) 0 0) [] := by
  refine ⟨by simp, .inr ⟨wr.heap.size, 0, #[], rfl, hB, ?_, by simp, by simp [maxLen], by simp, by simp⟩⟩
  rw [h4]; simp

theorem Seq.unique {w : World} {v : Value} {a b : List Value} (h : Seq id w v a) (k : Seq id w v b) (hl : a.length = b.length) : a = b := by
  obtain ⟨a1, c1, e1, _, _, _, _, h6⟩ := h
  obtain ⟨a2, c2, e2, _, _, _, _, k6⟩ := k
  have ea : a1 = a2 := by rw [e1] at e2; simpa using (Value.slice.inj e2).1
  subst ea
  apply List.ext_getElem hl
  intro i h1 h2
  obtain ⟨x, rfl, hx⟩ := h6 i a[i] (by simp [h1])
  obtain ⟨y, hy, hx'⟩ := k6 i b[i] (by simp [h2])
  cases hy
  rw [hx] at hx'
  simpa using hx'

/-- An operation whose guard says yes. -/
theorem wpList_wanted {P : Program} {ops : Array Oper} {rest : List Oper} {o : Oper} {a : Act} {w : World} {Q : Exit → Act → World → Prop} (hw : Region.wanted o (yielded ops a.tmps) = true)
    (h : ∀ K : Act → World → Prop, (∀ a w, wpList P ops Q rest a w → K a w) → o.wp P a w K Q) : wpList P ops Q (o :: rest) a w :=
  wpList_step fun K hK => by rw [if_pos hw]; exact h K hK

theorem wp_app_rowsG {w : World} {ops : Array Oper} {rest : List Oper} {o : Oper} {a : Act} {Q : Exit → Act → World → Prop} (hw : Region.wanted o (yielded ops a.tmps) = true) (s x : Operand)
    (ho : o.op = .call { callee := .builtin .append, args := #[s, x], argTypes := #[22, 22] }) {B : Nat} {v : Value} {l : List Value} (hown : OwnV B w v l) (hs : a.eval s = v) (hB : B ≤ w.heap.size)
    {u : Value} {m : List Value} (hu : Seq id w u m) (hx : a.eval x = u) (h1 : ∀ y, y ∈ m → y.oneCell' = true) (hlen : l.length + m.length < 100000000000)
    (h : ∀ v' w', OwnV B w' v' (l ++ m) → Grew B w w' v v' → wpList Tryd.prog ops Q rest (a.put o.dst v') w') :
    wpList Tryd.prog ops Q (o :: rest) a w :=
  wpList_wanted hw fun _ hK => op_app_rows s x ho hown hs hB hu hx h1 hlen fun v' w' h1 h2 => hK _ _ (h v' w' h1 h2)

end Go.Proofs.YtcglbopmfdilfaaDoor
