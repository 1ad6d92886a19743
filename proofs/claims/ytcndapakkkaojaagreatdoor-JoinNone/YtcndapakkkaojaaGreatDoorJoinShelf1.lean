/-
  Shelves while they are made.
-/
import Derived.Test.YtcndapakkkaojaaGreatDoorJoinShelf0
namespace Go.Proofs.YtcndapakkkaojaaGreatDoor
open Go.RowKit Go.Maps Go.WideMaps
set_option linter.unusedVariables false
set_option linter.unusedSimpArgs false
set_option maxRecDepth 20000

theorem Tryz.infoTups : (Tryz.prog.info? 23).map (fun i => (i.zero, i.size, i.bytes)) = some (some (.slice none 0 0), 1, 24) := by kernel_rfl

/-- The call's own slice of slices of rows. -/
abbrev OwnX (B : Nat) (w : World) (v : Value) (l : List Value) : Prop := w.ownsRow B 23 1 v l.length l

/-- Block b holds a map and a slice. -/
def BoxM (w : World) (b : Nat) (x y : Value) : Prop := w.heap[b]? = some (.cells #[x, y] 57 (0, 0))
theorem BoxM.lt {w : World} {b : Nat} {x y : Value} (h : BoxM w b x y) : b < w.heap.size := by
  unfold BoxM at h
  rcases Nat.lt_or_ge b w.heap.size with hl | hl
  · exact hl
  · rw [Array.getElem?_eq_none hl] at h; cases h
theorem BoxM.cell0 {w : World} {b : Nat} {x y : Value} (h : BoxM w b x y) : w.cell? ⟨b, 0, none⟩ = some x := by unfold BoxM at h; simp only [World.cell?, h]; simp
theorem BoxM.cell1 {w : World} {b : Nat} {x y : Value} (h : BoxM w b x y) : w.cell? ⟨b, 1, none⟩ = some y := by unfold BoxM at h; simp only [World.cell?, h]; simp
theorem BoxM.frozen {w : World} {b : Nat} {x y : Value} (h : BoxM w b x y) (i : Nat) : w.frozen? ⟨b, i, none⟩ = false := frozen_of_row w b i _ _ h
theorem BoxM.grown {w w' : World} {b : Nat} {x y : Value} {row : Option Nat} (h : BoxM w b x y) (g : w.grownBy w' row) (hne : some b ≠ row) : BoxM w' b x y := (g.block b h.lt hne).trans h
theorem BoxM.set1 {w : World} {b : Nat} {x y : Value} (h : BoxM w b x y) (z : Value) : BoxM (w.setCell ⟨b, 1, none⟩ z) b x z := by
  unfold BoxM at h ⊢
  rw [heap_setCell_same w b 1 _ _ z h]; simp

theorem grown_setCell (w : World) (g i : Nat) (z : Value) : w.grownBy (w.setCell ⟨g, i, none⟩ z) (some g) := by
  refine ⟨rfl, rfl, rfl, Nat.le_of_eq (by simp), fun k hk hne => by rw [heap_setCell_other w ⟨g, i, none⟩ k z (fun e => hne (by rw [e]))]⟩

/-- Shelves that the call itself made: block B a map, block B + 1 the two fields, the rest from B + 2 on. -/
structure ShSt (B : Nat) (w : World) (V : Value) (n : Nat) (D : DataW Unit) (ks : List (List Int)) (gs : List Value) (f : List Int → List Value) : Prop where
  map : OwnM w B n D
  mof : MapOf D ks
  box : BoxM w (B + 1) (.map (some B)) V
  own : OwnX (B + 2) w V gs
  len : gs.length = ks.length
  grp : ∀ i (h : i < gs.length) (h' : i < ks.length), OwnV (B + 2) w gs[i] (f ks[i])
  sepV : ∀ i (h : i < gs.length), Sep gs[i] V
  sepG : ∀ i j (hi : i < gs.length) (hj : j < gs.length), i ≠ j → Sep gs[i] gs[j]
  kn : ks.Nodup
  kd : ∀ p ∈ ks, Dig p
  out : ∀ p, p ∉ ks → f p = []

theorem own_new {B : Nat} {e : TypeId} {w : World} {v : Value} {n : Nat} {xs : List Value} (h : w.ownsRow B e 1 v n xs) : New B w v := h.lt

theorem ShSt.below {B : Nat} {w w' : World} {V : Value} {n : Nat} {D : DataW Unit} {ks : List (List Int)} {gs : List Value} {f : List Int → List Value} (h : ShSt B w V n D ks gs f) (hb : Below w.heap.size w w') : ShSt B w' V n D ks gs f := by
  have g : w.grownBy w' none := ⟨hb.os, hb.tape, hb.output, hb.size, fun k hk _ => hb.block k hk⟩
  exact ⟨h.map.below hb, h.mof, h.box.grown g (by simp), own_below h.own hb, h.len, fun i hi hi' => own_below (h.grp i hi hi') hb, h.sepV, h.sepG, h.kn, h.kd, h.out⟩

/-- A new shelf, with nothing on it. -/
theorem ShSt.add {B : Nat} {w w2 w3 : World} {V V3 : Value} {n : Nat} {D : DataW Unit} {ks : List (List Int)} {gs : List Value} {f : List Int → List Value} (h : ShSt B w V n D ks gs f) {p : List Int} (hd : Dig p) (hp : p ∉ ks)
    (hm : OwnM w2 B (n + 1) (D.put (kl p) (.lit (.int .i64 (gs.length : Int))))) (g2 : w.grownBy w2 (some B)) (own3 : OwnX (B + 2) w3 V3 (gs ++ [.slice none 0 0])) (g3 : Grew (B + 2) w2 w3 V V3) :
    ShSt B (w3.setCell ⟨B + 1, 1, none⟩ V3) V3 (n + 1) (D.put (kl p) (.lit (.int .i64 (gs.length : Int)))) (ks ++ [p]) (gs ++ [.slice none 0 0]) f := by
  have hVne : ∀ b, b < B + 2 → V.ownBlock ≠ some b := fun b hb e => by have := own_new h.own b e; omega
  have gS := grown_setCell w3 (B + 1) 1 V3
  have hbox2 := h.box.grown g2 (by simp)
  have hbox3 := hbox2.grown g3.by_ (fun e => hVne (B + 1) (by omega) e.symm)
  have hlt := h.box.lt
  have k2 : ∀ {u : Value} {e : TypeId} {m : Nat} {xs : List Value}, w.ownsRow (B + 2) e 1 u m xs → w2.ownsRow (B + 2) e 1 u m xs := fun hu => hu.kept g2 (by
    cases hub : Value.ownBlock _ with
    | none => exact .inl rfl
    | some b => right; intro e; have := own_new hu b hub; injection e with e; omega)
  have kS : ∀ {u : Value} {e : TypeId} {m : Nat} {xs : List Value}, w3.ownsRow (B + 2) e 1 u m xs → (w3.setCell ⟨B + 1, 1, none⟩ V3).ownsRow (B + 2) e 1 u m xs := fun hu => hu.kept gS (by
    cases hub : Value.ownBlock _ with
    | none => exact .inl rfl
    | some b => right; intro e; have := own_new hu b hub; injection e with e; omega)
  have hsz2 : ∀ i (hi : i < gs.length), New (B + 2) w2 gs[i] := fun i hi => (own_new (h.grp i hi (by have := h.len; omega))).grow (Nat.le_refl _) g2.size
  refine ⟨?_, by rw [h.len]; exact h.mof.add hd h.kd hp, hbox3.set1 _, kS own3, by simp [h.len], ?_, ?_, ?_, ?_, ?_, ?_⟩
  · exact (hm.kept g3.by_ (fun e => hVne B (by omega) e.symm)).kept gS (by simp)
  · intro i hi hi'
    by_cases hig : i < gs.length
    · have hik : i < ks.length := by have := h.len; omega
      rw [List.getElem_append_left hig, List.getElem_append_left hik]
      exact kS ((k2 (h.grp i hig hik)).kept g3.by_ (h.sepV i hig).or)
    · have e1 : i = gs.length := by simp at hi; omega
      have e2 : i = ks.length := by have := h.len; omega
      rw [List.getElem_append_right (by omega), List.getElem_append_right (by omega)]
      simp only [e1, Nat.sub_self, List.getElem_cons_zero, h.len]
      rw [h.out p hp]
      exact own_nilV _ _
  · intro i hi
    by_cases hig : i < gs.length
    · rw [List.getElem_append_left hig]
      exact (h.sepV i hig).grewN (hsz2 i hig) g3
    · have e1 : i = gs.length := by simp at hi; omega
      rw [List.getElem_append_right (by omega)]
      simp only [e1, Nat.sub_self, List.getElem_cons_zero]
      exact Sep.nil _
  · intro i j hi hj hij
    by_cases hig : i < gs.length
    · by_cases hjg : j < gs.length
      · rw [List.getElem_append_left hig, List.getElem_append_left hjg]; exact h.sepG i j hig hjg hij
      · rw [List.getElem_append_right (Nat.le_of_not_lt hjg)]
        have e1 : j = gs.length := by simp at hj; omega
        simp only [e1, Nat.sub_self, List.getElem_cons_zero]
        exact (Sep.nil _).symm
    · rw [List.getElem_append_right (Nat.le_of_not_lt hig)]
      have e1 : i = gs.length := by simp at hi; omega
      simp only [e1, Nat.sub_self, List.getElem_cons_zero]
      exact Sep.nil _
  · rw [List.nodup_append]
    exact ⟨h.kn, by simp, fun a ha b hb e => by simp at hb; subst hb; subst e; exact hp ha⟩
  · intro q hq
    rcases List.mem_append.1 hq with hq | hq
    · exact h.kd q hq
    · simp at hq; subst hq; exact hd
  · intro q hq; exact h.out q (fun e => hq (List.mem_append_left _ e))

theorem ShSt.at {B : Nat} {w : World} {V : Value} {n : Nat} {D : DataW Unit} {ks : List (List Int)} {gs : List Value} {f : List Int → List Value} (h : ShSt B w V n D ks gs f) {i : Nat} (hi : i < gs.length) :
    ∃ gv c, V = .slice (some ⟨gv, 0, none⟩) gs.length c ∧ w.cell? ⟨gv, i, none⟩ = some gs[i] ∧ w.frozen? ⟨gv, i, none⟩ = false ∧ B + 2 ≤ gv ∧ gs.length ≤ c ∧ c ≤ maxLen := by
  obtain ⟨h1, h2⟩ := h.own
  rcases h2 with ⟨_, h2⟩ | ⟨g, cap, cur, hv, hg, hh, hn, hm, hs, ht⟩
  · omega
  · refine ⟨g, cap, hv, ?_, frozen_of_row w g i cur _ hh, hg, hn, hm⟩
    have e1 : (cur.toList.take (gs.length * 1))[i]? = gs[i]? := by rw [ht]
    rw [List.getElem?_take, if_pos (by omega)] at e1
    simp only [World.cell?, hh]
    simpa [hi] using e1

theorem nodup_at {l : List (List Int)} (h : l.Nodup) {i j : Nat} (hi : i < l.length) (hj : j < l.length) (e : l[i] = l[j]) : i = j := by
  rcases Nat.lt_trichotomy i j with h1 | h1 | h1
  · exact absurd e (List.pairwise_iff_getElem.1 h i j hi hj h1)
  · exact h1
  · exact absurd e.symm (List.pairwise_iff_getElem.1 h j i hj hi h1)

/-- One more row on a shelf. -/
theorem ShSt.put {B : Nat} {w w2 : World} {n : Nat} {D : DataW Unit} {ks : List (List Int)} {gs : List Value} {f f' : List Int → List Value} {gv m c i : Nat} {g' y : Value} (h : ShSt B w (.slice (some ⟨gv, 0, none⟩) m c) n D ks gs f) (hi : i < gs.length) (hik : i < ks.length)
    (hf : f' ks[i] = f ks[i] ++ [y]) (hf' : ∀ q, q ≠ ks[i] → f' q = f q) (own2 : OwnV (B + 2) w2 g' (f ks[i] ++ [y])) (g2 : Grew (B + 2) w w2 gs[i] g') :
    ShSt B (w2.setCell ⟨gv, i, none⟩ g') (.slice (some ⟨gv, 0, none⟩) m c) n D ks (gs.set i g') f' := by
  have hVn := own_new h.own gv rfl
  have hm : m = gs.length := ownsRow_len (v := .slice none 0 0) h.own
  subst hm
  have hne : ∀ b, b < B + 2 → gs[i].ownBlock ≠ some b := fun b hb e => by have := own_new (h.grp i hi hik) b e; omega
  have hown2 : OwnX (B + 2) w2 (.slice (some ⟨gv, 0, none⟩) gs.length c) gs := h.own.kept g2.by_ (h.sepV i hi).symm.or
  obtain ⟨_, _, hset, _⟩ := own_set hown2 (i := i) hi g'
  have gS := grown_setCell w2 gv i g'
  have hg'n := own_new own2
  have hsepg : ∀ j (hj : j < gs.length), j ≠ i → Sep gs[j] g' := fun j hj hji => (h.sepG j i hj hi hji).grewN (own_new (h.grp j hj (by have := h.len; omega))) g2
  have hsepV' : Sep g' (.slice (some ⟨gv, 0, none⟩) gs.length c) := by
    intro k h1 h2
    have e2 : gv = k := by simpa [Value.ownBlock] using h2
    rcases g2.at_ with h' | ⟨q, hq, hle⟩
    · exact h.sepV i hi k (h' ▸ h1) h2
    · rw [hq] at h1; cases h1; omega
  refine ⟨?_, h.mof, ?_, by simpa [OwnX] using hset, by simp [h.len], ?_, ?_, ?_, h.kn, h.kd, ?_⟩
  · exact (h.map.kept g2.by_ (fun e => hne B (by omega) e.symm)).kept gS (by intro e; injection e with e; omega)
  · exact (h.box.grown g2.by_ (fun e => hne (B + 1) (by omega) e.symm)).grown gS (by intro e; injection e with e; omega)
  · intro j hj hj'
    have hj0 : j < gs.length := by simpa using hj
    by_cases e : i = j
    · subst e
      simp only [List.getElem_set_self]
      rw [hf]
      exact own2.kept gS (hsepV'.or.imp id (fun h e => h (by rw [e]; rfl)))
    · rw [List.getElem_set_ne e]
      have hne2 : ks[j] ≠ ks[i] := fun e2 => e (nodup_at h.kn hik hj' e2.symm)
      rw [hf' _ hne2]
      exact ((h.grp j hj0 hj').kept g2.by_ (h.sepG j i hj0 hi (Ne.symm e)).or).kept gS ((h.sepV j hj0).or.imp id (fun h e => h (by rw [e]; rfl)))
  · intro j hj
    have hj0 : j < gs.length := by simpa using hj
    by_cases e : i = j
    · subst e; simp only [List.getElem_set_self]; exact hsepV'
    · rw [List.getElem_set_ne e]; exact h.sepV j hj0
  · intro j k hj hk hjk
    have hj0 : j < gs.length := by simpa using hj
    have hk0 : k < gs.length := by simpa using hk
    by_cases e : i = j
    · subst e
      simp only [List.getElem_set_self]
      rw [List.getElem_set_ne hjk]
      exact (hsepg k hk0 (Ne.symm hjk)).symm
    · rw [List.getElem_set_ne e]
      by_cases e2 : i = k
      · subst e2; simp only [List.getElem_set_self]; exact hsepg j hj0 (Ne.symm e)
      · rw [List.getElem_set_ne e2]; exact h.sepG j k hj0 hk0 hjk
  · intro q hq
    have hqi : q ≠ ks[i] := fun e => hq (e ▸ List.getElem_mem hik)
    rw [hf' q hqi]; exact h.out q hq

theorem shst_own {B : Nat} {w w3 : World} {V : Value} {gs : List Value} (h : OwnX (B + 2) w V gs) (hg : w.grownBy w3 (some B)) : OwnX (B + 2) w3 V gs := h.kept hg (by
  cases hub : V.ownBlock with
  | none => exact .inl rfl
  | some b => right; intro e; have := own_new h b hub; injection e with e; omega)
theorem shst_ne {B : Nat} {w : World} {V : Value} {gs : List Value} (h : OwnX (B + 2) w V gs) : some (B + 1) ≠ V.ownBlock := fun e => by have := own_new h _ e.symm; omega
theorem ownX_sl {B : Nat} {w : World} {v : Value} {l : List Value} (h : OwnX B w v l) : ∃ a n c, v = .slice a n c := by
  obtain ⟨a, c, e, _, _⟩ := (Seq.of_own (enc := id) (l := l) (by simpa using h)).form
  exact ⟨_, _, _, e⟩
theorem ownV_sl {B : Nat} {w : World} {v : Value} {l : List Value} (h : OwnV B w v l) : ∃ a n c, v = .slice a n c := by
  obtain ⟨a, c, e, _, _⟩ := (Seq.of_own (enc := id) (l := l) (by simpa using h)).form
  exact ⟨_, _, _, e⟩

/-- What the last region of a round finds. -/
theorem ShSt.get {B : Nat} {w : World} {va : Option Addr} {vn vc : Nat} {n : Nat} {D : DataW Unit} {ks : List (List Int)} {gs : List Value} {f : List Int → List Value} (h : ShSt B w (.slice va vn vc) n D ks gs f) {i : Nat} (hi : i < gs.length) (hik : i < ks.length) :
    ∃ gv ga gn gc, va = some ⟨gv, 0, none⟩ ∧ vn = gs.length ∧ gs[i] = .slice ga gn gc ∧ w.cell? ⟨B + 1, 1, none⟩ = some (.slice (some ⟨gv, 0, none⟩) vn vc) ∧ w.cell? ⟨gv, i, none⟩ = some (.slice ga gn gc) ∧ OwnV (B + 2) w (.slice ga gn gc) (f ks[i]) ∧ vn ≤ vc ∧ vc ≤ maxLen ∧ B + 2 ≤ gv ∧
      (∀ w2 g', Grew (B + 2) w w2 (.slice ga gn gc) g' → w2.cell? ⟨B + 1, 1, none⟩ = some (.slice (some ⟨gv, 0, none⟩) vn vc) ∧ w2.cell? ⟨gv, i, none⟩ = some (.slice ga gn gc) ∧ w2.frozen? ⟨gv, i, none⟩ = false) := by
  obtain ⟨gv, c, hV, hc, hfr, hB, h1, h2⟩ := h.at hi
  cases hV
  obtain ⟨ga, gn, gc, hg⟩ := ownV_sl (h.grp i hi hik)
  have hgr := h.grp i hi hik
  have hsv := h.sepV i hi
  rw [hg] at hc hgr hsv
  refine ⟨gv, ga, gn, gc, rfl, rfl, hg, h.box.cell1, hc, hgr, h1, h2, hB, fun w2 g' G => ⟨?_, ?_, ?_⟩⟩
  · exact (h.box.grown G.by_ (fun e => by have := own_new hgr _ e.symm; omega)).cell1
  · exact G.by_.cell hc (fun e => hsv gv e.symm rfl)
  · have hh := h.own
    obtain ⟨q1, q2⟩ := hh
    rcases q2 with ⟨q2, _⟩ | ⟨g, cap, cur, hv, hg', hh, _⟩
    · cases q2
    · cases hv
      have : w2.heap[gv]? = some (.cells cur 23 (0, 0)) := (G.by_.block gv (cell_lt hc) (fun e => hsv gv e.symm rfl)).trans hh
      exact frozen_of_row w2 gv i cur _ this

/-- One more shelf. -/
theorem wp_app_tupsX {w : World} {ops : Array Oper} {rest : List Oper} {o : Oper} {a : Act} {Q : Exit → Act → World → Prop} (hgd : o.guard = none) (s x : Operand)
    (ho : o.op = .call { callee := .builtin .append, args := #[s, x], argTypes := #[55, 55] }) {B : Nat} {v : Value} {l : List Value} {y : Value} (hown : OwnX B w v l) (hs : a.eval s = v) (hB : B ≤ w.heap.size)
    (hx : a.eval x = .slice (some ⟨w.heap.size, 0, none⟩) 1 1) (h1 : y.oneCell' = true) (hlen : l.length < 100000000000)
    (h : ∀ v' w', OwnX B w' v' (l ++ [y]) → Grew B w w' v v' → wpList Tryz.prog ops Q rest (a.put o.dst v') w') :
    wpList Tryz.prog ops Q (o :: rest) a (w.alloc (.cells #[y] 23)) :=
  wpList_plain hgd fun _ hK => op_app_one (enc := id) Tryz.underlying55 Tryz.infoTups rfl (by decide) s x ho (by simpa using hown) hs hB hx h1 hlen fun v' w' h1 h2 => hK _ _ (h v' w' (by simpa [OwnX] using h1) h2)

theorem ShSt.shelf {B : Nat} {w : World} {V : Value} {n : Nat} {D : DataW Unit} {ks : List (List Int)} {gs : List Value} {f : List Int → List Value} (h : ShSt B w V n D ks gs f) {ps : List Int} {lb : List (List Int)}
    (hr : ∀ p v, OwnV (B + 2) w v (f p) → Tups w v (likeL ps p lb)) (hn : ∀ p, f p = [] → likeL ps p lb = []) : ShelfV w (.agg #[.map (some B), V]) ps lb :=
  ⟨B, n, V, D, ks, gs, rfl, h.map, h.mof, Seq.of_own (enc := id) (by simpa using h.own), h.len, fun i hi hi' => hr _ _ (h.grp i hi hi'), fun p hp => hn p (h.out p hp), h.kd⟩

end Go.Proofs.YtcndapakkkaojaaGreatDoor
