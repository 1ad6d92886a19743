/-
  slices.Insert of one number ahead of all others, onto a slice of the call's own: in our own words.
-/
import Derived.Test.YtflibcfecnhjgaaDoorApp3
import Derived.Test.YtflibcfecnhjgaaDoorShelfIns
import Derived.Lib.LazyBuf
namespace Go.Proofs.YtflibcfecnhjgaaDoor
open Go.RowKit
set_option linter.unusedVariables false
set_option linter.unusedSimpArgs false
set_option maxRecDepth 20000

theorem setCells_block (b : Nat) (e : TypeId) : ∀ (vs : List Value) (o : Nat) (w : World) (cur : Array Value), w.heap[b]? = some (.cells cur e) → ∃ cur', (w.setCells b o vs).heap[b]? = some (.cells cur' e) ∧ cur'.size = cur.size
  | [], o, w, cur, h => ⟨cur, h, rfl⟩
  | v :: r, o, w, cur, h => by
    obtain ⟨cur', h1, h2⟩ := setCells_block b e r (o + 1) (w.setCell ⟨b, o, none⟩ v) _ (heap_setCell_same w b o cur e v h)
    exact ⟨cur', h1, by rw [h2]; simp⟩

theorem setCells_grown (b : Nat) (vs : List Value) (o : Nat) (w : World) : w.grownBy (w.setCells b o vs) (some b) := by
  induction vs generalizing o w with
  | nil => exact ⟨rfl, rfl, rfl, Nat.le_refl _, fun _ _ _ => rfl⟩
  | cons v r ih =>
    have h1 : w.grownBy (w.setCell ⟨b, o, none⟩ v) (some b) := ⟨rfl, rfl, rfl, by simp, fun k hk hne => heap_setCell_other _ _ _ _ (fun e => hne (by rw [e]))⟩
    exact h1.trans (ih (o + 1) (w.setCell ⟨b, o, none⟩ v))

theorem own_of_cells {B : Nat} {w : World} {g cap : Nat} {cur : Array Value} {e : TypeId} {l : List Value} (hh : w.heap[g]? = some (.cells cur e)) (hB : B ≤ g) (hs : cur.size = cap) (hn : l.length ≤ cap) (hm : cap ≤ maxLen)
    (hc : ∀ i (h : i < l.length), w.cell? ⟨g, i, none⟩ = some l[i]) : w.ownsRow B e 1 (.slice (some ⟨g, 0, none⟩) l.length cap) l.length l := by
  refine ⟨by simp, .inr ⟨g, cap, cur, rfl, hB, hh, hn, hm, by omega, ?_⟩⟩
  apply List.ext_getElem (by simp; omega)
  intro i h1 h2
  have := hc i h2
  simp only [World.cell?, hh] at this
  rw [List.getElem_take, Array.getElem_toList]
  have hi : i < cur.size := by omega
  simpa [hi] using this

/-- One number is put ahead of all others. -/
theorem insert_any {B : Nat} {l : List Int} {v : Value} {a : Int} {W : World} (h : OwnI B W v l) (hnil : l = [] → v = .slice none 0 0) (hlen : l.length < 100000000000) (hB : B ≤ W.heap.size) :
    Calls Tryd.prog 57 #[v, .int .i64 0, .slice (some ⟨W.heap.size, 0, none⟩) 1 1] (W.alloc (.cells #[.int .i64 a] 3)) fun e w' => ∃ v', e = .returned v' ∧ OwnI B w' v' (a :: l) ∧ Grew B W w' v v' := by
  obtain ⟨W1, hW1⟩ : ∃ W1, W1 = W.alloc (.cells #[.int .i64 a] 3) := ⟨_, rfl⟩
  have hz1 : W1.heap.size = W.heap.size + 1 := by rw [hW1]; simp
  have hnew : W1.heap[W.heap.size]? = some (.cells #[.int .i64 a] 3) := by rw [hW1]; exact heap_alloc_new _ _
  have hb1 : Below W.heap.size W W1 := by rw [hW1]; exact (Below.refl _ _).alloc (Nat.le_refl _) _
  have hvs : ∀ j u, [Value.int .i64 a][j]? = some u → W1.cell? ⟨W.heap.size, 0 + j, none⟩ = some u := fun j u hj => by
    match j, hj with
    | 0, hj => simp at hj; subst hj; simp only [World.cell?, hnew]; simp
  have hone : ∀ u ∈ [Value.int .i64 a], u.oneCell' = true := fun u hu => by rw [List.mem_singleton] at hu; subst hu; rfl
  have honem : ∀ u ∈ l.map (Value.int .i64), u.oneCell' = true := fun u hu => by obtain ⟨x, _, rfl⟩ := List.mem_map.1 hu; rfl
  rw [← hW1]
  have h1 := own_below h hb1
  have hold : ∀ b, v.ownBlock = some b → b < W.heap.size := fun b hb => (h.lt b hb).2
  obtain ⟨hlx, hx⟩ := h1
  rcases hx with ⟨rfl, h0⟩ | ⟨g, cap, cur, rfl, hg, hh, hn, hm, hs, ht⟩
  · have hl : l = [] := List.length_eq_zero_iff.1 h0
    subst hl
    refine (Any2.slices_Insert_int_end_grow ins_lays none 0 0 W.heap.size 0 1 1 [] [.int .i64 a] W1 (by decide) (by decide) (by decide) (by decide) rfl rfl (fun _ => rfl) (fun x hx => by cases hx) hvs hone).mono ?_
    rintro e w' ⟨rfl, rfl⟩
    obtain ⟨C, hC⟩ : ∃ C, C = grownCap W1 (0 + 1) 0 (insRen.t 3) := ⟨_, rfl⟩
    have hge := grownCap_ge W1 (0 + 1) 0 (insRen.t 3)
    have hle := grownCap_le_maxLen W1 (0 + 1) 0 (insRen.t 3) (by unfold maxLen; omega)
    rw [← hC] at hge hle ⊢
    obtain ⟨big, hbig⟩ : ∃ big, big = (([] ++ [Value.int IntKind.i64 a]).toArray ++ Builtin.zeroCells (Value.int IntKind.i64 0).cells (C - (0 + 1))) := ⟨_, rfl⟩
    have hbs : big.size = C := by
      rw [hbig, Array.size_append, size_zeroCells]
      show 1 + (C - (0 + 1)) * 1 = C
      omega
    have hb0 : big[0]? = some (.int .i64 a) := by
      rw [hbig, Array.getElem?_append_left (by simp)]; rfl
    rw [← hbig]
    have hnw : (W1.drew.alloc (.cells big (insRen.t 3))).heap[W1.heap.size]? = some (.cells big 3) := heap_alloc_new W1.drew _
    have hb2 : Below W1.heap.size W1 (W1.drew.alloc (.cells big (insRen.t 3))) := by
      have h1 := (Below.refl W1.heap.size W1.drew).alloc (Nat.le_refl _) (.cells big (insRen.t 3))
      exact ⟨h1.os, h1.tape, h1.output, h1.size, h1.block⟩
    have hbel := hb1.trans (hb2.mono (by omega))
    refine ⟨_, rfl, ?_, hbel.mono hB, ⟨hbel.os, hbel.tape, hbel.output, hbel.size, fun k hk _ => hbel.block k hk⟩, .inr ⟨_, rfl, by show W.heap.size ≤ W1.heap.size; omega⟩⟩
    have := own_of_cells (B := B) (l := [Value.int .i64 a]) hnw (by omega) (cap := C) hbs (by simp; omega) hle (fun i hi => by
      have hi0 : i = 0 := by simp at hi; omega
      subst hi0
      simp only [World.cell?, hnw]
      exact hb0)
    simpa [OwnI] using this
  · have hgW : g < W.heap.size := hold g rfl
    have hne : W.heap.size ≠ g := by omega
    have hl0 : 0 < l.length := by
      rcases Nat.eq_zero_or_pos l.length with h' | h'
      · have := hnil (List.length_eq_zero_iff.1 h'); cases this
      · exact h'
    have hcl : (l.map (Value.int .i64)).length = l.length := by simp
    have hcs : ∀ j u, (l.map (Value.int .i64))[j]? = some u → W1.cell? ⟨g, 0 + j, none⟩ = some u := fun j u hj => by
      rw [← ht, List.getElem?_take] at hj
      split at hj
      · simp only [World.cell?, hh]; simpa using hj
      · cases hj
    by_cases hroom : l.length + 1 ≤ cap
    · have hsp : ∀ j, j < cap → (W1.cell? ⟨g, 0 + j, none⟩).isSome = true := fun j hj => by
        have hj2 : j < cur.size := by omega
        simp only [World.cell?, hh]
        simp [hj2]
      have hfz : ∀ x b (c : Array Value) (e : TypeId), W1.heap[b]? = some (.cells c e) → W1.frozen? ⟨b, x, none⟩ = false := fun x b c e hb => frozen_of_row _ _ _ _ _ hb
      refine (Any2.slices_Insert_int_shift ins_lays g 0 l.length cap 0 W.heap.size 0 1 1 (l.map (Value.int .i64)) [.int .i64 a] W1 hl0 (by decide) hroom (by unfold maxLen at hm; omega) hne hcl rfl hcs (fun j hj => hsp j (by omega)) (fun j hj => hfz _ _ _ _ hh)
        hvs honem hone 3 3 1 cap (by simp only [World.shape?, hnew]; rfl) (by simp only [World.shape?, hh]; simp; omega) (by omega) (hfz _ _ _ _ hnew) (hfz _ _ _ _ hnew)).mono ?_
      rintro e w' ⟨rfl, rfl⟩
      have g1 := setCells_grown g ((l.map (Value.int .i64)).drop 0) (0 + (0 + 1)) W1.drew
      have g2 := setCells_grown g [.int .i64 a] (0 + 0) (W1.drew.setCells g (0 + (0 + 1)) ((l.map (Value.int .i64)).drop 0))
      obtain ⟨cur1, hh1, hs1⟩ := setCells_block g 3 ((l.map (Value.int .i64)).drop 0) (0 + (0 + 1)) W1.drew cur hh
      obtain ⟨cur2, hh2, hs2⟩ := setCells_block g 3 [.int .i64 a] (0 + 0) _ cur1 hh1
      have gt := World.grownBy.trans g1 g2
      have k1 : W.grownBy W1 (some g) := ⟨hb1.os, hb1.tape, hb1.output, hb1.size, fun k hk _ => hb1.block k hk⟩
      have k2 : W1.grownBy W1.drew (some g) := ⟨rfl, rfl, rfl, Nat.le_refl _, fun _ _ _ => rfl⟩
      have gt2 := (k1.trans k2).trans gt
      refine ⟨_, rfl, ?_, ?_, gt2, .inl rfl⟩
      · have hsp1 : ∀ j, j < cap → (W1.drew.cell? ⟨g, 0 + j, none⟩).isSome = true := hsp
        have := own_of_cells (B := B) (l := (a :: l).map (Value.int .i64)) hh2 hg (cap := cap) (by omega) (by simp; omega) hm (fun i hi => by
          rw [List.getElem_map]
          cases i with
          | zero =>
            have := World.cell?_setCells_in g [.int .i64 a] (0 + 0) (W1.drew.setCells g (0 + (0 + 1)) ((l.map (Value.int .i64)).drop 0)) (fun j hj => by
              have hj0 : j = 0 := by simp at hj; omega
              subst hj0
              rw [World.cell?_setCells_out g _ _ _ _ (fun _ _ => .inl (by simp))]
              exact hsp1 0 (by omega)) 0 (by simp)
            simpa using this
          | succ i =>
            have hi' : i < l.length := by simpa using hi
            rw [World.cell?_setCells_out g _ _ _ _ (fun _ _ => .inr (by simp))]
            have := World.cell?_setCells_in g ((l.map (Value.int .i64)).drop 0) (0 + (0 + 1)) W1.drew (fun j hj => by
              have hj' : j < l.length := by simpa using hj
              rw [show 0 + (0 + 1) + j = 0 + (j + 1) by omega]
              exact hsp1 (j + 1) (by omega)) i (by simpa using hi')
            rw [show 0 + (0 + 1) + i = i + 1 by omega] at this
            rw [this]
            simp)
        simpa [OwnI] using this
      · refine ⟨gt2.os, gt2.tape, gt2.output, gt2.size, fun k hk => gt2.block k (by omega) (fun e => by injection e with e; omega)⟩
    · have hcap : cap < l.length + 1 := by omega
      refine (Any2.slices_Insert_int_grow ins_lays g 0 l.length cap 0 W.heap.size 0 1 1 (l.map (Value.int .i64)) [.int .i64 a] W1 hl0 (by decide) hn hcap (by omega) hcl rfl hcs hvs honem hone).mono ?_
      rintro e w' ⟨rfl, rfl⟩
      obtain ⟨C, hC⟩ : ∃ C, C = grownCap W1 (l.length + 1) cap (insRen.t 3) := ⟨_, rfl⟩
      have hge := grownCap_ge W1 (l.length + 1) cap (insRen.t 3)
      have hle := grownCap_le_maxLen W1 (l.length + 1) cap (insRen.t 3) (by unfold maxLen; omega)
      rw [← hC] at hge hle ⊢
      obtain ⟨big, hbig⟩ : ∃ big, big = (((l.map (Value.int .i64)).take 0).toArray ++ Builtin.zeroCells (Value.int .i64 0).cells (l.length + 1 - 0) ++ Builtin.zeroCells (Value.int .i64 0).cells (C - (l.length + 1))) := ⟨_, rfl⟩
      have hbs : big.size = C := by
        rw [hbig, Array.size_append, Array.size_append, size_zeroCells, size_zeroCells]
        show 0 + (l.length + 1 - 0) * 1 + (C - (l.length + 1)) * 1 = C
        omega
      rw [← hbig]
      obtain ⟨W2, hW2⟩ : ∃ W2, W2 = (W1.alloc (.cells big (insRen.t 3))).drew := ⟨_, rfl⟩
      have hh0 : W2.heap[W1.heap.size]? = some (.cells big 3) := by rw [hW2]; exact heap_alloc_new W1 _
      have hb2 : Below W1.heap.size W1 W2 := by
        rw [hW2]
        have h1 := (Below.refl W1.heap.size W1).alloc (Nat.le_refl _) (.cells big (insRen.t 3))
        exact ⟨h1.os, h1.tape, h1.output, h1.size, h1.block⟩
      rw [← hW2]
      have hsp : ∀ j, j < C → (W2.cell? ⟨W1.heap.size, j, none⟩).isSome = true := fun j hj => by
        have hj2 : j < big.size := by omega
        simp only [World.cell?, hh0]
        simp [hj2]
      obtain ⟨W3, hW3⟩ : ∃ W3, W3 = (W2.setCells W1.heap.size 0 [.int .i64 a]).drew := ⟨_, rfl⟩
      obtain ⟨cur1, hh1, hs1⟩ := setCells_block W1.heap.size 3 [.int .i64 a] 0 W2 big hh0
      have hh1' : W3.heap[W1.heap.size]? = some (.cells cur1 3) := by rw [hW3]; exact hh1
      rw [← hW3]
      obtain ⟨cur2, hh2, hs2⟩ := setCells_block W1.heap.size 3 ((l.map (Value.int .i64)).drop 0) (0 + 1) W3 cur1 hh1'
      have c3 : ∀ x, W3.cell? x = (W2.setCells W1.heap.size 0 [.int .i64 a]).cell? x := fun x => by rw [hW3]; rfl
      have hsp3 : ∀ j, j < C → (W3.cell? ⟨W1.heap.size, j, none⟩).isSome = true := fun j hj => by
        have hj2 : j < cur1.size := by omega
        simp only [World.cell?, hh1']
        simp [hj2]
      have g1 : W2.grownBy W3 (some W1.heap.size) := by
        rw [hW3]
        have h1 := setCells_grown W1.heap.size [.int .i64 a] 0 W2
        exact ⟨h1.os, h1.tape, h1.output, h1.size, h1.block⟩
      have g2 := setCells_grown W1.heap.size ((l.map (Value.int .i64)).drop 0) (0 + 1) W3
      have gt := World.grownBy.trans g1 g2
      have hbel : Below W.heap.size W (W3.setCells W1.heap.size (0 + 1) ((l.map (Value.int .i64)).drop 0)) := by
        refine hb1.trans ((hb2.mono (by omega)).trans ⟨gt.os, gt.tape, gt.output, gt.size, fun k hk => gt.block k (by have := hb2.size; omega) (fun e => by injection e with e; omega)⟩)
      refine ⟨_, rfl, ?_, hbel.mono hB, ⟨hbel.os, hbel.tape, hbel.output, hbel.size, fun k hk _ => hbel.block k hk⟩, .inr ⟨_, rfl, by show W.heap.size ≤ W1.heap.size; omega⟩⟩
      have := own_of_cells (B := B) (l := (a :: l).map (Value.int .i64)) hh2 (by omega) (cap := C) (by omega) (by simp; omega) hle (fun i hi => by
        rw [List.getElem_map]
        cases i with
        | zero =>
          rw [World.cell?_setCells_out _ _ _ _ _ (fun _ _ => .inl (by simp)), c3]
          have := World.cell?_setCells_in W1.heap.size [.int .i64 a] 0 W2 (fun j hj => by
            have hj0 : j = 0 := by simp at hj; omega
            subst hj0
            exact hsp 0 (by omega)) 0 (by simp)
          simpa using this
        | succ i =>
          have hi' : i < l.length := by simpa using hi
          have := World.cell?_setCells_in W1.heap.size ((l.map (Value.int .i64)).drop 0) (0 + 1) W3 (fun j hj => by
            have hj' : j < l.length := by simpa using hj
            rw [show 0 + 1 + j = j + 1 by omega]
            exact hsp3 (j + 1) (by omega)) i (by simpa using hi')
          rw [show 0 + 1 + i = i + 1 by omega] at this
          rw [this]
          simp)
      simpa [OwnI] using this

end Go.Proofs.YtflibcfecnhjgaaDoor
