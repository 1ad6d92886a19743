/-
  Rows of truths that have room behind them; the contract of the document's Neighbors for such.
-/
import Derived.Test.YtcglbopmfdilfaaDoorORefGoM
namespace Go.Proofs.YtcglbopmfdilfaaDoor
open Go.RowKit
set_option linter.unusedVariables false
set_option linter.unusedSimpArgs false
set_option maxRecDepth 20000

abbrev rowC (n : Nat) (p : Nat × Nat) : Value := .slice (some ⟨p.1, 0, none⟩) n p.2

/-- The same, where rows may have room behind them: blocks, and capacities. -/
structure MatC (B : Nat) (w : World) (v : Value) (n : Nat) (M : List (List Bool)) (bs : List (Nat × Nat)) : Prop where
  len : bs.length = M.length
  outer : w.ownsRow B 55 1 v bs.length (bs.map (rowC n))
  rows : ∀ i (h : i < bs.length) (h' : i < M.length), OwnB B w (rowC n bs[i]) M[i]
  wide : ∀ r ∈ M, r.length = n
  nod : (bs.map (·.1)).Nodup
  apart : ∀ b ∈ bs, v.ownBlock ≠ some b.1

theorem MatC.nil {B : Nat} {w : World} {v : Value} {n : Nat} (h : w.ownsRow B 55 1 v 0 []) : MatC B w v n [] [] :=
  ⟨rfl, h, fun i h => by simp at h, fun r h => by simp at h, List.nodup_nil, fun b h => by simp at h⟩

theorem MatC.lt {B : Nat} {w : World} {v : Value} {n : Nat} {M : List (List Bool)} {bs : List (Nat × Nat)} (h : MatC B w v n M bs) {b : Nat × Nat} (hb : b ∈ bs) : B ≤ b.1 ∧ b.1 < w.heap.size := by
  obtain ⟨i, hi, rfl⟩ := List.getElem_of_mem hb
  exact (h.rows i hi (by rw [← h.len]; exact hi)).lt _ rfl

theorem MatC.below {B : Nat} {w w' : World} {v : Value} {n : Nat} {M : List (List Bool)} {bs : List (Nat × Nat)} (h : MatC B w v n M bs) (hb : Below w.heap.size w w') : MatC B w' v n M bs :=
  ⟨h.len, own_below h.outer hb, fun i hi hi' => own_below (h.rows i hi hi') hb, h.wide, h.nod, h.apart⟩

theorem MatC.form {B : Nat} {w : World} {v : Value} {n : Nat} {M : List (List Bool)} {bs : List (Nat × Nat)} (h : MatC B w v n M bs) : ∃ a c, v = .slice a M.length c ∧ M.length ≤ c ∧ c ≤ maxLen := by
  obtain ⟨a, c, e, h1, h2⟩ := (Seq.of_own (enc := rowC n) h.outer).form
  rw [h.len] at e h1
  exact ⟨a, c, e, h1, h2⟩

/-- The cells of a row's slice, and of one of its truths. -/
theorem MatC.at {B : Nat} {w : World} {a : Option Addr} {n m c : Nat} {M : List (List Bool)} {bs : List (Nat × Nat)} (h : MatC B w (.slice a m c) n M bs) {i k : Nat} (hi : i < M.length) (hk : k < n) :
    ∃ b o r, a = some ⟨b, o, none⟩ ∧ w.cell? ⟨b, o + i, none⟩ = some (rowC n r) ∧ w.cell? ⟨r.1, k, none⟩ = some (.bool ((M.getD i []).getD k false)) ∧ bs[i]? = some r := by
  have hib : i < bs.length := by rw [h.len]; exact hi
  obtain ⟨b, o, e, hc⟩ := (Seq.of_own (enc := rowC n) h.outer).at hib
  have hr := Seq.of_own (h.rows i hib hi)
  have hw := h.wide _ (List.getElem_mem hi)
  obtain ⟨b2, o2, e2, hc2⟩ := hr.at (k := k) (by omega)
  cases e2
  refine ⟨b, o, bs[i], e, hc, ?_, by simp [hib]⟩
  rw [Nat.zero_add] at hc2
  rw [hc2]
  congr 2
  rw [List.getD_eq_getElem?_getD, List.getD_eq_getElem?_getD, List.getElem?_eq_getElem hi]
  simp only [Option.getD_some]
  rw [List.getElem?_eq_getElem (by omega)]
  rfl

theorem MatC.setv {B : Nat} {w : World} {v : Value} {n : Nat} {M : List (List Bool)} {bs : List (Nat × Nat)} (h : MatC B w v n M bs) {i k : Nat} {r : Nat × Nat} (hi : i < M.length) (hk : k < n) (hr : bs[i]? = some r) (y : Bool) :
    (∃ u, w.cell? ⟨r.1, k, none⟩ = some u) ∧ w.frozen? ⟨r.1, k, none⟩ = false ∧ MatC B (w.setCell ⟨r.1, k, none⟩ (.bool y)) v n (setMv M i k y) bs ∧ Below B w (w.setCell ⟨r.1, k, none⟩ (.bool y)) := by
  have hib : i < bs.length := by rw [h.len]; exact hi
  have er : bs[i] = r := by rw [List.getElem?_eq_getElem hib] at hr; simpa using hr
  have hw := h.wide _ (List.getElem_mem hi)
  have hrow := h.rows i hib hi
  rw [er] at hrow
  obtain ⟨h1, h2, h3, h4⟩ := own_setB hrow hw.symm (i := k) (by omega) y
  have gr := grown_setG w r.1 k (.bool y)
  refine ⟨h1, h2, ⟨by simp [setMv, h.len], ?_, fun j hj hj' => ?_, fun q hq => ?_, h.nod, h.apart⟩, h4⟩
  · refine own_same h.outer (fun b hb => gr.block b (h.outer.lt b hb).2 (fun e => ?_))
    injection e with e
    subst e
    exact h.apart r (by rw [← er]; exact List.getElem_mem _) hb
  · unfold setMv at hj' ⊢
    rw [List.getElem_set]
    by_cases e : i = j
    · subst e
      rw [if_pos rfl, er]
      have : M.getD i [] = M[i] := by rw [List.getD_eq_getElem?_getD, List.getElem?_eq_getElem hi]; rfl
      rw [this]
      exact h3
    · rw [if_neg e]
      have hjm : j < M.length := by simpa using hj'
      refine own_same (h.rows j hj hjm) (fun b hb => gr.block b ((h.rows j hj hjm).lt b hb).2 (fun e2 => ?_))
      injection e2 with e2
      have e3 : bs[j].1 = b := by simpa [Value.ownBlock] using hb
      have e4 : bs[i].1 = bs[j].1 := by rw [er]; omega
      exact e (nodupN_inj h.nod (by simpa using hib) (by simpa using hj) (by simpa using e4))
  · unfold setMv at hq
    rcases List.mem_or_eq_of_mem_set hq with hq | hq
    · exact h.wide q hq
    · subst hq
      have : M.getD i [] = M[i] := by rw [List.getD_eq_getElem?_getD, List.getElem?_eq_getElem hi]; rfl
      rw [List.length_set, this]; exact hw

theorem MatC.of {B : Nat} {w : World} {v : Value} {n : Nat} {M : List (List Bool)} {bs : List Nat} (h : OwnMat B w v n M bs) : MatC B w v n M (bs.map fun b => (b, n)) :=
  ⟨by simp [h.len], by simpa [List.map_map, Function.comp_def] using h.outer, fun i hi hi' => by simpa using h.rows i (by simpa using hi) hi', h.wide, by simpa [List.map_map, Function.comp_def] using h.nod, fun b hb => by
    obtain ⟨c, hc, rfl⟩ := List.mem_map.1 hb
    exact h.apart c hc⟩

theorem wp_app_crow {w : World} {ops : Array Oper} {rest : List Oper} {o : Oper} {a : Act} {Q : Exit → Act → World → Prop} (hgd : o.guard = none) (s x : Operand)
    (ho : o.op = .call { callee := .builtin .append, args := #[s, x], argTypes := #[25, 25] }) {B n : Nat} {r : Nat × Nat} {v : Value} {M : List (List Bool)} {bs : List (Nat × Nat)} {R : List Bool} (hown : MatC B w v n M bs)
    (hR : OwnB B w (rowC n r) R) (hRl : R.length = n) (hr : r.1 ∉ bs.map (·.1)) (hrv : v.ownBlock ≠ some r.1) (hs : a.eval s = v) (hB : B ≤ w.heap.size)
    (hx : a.eval x = .slice (some ⟨w.heap.size, 0, none⟩) 1 1) (hlen : M.length < 100000000000)
    (h : ∀ v' w', MatC B w' v' n (M ++ [R]) (bs ++ [r]) → Grew B w w' v v' → wpList Tryd.prog ops Q rest (a.put o.dst v') w') :
    wpList Tryd.prog ops Q (o :: rest) a (w.alloc (.cells #[rowC n r] 55)) := by
  refine wpList_plain hgd fun _ hK => op_app_one (enc := rowC n) Tryd.underlying25 Tryd.infoBools rfl (by decide) s x ho hown.outer hs hB hx rfl (by rw [hown.len]; exact hlen) fun v' w' h1 h2 => hK _ _ (h v' w' ⟨?_, h1, ?_, ?_, ?_, ?_⟩ h2)
  · simp [hown.len]
  · intro i hi hi'
    by_cases hil : i < bs.length
    · have him : i < M.length := by rw [← hown.len]; exact hil
      rw [List.getElem_append_left hil, List.getElem_append_left him]
      exact own_same (hown.rows i hil him) (fun b hb => h2.by_.block b ((hown.rows i hil him).lt b hb).2 (fun e => hown.apart bs[i] (List.getElem_mem _) (by rw [← e]; simpa [Value.ownBlock] using hb.symm)))
    · have e : i = bs.length := by simp at hi; omega
      subst e
      rw [List.getElem_append_right (by omega), List.getElem_append_right (by rw [hown.len]; omega)]
      simp only [hown.len, Nat.sub_self, List.getElem_cons_zero]
      exact own_same hR (fun b hb => h2.by_.block b (hR.lt b hb).2 (fun e => hrv (by rw [← e]; simpa [Value.ownBlock] using hb.symm)))
  · intro q hq
    rcases List.mem_append.1 hq with hq | hq
    · exact hown.wide q hq
    · rw [List.mem_singleton] at hq; subst hq; exact hRl
  · rw [List.map_append, List.nodup_append]
    exact ⟨hown.nod, by simp, fun p hp q hq => by rw [List.map_singleton, List.mem_singleton] at hq; subst hq; exact fun e => hr (e ▸ hp)⟩
  · intro b hb
    have hlt : b.1 < w.heap.size ∧ v.ownBlock ≠ some b.1 := by
      rcases List.mem_append.1 hb with hb | hb
      · exact ⟨(hown.lt hb).2, hown.apart b hb⟩
      · rw [List.mem_singleton] at hb; subst hb; exact ⟨(hR.lt _ rfl).2, hrv⟩
    rcases h2.at_ with e | ⟨g, e, hg⟩
    · rw [e]; exact hlt.2
    · rw [e]; intro e2; injection e2 with e2; omega

set_option maxHeartbeats 2000000 in
theorem refNbC_any {B0 : Nat} {M : List (List Bool)} {v : Value} {bs : List (Nat × Nat)} {a : Int} {w : World} (hM : MatC B0 w v M.length M bs) (hl : M.length ≤ 40) :
    Calls Tryd.prog 38 #[v, .int .i64 a] w fun e w' => ∃ u, e = .returned u ∧ OwnI w.heap.size w' u (nbL (graphR M) a) ∧ Below w.heap.size w w' := by
  have hb0 := (Below.refl w.heap.size w).alloc (Nat.le_refl _) (.cells #[] 3)
  have ho0 : OwnI w.heap.size (w.alloc (.cells #[] 3)) (.slice (some ⟨w.heap.size, 0, none⟩) 0 0) [] := own_litI (Nat.le_refl _)
  have HM := hide (fun W (hb : Below w.heap.size w W) => hM.below hb)
  obtain ⟨av, cv, rfl, hvl, hvm⟩ := hM.form
  unfold maxLen at hvm
  have hGl := graphR_len M
  have HB := hide (fun i j => graphR_bes (M := M) i j)
  obtain ⟨G, hG⟩ : ∃ G, G = graphR M := ⟨_, rfl⟩
  rw [← hG] at hGl HB ⊢
  have HGL := hide hGl
  clear hM hG hGl
  have hpB : ptB G.length a = (decide (0 ≤ a) && decide (a < (M.length : Int))) := by unfold ptB; rw [unhide HGL]
  cases hp : ptB G.length a with
  | false =>
    have e : nbL G a = [] := by unfold nbL; rw [if_neg (by simp [hp])]
    rw [e]
    have hcase : Hid (¬ 0 < M.length ∨ (0 < M.length ∧ ¬ 0 ≤ a) ∨ (0 < M.length ∧ 0 ≤ a ∧ ¬ a < (M.length : Int))) := hide (by
      rw [hp] at hpB
      by_cases h1 : 0 < M.length
      · by_cases h2 : 0 ≤ a
        · right; right
          refine ⟨h1, h2, fun h3 => ?_⟩
          simp [h2, h3] at hpB
        · exact .inr (.inl ⟨h1, h2⟩)
      · exact .inl h1)
    have HO := hide (And.intro ho0 hb0)
    clear ho0 hb0 hp hpB
    go_enter Tryd.func38, Tryd.ntmps38
    go_wp2
    go_loopw [5, 6] (fun v i wr => i = .int .i64 0 ∧ v = .slice (some ⟨w.heap.size, 0, none⟩) 0 0 ∧ wr = w.alloc (.cells #[] 3)) (fun _ i _ => 0)
    case atStart => exact ⟨rfl, rfl, rfl⟩
    case round =>
      obtain ⟨rfl, rfl, rfl⟩ := hrel
      rcases unhide hcase with h1 | ⟨h1, h2⟩ | ⟨h1, h2, h3⟩
      all_goals
        clear hcase
        go_wp2
        go_ret
        exact ⟨_, rfl, (unhide HO).1, (unhide HO).2⟩
  | true =>
    obtain ⟨h0, h1⟩ := ptB_iff.1 hp
    rw [unhide HGL] at h1
    obtain ⟨k0, rfl⟩ : ∃ k0 : Nat, a = (k0 : Int) := ⟨a.toNat, by omega⟩
    have hk0 : k0 < M.length := by omega
    clear hp hpB
    go_enter Tryd.func38, Tryd.ntmps38
    go_wp2
    go_loopw [5, 6] (fun v i wr => ∃ k : Nat, k ≤ M.length ∧ i = .int .i64 k ∧ OwnI w.heap.size wr v (nbUp G k0 k) ∧ Below w.heap.size w wr) (fun _ i _ => M.length - (intOf i).toNat)
    case atStart => exact ⟨0, by omega, rfl, by simpa [nbUp] using ho0, hb0⟩
    case round =>
      clear ho0 hb0
      obtain ⟨k, hk, rfl, hown, hbel⟩ := hrel
      rename World => wr
      have hszr := hbel.size
      obtain ⟨ov, oc, rfl, hol, hoc⟩ := (Seq.of_own hown).form
      unfold maxLen at hoc
      by_cases hkl : k < M.length
      · obtain ⟨b, o, r, e, c1, c2, _⟩ := (unhide HM wr hbel).at hk0 hkl
        subst e
        have hbes : besB G k0 k = (M.getD k0 []).getD k false := by rw [unhide HB]; simp [hkl]; rfl
        have hlen := nbUp_len G k0 k
        rw [← hbes] at c2
        cases hb : besB G k0 k with
        | true =>
          rw [hb] at c2
          have hnx := nbUp_next (g := G) (a := k0) (m := k) (Nat.le_refl k) (fun i hi hik => by omega) hb
          rw [if_pos (by rw [unhide HGL]; exact hkl)] at hnx
          have HN := hide hnx
          have HO := hide hown
          clear hnx hb hbes hown
          go_wp2_with (at_builtin; refine wp_app_int rfl (.tmp 31) (.tmp 33) rfl (B := w.heap.size) (unhide HO) rfl (by omega) rfl (by omega) ?_; intro v5 w5 hown5 hg5)
          go_roundw
          case rel => exact ⟨k + 1, by omega, by go_num, by rw [unhide HN]; exact hown5, hbel.trans hg5.below⟩
          case measure => simp [intOf]; omega
        | false =>
          rw [hb] at c2
          have HN := hide (nbUp_skip hb)
          have HO := hide hown
          clear hb hbes hown
          go_wp2
          go_roundw
          case rel => exact ⟨k + 1, by omega, by go_num, by rw [unhide HN]; exact unhide HO, hbel⟩
          case measure => simp [intOf]; omega
      · have hkM : M.length = k := by omega
        have hend : nbUp G k0 k = nbL G (k0 : Int) := nbUp_end (by rw [unhide HGL]; exact hk0) (fun i hi => by
          rw [unhide HB]
          have : ¬ i < M.length := by omega
          simp [this])
        rw [hend] at hown hol ⊢
        have HO := hide hown
        clear hend hown
        go_wp2
        go_ret
        exact ⟨_, rfl, unhide HO, hbel⟩


end Go.Proofs.YtcglbopmfdilfaaDoor
