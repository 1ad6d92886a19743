/-
  The contract of Parts.
-/
import Derived.Test.YtflibcfecnhjgaaDoorGPart2
namespace Go.Proofs.YtflibcfecnhjgaaDoor
open Go.RowKit
set_option linter.unusedVariables false
set_option linter.unusedSimpArgs false
set_option maxRecDepth 20000

/-- The call's own rows, none of which lies ahead of N. -/
def OwnTG (N B : Nat) (w : World) (v : Value) (ll : List (List Int)) : Prop :=
  ∃ vs : List Value, OwnV B w v vs ∧ vs.length = ll.length ∧ ∀ i (h : i < vs.length) (h' : i < ll.length), Ints w vs[i] ll[i] ∧ Apart vs[i] ll[i] v ∧ ∀ g, vs[i].ownBlock = some g → N ≤ g

theorem OwnTG.nil (N B : Nat) (w : World) : OwnTG N B w (.slice none 0 0) [] := ⟨[], own_nilV _ _, rfl, fun i h => by simp at h⟩
theorem OwnTG.ownT {N B : Nat} {w : World} {v : Value} {ll : List (List Int)} (h : OwnTG N B w v ll) : OwnT B w v ll := by
  obtain ⟨vs, h1, h2, h3⟩ := h
  exact ⟨vs, h1, h2, fun i hi hi' => ⟨(h3 i hi hi').1, (h3 i hi hi').2.1⟩⟩
theorem OwnTG.lt {N B : Nat} {w : World} {v : Value} {ll : List (List Int)} (h : OwnTG N B w v ll) (b : Nat) (hb : v.ownBlock = some b) : B ≤ b ∧ b < w.heap.size := by
  obtain ⟨vs, h1, _⟩ := h
  exact h1.lt b hb

theorem OwnTG.keeps {N B vb : Nat} {w w' : World} {v : Value} {ll : List (List Int)} (h : OwnTG N B w v ll) (hk : Keeps (fun b => b = vb) w w') (hN : vb < N) (hv : v.ownBlock ≠ some vb) : OwnTG N B w' v ll := by
  obtain ⟨vs, h1, h2, h3⟩ := h
  refine ⟨vs, own_same h1 (fun b hb => hk.block b (h1.lt b hb).2 (fun e => hv (by rw [← e]; exact hb))), h2, fun i hi hi' => ?_⟩
  obtain ⟨k1, k2, k3⟩ := h3 i hi hi'
  exact ⟨hk.seq k1 (fun _ g hg e => by have := k3 g hg; have e : g = vb := e; omega), k2, k3⟩

theorem OwnTG.snoc {N B : Nat} {w w' : World} {v v' u : Value} {vs : List Value} {ll : List (List Int)} {l : List Int} (hlen : vs.length = ll.length)
    (h3 : ∀ i (h : i < vs.length) (h' : i < ll.length), Ints w vs[i] ll[i] ∧ Apart vs[i] ll[i] v ∧ ∀ g, vs[i].ownBlock = some g → N ≤ g) (hu : Ints w u l) (ha : Apart u l v) (hx : ∀ g, u.ownBlock = some g → N ≤ g) (hown : OwnV B w' v' (vs ++ [u])) (g : Grew B w w' v v') : OwnTG N B w' v' (ll ++ [l]) := by
  refine ⟨vs ++ [u], hown, by simp [hlen], fun i hi hi' => ?_⟩
  by_cases hiv : i < vs.length
  · have hil : i < ll.length := by omega
    rw [List.getElem_append_left hiv, List.getElem_append_left hil]
    have := h3 i hiv hil
    exact ⟨this.1.grew g this.2.1, this.2.1.grew this.1 g, this.2.2⟩
  · have e : i = vs.length := by simp at hi; omega
    subst e
    rw [List.getElem_append_right (by omega), List.getElem_append_right (by omega)]
    simp only [hlen, Nat.sub_self, List.getElem_cons_zero]
    exact ⟨hu.grew g ha, ha.grew hu g, hx⟩

theorem wp_app_tupG {w : World} {ops : Array Oper} {rest : List Oper} {o : Oper} {a : Act} {Q : Exit → Act → World → Prop} (hgd : o.guard = none) (s x : Operand)
    (ho : o.op = .call { callee := .builtin .append, args := #[s, x], argTypes := #[22, 22] }) {N B : Nat} {v u : Value} {ll : List (List Int)} {l : List Int} (hown : OwnTG N B w v ll) (hu : Ints w u l) (ha : Apart u l v) (hx0 : ∀ g, u.ownBlock = some g → N ≤ g) (hs : a.eval s = v) (hB : B ≤ w.heap.size)
    (hx : a.eval x = .slice (some ⟨w.heap.size, 0, none⟩) 1 1) (hlen : ll.length < 100000000000)
    (h : ∀ v' w', OwnTG N B w' v' (ll ++ [l]) → Grew B w w' v v' → wpList Tryd.prog ops Q rest (a.put o.dst v') w') :
    wpList Tryd.prog ops Q (o :: rest) a (w.alloc (.cells #[u] 39)) := by
  obtain ⟨vs, h1, h2, h3⟩ := hown
  exact wp_app_row hgd s x ho h1 hs hB hx hu.one (by omega) fun v' w' k1 k2 => h v' w' (OwnTG.snoc h2 h3 hu ha hx0 k1 k2) k2

set_option maxHeartbeats 2000000 in
theorem parts_any {g : List Nat} {x : Value} {w : World} (hg : Words w x g) (hr : RightG g) (hT : TabD w) :
    Calls Tryd.prog 33 #[.agg #[x]] w fun e w' => ∃ v, e = .returned v ∧ OwnT w.heap.size w' v (partsL g) ∧ Below w.heap.size w w' := by
  have hn : g.length ≤ 64 := by have := hr.few; omega
  obtain ⟨W1, hW1, hb1, hz1, hx1⟩ := boxed (w := w) (x := x)
  have hxl : g ≠ [] → ∀ b, x.ownBlock = some b → b < w.heap.size := fun hne b hb => (hg.inheap hne b hb).2
  have HXL := hide hxl
  have HG := hide (fun W (hb : Below W1.heap.size W1 W) => ((hg.below hb1).below hb))
  have HT := hide (fun W (hb : Below W1.heap.size W1 W) => ((hT.below hb1).below hb))
  have hT0 := hT.lt
  have HC := hide (fun W (hb : Below W1.heap.size W1 W) => (hx1.below hb (by omega)).cell)
  have HB := hide hb1
  have HW1 := hide hW1
  have HR := hide hr
  obtain ⟨ax, cx, rfl, hlx, hcx⟩ := hg.form
  have hy := hx1.cell
  clear hb1 hx1 hg hW1 hT hr hxl
  unfold partsL
  go_enter Tryd.func33, Tryd.ntmps33
  go_wp2_with (at_make; rw [← unhide HW1]; refine wp_make_bools rfl _ _ rfl (B := W1.heap.size) (Nat.le_refl _) rfl rfl (by omega) ?_; intro w2 hown2 hb2; rw [hz1] at hown2; have hy2 := unhide HC _ hb2)
  have hlt2 := (hown2.lt _ rfl).2
  have HPT := hide (points_any (unhide HG _ hb2) hn)
  have HO2 := hide hown2
  have HB2 := hide hb2
  have hz2 := hb2.size
  clear hown2 hb2 hy
  refine (unhide HPT).mono ?_
  rintro e w3 ⟨vp, rfl, hownP, hb3⟩
  obtain ⟨ap, cp, rfl, hlp, hcp⟩ := (Seq.of_own hownP).form
  rw [ptsL_len] at hlp ⊢
  unfold maxLen at hcp
  have hO3 := own_below (unhide HO2) hb3
  have hB3 := (unhide HB2).trans (hb3.mono (by omega))
  have hPI := Seq.of_own hownP
  rw [ptsL_len] at hPI
  have HPN := hide (fun b hb => (hownP.lt b (by rw [ptsL_len]; exact hb)).1)
  have hz3 := hb3.size
  clear hb3 HPT HO2 HB2 hownP hy2
  go_wp2
  go_loopw [3, 14] (fun v i wr => ∃ (k : Nat) (S : List Bool), i = .int .i64 k ∧ k ≤ g.length ∧ OwnTG (w.heap.size + 2) W1.heap.size wr v (partsUp g k) ∧ OwnB (w.heap.size + 1) wr (.slice (some ⟨w.heap.size + 1, 0, none⟩) g.length g.length) S ∧ Ints wr (.slice ap g.length cp) (ptsL g.length) ∧ Apart (.slice ap g.length cp) (ptsL g.length) v ∧ v.ownBlock ≠ some (w.heap.size + 1) ∧ Hid (SeenTo g S k) ∧ Below W1.heap.size W1 wr) (fun _ i _ => g.length - (intOf i).toNat)
  case atStart => exact ⟨0, List.replicate g.length false, rfl, by omega, (by unfold partsUp firsts; exact OwnTG.nil _ _ _), hO3, hPI, (fun _ b h1 h2 => by simp [Value.ownBlock] at h2), (by simp [Value.ownBlock]), hide (SeenTo.start g), hB3⟩
  case round =>
    clear hO3 hPI hB3
    obtain ⟨k, S, rfl, hk, hoT, hoB, hPI, hapP, hvne, HS, hbel⟩ := hrel
    rename World => wr
    have hzr := hbel.size
    have y0 := unhide HC wr hbel
    have hSl := (unhide HS).1
    have hwr2 : w.heap.size + 1 < wr.heap.size := (hoB.lt _ rfl).2
    obtain ⟨pa, pc, rfl, hpl, hpc⟩ := hoT.ownT.tups.form
    unfold maxLen at hpc
    have hplen := partsUp_len g k
    by_cases hkl : k < g.length
    · obtain ⟨bp, op, e1, q1⟩ := hPI.at (k := k) (by rw [ptsL_len]; exact hkl)
      subst e1
      rw [ptsL_at] at q1
      obtain ⟨bs, os, e3, q4⟩ := (Seq.of_own hoB).at (k := k) (by omega)
      cases e3
      have hgb : S[k]'(by omega) = S.getD k false := by rw [List.getD_eq_getElem?_getD, List.getElem?_eq_getElem (by omega)]; rfl
      rw [hgb, Nat.zero_add] at q4
      cases hsb : S.getD k false with
      | true =>
        rw [hsb] at q4
        have hnf := ((unhide HS).first (unhide HR)).1 hsb
        have HNX := hide (partsUp_no hnf)
        have HSK := hide ((unhide HS).skip (unhide HR) hsb)
        have HOT := hide hoT
        have HAP := hide hapP
        have HPI := hide hPI
        have HOB := hide hoB
        clear hnf hsb hgb HS hoT hapP hPI hoB
        go_wp2
        go_roundw
        case rel => exact ⟨k + 1, S, by go_num, by omega, by rw [unhide HNX]; exact unhide HOT, unhide HOB, unhide HPI, unhide HAP, hvne, HSK, hbel⟩
        case measure => simp [intOf]; omega
      | false =>
        rw [hsb] at q4
        have hf : First g k := Classical.byContradiction (fun hn => by rw [((unhide HS).first (unhide HR)).2 hn] at hsb; cases hsb)
        have HNX := hide (partsUp_yes hf)
        have HPF := hide (partFrom_any (unhide HG wr hbel) (unhide HR) (unhide HT wr hbel) hoB (by omega) (by omega) hSl hkl hsb (fun x y hxy hx => (unhide HS).closed (unhide HR) hxy hx) (fun hne b h1 h2 => by have := unhide HXL hne b h1; simp [Value.ownBlock] at h2; omega))
        have HSS := HS
        have HOT := hide hoT
        have HAP := hide hapP
        have HPI := hide hPI
        clear hf hsb hgb HS hoT hapP hPI hoB
        go_wp2_with fail
        refine (unhide HPF).mono ?_
        rintro e w4 ⟨vc, S', rfl, hh4, hS4, hSl4, hSe4, hk4⟩
        have hk4' : Keeps (fun b => b = w.heap.size + 1) wr w4 := ⟨hk4.os, hk4.tape, hk4.output, hk4.size, fun b hb hx => hk4.block b hb (fun e => hx (by simp [Value.ownBlock] at e; omega))⟩
        have hT4 := (unhide HOT).keeps hk4' (by omega) hvne
        have hI4 := hh4.ints
        have hn4 := hh4.new
        have hz4 := hk4.size
        have hP4 := hk4'.seq (unhide HPI) (fun _ b h1 h2 => by have := unhide HPN b h1; have h2 : b = w.heap.size + 1 := h2; omega)
        have hB4 := hbel.trans (hk4'.to (B := W1.heap.size) (fun b hb => by have hb : b = w.heap.size + 1 := hb; omega) (by omega))
        have HNEXT := hide ((unhide HSS).next hSl4 hSe4)
        have hapc : Apart vc (compL g k) (.slice pa (partsUp g k).length pc) := fun _ b h1 h2 => by
          have := (hn4 b h1).1
          have := ((unhide HOT).lt b h2).2
          omega
        obtain ⟨ca, cc, rfl, _, _⟩ := hI4.form
        have HT4 := hide hT4
        have HI4 := hide hI4
        have HAC := hide hapc
        have HN4 := hide (fun b hb => (hn4 b hb).1)
        have HP4 := hide hP4
        have HS4 := hide hS4
        have HB4 := hide hB4
        clear hT4 hI4 hapc hP4 hS4 hB4 hn4 hh4 hk4 hk4' hSl4 hSe4 HPF HPI HOT
        go_wp2_with (at_builtin; refine wp_app_tupG rfl (.tmp 23) (.tmp 28) rfl (B := W1.heap.size) (N := w.heap.size + 2) (unhide HT4) (unhide HI4) (unhide HAC) (fun b hb => by have := unhide HN4 b hb; omega) rfl (by omega) rfl (by omega) ?_; intro v6 w6 hown6 hg6)
        go_roundw
        case rel =>
          have hat : v6.ownBlock ≠ some (w.heap.size + 1) := by
            rcases hg6.at_ with h | ⟨b, h, hle⟩
            · rw [h]; exact hvne
            · rw [h]; intro e; injection e with e; omega
          exact ⟨k + 1, S', by go_num, by omega, by rw [unhide HNX]; exact hown6, own_same (unhide HS4) (fun b hb => hg6.by_.block b ((unhide HS4).lt b hb).2 (fun e => hvne (by rw [← e]; simp [Value.ownBlock] at hb; rw [hb]))), (unhide HP4).grew hg6 (unhide HAP), (unhide HAP).grew (unhide HP4) hg6, hat, HNEXT, (unhide HB4).trans hg6.below⟩
        case measure => simp [intOf]; omega
    · have hkn : k = g.length := by omega
      subst hkn
      have HOT := hide hoT.ownT
      clear hoT hapP hPI hoB y0 HS
      go_wp2
      go_ret
      exact ⟨_, rfl, (by obtain ⟨vs, h1, h2⟩ := unhide HOT; exact ⟨vs, own_mono h1 (by omega), h2⟩), (unhide HB).trans (hbel.mono (by omega))⟩

end Go.Proofs.YtflibcfecnhjgaaDoor
