/-
  The contract of joined.
-/
import Derived.Test.YtcglbopmfdilfaaDoorFProg
import Derived.Test.YtcglbopmfdilfaaDoorUntil
namespace Go.Proofs.YtcglbopmfdilfaaDoor
open Go.RowKit
set_option linter.unusedVariables false
set_option linter.unusedSimpArgs false
set_option maxRecDepth 20000

/-- A graph of the call's own in a variable's block. -/
structure VarG (B : Nat) (X : Nat → Prop) (b : Nat) (w : World) (v : Value) (g : List Nat) : Prop where
  box : BoxG w b v
  own : OwnW B w v g
  off : ∀ k, v.ownBlock = some k → ¬ X k
theorem VarG.wd {B b : Nat} {X : Nat → Prop} {w : World} {v : Value} {g : List Nat} (h : VarG B X b w v g) : Words w v g := Seq.of_own h.own
theorem VarG.below {B b : Nat} {X : Nat → Prop} {w w' : World} {v : Value} {g : List Nat} (h : VarG B X b w v g) (hb : Below w.heap.size w w') : VarG B X b w' v g := ⟨h.box.below hb h.box.lt, own_below h.own hb, h.off⟩
theorem VarG.set {B C b : Nat} {X : Nat → Prop} {w : World} {v y : Value} {g gy : List Nat} (h : VarG B X b w v g) (hy : OwnW C w y gy) (hC : B ≤ C) (hb : b < C) (hX : ∀ k, X k → k < C) : VarG B X b (w.setCell ⟨b, 0, none⟩ y) y gy :=
  ⟨h.box.set y, own_same (own_mono hy hC) (fun k hk => heap_setCell_other _ _ _ _ (show k ≠ b by have := (hy.lt k hk).1; omega)), fun k hk hx => by have := (hy.lt k hk).1; have := hX k hx; omega⟩

theorem VarG.set' {B b : Nat} {X : Nat → Prop} {w : World} {v y : Value} {g gy : List Nat} (h : VarG B X b w v g) (hy : OwnW B w y gy) (ho : ∀ k, y.ownBlock = some k → ¬ X k) (hX : X b) : VarG B X b (w.setCell ⟨b, 0, none⟩ y) y gy :=
  ⟨h.box.set y, own_same hy (fun k hk => heap_setCell_other _ _ _ _ (show k ≠ b from fun e => ho k hk (e ▸ hX))), ho⟩
/-- Another block is written. -/
theorem VarG.setO {B b c i : Nat} {X : Nat → Prop} {w : World} {v y : Value} {g : List Nat} (h : VarG B X b w v g) (hX : X c) (hne : b ≠ c) : VarG B X b (w.setCell ⟨c, i, none⟩ y) v g :=
  ⟨h.box.setO hne y, own_same h.own (fun k hk => heap_setCell_other _ _ _ _ (show k ≠ c from fun e => h.off k hk (e ▸ hX))), h.off⟩

set_option maxHeartbeats 4000000 in
theorem joined_any {B : Nat} {g : List Nat} {N : List Int} {x vn : Value} {w : World} (hg : OwnW B w x g) (hB : B ≤ w.heap.size) (hr : RightG g) (hn : Ints w vn N) (hnl : N.length ≤ 1000) (hm : ∀ i (hi : i < N.length), ∃ j : Nat, j < g.length ∧ N[i] = (j : Int)) {Y : Nat → Prop} (hY : ∀ k, x.ownBlock = some k → ¬ Y k) (hYl : ∀ k, Y k → k < w.heap.size) :
    Calls Tryd.prog 47 #[.agg #[x], vn] w fun e w' => ∃ y, e = .returned (.agg #[y]) ∧ OwnW B w' y (joinN g N) ∧ (∀ k, y.ownBlock = some k → ¬ Y k) ∧ Below w.heap.size w w' := by
  obtain ⟨an, cn, rfl, hnl', hnc⟩ := hn.form
  unfold maxLen at hnc
  obtain ⟨W0, hW0⟩ : ∃ W, W = w.alloc (.cells #[x] 29) := ⟨_, rfl⟩
  have hbA : Below w.heap.size w W0 := by rw [hW0]; exact (Below.refl _ _).alloc (Nat.le_refl _) _
  have hzA : W0.heap.size = w.heap.size + 1 := by rw [hW0]; simp
  have hvA : VarG B (fun k => Y k ∨ k = w.heap.size ∨ k = w.heap.size + 1) w.heap.size W0 x g := ⟨by rw [hW0]; exact BoxG.new w _, own_below hg hbA, fun k hk hx => hx.elim (hY k hk) (fun hx => by have := (hg.lt k hk).2; omega)⟩
  obtain ⟨W1, hW1⟩ : ∃ W, W = W0.alloc (.cells #[.slice none 0 0] 29) := ⟨_, rfl⟩
  have hbB : Below W0.heap.size W0 W1 := by rw [hW1]; exact (Below.refl _ _).alloc (Nat.le_refl _) _
  have hz1 : W1.heap.size = w.heap.size + 2 := by rw [hW1]; simp [hzA]
  have hb0 : Below w.heap.size w W1 := hbA.trans (hbB.mono (by omega))
  have hx2 : BoxG W1 (w.heap.size + 1) (.slice none 0 0) := by rw [hW1, ← hzA]; exact BoxG.new W0 _
  have HV0 := hide (hvA.below hbB)
  have HX2 := hide (fun W (hb : Keeps (fun x => x = w.heap.size) W1 W) => (show W.heap[w.heap.size + 1]? = some (.cells #[.slice none 0 0] 29) from (hb.block _ (by omega) (by omega)).trans hx2))
  have HNV := hide (fun W (hb : Below w.heap.size w W) => hn.below hb)
  have HB0 := hide hb0
  have HYL := hide hYl
  have HW1 := hide (show W1 = (w.alloc (.cells #[x] 29)).alloc (.cells #[.slice none 0 0] 29) by rw [hW1, hW0])
  have HST := hide (JoinG.start hr N)
  have HALL := hide (fun G (h : JoinG g N N.length 0 G) => h.all hr (fun x hx => by
    obtain ⟨i, hi, rfl⟩ := List.getElem_of_mem hx
    obtain ⟨j, h1, h2⟩ := hm i hi
    rw [h2]; omega))
  have HM := hide (fun (i : Nat) (hi : i < N.length) => (show ∃ j : Nat, j < g.length ∧ N[i] = (j : Int) ∧ N.getD i 0 = (j : Int) from by
    obtain ⟨j, h1, h2⟩ := hm i hi
    exact ⟨j, h1, h2, by rw [List.getD_eq_getElem?_getD, List.getElem?_eq_getElem hi]; exact h2⟩))
  have hb1 : w.heap.size + 1 < W1.heap.size := by omega
  clear hYl hY
  clear hg hn hm hbA hzA hvA hW1 hbB hb0 hx2 hW0 hr hz1
  clear W0
  go_enter Tryd.func47, Tryd.ntmps47
  go_wp2_with fail
  rw [← unhide HW1]
  clear HW1
  go_wp2
  go_loopw [11] (fun i wr => ∃ (k : Nat) (v : Value) (G : List Nat), k ≤ N.length ∧ i = .int .i64 k ∧ VarG B (fun k => Y k ∨ k = w.heap.size ∨ k = w.heap.size + 1) w.heap.size wr v G ∧ Hid (JoinG g N k 0 G) ∧ Keeps (fun x => x = w.heap.size) W1 wr) (fun i _ => N.length - (intOf i).toNat)
  case atStart => exact ⟨0, x, g, by omega, rfl, unhide HV0, HST, Keeps.refl _ _⟩
  case round =>
    clear HV0 HST
    obtain ⟨i, v, G, hi, rfl, hv, HJ, hkp⟩ := hrel
    rename World => wr
    have hbel := (unhide HB0).trans (hkp.to (fun g e => by omega) (by omega))
    by_cases hin : i < N.length
    · obtain ⟨a, hal, haN, haD⟩ := unhide HM i hin
      obtain ⟨bn, on, e2, q2⟩ := (unhide HNV wr hbel).at hin
      subst e2
      rw [haN] at q2
      have HA := hide haD
      have hic : i ≤ cn := by omega
      have HKP := hide hkp
      have HVV := hide hv
      have hzr := hkp.size
      clear haN haD hkp hv hbel
      go_wp2
      go_loopw [20] (fun k wq => ∃ (q : Nat) (v : Value) (G : List Nat), q ≤ i ∧ k = .int .i64 q ∧ VarG B (fun k => Y k ∨ k = w.heap.size ∨ k = w.heap.size + 1) w.heap.size wq v G ∧ Hid (JoinG g N i q G) ∧ Keeps (fun x => x = w.heap.size) W1 wq) (fun k _ => i - (intOf k).toNat)
      case atStart => exact ⟨0, v, G, by omega, rfl, unhide HVV, HJ, unhide HKP⟩
      case round =>
        clear HVV HJ HKP q2
        clear v G
        obtain ⟨q, v, G, hq, rfl, hv, HJ, hkp⟩ := hrel
        rename World => wq
        have hbel := (unhide HB0).trans (hkp.to (fun g e => by omega) (by omega))
        by_cases hqi : q < i
        · obtain ⟨b, hbl, hbN, hbD⟩ := unhide HM q (by omega)
          obtain ⟨b', o', e3, q3⟩ := (unhide HNV wq hbel).at (show q < N.length by omega)
          cases e3
          rw [hbN] at q3
          have hJ := unhide HJ
          have hn64 : G.length ≤ 64 := by have := hJ.right.few; omega
          have hbe := besI_eq G (a : Int) (b : Int)
          rw [ptB_nat, ptB_nat, hJ.len] at hbe
          simp only [Int.toNat_natCast, decide_eq_true hal, decide_eq_true hbl, Bool.true_and] at hbe
          have HSK := hide (fun h => hJ.skip (unhide HA) hbD hqi hin h)
          have HJN := hide (hJ.join (unhide HA) hbD hqi hin hal hbl)
          obtain ⟨ax, cx, rfl, hxl, hxc⟩ := hv.wd.form
          have hc := hv.box.cell
          have HBS := hide (beside_any (a := (a : Int)) (b := (b : Int)) hv.wd hn64 hJ.right.w64)
          rw [hbe] at HBS
          have HJC := hide (fun W (hb : Below wq.heap.size wq W) => join_any (a := (a : Int)) (b := (b : Int)) (hv.wd.below hb) hn64 hJ.right.w64)
          have HVQ := hide (fun W (hb : Below wq.heap.size wq W) => hv.below hb)
          have HKQ := hide (fun W (hb : Below wq.heap.size wq W) => hkp.then (Keeps.belowW hb))
          have hbx := hv.box.lt
          have hzq := hkp.size
          clear hbN hbD hJ hbe hkp hv hbel hxl hxc
          generalize besB G a b = be at *
          go_wp2_with fail
          refine (unhide HBS).mono ?_
          rintro e w3 ⟨rfl, hb3⟩
          have hc3 := (unhide HVQ w3 hb3).box.cell
          have HB3 := hide hb3
          have HJ3 := hide (unhide HJC w3 hb3)
          have hz3 := hb3.size
          clear hb3 hc q3 HBS HJC
          cases be with
          | true =>
            have HF := hide (And.intro (unhide HVQ w3 (unhide HB3)) (And.intro (unhide HSK rfl) (unhide HKQ w3 (unhide HB3))))
            clear HSK HJN HVQ HKQ HB3 HJ3
            go_wp2
            go_roundw
            case rel => exact ⟨q + 1, _, _, by omega, by go_num, (unhide HF).1, hide (unhide HF).2.1, (unhide HF).2.2⟩
            case measure => simp [intOf]; omega
          | false =>
            clear HSK
            go_wp2_with fail
            refine (unhide HJ3).mono ?_
            rintro e w4 ⟨y, rfl, ho4, hb4⟩
            have hb34 := (unhide HB3).trans (hb4.mono hz3)
            have hv4 := unhide HVQ w4 hb34
            obtain ⟨ay, cy, e7, _, _⟩ := (Seq.of_own ho4).form
            subst e7
            have hc4 := hv4.box.cell
            have hf4 := hv4.box.frozen
            have hs4 := hv4.set ho4 (by omega) (by omega) (fun k hx => hx.elim (fun hx => by have := unhide HYL k hx; omega) (fun hx => by omega))
            have hk4 := (unhide HKQ w4 hb34).then (Keeps.grown (X := fun x => x = w.heap.size) (grown_setG w4 w.heap.size 0 (.slice ay (joinN G [(a : Int), (b : Int)]).length cy)) (fun b e => by injection e with e; exact e.symm))
            have HF := hide (And.intro hs4 (And.intro (unhide HJN) hk4))
            clear hs4 hk4 ho4 hb4 hb34 hv4 HVQ HKQ HB3 HJ3 HJN hc3
            go_wp2
            go_roundw
            case rel => exact ⟨q + 1, _, _, by omega, by go_num, (unhide HF).1, hide (unhide HF).2.1, (unhide HF).2.2⟩
            case measure => simp [intOf]; omega
        · obtain rfl : q = i := by omega
          have HJ2 := hide (unhide HJ).row
          go_wp2
          go_roundw
          case rel => exact ⟨q + 1, _, _, by omega, by go_num, hv, HJ2, hkp⟩
          case measure => simp [intOf]; omega
    · obtain rfl : i = N.length := by omega
      have hG := unhide HALL G (unhide HJ)
      have hc := hv.box.cell
      have hx2 := unhide HX2 wr hkp
      have c2 : wr.cell? ⟨w.heap.size + 1, 0, none⟩ = some (.slice none 0 0) := by unfold World.cell?; rw [hx2]; rfl
      have f2 : wr.frozen? ⟨w.heap.size + 1, 0, none⟩ = false := frozen_of_row _ _ _ _ _ hx2
      obtain ⟨ax, cx, rfl, hxl, hxc⟩ := hv.wd.form
      have hw5 : OwnW B (wr.setCell ⟨w.heap.size + 1, 0, none⟩ (.slice ax G.length cx)) (.slice ax G.length cx) G :=
        own_same hv.own (fun k hk => heap_setCell_other _ _ _ _ (fun e => hv.off k hk (.inr (.inr e))))
      have hb5 := Below.setCell (p := ⟨w.heap.size + 1, 0, none⟩) hbel (show w.heap.size ≤ w.heap.size + 1 by omega) (.slice ax G.length cx)
      have HF := hide (And.intro hw5 (And.intro (fun k hk hy => hv.off k hk (.inl hy)) hb5))
      rw [hG] at HF
      clear hw5 hb5 hv HJ hkp
      go_wp2
      refine bodyPost_ret (v := .agg #[.slice ax (joinN g N).length cx]) (by simp [results, Tryd.results47, go_sem, c2]) rfl ⟨_, rfl, (unhide HF).1, (unhide HF).2.1, (unhide HF).2.2⟩

end Go.Proofs.YtcglbopmfdilfaaDoor
