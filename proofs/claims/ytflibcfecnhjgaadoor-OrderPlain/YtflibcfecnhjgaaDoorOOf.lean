/-
  The contract of order.Of.
-/
import Derived.Test.YtflibcfecnhjgaaDoorOTake
import Derived.Test.YtflibcfecnhjgaaDoorOLeast
import Derived.Test.YtflibcfecnhjgaaDoorOWays
namespace Go.Proofs.YtflibcfecnhjgaaDoor
open Go.RowKit
set_option linter.unusedVariables false
set_option linter.unusedSimpArgs false
set_option maxRecDepth 20000

/-- What a way's function answers. -/
def WayOk (how : Int) (F : FuncId) : Prop :=
  (∀ (W : World) (b : Nat) (s : Srch) (x y z : Value) (a : Int), StV W b s x y z → RightG s.g → s.t.length = s.g.length → TabD W →
    Calls Tryd.prog F #[.pointer (some ⟨b, 0, none⟩), .int .i64 a] W fun e w' => e = .returned (.int .i64 (worthW how s.g s.t a)) ∧ Below W.heap.size W w') ∧
  ∃ fn c, Tryd.prog.funcs[F]? = some fn ∧ (fn.name == "runtime.NumGoroutine") = false ∧ fn.body = some c

theorem way_ok {how : Int} (h : how = 1 ∨ how = 2 ∨ how = 3) : ∃ F, WayOk how F ∧ ∀ b z, Maps.has (waysD b) (.int .i64 how) = true ∧ (waysD b).atKey (.int .i64 how) z = .held (wayV F b) := by
  rcases h with rfl | rfl | rfl
  · exact ⟨_, ⟨fun W b s x y z a h hr hl hT => fillS_any h hr hl hT a, _, _, Tryd.func54, by kernel_rfl, rfl⟩, ways_one⟩
  · exact ⟨_, ⟨fun W b s x y z a h hr hl hT => degreeS_any h hr hl hT a, _, _, Tryd.func55, by kernel_rfl, rfl⟩, ways_two⟩
  · exact ⟨_, ⟨fun W b s x y z a h hr hl hT => cardS_any h hr hl hT a, _, _, Tryd.func56, by kernel_rfl, rfl⟩, ways_three⟩

theorem held_inj {v : Value} {d : DataW Value} {ps : List MemPlace} {u : Value} (h : heldR v = some (d, ps)) (hd : d = .held u) : v = u := by
  unfold heldR at h
  injection h with h
  injection h with h1 h2
  rw [← h1] at hd
  injection hd

/-- A slice of n untruths is made, in a region that draws. -/
theorem op_make_bools {w : World} {o : Oper} {a : Act} {K : Act → World → Prop} {Q : Exit → Act → World → Prop} (l c : Operand) (ho : o.op = Op.makeSlice 58 l c) {B : Nat} (hB : B ≤ w.heap.size)
    {n : Nat} (hl : a.eval l = .int .i64 (n : Int)) (hc : a.eval c = .int .i64 (n : Int)) (hlen : n < 100000000000)
    (h : ∀ w', OwnB B w' (.slice (some ⟨w.heap.size, 0, none⟩) n n) (List.replicate n false) → Below w.heap.size w w' → K (a.put o.dst (.slice (some ⟨w.heap.size, 0, none⟩) n n)) w') :
    o.wp Tryd.prog a w K Q := by
  obtain ⟨i, hi, hz0, hz1, hz2⟩ := info_parts Tryd.infoBool
  obtain ⟨w', hrun, r1, r2⟩ := run_make_full (P := Tryd.prog) w B 58 4 i (.bool false) 1 Tryd.underlying58 hi hz0 hz1 .i64 .i64 n (by rw [hz2]; omega) (by unfold maxLen; omega) hB
  unfold Oper.wp
  simp [execOp, ho, hl, hc, hrun, Result.andThen]
  refine h w' ?_ ⟨r2.os, r2.tape, r2.output, r2.size, fun k hk => r2.block k hk (by simp)⟩
  have : (madeCells (Value.bool false).cells (n * 1)).toList = (List.replicate n false).map Value.bool := by
    rw [show (Value.bool false).cells = #[.bool false] from rfl, toList_madeCells_one]; simp
  rw [this] at r1
  simpa [OwnB] using r1

set_option maxHeartbeats 4000000 in
theorem of_any {g : List Nat} {x : Value} {w : World} {how : Int} (hg : Words w x g) (hr : RightG g) (hT : TabD w) (hw : (Lit.int .i64 how).wf = true) (h123 : how = 1 ∨ how = 2 ∨ how = 3) :
    Calls Tryd.prog 19 #[.agg #[x], .int .i64 how] w fun e w' => ∃ v, e = .returned (.tuple #[v, .int .i64 0]) ∧ OwnI w.heap.size w' v (ofL how g) ∧ Below w.heap.size w w' := by
  obtain ⟨F, hF, hD⟩ := way_ok h123
  obtain ⟨W1, hW1, hb1, hz1, hx1⟩ := boxed (w := w) (x := x)
  have hx1c := hx1.cell
  have HT := hide (fun W (hb : Below w.heap.size w W) => hT.below hb)
  have hB0 := hT.lt
  have HG := hide (fun W (hb : Below w.heap.size w W) => hg.below hb)
  have HXN := hide (fun (hne : g ≠ []) b (hb : x.ownBlock = some b) => (hg.inheap hne b hb).2)
  have HB1 := hide hb1
  have HW1 := hide hW1
  have HX1 := hide (fun W (hb : Below W1.heap.size W1 W) => (hx1.below hb (by omega)).cell)
  have HR := hide hr
  have hn40 := hr.few
  have HF := hide hF
  have HD := hide hD
  have HWF := hide hw
  obtain ⟨ax, cx, rfl, hlx, hcx⟩ := hg.form
  clear hg hr hT hb1 hW1 hx1 hF hD hw h123
  go_enter Tryd.func19, Tryd.ntmps19
  go_wp2_with fail
  rw [← unhide HW1]
  have hS0 : W1.drew.cell? ⟨w.heap.size, 0, none⟩ = some (.slice ax g.length cx) ∧ True := ⟨hx1c, trivial⟩
  refine wp_region_held (S := fun U => U.cell? ⟨w.heap.size, 0, none⟩ = some (.slice ax g.length cx) ∧ True) (by kernel_rfl) ?_
  refine wpAnyH_take (i := 0) (v := ?_) rfl (by kernel_rfl) (by kernel_rfl) (by kernel_rfl) (fun _ _ _ h => h) (Or.inl ⟨by kernel_rfl, ?_⟩) (by assumption) ?_
  rotate_left
  · intro W hSW; obtain ⟨hS1, _⟩ := hSW; go_simp; first | done | rfl
  simp only [Act.put, List.setIfInBounds_toArray, List.set_cons_zero, List.set_cons_succ, List.getElem_toArray, List.getElem_cons_succ, List.getElem_cons_zero]
  refine wpAnyH_take (i := 1) (v := ?_) rfl (by kernel_rfl) (by kernel_rfl) (by kernel_rfl) (fun _ _ _ h => h) (Or.inl ⟨by kernel_rfl, ?_⟩) (by assumption) ?_
  rotate_left
  · intro W hSW; obtain ⟨hS1, _⟩ := hSW; go_simp; first | done | rfl
  simp only [Act.put, List.setIfInBounds_toArray, List.set_cons_zero, List.set_cons_succ, List.getElem_toArray, List.getElem_cons_succ, List.getElem_cons_zero]
  refine wpAnyH_take (i := 2) (v := ?_) rfl (by kernel_rfl) (by kernel_rfl) (by kernel_rfl) (fun _ _ _ h => h) (Or.inl ⟨by kernel_rfl, ?_⟩) (by assumption) ?_
  rotate_left
  · intro W hSW; obtain ⟨hS1, _⟩ := hSW; go_simp; first | done | rfl
  simp only [Act.put, List.setIfInBounds_toArray, List.set_cons_zero, List.set_cons_succ, List.getElem_toArray, List.getElem_cons_succ, List.getElem_cons_zero]
  refine wpAnyH_take (i := 3) (v := ?_) rfl (by kernel_rfl) (by kernel_rfl) (by kernel_rfl) (fun _ _ _ h => h) (Or.inl ⟨by kernel_rfl, ?_⟩) (by assumption) ?_
  rotate_left
  · intro W hSW; obtain ⟨hS1, _⟩ := hSW; go_simp; first | done | rfl
  simp only [Act.put, List.setIfInBounds_toArray, List.set_cons_zero, List.set_cons_succ, List.getElem_toArray, List.getElem_cons_succ, List.getElem_cons_zero]
  refine held_one (i := 4) (by kernel_rfl) rfl (by kernel_rfl) (fun K hK => ?_)
  refine op_make_bools _ _ rfl (B := w.heap.size) (by show w.heap.size ≤ W1.heap.size; omega) rfl rfl (by omega) ?_
  intro w2 ho2 hb2
  have hb2' : Below W1.heap.size W1 w2 := ⟨hb2.os, hb2.tape, hb2.output, hb2.size, hb2.block⟩
  have hx2 := unhide HX1 w2 hb2'
  have hS0 : w2.cell? ⟨w.heap.size, 0, none⟩ = some (.slice ax g.length cx) ∧ True := ⟨hx2, trivial⟩
  refine hK.out _ _ hS0 ?_
  clear hK K
  try simp only [Act.put, List.setIfInBounds_toArray, List.set_cons_zero, List.set_cons_succ]
  have ho2' : OwnB w.heap.size w2 (.slice (some ⟨w.heap.size + 1, 0, none⟩) g.length g.length) (List.replicate g.length false) := by rw [← hz1]; exact ho2
  have hz2 := hb2'.size
  have ho2lt := (ho2'.lt (w.heap.size + 1) rfl).2
  obtain ⟨W3, hW3⟩ : ∃ W, W = w2.alloc (.cells #[.slice ax g.length cx, .slice (some ⟨w.heap.size + 1, 0, none⟩) g.length g.length, .slice none 0 0] 80) := ⟨_, rfl⟩
  have hb3 : Below w2.heap.size w2 W3 := by rw [hW3]; exact (Below.refl _ _).alloc (Nat.le_refl _) _
  have hbx : BoxR W3 w2.heap.size (.slice ax g.length cx) (.slice (some ⟨w.heap.size + 1, 0, none⟩) g.length g.length) (.slice none 0 0) := by rw [hW3]; exact BoxR.new _ _ _ _
  have hB23 : Below w.heap.size w W3 := (unhide HB1).trans ((hb2'.mono (by omega)).trans (hb3.mono (by omega)))
  have hst : StO w.heap.size W3 w2.heap.size (begS g) (.slice ax g.length cx) (.slice (some ⟨w.heap.size + 1, 0, none⟩) g.length g.length) (.slice none 0 0) :=
    ⟨hbx, unhide HG _ hB23, (by simpa [begS, OwnB] using own_below ho2' hb3), own_nilI _ _, (by omega), (fun _ => rfl),
      (fun hne c h1 h2 => by
        have h3 := unhide HXN hne c h1
        have h4 : w.heap.size + 1 = c := by injection h2
        omega), (fun _ c _ h2 => by cases h2), (fun hne e => by
        have h3 := unhide HXN hne _ e
        omega),
      (fun e => by
        have h4 : w.heap.size + 1 = w2.heap.size := by injection e
        omega), (fun e => by cases e), (fun c _ h2 => by cases h2)⟩
  have hx3 := unhide HX1 W3 (hb2'.trans (hb3.mono hz2))
  have HST := hide hst
  have HW3 := hide hW3
  have HB23 := hide hB23
  have hz3 := hb3.size
  have HX3 := hide (fun W (hb : Below W3.heap.size W3 W) => unhide HX1 W ((hb2'.trans (hb3.mono hz2)).trans (hb.mono (by omega))))
  clear hst hbx hW3 ho2 hb2 hB23 hb3
  refine wpAnyH_take (i := 5) (v := ?_) rfl (by kernel_rfl) (by kernel_rfl) (by kernel_rfl) (fun _ _ _ h => h) (Or.inl ⟨by kernel_rfl, ?_⟩) (by assumption) ?_
  rotate_left
  · intro W hSW; obtain ⟨hS1, _⟩ := hSW; go_simp; first | done | rfl
  simp only [Act.put, List.setIfInBounds_toArray, List.set_cons_zero, List.set_cons_succ, List.getElem_toArray, List.getElem_cons_succ, List.getElem_cons_zero]
  refine held_one (i := 6) (by kernel_rfl) rfl (by kernel_rfl) (fun K hK => ?_)
  go_simp
  rw [← unhide HW3]
  have hS0 : W3.cell? ⟨w.heap.size, 0, none⟩ = some (.slice ax g.length cx) ∧ True := ⟨hx3, trivial⟩
  refine hK.out _ _ hS0 ?_
  clear hK K
  try simp only [Act.put, List.setIfInBounds_toArray, List.set_cons_zero, List.set_cons_succ]
  refine wpAnyH_take (i := 7) (v := ?_) rfl (by kernel_rfl) (by kernel_rfl) (by kernel_rfl) (fun _ _ _ h => h) (Or.inl ⟨by kernel_rfl, ?_⟩) (by assumption) ?_
  rotate_left
  · intro W hSW; obtain ⟨hS1, _⟩ := hSW; go_simp; first | done | rfl
  simp only [Act.put, List.setIfInBounds_toArray, List.set_cons_zero, List.set_cons_succ, List.getElem_toArray, List.getElem_cons_succ, List.getElem_cons_zero]
  refine wpAnyH_done (by kernel_rfl) ?_ _
  obtain ⟨b, hb⟩ : ∃ b, b = w2.heap.size := ⟨_, rfl⟩
  rw [← hb] at HST ⊢
  have hwb : w.heap.size ≤ b := by omega
  clear hb hx2 hS0
  go_wp2_with fail
  refine (ways_any _ _).mono ?_
  rintro e w4 ⟨m, rfl, hm, hown, hb4⟩
  obtain ⟨fv, fps, hrun, hfv⟩ := hown.look_ok keyed_int Tryd.underlying83 (Tryd.zeroValue81 w4) (z := _) (zd := .held _) (zp := []) rfl (Maps.keyOf_int_mk Tryd.underlying3 (unhide HWF))
  have hfv2 := held_inj hfv (unhide HD b _).2
  subst hfv2
  rw [(unhide HD b (.held .nilFunc)).1] at hrun
  unfold wayV at hrun
  have HST4 := hide ((unhide HST).below hb4)
  have hbt := (unhide HST4).box.lt
  have hx4 := unhide HX3 w4 hb4
  have HB4 := hide ((unhide HB23).trans (hb4.mono (by omega)))
  clear hb4 hown hfv HST HD HX3 HX1 hx3 hx1c
  go_wp2
  go_loopw [28] (fun i wr => ∃ (k : Nat) (x' z' : Value), k ≤ g.length ∧ i = .int .i64 k ∧ StO w.heap.size wr b (runS how (begS g) k) x' (.slice (some ⟨w.heap.size + 1, 0, none⟩) g.length g.length) z' ∧ Below w.heap.size w wr) (fun i wr => g.length - (intOf i).toNat)
  case atStart => exact ⟨0, _, _, by omega, rfl, unhide HST4, unhide HB4⟩
  case round =>
    clear hx4 HST4 HB4 hrun hbt
    obtain ⟨k, x', z', hk, rfl, hst, hbel⟩ := hrel
    rename World => wr
    have hzr := hbel.size
    have hok := (begS_ok (unhide HR)).run (how := how) hk
    by_cases hkl : k < g.length
    · have hl := least_ok (f := worthW how (runS how (begS g) k).g (runS how (begS g) k).t) (t := (runS how (begS g) k).t) (by have := hok.left; omega)
      have hsu : runS how (begS g) (k + 1) = takeS how (runS how (begS g) k) (leastL (worthW how (runS how (begS g) k).g (runS how (begS g) k).t) (runS how (begS g) k).t) := rfl
      have hlt : (leastL (worthW how (runS how (begS g) k).g (runS how (begS g) k).t) (runS how (begS g) k).t).toNat < (runS how (begS g) k).t.length := by omega
      have HLE := hide (leastS_any hst.st (F := F) (f := worthW how (runS how (begS g) k).g (runS how (begS g) k).t) (by rw [hok.tlen]; omega)
        (fun a W hb => (unhide HF).1 W b _ x' _ z' a (hst.st.below hb) hok.right (hok.tlen.trans hok.glen.symm) (unhide HT W (hbel.trans (hb.mono hzr)))) (unhide HF).2)
      obtain ⟨a, ha⟩ : ∃ a : Nat, (a : Int) = leastL (worthW how (runS how (begS g) k).g (runS how (begS g) k).t) (runS how (begS g) k).t := ⟨_, Int.toNat_of_nonneg hl.1⟩
      rw [← ha] at hl hsu hlt HLE
      simp only [Int.toNat_natCast] at hlt
      have HTK := hide (fun W (hb : Below wr.heap.size wr W) => takeS_any (how := how) (hst.below hb) hok.right (hok.tlen.trans hok.glen.symm) (by rw [hok.olen]; omega) (unhide HT W (hbel.trans (hb.mono hzr))) hlt (by have := hb.size; omega) hB0)
      rw [← hsu] at HTK
      have HBE := hide hbel
      clear hst hbel hok hl hsu ha hlt
      generalize runS how (begS g) k = s at *
      obtain ⟨s', hs'⟩ : ∃ s', s' = runS how (begS g) (k + 1) := ⟨_, rfl⟩
      rw [← hs'] at HTK
      have HS' := hide hs'
      clear hs'
      go_wp2_with fail
      refine (unhide HLE).mono ?_
      rintro e w6 ⟨rfl, hb6⟩
      have HTK6 := hide (unhide HTK w6 hb6)
      have hB6 := (unhide HBE).trans (hb6.mono hzr)
      have HB6 := hide hB6
      have hz6 := hB6.size
      clear hb6 hB6 HTK HLE
      go_wp2_with fail
      refine (unhide HTK6).mono ?_
      rintro e w7 ⟨x7, z7, rfl, hst7, hb7⟩
      have HF7 := hide (And.intro hst7 ((unhide HB6).trans hb7))
      clear hst7 hb7 HTK6
      go_wp2
      go_roundw
      case rel => exact ⟨k + 1, _, _, by omega, by go_num, by rw [← unhide HS']; exact (unhide HF7).1, (unhide HF7).2⟩
      case measure => simp [intOf]; omega
    · obtain rfl : k = g.length := by omega
      obtain ⟨y0, y1, y2⟩ := hst.box.cells
      go_wp2
      go_ret2
      exact ⟨_, rfl, hst.o, hbel⟩

end Go.Proofs.YtflibcfecnhjgaaDoor
