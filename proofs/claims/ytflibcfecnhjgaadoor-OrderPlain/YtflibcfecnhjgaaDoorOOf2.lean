/-
  order.Of, where there is no such way; shown (layer 9) answers true.
-/
import Derived.Test.YtflibcfecnhjgaaDoorOOf
import Derived.Test.YtflibcfecnhjgaaDoorOValid
namespace Go.Proofs.YtflibcfecnhjgaaDoor
open Go.RowKit
set_option linter.unusedVariables false
set_option linter.unusedSimpArgs false
set_option maxRecDepth 20000

set_option maxHeartbeats 4000000 in
theorem of_none {g : List Nat} {x : Value} {w : World} {how : Int} (hg : Words w x g) (hr : RightG g) (hT : TabD w) (hw : (Lit.int .i64 how).wf = true) (h1 : how ≠ 1) (h2 : how ≠ 2) (h3 : how ≠ 3) :
    Calls Tryd.prog 19 #[.agg #[x], .int .i64 how] w fun e w' => e = .returned (.tuple #[.slice none 0 0, .int .i64 1]) ∧ Below w.heap.size w w' := by
  have hD := fun b z => ways_none h1 h2 h3 b z
  obtain ⟨W1, hW1, hb1, hz1, hx1⟩ := boxed (w := w) (x := x)
  have hx1c := hx1.cell
  have HT := hide (fun W (hb : Below w.heap.size w W) => hT.below hb)
  have hB0 := hT.lt
  have HG := hide (fun W (hb : Below w.heap.size w W) => hg.below hb)
  have HXN := hide (fun (hne : g ≠ []) b (hb : x.ownBlock = some b) => (hg.inheap hne b hb).2)
  have HB1 := hide hb1
  have HW1 := hide hW1
  have HX1 := hide (fun W (hb : Below W1.heap.size W1 W) => (hx1.below hb (by omega)).cell)
  have HR := hide hr
  have hn40 := hr.few
  have HD := hide hD
  have HWF := hide hw
  obtain ⟨ax, cx, rfl, hlx, hcx⟩ := hg.form
  clear hg hr hT hb1 hW1 hx1 hD hw h1 h2 h3
  go_enter Tryd.func19, Tryd.ntmps19
  go_wp2_with fail
  rw [← unhide HW1]
  have hS0 : W1.drew.cell? ⟨w.heap.size, 0, none⟩ = some (.slice ax g.length cx) ∧ True := ⟨hx1c, trivial⟩
  refine wp_region_held (S := fun U => U.cell? ⟨w.heap.size, 0, none⟩ = some (.slice ax g.length cx) ∧ True) (by kernel_rfl) ?_
  refine wpAnyH_take (i := 0) (v := ?_) rfl (by kernel_rfl) (by kernel_rfl) (by kernel_rfl) (fun _ _ _ h => h) (Or.inl ⟨by kernel_rfl, ?_⟩) (by assumption) ?_
  rotate_left
  · intro W hSW; obtain ⟨hS1, _⟩ := hSW; go_simp; first | done | rfl
  simp only [Act.put, List.setIfInBounds_toArray, List.set_cons_zero, List.set_cons_succ, List.getElem_toArray, List.getElem_cons_succ, List.getElem_cons_zero]
  refine wpAnyH_take (i := 1) (v := ?_) rfl (by kernel_rfl) (by kernel_rfl) (by kernel_rfl) (fun _ _ _ h => h) (Or.inl ⟨by kernel_rfl, ?_⟩) (by assumption) ?_
  rotate_left
  · intro W hSW; obtain ⟨hS1, _⟩ := hSW; go_simp; first | done | rfl
  simp only [Act.put, List.setIfInBounds_toArray, List.set_cons_zero, List.set_cons_succ, List.getElem_toArray, List.getElem_cons_succ, List.getElem_cons_zero]
  refine wpAnyH_take (i := 2) (v := ?_) rfl (by kernel_rfl) (by kernel_rfl) (by kernel_rfl) (fun _ _ _ h => h) (Or.inl ⟨by kernel_rfl, ?_⟩) (by assumption) ?_
  rotate_left
  · intro W hSW; obtain ⟨hS1, _⟩ := hSW; go_simp; first | done | rfl
  simp only [Act.put, List.setIfInBounds_toArray, List.set_cons_zero, List.set_cons_succ, List.getElem_toArray, List.getElem_cons_succ, List.getElem_cons_zero]
  refine wpAnyH_take (i := 3) (v := ?_) rfl (by kernel_rfl) (by kernel_rfl) (by kernel_rfl) (fun _ _ _ h => h) (Or.inl ⟨by kernel_rfl, ?_⟩) (by assumption) ?_
  rotate_left
  · intro W hSW; obtain ⟨hS1, _⟩ := hSW; go_simp; first | done | rfl
  simp only [Act.put, List.setIfInBounds_toArray, List.set_cons_zero, List.set_cons_succ, List.getElem_toArray, List.getElem_cons_succ, List.getElem_cons_zero]
  refine held_one (i := 4) (by kernel_rfl) rfl (by kernel_rfl) (fun K hK => ?_)
  refine op_make_bools _ _ rfl (B := w.heap.size) (by show w.heap.size ≤ W1.heap.size; omega) rfl rfl (by omega) ?_
  intro w2 ho2 hb2
  have hb2' : Below W1.heap.size W1 w2 := ⟨hb2.os, hb2.tape, hb2.output, hb2.size, hb2.block⟩
  have hx2 := unhide HX1 w2 hb2'
  have hS0 : w2.cell? ⟨w.heap.size, 0, none⟩ = some (.slice ax g.length cx) ∧ True := ⟨hx2, trivial⟩
  refine hK.out _ _ hS0 ?_
  clear hK K
  try simp only [Act.put, List.setIfInBounds_toArray, List.set_cons_zero, List.set_cons_succ]
  have ho2' : OwnB w.heap.size w2 (.slice (some ⟨w.heap.size + 1, 0, none⟩) g.length g.length) (List.replicate g.length false) := by rw [← hz1]; exact ho2
  have hz2 := hb2'.size
  have ho2lt := (ho2'.lt (w.heap.size + 1) rfl).2
  obtain ⟨W3, hW3⟩ : ∃ W, W = w2.alloc (.cells #[.slice ax g.length cx, .slice (some ⟨w.heap.size + 1, 0, none⟩) g.length g.length, .slice none 0 0] 80) := ⟨_, rfl⟩
  have hb3 : Below w2.heap.size w2 W3 := by rw [hW3]; exact (Below.refl _ _).alloc (Nat.le_refl _) _
  have hbx : BoxR W3 w2.heap.size (.slice ax g.length cx) (.slice (some ⟨w.heap.size + 1, 0, none⟩) g.length g.length) (.slice none 0 0) := by rw [hW3]; exact BoxR.new _ _ _ _
  have hB23 : Below w.heap.size w W3 := (unhide HB1).trans ((hb2'.mono (by omega)).trans (hb3.mono (by omega)))
  have hst : StO w.heap.size W3 w2.heap.size (begS g) (.slice ax g.length cx) (.slice (some ⟨w.heap.size + 1, 0, none⟩) g.length g.length) (.slice none 0 0) :=
    ⟨hbx, unhide HG _ hB23, (by simpa [begS, OwnB] using own_below ho2' hb3), own_nilI _ _, (by omega), (fun _ => rfl),
      (fun hne c h1 h2 => by
        have h3 := unhide HXN hne c h1
        have h4 : w.heap.size + 1 = c := by injection h2
        omega), (fun _ c _ h2 => by cases h2), (fun hne e => by
        have h3 := unhide HXN hne _ e
        omega),
      (fun e => by
        have h4 : w.heap.size + 1 = w2.heap.size := by injection e
        omega), (fun e => by cases e), (fun c _ h2 => by cases h2)⟩
  have hx3 := unhide HX1 W3 (hb2'.trans (hb3.mono hz2))
  have HST := hide hst
  have HW3 := hide hW3
  have HB23 := hide hB23
  have hz3 := hb3.size
  have HX3 := hide (fun W (hb : Below W3.heap.size W3 W) => unhide HX1 W ((hb2'.trans (hb3.mono hz2)).trans (hb.mono (by omega))))
  clear hst hbx hW3 ho2 hb2 hB23 hb3
  refine wpAnyH_take (i := 5) (v := ?_) rfl (by kernel_rfl) (by kernel_rfl) (by kernel_rfl) (fun _ _ _ h => h) (Or.inl ⟨by kernel_rfl, ?_⟩) (by assumption) ?_
  rotate_left
  · intro W hSW; obtain ⟨hS1, _⟩ := hSW; go_simp; first | done | rfl
  simp only [Act.put, List.setIfInBounds_toArray, List.set_cons_zero, List.set_cons_succ, List.getElem_toArray, List.getElem_cons_succ, List.getElem_cons_zero]
  refine held_one (i := 6) (by kernel_rfl) rfl (by kernel_rfl) (fun K hK => ?_)
  go_simp
  rw [← unhide HW3]
  have hS0 : W3.cell? ⟨w.heap.size, 0, none⟩ = some (.slice ax g.length cx) ∧ True := ⟨hx3, trivial⟩
  refine hK.out _ _ hS0 ?_
  clear hK K
  try simp only [Act.put, List.setIfInBounds_toArray, List.set_cons_zero, List.set_cons_succ]
  refine wpAnyH_take (i := 7) (v := ?_) rfl (by kernel_rfl) (by kernel_rfl) (by kernel_rfl) (fun _ _ _ h => h) (Or.inl ⟨by kernel_rfl, ?_⟩) (by assumption) ?_
  rotate_left
  · intro W hSW; obtain ⟨hS1, _⟩ := hSW; go_simp; first | done | rfl
  simp only [Act.put, List.setIfInBounds_toArray, List.set_cons_zero, List.set_cons_succ, List.getElem_toArray, List.getElem_cons_succ, List.getElem_cons_zero]
  refine wpAnyH_done (by kernel_rfl) ?_ _
  obtain ⟨b, hb⟩ : ∃ b, b = w2.heap.size := ⟨_, rfl⟩
  rw [← hb] at HST ⊢
  have hwb : w.heap.size ≤ b := by omega
  clear hb hx2 hS0
  go_wp2_with fail
  refine (ways_any _ _).mono ?_
  rintro e w4 ⟨m, rfl, hm, hown, hb4⟩
  obtain ⟨fv, fps, hrun, hfv⟩ := hown.look_ok keyed_int Tryd.underlying83 (Tryd.zeroValue81 w4) (z := _) (zd := .held _) (zp := []) rfl (Maps.keyOf_int_mk Tryd.underlying3 (unhide HWF))
  have hfv2 := held_inj hfv (unhide HD b _).2
  subst hfv2
  rw [(unhide HD b (.held .nilFunc)).1] at hrun
  have HB4 := hide ((unhide HB23).trans (hb4.mono (by omega)))
  clear hb4 hown hfv HST HD HX3 HX1 hx3 hx1c
  go_wp2
  go_ret2
  exact ⟨rfl, unhide HB4⟩

end Go.Proofs.YtflibcfecnhjgaaDoor
