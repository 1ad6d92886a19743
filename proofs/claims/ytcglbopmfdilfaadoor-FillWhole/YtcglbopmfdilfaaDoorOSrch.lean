/-
  A search in memory; the contracts of its beside, degree, card.
-/
import Derived.Test.YtcglbopmfdilfaaDoorOMath
import Derived.Test.YtcglbopmfdilfaaDoorGNbr
namespace Go.Proofs.YtcglbopmfdilfaaDoor
open Go.RowKit
set_option linter.unusedVariables false
set_option linter.unusedSimpArgs false
set_option maxRecDepth 20000

/-- The block of a search. -/
def BoxR (w : World) (b : Nat) (x y z : Value) : Prop := w.heap[b]? = some (.cells #[x, y, z] 73)
theorem BoxR.lt {w : World} {b : Nat} {x y z : Value} (h : BoxR w b x y z) : b < w.heap.size := by
  unfold BoxR at h
  rcases Nat.lt_or_ge b w.heap.size with hl | hl
  · exact hl
  · rw [Array.getElem?_eq_none hl] at h; cases h
theorem BoxR.cells {w : World} {b : Nat} {x y z : Value} (h : BoxR w b x y z) : w.cell? ⟨b, 0, none⟩ = some x ∧ w.cell? ⟨b, 1, none⟩ = some y ∧ w.cell? ⟨b, 2, none⟩ = some z := by
  unfold BoxR at h
  refine ⟨?_, ?_, ?_⟩ <;> (simp only [World.cell?, h]; simp)
theorem BoxR.frozen {w : World} {b : Nat} {x y z : Value} (h : BoxR w b x y z) (i : Nat) : w.frozen? ⟨b, i, none⟩ = false := frozen_of_row _ _ _ _ _ h
theorem BoxR.below {w w' : World} {b : Nat} {x y z : Value} (h : BoxR w b x y z) (hb : Below w.heap.size w w') : BoxR w' b x y z := (hb.block b h.lt).trans h
theorem BoxR.new (w : World) (x y z : Value) : BoxR (w.alloc (.cells #[x, y, z] 73)) w.heap.size x y z := heap_alloc_new w _

/-- A search, as it lies. -/
structure StV (w : World) (b : Nat) (s : Srch) (x y z : Value) : Prop where
  box : BoxR w b x y z
  g : Words w x s.g
  t : Seq Value.bool w y s.t
  o : Ints w z s.o
theorem StV.below {w w' : World} {b : Nat} {s : Srch} {x y z : Value} (h : StV w b s x y z) (hb : Below w.heap.size w w') : StV w' b s x y z := ⟨h.box.below hb, h.g.below hb, h.t.below hb, h.o.below hb⟩

theorem filter_snoc {α : Type} {p : α → Bool} {l : List α} {k : Nat} (hk : k < l.length) {x : α} (hx : l[k] = x) {q : Bool} (hq : p x = q) : (l.take (k + 1)).filter p = cond q ((l.take k).filter p ++ [x]) ((l.take k).filter p) := by
  rw [List.take_succ_eq_append_getElem hk, List.filter_append, hx]
  cases q with
  | true => simp [hq]
  | false => simp [hq]

set_option maxHeartbeats 2000000 in
theorem besideS_any {w : World} {b : Nat} {s : Srch} {x y z : Value} (h : StV w b s x y z) (hr : RightG s.g) (hl : s.t.length = s.g.length) (hT : TabD w) (a : Int) (c : Bool) :
    Calls Tryd.prog 60 #[.pointer (some ⟨b, 0, none⟩), .int .i64 a, .bool c] w fun e w' => ∃ v, e = .returned v ∧ OwnI w.heap.size w' v (besT s.g s.t a c) ∧ Below w.heap.size w w' := by
  have hn : s.g.length ≤ 64 := by have := hr.few; omega
  have HN := hide (neighbors_any (a := a) h.g hn hr.w64 hT)
  have HM := hide (fun (i : Nat) (hi : i < (nbL s.g a).length) => (show ∃ j : Nat, j < s.t.length ∧ (nbL s.g a)[i] = (j : Int) from by
    obtain ⟨_, j, h1, _, h2⟩ := mem_nbL.1 (List.getElem_mem hi)
    exact ⟨j, by omega, h2⟩))
  have HLN := nbL_len s.g a
  obtain ⟨ax, cx, rfl, _, _⟩ := h.g.form
  obtain ⟨ay, cy, rfl, hyl, hyc⟩ := h.t.form
  unfold maxLen at hyc
  have HS := hide (fun W (hb : Below w.heap.size w W) => h.below hb)
  obtain ⟨y0, y1, y2⟩ := h.box.cells
  unfold besT
  clear h hT hr hl
  generalize nbL s.g a = N at *
  go_enter Tryd.func60, Tryd.ntmps60
  go_wp2_with fail
  refine (unhide HN).mono ?_
  rintro e w1 ⟨vn, rfl, ho1, hb1⟩
  obtain ⟨an, cn, rfl, hnl, hnc⟩ := (Seq.of_own ho1).form
  unfold maxLen at hnc
  have HNV := hide (fun W (hb : Below w1.heap.size w1 W) => (Seq.of_own ho1).below hb)
  have HB1 := hide hb1
  have hz1 := hb1.size
  clear ho1 hb1 HN y0 y1 y2
  go_wp2
  go_loopw [7, 17] (fun v i wr => ∃ k : Nat, k ≤ N.length ∧ i = .int .i64 k ∧ OwnI w1.heap.size wr v ((N.take k).filter fun b => s.t.getD b.toNat false == c) ∧ Below w1.heap.size w1 wr) (fun _ i _ => N.length - (intOf i).toNat)
  case atStart => exact ⟨0, by omega, rfl, own_nilI _ _, Below.refl _ _⟩
  case round =>
    obtain ⟨k, hk, rfl, hown, hbel⟩ := hrel
    rename World => wr
    have hzr := hbel.size
    by_cases hkl : k < N.length
    · obtain ⟨j, hj, hjN⟩ := unhide HM k hkl
      have hst := unhide HS wr ((unhide HB1).trans (hbel.mono hz1))
      obtain ⟨y0, y1, y2⟩ := hst.box.cells
      obtain ⟨bt, ot, e1, q1⟩ := hst.t.at hj
      subst e1
      obtain ⟨bn, on, e2, q2⟩ := (unhide HNV wr hbel).at hkl
      subst e2
      have e3 : s.t.getD j false = s.t[j] := by rw [List.getD_eq_getElem?_getD, List.getElem?_eq_getElem hj]; rfl
      have hfs := filter_snoc (p := fun b => s.t.getD b.toNat false == c) hkl hjN (q := s.t[j] == c) (by simp only [Int.toNat_natCast]; rw [e3])
      rw [hjN] at q2
      have hfl : ((N.take k).filter fun b => s.t.getD b.toNat false == c).length ≤ k := Nat.le_trans (List.length_filter_le _ _) (by rw [List.length_take]; omega)
      generalize s.t[j] = tj at *
      obtain ⟨F, hF⟩ : ∃ F, F = (N.take k).filter fun b => s.t.getD b.toNat false == c := ⟨_, rfl⟩
      obtain ⟨F', hF'⟩ : ∃ F, F = (N.take (k + 1)).filter fun b => s.t.getD b.toNat false == c := ⟨_, rfl⟩
      rw [← hF, ← hF'] at hfs
      rw [← hF] at hown hfl
      have HF' := hide hF'
      have HO := hide hown
      have HBE := hide hbel
      have hyj : j < s.t.length := hj
      clear hst hF hF' hown hbel hjN e3 y0 y2
      generalize s.t.length = n at *
      cases tj <;> cases c
      all_goals
        simp only [beq_self_eq_true, cond_true, cond_false, show (true == false) = false from rfl, show (false == true) = false from rfl] at hfs
        have HFS := hide hfs
        clear hfs
        first
        | (go_wp2_with (at_builtin; refine wp_app_int rfl (.tmp 30) (.tmp 32) rfl (B := w1.heap.size) (unhide HO) rfl (by omega) rfl (by omega) ?_; intro v5 w5 hown5 hg5)
           go_roundw
           case rel => exact ⟨k + 1, by omega, by go_num, by rw [← unhide HF', unhide HFS]; exact hown5, (unhide HBE).trans hg5.below⟩
           case measure => simp [intOf]; omega)
        | (go_wp2
           go_roundw
           case rel => exact ⟨k + 1, by omega, by go_num, by rw [← unhide HF', unhide HFS]; exact unhide HO, unhide HBE⟩
           case measure => simp [intOf]; omega)
    · have e : N.take k = N := List.take_of_length_le (by omega)
      rw [e] at hown
      go_wp2
      go_ret
      exact ⟨_, rfl, own_mono hown (by omega), (unhide HB1).trans (hbel.mono (by omega))⟩

theorem degreeS_any {w : World} {b : Nat} {s : Srch} {x y z : Value} (h : StV w b s x y z) (hr : RightG s.g) (hl : s.t.length = s.g.length) (hT : TabD w) (a : Int) :
    Calls Tryd.prog 51 #[.pointer (some ⟨b, 0, none⟩), .int .i64 a] w fun e w' => e = .returned (.int .i64 (degW s.g s.t a)) ∧ Below w.heap.size w w' := by
  have HB := hide (besideS_any h hr hl hT a false)
  have hbl := besT_len s.g s.t a false
  unfold degW
  clear h hr hl hT
  generalize besT s.g s.t a false = L at *
  go_enter Tryd.func51, Tryd.ntmps51
  go_wp2_with fail
  refine (unhide HB).mono ?_
  rintro e w1 ⟨vn, rfl, ho1, hb1⟩
  obtain ⟨an, cn, rfl, hnl, hnc⟩ := (Seq.of_own ho1).form
  clear ho1
  go_wp2
  go_ret
  exact ⟨rfl, hb1⟩

theorem cardS_any {w : World} {b : Nat} {s : Srch} {x y z : Value} (h : StV w b s x y z) (hr : RightG s.g) (hl : s.t.length = s.g.length) (hT : TabD w) (a : Int) :
    Calls Tryd.prog 52 #[.pointer (some ⟨b, 0, none⟩), .int .i64 a] w fun e w' => e = .returned (.int .i64 (cardW s.g s.t a)) ∧ Below w.heap.size w w' := by
  have HB := hide (besideS_any h hr hl hT a true)
  have hbl := besT_len s.g s.t a true
  have hr40 := hr.few
  unfold cardW
  clear h hr hl hT
  generalize besT s.g s.t a true = L at *
  go_enter Tryd.func52, Tryd.ntmps52
  go_wp2_with fail
  refine (unhide HB).mono ?_
  rintro e w1 ⟨vn, rfl, ho1, hb1⟩
  obtain ⟨an, cn, rfl, hnl, hnc⟩ := (Seq.of_own ho1).form
  clear ho1
  go_wp2
  go_ret
  exact ⟨rfl, hb1⟩

end Go.Proofs.YtcglbopmfdilfaaDoor
