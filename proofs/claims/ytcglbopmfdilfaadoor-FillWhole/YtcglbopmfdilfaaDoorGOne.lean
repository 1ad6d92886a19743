/-
  Graphs in memory; the contracts of isPoint, bitOf, bitsOf, points, New.
-/
import Derived.Test.YtcglbopmfdilfaaDoorApp3
import Derived.Test.YtcglbopmfdilfaaDoorGMath
import Derived.Laws.ShiftsVarLaws
namespace Go.Proofs.YtcglbopmfdilfaaDoor
open Go.RowKit
set_option linter.unusedVariables false
set_option linter.unusedSimpArgs false
set_option maxRecDepth 20000

abbrev u64C (n : Nat) : Value := .int .u64 (n : Int)
/-- The slice value v reads in w as the numbers g, of 64 bits each. -/
abbrev Words (w : World) (v : Value) (g : List Nat) : Prop := Seq u64C w v g
/-- The call's own. -/
abbrev OwnW (B : Nat) (w : World) (v : Value) (g : List Nat) : Prop := w.ownsRow B 61 1 v g.length (g.map u64C)

theorem Tryd.infoWord : (Tryd.prog.info? 61).map (fun i => (i.zero, i.size, i.bytes)) = some (some (.int .u64 0), 1, 8) := by kernel_rfl

/-- The block of a graph's variable. -/
def BoxG (w : World) (b : Nat) (x : Value) : Prop := w.heap[b]? = some (.cells #[x] 29)
theorem BoxG.lt {w : World} {b : Nat} {x : Value} (h : BoxG w b x) : b < w.heap.size := by
  unfold BoxG at h
  rcases Nat.lt_or_ge b w.heap.size with hl | hl
  · exact hl
  · rw [Array.getElem?_eq_none hl] at h; cases h
theorem BoxG.cell {w : World} {b : Nat} {x : Value} (h : BoxG w b x) : w.cell? ⟨b, 0, none⟩ = some x := by unfold BoxG at h; simp only [World.cell?, h]; simp
theorem BoxG.new (w : World) (x : Value) : BoxG (w.alloc (.cells #[x] 29)) w.heap.size x := heap_alloc_new w _
theorem BoxG.below {w w' : World} {b B : Nat} {x : Value} (h : BoxG w b x) (hb : Below B w w') (hB : b < B) : BoxG w' b x := (hb.block b hB).trans h
theorem BoxG.frozen {w : World} {b : Nat} {x : Value} (h : BoxG w b x) : w.frozen? ⟨b, 0, none⟩ = false := frozen_of_row _ _ _ _ _ h

/-- The world behind the boxing of a graph. -/
theorem boxed {w : World} {x : Value} : ∃ W, W = w.alloc (.cells #[x] 29) ∧ Below w.heap.size w W ∧ W.heap.size = w.heap.size + 1 ∧ BoxG W w.heap.size x :=
  ⟨_, rfl, (Below.refl _ _).alloc (Nat.le_refl _) _, by simp, BoxG.new w x⟩

set_option maxHeartbeats 1000000 in
theorem isPoint_any {g : List Nat} {a : Int} {x : Value} {w : World} (hg : Words w x g) :
    Calls Tryd.prog 56 #[.agg #[x], .int .i64 a] w fun e w' => e = .returned (.bool (ptB g.length a)) ∧ Below w.heap.size w w' := by
  obtain ⟨ax, cx, rfl, hlx, hcx⟩ := hg.form
  have hb := (Below.refl w.heap.size w).alloc (Nat.le_refl _) (.cells #[.slice ax g.length cx] 29)
  clear hg
  unfold ptB
  by_cases h0 : 0 ≤ a
  · by_cases h1 : a < (g.length : Int)
    · go_enter Tryd.func56, Tryd.ntmps56
      go_wp2
      go_ret
      exact ⟨by simp [h0, h1], hb⟩
    · go_enter Tryd.func56, Tryd.ntmps56
      go_wp2
      go_ret
      exact ⟨by simp [h0, h1], hb⟩
  · go_enter Tryd.func56, Tryd.ntmps56
    go_wp2
    go_ret
    exact ⟨by simp [h0]; omega, hb⟩

theorem shl_one {a : Int} {n : Nat} (h : ptB n a = true) (hn : n ≤ 64) : IntKind.u64.wrap (2 ^ a.toNat) = ((2 ^ a.toNat : Nat) : Int) := by
  have h := ptB_iff.1 h
  rw [IntKind.wrap_u64]
  have h3 : 2 ^ a.toNat < 2 ^ 64 := Nat.pow_lt_pow_right (by decide) (by omega)
  have h4 : 2 ^ a.toNat < 18446744073709551616 := by simpa using h3
  have e2 : ((2 : Int) ^ a.toNat) = ((2 ^ a.toNat : Nat) : Int) := by simp
  rw [e2]
  generalize 2 ^ a.toNat = z at *
  omega

set_option maxHeartbeats 1000000 in
theorem bitOf_any {g : List Nat} {a : Int} {x : Value} {w : World} (hg : Words w x g) (hn : g.length ≤ 64) :
    Calls Tryd.prog 64 #[.agg #[x], .int .i64 a] w fun e w' => e = .returned (.int .u64 (bitN g.length a : Nat)) ∧ Below w.heap.size w w' := by
  obtain ⟨W1, hW1, hb1, hz1, hx1⟩ := boxed (w := w) (x := x)
  have HP := hide (isPoint_any (a := a) (hg.below hb1))
  have hc1 := hx1.cell
  have HB := hide hb1
  have HW1 := hide hW1
  obtain ⟨ax, cx, rfl, hlx, hcx⟩ := hg.form
  clear hg hb1 hW1 hx1
  cases hp : ptB g.length a with
  | false =>
    rw [show bitN g.length a = 0 by unfold bitN; rw [if_neg (by simp [hp])]]
    rw [hp] at HP
    go_enter Tryd.func64, Tryd.ntmps64
    go_wp2_with fail
    rw [← unhide HW1]
    go_wp2_with fail
    refine (unhide HP).mono ?_
    rintro e w2 ⟨rfl, hb2⟩
    have HB2 := hide ((unhide HB).trans (hb2.mono (by omega)))
    clear hb2 HB HP
    go_wp2
    go_ret
    exact ⟨rfl, unhide HB2⟩
  | true =>
    have hv := shl_one hp hn
    rw [show bitN g.length a = 2 ^ a.toNat by unfold bitN; rw [if_pos hp]]
    have HV := hide hv
    have ⟨h0, h1⟩ := ptB_iff.1 hp
    rw [hp] at HP
    go_enter Tryd.func64, Tryd.ntmps64
    go_wp2_with fail
    rw [← unhide HW1]
    go_wp2_with fail
    refine (unhide HP).mono ?_
    rintro e w2 ⟨rfl, hb2⟩
    have HB2 := hide ((unhide HB).trans (hb2.mono (by omega)))
    clear hb2 HB HP hv
    go_wp2
    go_ret
    refine ⟨?_, unhide HB2⟩
    refine ret_int ?_
    exact unhide HV

end Go.Proofs.YtcglbopmfdilfaaDoor
