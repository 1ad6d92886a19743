/-
  What is handed in to the laws of layer 3, and what the cards' listed variables hold.
-/
import Derived.Test.YtoiokplgkanepaaGreatDoorFrame2
import Derived.Test.YtoiokplgkanepaaGreatDoorRelBox
import Derived.Test.YtoiokplgkanepaaGreatDoorTie
import Derived.Test.YtoiokplgkanepaaGreatDoorCards
import Derived.LaidMore
import Derived.Stop.Joined
import Derived.SevenTiedAt
namespace Go.Proofs.YtoiokplgkanepaaGreatDoor
open Go.RowKit Go.ChangeShapes Go.WideShapes Go.ChangeAt
set_option linter.unusedVariables false
set_option linter.unusedSimpArgs false
set_option maxRecDepth 100000

/-- The listed variables. -/
abbrev laidIn : List (String × DataW Unit) := Rows.joinTellsRow.laid
abbrev doorN : Nat := 2000

theorem door_met (os : Os) (args : Array Value) : laidMetH Tryz.prog laidIn ((World.doorLaid Tryz.prog doorN os).forCall (fun _ _ => 0) ⟨#[], args, []⟩).memory :=
  laidMetH_of_parts3 (fuel := 80) (laidMet_of_run' 80 (by kernel_rfl) (by kernel_rfl)) (by kernel_rfl) (by kernel_rfl)

theorem partFields : (Tryz.prog.underlying 25).map (fun t => match t with | .struct fs => fs.toList.map (fun f => (f.offset, f.type)) | _ => []) = some [(0, 22), (1, 23)] := by kernel_rfl
theorem partCells : Tryz.prog.cellsOf 25 = 2 := by kernel_rfl

theorem part_fields : ∃ f0 f1 : Field, Tryz.prog.underlying 25 = some (.struct #[f0, f1]) ∧ (f0.offset = 0 ∧ f0.type = 22) ∧ f1.offset = 1 ∧ f1.type = 23 := by
  obtain ⟨fs, hu, hfs⟩ : ∃ fs, Tryz.prog.underlying 25 = some (.struct fs) ∧ fs.toList.map (fun f => (f.offset, f.type)) = [(0, 22), (1, 23)] := by
    have h1 := partFields
    cases hx : Tryz.prog.underlying 25 with
    | none => rw [hx] at h1; cases h1
    | some t =>
      rw [hx] at h1
      cases t <;> simp at h1
      exact ⟨_, rfl, by simpa using h1⟩
  obtain ⟨f0, f1, rfl⟩ : ∃ f0 f1, fs = #[f0, f1] := by
    have hl := congrArg List.length hfs
    simp at hl
    obtain ⟨l⟩ := fs
    match l, hl with
    | [f0, f1], _ => exact ⟨f0, f1, rfl⟩
  simp at hfs
  exact ⟨f0, f1, hu, hfs.1, hfs.2⟩

theorem read_partC {H : Type} {enc : TypeId × Value → H} {W : World} {x y : Value} {z : DataW H × List MemPlace} {base fuel : Nat} {held : Bool} (hf : DataW.trod enc Tryz.prog W base (fun _ => true) held fuel 25 [x, y] = some z) :
    ∃ s ll, RelV W (.agg #[x, y]) s ll := by
  obtain ⟨f0, f1, hu, ⟨o0, t0⟩, o1, t1⟩ := part_fields
  obtain ⟨y0, y1, n, _, _, h0, h1⟩ := trod_struct2 hu hf
  rw [o0, t0, relCells.2.1] at h0
  rw [o1, t1, relCells.2.2] at h1
  simp [Value.cells] at h0 h1
  obtain ⟨s, hs, ms⟩ := read_intsC h0
  obtain ⟨ll, hl, ml⟩ := read_tupsC h1
  exact ⟨s, ll, ⟨x, y, rfl, hs, hl⟩⟩

theorem read_part {H : Type} {enc : TypeId × Value → H} {W : World} {v : Value} {d : DataW H} {ps : List MemPlace} {base b0 : Nat} {held : Bool} {r : Reach} (h : DataW.Trod enc Tryz.prog W base (fun _ => true) held 25 v d ps) (hv : Value.okWide Tryz.prog W r b0 25 v) :
    ∃ s ll, RelV W v s ll ∧ True ∧ True := by
  obtain ⟨f0, f1, hu, _⟩ := part_fields
  obtain ⟨cs, rfl, hsz⟩ := okWide_struct hu hv
  rw [partCells] at hsz
  obtain ⟨x, y, rfl⟩ : ∃ x y, cs = #[x, y] := by
    obtain ⟨l⟩ := cs
    match l, hsz with
    | [x, y], _ => exact ⟨x, y, rfl⟩
  obtain ⟨fuel, hf⟩ := h
  simp [Value.cells] at hf
  obtain ⟨s, ll, h⟩ := read_partC hf
  exact ⟨s, ll, h, trivial, trivial⟩

/-- Block b holds a Part's two fields. -/
def BoxP (w : World) (b : Nat) (x y : Value) : Prop := w.heap[b]? = some (.cells #[x, y] 25 (0, 0))
theorem BoxP.lt {w : World} {b : Nat} {x y : Value} (h : BoxP w b x y) : b < w.heap.size := by
  unfold BoxP at h
  rcases Nat.lt_or_ge b w.heap.size with hl | hl
  · exact hl
  · rw [Array.getElem?_eq_none hl] at h; cases h
theorem BoxP.cell0 {w : World} {b : Nat} {x y : Value} (h : BoxP w b x y) : w.cell? ⟨b, 0, none⟩ = some x := by unfold BoxP at h; simp only [World.cell?, h]; simp
theorem BoxP.cell1 {w : World} {b : Nat} {x y : Value} (h : BoxP w b x y) : w.cell? ⟨b, 1, none⟩ = some y := by unfold BoxP at h; simp only [World.cell?, h]; simp
theorem BoxP.new (w : World) (x y : Value) : BoxP (w.alloc (.cells #[x, y] 25)) w.heap.size x y := heap_alloc_new w _
theorem BoxP.belowH {w w' : World} {b : Nat} {x y : Value} (h : BoxP w b x y) (hb : Below w.heap.size w w') : BoxP w' b x y := (hb.block b h.lt).trans h
theorem BoxP.push {w : World} {b : Nat} {x y : Value} (h : BoxP w b x y) (o : Obj) : BoxP (w.alloc o) b x y := h.belowH ((Below.refl _ _).alloc (Nat.le_refl _) o)

end Go.Proofs.YtoiokplgkanepaaGreatDoor
