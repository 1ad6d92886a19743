/-
  What is handed in, as our own words have it: numbers, relations.
-/
import Derived.Test.YtflibcfecnhjgaaFrame
import Derived.Test.YtflibcfecnhjgaaRelRight
namespace Go.Proofs.Ytflibcfecnhjgaa
open Go.RowKit Go.ChangeShapes Go.WideShapes Go.ChangeAt
set_option linter.unusedVariables false
set_option linter.unusedSimpArgs false
set_option maxRecDepth 100000

theorem read_int {H : Type} {enc : TypeId × Value → H} {W : World} {v : Value} {d : DataW H} {ps : List MemPlace} {base b0 : Nat} {held : Bool} {r : Reach} (h : DataW.Trod enc Try.prog W base (fun _ => true) held 3 v d ps) (hv : Value.okWide Try.prog W r b0 3 v) :
    ∃ n, v = .int .i64 n ∧ InI64 n := by
  obtain ⟨n, hv, _, _, hw⟩ := open_int Try.underlying3 hv h
  exact ⟨n, hv, wf_in hw⟩

theorem cells_one {x : Value} {a : Option Addr} {n c : Nat} (h : [x] = [Value.slice a n c]) : x = .slice a n c := by injection h

theorem read_intsC {H : Type} {enc : TypeId × Value → H} {W : World} {x : Value} {y : DataW H × List MemPlace} {base fuel : Nat} {held : Bool} (hf : DataW.trod enc Try.prog W base (fun _ => true) held fuel 29 [x] = some y) :
    ∃ l, Ints W x l ∧ ∀ n ∈ l, InI64 n := by
  obtain ⟨a, n, c, rfl⟩ : ∃ a n c, x = .slice a n c := by
    rcases open_ints Try.underlying29 Try.underlying3 (by kernel_rfl) hf with ⟨hcs, _⟩ | ⟨x', l, c', zs, hcs, _⟩
    · exact ⟨_, _, _, cells_one hcs⟩
    · exact ⟨_, _, _, cells_one hcs⟩
  exact read_ints (enc := enc) (d := y.1) (ps := y.2) (base := base) (held := held) ⟨fuel, hf⟩ ⟨_, _, _, rfl⟩

theorem read_tupsC {H : Type} {enc : TypeId × Value → H} {W : World} {x : Value} {y : DataW H × List MemPlace} {base fuel : Nat} {held : Bool} (hf : DataW.trod enc Try.prog W base (fun _ => true) held fuel 22 [x] = some y) :
    ∃ ll, Tups W x ll ∧ ∀ l ∈ ll, ∀ n ∈ l, InI64 n := by
  obtain ⟨a, n, c, rfl⟩ : ∃ a n c, x = .slice a n c := by
    rcases Go.Deep.open_int_rows Try.underlying22 Try.underlying29 Try.underlying3 (by kernel_rfl) (by kernel_rfl) hf with ⟨hcs, _⟩ | ⟨x', len, cap, A, L, C, Z, hcs, _⟩
    · exact ⟨_, _, _, cells_one hcs⟩
    · exact ⟨_, _, _, cells_one hcs⟩
  exact read_tups (enc := enc) (d := y.1) (ps := y.2) (base := base) (held := held) ⟨fuel, hf⟩ ⟨_, _, _, rfl⟩

theorem relFields : (Try.prog.underlying 36).map (fun t => match t with | .struct fs => fs.toList.map (fun f => (f.offset, f.type)) | _ => []) = some [(0, 29), (1, 22)] := by kernel_rfl
theorem relCells : Try.prog.cellsOf 36 = 2 ∧ Try.prog.cellsOf 29 = 1 ∧ Try.prog.cellsOf 22 = 1 := by refine ⟨?_, ?_, ?_⟩ <;> kernel_rfl

theorem read_rel {H : Type} {enc : TypeId × Value → H} {W : World} {v : Value} {d : DataW H} {ps : List MemPlace} {base b0 : Nat} {held : Bool} {r : Reach} (h : DataW.Trod enc Try.prog W base (fun _ => true) held 36 v d ps) (hv : Value.okWide Try.prog W r b0 36 v) :
    ∃ s ll, RelV W v s ll ∧ (∀ n ∈ s, InI64 n) ∧ ∀ l ∈ ll, ∀ n ∈ l, InI64 n := by
  obtain ⟨fs, hu, hfs⟩ : ∃ fs, Try.prog.underlying 36 = some (.struct fs) ∧ fs.toList.map (fun f => (f.offset, f.type)) = [(0, 29), (1, 22)] := by
    have h1 := relFields
    cases hx : Try.prog.underlying 36 with
    | none => rw [hx] at h1; cases h1
    | some t =>
      rw [hx] at h1
      cases t <;> simp at h1
      exact ⟨_, rfl, by simpa using h1⟩
  obtain ⟨f0, f1, rfl⟩ : ∃ f0 f1, fs = #[f0, f1] := by
    have hl := congrArg List.length hfs
    simp at hl
    obtain ⟨l⟩ := fs
    match l, hl with
    | [f0, f1], _ => exact ⟨f0, f1, rfl⟩
  simp at hfs
  obtain ⟨⟨o0, t0⟩, o1, t1⟩ := hfs
  obtain ⟨cs, rfl, hsz⟩ := okWide_struct hu hv
  rw [relCells.1] at hsz
  obtain ⟨x, y, rfl⟩ : ∃ x y, cs = #[x, y] := by
    obtain ⟨l⟩ := cs
    match l, hsz with
    | [x, y], _ => exact ⟨x, y, rfl⟩
  obtain ⟨fuel, hf⟩ := h
  obtain ⟨y0, y1, n, _, _, h0, h1⟩ := trod_struct2 hu hf
  rw [o0, t0, relCells.2.1] at h0
  rw [o1, t1, relCells.2.2] at h1
  simp [Value.cells] at h0 h1
  obtain ⟨s, hs, ms⟩ := read_intsC h0
  obtain ⟨ll, hl, ml⟩ := read_tupsC h1
  exact ⟨s, ll, ⟨x, y, rfl, hs, hl⟩, ms, ml⟩

end Go.Proofs.Ytflibcfecnhjgaa
