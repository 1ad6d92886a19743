/-
  Contracts of ref as the laws want them; what is handed in.
-/
import Derived.Test.YtocggffdfpgmnaaGreatWghRef
import Derived.Test.YtocggffdfpgmnaaGreatWghThree
import Derived.Test.YtocggffdfpgmnaaGreatFrame2
import Derived.Lib.SmallJoins
namespace Go.Proofs.YtocggffdfpgmnaaGreat
open Go.RowKit
set_option linter.unusedVariables false
set_option linter.unusedSimpArgs false

theorem ref_ok {sc A Bl : List Int} {rows : List (List Int)} {v : Value} {most : Int} {w : World} (h : PartV w v sc rows A Bl) (hm : 0 < most) (hm2 : most ≤ 4611686018427387904) :
    Calls Tryz.prog 14 #[v, .int .i64 most, .bool true] w fun e w' => ∃ x, e = .returned x ∧ RV w' x (smallS3 sc) (smallR3 sc rows) (refW A most (smallR3 sc rows).length) ∧ Below w.heap.size w w' := by
  refine (ref_any h hm hm2).mono ?_
  rintro e w' ⟨x, y, z, he, hr, _, hb⟩
  exact ⟨_, he, hr, hb⟩

theorem clamp_in {most x : Int} (hm : 0 < most) : -most ≤ clampW most x ∧ clampW most x ≤ most := by
  unfold clampW
  split
  · have h1 := Int.tmod_lt_of_pos x hm
    have h2 := Int.lt_tmod_of_pos x hm
    omega
  · omega
theorem few_ref (A : List Int) (n : Nat) : Few ((refW A 999 n).map Prod.fst) := by
  intro x hx
  unfold refW at hx
  rw [List.map_map] at hx
  obtain ⟨i, _, rfl⟩ := List.mem_map.1 hx
  have := clamp_in (most := 999) (x := A.getD i 1) (by omega)
  simp only [Function.comp]
  omega
theorem fits_ref (A : List Int) (n : Nat) : ∀ x ∈ (refW A 4611686018427387904 n).map Prod.fst, Fits x := by
  intro x hx
  unfold refW at hx
  rw [List.map_map] at hx
  obtain ⟨i, _, rfl⟩ := List.mem_map.1 hx
  have := clamp_in (most := 4611686018427387904) (x := A.getD i 1) (by omega)
  simp only [Function.comp]
  unfold Fits
  omega

end Go.Proofs.YtocggffdfpgmnaaGreat

namespace Go.Proofs.YtocggffdfpgmnaaGreat
open Go.RowKit Go.ChangeShapes Go.WideShapes Go.ChangeAt
set_option linter.unusedVariables false
set_option linter.unusedSimpArgs false
set_option maxRecDepth 100000

theorem read_int64 {H : Type} {enc : TypeId × Value → H} {W : World} {v : Value} {d : DataW H} {ps : List MemPlace} {base b0 : Nat} {held : Bool} {r : Reach} (h : DataW.Trod enc Tryz.prog W base (fun _ => true) held 2 v d ps) (hv : Value.okWide Tryz.prog W r b0 2 v) :
    ∃ n, v = .int .i64 n ∧ InI64 n := by
  obtain ⟨n, hv, _, _, hw⟩ := open_int Tryz.underlying2 hv h
  exact ⟨n, hv, wf_in hw⟩

theorem read_i64s {H : Type} {enc : TypeId × Value → H} {W : World} {x : Value} {y : DataW H × List MemPlace} {base fuel : Nat} {held : Bool} (hf : DataW.trod enc Tryz.prog W base (fun _ => true) held fuel 24 [x] = some y) :
    ∃ l, Ints W x l := by
  rcases open_ints Tryz.underlying24 Tryz.underlying2 (by kernel_rfl) hf with ⟨hcs, _⟩ | ⟨x', l, c', zs, hcs, _, hl, hm, hz, _, hcell, hwz⟩
  · cases cells_one hcs
    exact ⟨[], Seq.nil _ _⟩
  · cases cells_one hcs
    exact ⟨zs.take l, ints_of hl hm (by simpa using hz) hcell⟩

theorem part4Fields : (Tryz.prog.underlying 26).map (fun t => match t with | .struct fs => fs.toList.map (fun f => (f.offset, f.type)) | _ => []) = some [(0, 22), (1, 23), (2, 24), (3, 24)] := by kernel_rfl
theorem part4Cells : Tryz.prog.cellsOf 26 = 4 ∧ Tryz.prog.cellsOf 22 = 1 ∧ Tryz.prog.cellsOf 23 = 1 ∧ Tryz.prog.cellsOf 24 = 1 := by refine ⟨?_, ?_, ?_, ?_⟩ <;> kernel_rfl

theorem read_part4 {H : Type} {enc : TypeId × Value → H} {W : World} {v : Value} {d : DataW H} {ps : List MemPlace} {base b0 : Nat} {held : Bool} {r : Reach} (h : DataW.Trod enc Tryz.prog W base (fun _ => true) held 26 v d ps) (hv : Value.okWide Tryz.prog W r b0 26 v) :
    ∃ s ll A B, PartV W v s ll A B := by
  obtain ⟨fs, hu, hfs⟩ : ∃ fs, Tryz.prog.underlying 26 = some (.struct fs) ∧ fs.toList.map (fun f => (f.offset, f.type)) = [(0, 22), (1, 23), (2, 24), (3, 24)] := by
    have h1 := part4Fields
    cases hx : Tryz.prog.underlying 26 with
    | none => rw [hx] at h1; cases h1
    | some t =>
      rw [hx] at h1
      cases t <;> simp at h1
      exact ⟨_, rfl, by simpa using h1⟩
  obtain ⟨f0, f1, f2, f3, rfl⟩ : ∃ f0 f1 f2 f3, fs = #[f0, f1, f2, f3] := by
    have hl := congrArg List.length hfs
    simp at hl
    obtain ⟨l⟩ := fs
    match l, hl with
    | [f0, f1, f2, f3], _ => exact ⟨f0, f1, f2, f3, rfl⟩
  simp at hfs
  obtain ⟨⟨o0, t0⟩, ⟨o1, t1⟩, ⟨o2, t2⟩, o3, t3⟩ := hfs
  obtain ⟨cs, rfl, hsz⟩ := okWide_struct hu hv
  rw [part4Cells.1] at hsz
  obtain ⟨x, y, z, u, rfl⟩ : ∃ x y z u, cs = #[x, y, z, u] := by
    obtain ⟨l⟩ := cs
    match l, hsz with
    | [x, y, z, u], _ => exact ⟨x, y, z, u, rfl⟩
  obtain ⟨fuel, hf⟩ := h
  obtain ⟨y0, y1, y2, y3, n, _, _, h0, h1, h2, h3⟩ := Go.Joins.trod_struct4 hu hf
  rw [o0, t0, part4Cells.2.1] at h0
  rw [o1, t1, part4Cells.2.2.1] at h1
  rw [o2, t2, part4Cells.2.2.2] at h2
  rw [o3, t3, part4Cells.2.2.2] at h3
  simp [Value.cells] at h0 h1 h2 h3
  obtain ⟨s, hs, ms⟩ := read_intsC h0
  obtain ⟨ll, hl, ml⟩ := read_tupsC h1
  obtain ⟨A, hA⟩ := read_i64s h2
  obtain ⟨B, hB⟩ := read_i64s h3
  exact ⟨s, ll, A, B, ⟨x, y, z, u, rfl, hs, hl, hA, hB⟩⟩

end Go.Proofs.YtocggffdfpgmnaaGreat
