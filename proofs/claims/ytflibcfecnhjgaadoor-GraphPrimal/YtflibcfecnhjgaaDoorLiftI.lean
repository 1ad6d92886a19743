/-
  An instance that is handed in: its value is one of some lists.
-/
import Derived.Test.YtflibcfecnhjgaaDoorLiftQ
import Derived.Test.YtflibcfecnhjgaaDoorFrame2
import Derived.Deep.Strs
namespace Go.Proofs.YtflibcfecnhjgaaDoor
open Go.RowKit Go.ChangeShapes Go.WideShapes Go.ChangeAt
open Go.Deep
set_option linter.unusedVariables false
set_option linter.unusedSimpArgs false
set_option maxRecDepth 20000

theorem insFields : (Tryd.prog.underlying 26).map (fun t => match t with | .struct fs => fs.toList.map (fun f => (f.offset, f.type)) | _ => []) = some [(0, 22), (1, 23), (2, 24)] := by kernel_rfl
theorem conFields : (Tryd.prog.underlying 41).map (fun t => match t with | .struct fs => fs.toList.map (fun f => (f.offset, f.type)) | _ => []) = some [(0, 3), (1, 39), (2, 22), (3, 39)] := by kernel_rfl
theorem sftFields : (Tryd.prog.underlying 44).map (fun t => match t with | .struct fs => fs.toList.map (fun f => (f.offset, f.type)) | _ => []) = some [(0, 39), (1, 22), (2, 42), (3, 2)] := by kernel_rfl
theorem insCells : Tryd.prog.cellsOf 26 = 3 ∧ Tryd.prog.cellsOf 22 = 1 ∧ Tryd.prog.cellsOf 23 = 1 ∧ Tryd.prog.cellsOf 24 = 1 := by refine ⟨?_, ?_, ?_, ?_⟩ <;> kernel_rfl
theorem oneCells : Tryd.prog.cellsOf 41 = 4 ∧ Tryd.prog.cellsOf 44 = 4 ∧ Tryd.prog.cellsOf 3 = 1 ∧ Tryd.prog.cellsOf 2 = 1 ∧ Tryd.prog.cellsOf 39 = 1 ∧ Tryd.prog.cellsOf 42 = 1 := by refine ⟨?_, ?_, ?_, ?_, ?_, ?_⟩ <;> kernel_rfl

/-- A struct of four fields, by what its fields are. -/
theorem four_fields {t a b c d : TypeId} (h1 : (Tryd.prog.underlying t).map (fun t => match t with | .struct fs => fs.toList.map (fun f => (f.offset, f.type)) | _ => []) = some [(0, a), (1, b), (2, c), (3, d)]) :
    ∃ f0 f1 f2 f3 : Field, Tryd.prog.underlying t = some (.struct #[f0, f1, f2, f3]) ∧ (f0.offset = 0 ∧ f0.type = a) ∧ (f1.offset = 1 ∧ f1.type = b) ∧ (f2.offset = 2 ∧ f2.type = c) ∧ f3.offset = 3 ∧ f3.type = d := by
  obtain ⟨fs, hu, hfs⟩ : ∃ fs, Tryd.prog.underlying t = some (.struct fs) ∧ fs.toList.map (fun f => (f.offset, f.type)) = [(0, a), (1, b), (2, c), (3, d)] := by
    cases hx : Tryd.prog.underlying t with
    | none => rw [hx] at h1; cases h1
    | some t =>
      rw [hx] at h1
      cases t <;> simp at h1
      exact ⟨_, rfl, by simpa using h1⟩
  obtain ⟨f0, f1, f2, f3, rfl⟩ : ∃ f0 f1 f2 f3, fs = #[f0, f1, f2, f3] := by
    have hl := congrArg List.length hfs
    simp at hl
    obtain ⟨l⟩ := fs
    match l, hl with
    | [f0, f1, f2, f3], _ => exact ⟨f0, f1, f2, f3, rfl⟩
  simp at hfs
  exact ⟨f0, f1, f2, f3, hu, hfs.1, hfs.2.1, hfs.2.2.1, hfs.2.2.2⟩

theorem spot_noneQ {w : World} {a : Addr} {v : Value} (h : w.cell? (a.add (0 * 4)) = some v) : a.spot = none := by
  simp only [Addr.add, Nat.zero_mul, if_true, World.cell?] at h
  split at h
  · split at h
    · cases h
    · rename_i hs; cases hx : a.spot with
      | none => rfl
      | some y => rw [hx] at hs; simp at hs
  · cases h

theorem list_of2 {α : Type} {p : Nat → α → Prop} : ∀ (n : Nat), (∀ i, i < n → ∃ x, p i x) → ∃ l : List α, l.length = n ∧ ∀ i (h : i < l.length), p i l[i]
  | 0, _ => ⟨[], rfl, fun i h => by simp at h⟩
  | n + 1, h => by
    obtain ⟨l, h1, h2⟩ := list_of2 n (fun i hi => h i (by omega))
    obtain ⟨x, hx⟩ := h n (by omega)
    refine ⟨l ++ [x], by simp [h1], fun i hi => ?_⟩
    by_cases hil : i < l.length
    · rw [List.getElem_append_left hil]; exact h2 i hil
    · have e : i = l.length := by simp at hi; omega
      subst e
      rw [List.getElem_append_right (by omega)]
      simpa [h1] using hx

section
variable {H : Type} {enc : TypeId × Value → H} {W : World} {base : Nat} {held : Bool}

theorem read_i64C {x : Value} {y : DataW H × List MemPlace} {fuel : Nat} (hf : DataW.trod enc Tryd.prog W base (fun _ => true) held fuel 42 [x] = some y) : ∃ l, Ints W x l ∧ ∀ n ∈ l, InI64 n := by
  rcases open_ints Tryd.underlying42 Tryd.underlying2 (by kernel_rfl) hf with ⟨hcs, _⟩ | ⟨a, n, c, zs, hcs, _, hl, hm, hz, _, hcell, hwz⟩
  · obtain rfl := cells_one hcs
    exact ⟨[], Seq.nil _ _, by simp⟩
  · obtain rfl := cells_one hcs
    exact ⟨zs.take n, ints_of hl hm (by simpa using hz) hcell, fun k hk => wf_in (hwz k (List.mem_of_mem_take hk))⟩

set_option maxHeartbeats 2000000 in
theorem read_consC {v : Value} {y : DataW H × List MemPlace} {fuel : Nat} (hf : DataW.trod enc Tryd.prog W base (fun _ => true) held fuel 23 [v] = some y) : ∃ cs, ConsV W v cs := by
  obtain ⟨f0, f1, f2, f3, hu, ⟨o0, t0⟩, ⟨o1, t1⟩, ⟨o2, t2⟩, o3, t3⟩ := four_fields conFields
  rcases open_slice_quads Tryd.underlying23 hu oneCells.1 o0 o1 o2 o3 (by rw [t0]; exact oneCells.2.2.1) (by rw [t1]; exact oneCells.2.2.2.2.1) (by rw [t2]; exact insCells.2.1) (by rw [t3]; exact oneCells.2.2.2.2.1) hf with
    ⟨hcs, _⟩ | ⟨x, len, cap, m, q, V, D0, D1, D2, D3, P0, P1, P2, P3, hcs, _, hl, hm, hmm, _, hx⟩
  · obtain rfl := cells_one hcs
    exact ⟨[], [], SeqQ.nil _, rfl, fun i h => by simp at h⟩
  · obtain rfl := cells_one hcs
    have hm' : m = cap := by simpa using hmm
    obtain ⟨ps, hpl, hps⟩ := list_of2 (p := fun i (r : Quad × Con) => (∃ b off, some x = some (⟨b, off, none⟩ : Addr) ∧ W.cell? ⟨b, off + i * 4, none⟩ = some r.1.a ∧ W.cell? ⟨b, off + i * 4 + 1, none⟩ = some r.1.b ∧
        W.cell? ⟨b, off + i * 4 + 2, none⟩ = some r.1.c ∧ W.cell? ⟨b, off + i * 4 + 3, none⟩ = some r.1.d) ∧ ConQ W r.1 r.2) len (fun i hi => by
      obtain ⟨h0, h1, h2, h3, g0, g1, g2, g3⟩ := hx i (by omega)
      have hs := spot_noneQ (hx 0 (by omega)).1
      rw [addr_add hs] at h0 h1 h2 h3
      rw [t0] at g0
      rw [t1] at g1
      rw [t2] at g2
      rw [t3] at g3
      obtain ⟨k, hk, _, _⟩ := DataW.trod_int Tryd.underlying3 g0
      obtain ⟨s, hs', _⟩ := read_intsC g1
      obtain ⟨ll, hl', _⟩ := read_tupsC g2
      obtain ⟨u, hu', _⟩ := read_intsC g3
      obtain ⟨xb, xo, xs⟩ := x
      simp only at hs
      subst hs
      rw [← Nat.add_assoc] at h1 h2 h3
      exact ⟨(V i, ⟨k, s, ll, u⟩), ⟨xb, xo, rfl, h0, h1, h2, h3⟩, by injection hk, hs', hl', hu'⟩)
    refine ⟨ps.map (·.2), ps.map (·.1), ⟨some x, cap, by rw [List.length_map, hpl], by rw [List.length_map]; omega, hm, fun i hi => ?_⟩, by simp, fun i hi hi' => ?_⟩
    · rw [List.length_map] at hi
      simp only [List.getElem_map]
      exact (hps i hi).1
    · rw [List.length_map] at hi
      simp only [List.getElem_map]
      exact (hps i hi).2

set_option maxHeartbeats 2000000 in
theorem read_sftsC {v : Value} {y : DataW H × List MemPlace} {fuel : Nat} (hf : DataW.trod enc Tryd.prog W base (fun _ => true) held fuel 24 [v] = some y) : ∃ cs, SftsV W v cs := by
  obtain ⟨f0, f1, f2, f3, hu, ⟨o0, t0⟩, ⟨o1, t1⟩, ⟨o2, t2⟩, o3, t3⟩ := four_fields sftFields
  rcases open_slice_quads Tryd.underlying24 hu oneCells.2.1 o0 o1 o2 o3 (by rw [t0]; exact oneCells.2.2.2.2.1) (by rw [t1]; exact insCells.2.1) (by rw [t2]; exact oneCells.2.2.2.2.2) (by rw [t3]; exact oneCells.2.2.2.1) hf with
    ⟨hcs, _⟩ | ⟨x, len, cap, m, q, V, D0, D1, D2, D3, P0, P1, P2, P3, hcs, _, hl, hm, hmm, _, hx⟩
  · obtain rfl := cells_one hcs
    exact ⟨[], [], SeqQ.nil _, rfl, fun i h => by simp at h⟩
  · obtain rfl := cells_one hcs
    have hm' : m = cap := by simpa using hmm
    obtain ⟨ps, hpl, hps⟩ := list_of2 (p := fun i (r : Quad × Sft) => (∃ b off, some x = some (⟨b, off, none⟩ : Addr) ∧ W.cell? ⟨b, off + i * 4, none⟩ = some r.1.a ∧ W.cell? ⟨b, off + i * 4 + 1, none⟩ = some r.1.b ∧
        W.cell? ⟨b, off + i * 4 + 2, none⟩ = some r.1.c ∧ W.cell? ⟨b, off + i * 4 + 3, none⟩ = some r.1.d) ∧ SftQ W r.1 r.2) len (fun i hi => by
      obtain ⟨h0, h1, h2, h3, g0, g1, g2, g3⟩ := hx i (by omega)
      have hs := spot_noneQ (hx 0 (by omega)).1
      rw [addr_add hs] at h0 h1 h2 h3
      rw [t0] at g0
      rw [t1] at g1
      rw [t2] at g2
      rw [t3] at g3
      obtain ⟨k, hk, _, _⟩ := DataW.trod_int Tryd.underlying2 g3
      obtain ⟨s, hs', _⟩ := read_intsC g0
      obtain ⟨ll, hl', _⟩ := read_tupsC g1
      obtain ⟨u, hu', _⟩ := read_i64C g2
      obtain ⟨xb, xo, xs⟩ := x
      simp only at hs
      subst hs
      rw [← Nat.add_assoc] at h1 h2 h3
      exact ⟨(V i, ⟨s, ll, u, k⟩), ⟨xb, xo, rfl, h0, h1, h2, h3⟩, hs', hl', hu', by injection hk⟩)
    refine ⟨ps.map (·.2), ps.map (·.1), ⟨some x, cap, by rw [List.length_map, hpl], by rw [List.length_map]; omega, hm, fun i hi => ?_⟩, by simp, fun i hi hi' => ?_⟩
    · rw [List.length_map] at hi
      simp only [List.getElem_map]
      exact (hps i hi).1
    · rw [List.length_map] at hi
      simp only [List.getElem_map]
      exact (hps i hi).2

/-- An instance that is handed in. -/
theorem read_ins {v : Value} {d : DataW H} {ps : List MemPlace} {b0 : Nat} {r : Reach} (h : DataW.Trod enc Tryd.prog W base (fun _ => true) held 26 v d ps) (hv : Value.okWide Tryd.prog W r b0 26 v) :
    ∃ x, InsV W v x := by
  obtain ⟨fs, hu, hfs⟩ : ∃ fs, Tryd.prog.underlying 26 = some (.struct fs) ∧ fs.toList.map (fun f => (f.offset, f.type)) = [(0, 22), (1, 23), (2, 24)] := by
    have h1 := insFields
    cases hx : Tryd.prog.underlying 26 with
    | none => rw [hx] at h1; cases h1
    | some t =>
      rw [hx] at h1
      cases t <;> simp at h1
      exact ⟨_, rfl, by simpa using h1⟩
  obtain ⟨f0, f1, f2, rfl⟩ : ∃ f0 f1 f2, fs = #[f0, f1, f2] := by
    have hl := congrArg List.length hfs
    simp at hl
    obtain ⟨l⟩ := fs
    match l, hl with
    | [f0, f1, f2], _ => exact ⟨f0, f1, f2, rfl⟩
  simp at hfs
  obtain ⟨⟨o0, t0⟩, ⟨o1, t1⟩, o2, t2⟩ := hfs
  obtain ⟨cs, rfl, hsz⟩ := okWide_struct hu hv
  rw [insCells.1] at hsz
  obtain ⟨x, y, z, rfl⟩ : ∃ x y z, cs = #[x, y, z] := by
    obtain ⟨l⟩ := cs
    match l, hsz with
    | [x, y, z], _ => exact ⟨x, y, z, rfl⟩
  obtain ⟨fuel, hf⟩ := h
  obtain ⟨y0, y1, y2, n, _, _, h0, h1, h2⟩ := Go.Deep.trod_struct3 hu hf
  rw [o0, t0, insCells.2.1] at h0
  rw [o1, t1, insCells.2.2.1] at h1
  rw [o2, t2, insCells.2.2.2] at h2
  simp [Value.cells] at h0 h1 h2
  obtain ⟨ll, hl, _⟩ := read_tupsC h0
  obtain ⟨cc, hc⟩ := read_consC h1
  obtain ⟨sc, hs⟩ := read_sftsC h2
  exact ⟨⟨ll, cc, sc⟩, x, y, z, rfl, hl, hc, hs⟩
end

end Go.Proofs.YtflibcfecnhjgaaDoor
