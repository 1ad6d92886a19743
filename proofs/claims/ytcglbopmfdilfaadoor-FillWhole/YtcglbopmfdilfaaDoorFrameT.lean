/-
  What the cards' listed variable holds; words that are handed in.
-/
import Derived.Test.YtcglbopmfdilfaaDoorFrame
import Derived.Test.YtcglbopmfdilfaaDoorGNb
import Derived.Test.YtcglbopmfdilfaaDoorTie
import Derived.Test.YtcglbopmfdilfaaDoorCards
import Derived.LaidMore
import Derived.Stop.Joined
import Derived.SevenTiedAt
namespace Go.Proofs.YtcglbopmfdilfaaDoor
open Go.RowKit Go.ChangeShapes Go.WideShapes Go.ChangeAt
set_option linter.unusedVariables false
set_option linter.unusedSimpArgs false
set_option maxRecDepth 100000

/-- The listed variable. -/
abbrev laidIn : List (String × DataW Unit) := Rows.fillTellsRow.laid
abbrev doorN : Nat := 2000

theorem door_met (os : Os) (args : Array Value) : laidMetH Tryd.prog laidIn ((World.doorLaid Tryd.prog doorN os).forCall (fun _ _ => 0) ⟨#[], args, []⟩).memory :=
  laidMetH_of_parts3 (fuel := 80) (laidMet_of_run' 80 (by kernel_rfl) (by kernel_rfl)) (by kernel_rfl) (by kernel_rfl)

theorem gTab : Tryd.prog.globalNamed "math/bits.deBruijn64tab" = some 0 := by kernel_rfl
theorem tTab : (Tryd.prog.globals[0]?).map (·.type) = some 98 := by kernel_rfl
theorem uTab : Tryd.prog.underlying 98 = some (.array 64 5) := by kernel_rfl

/-- The table lies where the program has it. -/
theorem tabs_of {W : World} (h : laidMetH Tryd.prog laidIn W) : TabD W := by
  rw [MakeChecks.laidMetH_plain _ _ _ (by kernel_rfl)] at h
  obtain ⟨ps, ⟨g3, t3, cs3, f3, p3, q3, hg3, ht3, hv3, hd3, _, _⟩, _, _⟩ := h
  obtain rfl := Option.some.inj (gTab.symm.trans hg3)
  obtain rfl := Option.some.inj (tTab.symm.trans ht3)
  obtain ⟨xs, m, rfl, hx, hlen, hn, hel⟩ := DataW.trod_array uTab hd3
  have c1 : Tryd.prog.cellsOf 5 = 1 := by kernel_rfl
  simp only [Prod.mk.injEq] at hx
  have hx1 := hx.1
  have e0 : Rows.laid_math_bits_deBruijn64tab (H := Unit) = .agg (Lib.deBruijn64tab.map fun (n : Nat) => .lit (.int .u8 (n : Int))) := by rfl
  rw [e0, DataW.agg.injEq] at hx1
  intro i hi
  have hin : i < Lib.deBruijn64tab.length := hi
  have hxi : (xs.map (·.1))[i]? = some (.lit (.int .u8 ((Lib.deBruijn64tab[i] : Nat) : Int))) := by rw [← hx1, List.getElem?_map, List.getElem?_eq_getElem hin]; rfl
  rw [List.getElem?_map] at hxi
  cases hxs : xs[i]? with
  | none => rw [hxs] at hxi; cases hxi
  | some y =>
    have h3 := hel i hi
    rw [hxs] at h3 hxi
    obtain ⟨n, hs1, hs2, _⟩ := DataW.trod_int Tryd.underlying5 h3
    rw [c1, Nat.mul_one] at hs1
    simp only [Option.map_some, Option.some.injEq] at hxi
    rw [hs2] at hxi
    simp only [DataW.lit.injEq, Lit.int.injEq, true_and] at hxi
    have hc := World.var?_cell hg3 hv3 i
    have hci : cs3[i]? = some (.int .u8 n) := by
      have h5 : (cs3.toList.drop i).take 1 = [.int .u8 n] := hs1
      have h6 : (cs3.toList.drop i)[0]? = some (.int .u8 n) := by
        cases hl : cs3.toList.drop i with
        | nil => rw [hl] at h5; cases h5
        | cons a b => rw [hl] at h5; simp at h5; subst h5; rfl
      rw [List.getElem?_drop] at h6
      simpa using h6
    rw [hci] at hc
    rw [hc, hxi, List.getD_eq_getElem?_getD, List.getElem?_eq_getElem hin]
    rfl

theorem words_of {w : World} {x : Addr} {len cap : Nat} {zs : List Int} (hl : len ≤ cap) (hm : cap ≤ maxLen) (hz : zs.length = cap) (hcell : ∀ i, i < zs.length → w.cell? (x.add i) = some (.int .u64 (zs.getD i 0))) (hwz : ∀ z ∈ zs, 0 ≤ z) : Words w (.slice (some x) len cap) ((zs.take len).map Int.toNat) := by
  have hspot : 0 < zs.length → x.spot = none := by
    intro h
    have := hcell 0 h
    simp only [Addr.add, if_true, World.cell?] at this
    split at this
    · split at this
      · cases this
      · rename_i hs; cases hx : x.spot with
        | none => rfl
        | some y => rw [hx] at hs; simp at hs
    · cases this
  refine ⟨some x, cap, by rw [List.length_map, List.length_take, Nat.min_eq_left (by omega)], by simp; omega, hm, by simp, ?_, fun i y hi => ⟨x, rfl, ?_⟩⟩
  · intro x' hx' hne
    cases hx'
    refine hspot ?_
    cases zs with
    | nil => simp at hne
    | cons _ _ => simp
  · have hil : i < len := by
      rcases Nat.lt_or_ge i len with h | h
      · exact h
      · rw [List.getElem?_eq_none (by simp; omega)] at hi; cases hi
    have := hcell i (by omega)
    rw [addr_add (hspot (by omega))] at this
    rw [List.getElem?_map, List.getElem?_take, if_pos hil] at hi
    cases hzi : zs[i]? with
    | none => rw [hzi] at hi; cases hi
    | some z =>
      rw [hzi] at hi
      simp only [Option.map_some, Option.some.injEq] at hi
      subst hi
      have h1 := hwz z (List.mem_of_getElem? hzi)
      rw [this, List.getD_eq_getElem?_getD, hzi]
      show some (Value.int .u64 z) = some (Value.int .u64 ((z.toNat : Nat) : Int))
      rw [Int.toNat_of_nonneg h1]

theorem wf_word {n : Int} (h : (Lit.int .u64 n).wf = true) : 0 ≤ n ∧ n < 18446744073709551616 := by
  simp [Lit.wf, IntKind.min, IntKind.max, IntKind.signed, IntKind.bits] at h
  omega

theorem read_words {H : Type} {enc : TypeId × Value → H} {W : World} {v : Value} {d : DataW H} {ps : List MemPlace} {base : Nat} {held : Bool} (h : DataW.Trod enc Tryd.prog W base (fun _ => true) held 27 v d ps) (hv : ∃ a n c, v = .slice a n c) :
    ∃ l, Words W v l ∧ W64 l := by
  obtain ⟨a, n, c, rfl⟩ := hv
  obtain ⟨fuel, hf⟩ := h
  rcases open_ints Tryd.underlying27 Tryd.underlying61 (by kernel_rfl) hf with ⟨hcs, _⟩ | ⟨x, l, c', zs, hcs, _, hl, hm, hz, _, hcell, hwz⟩
  · simp [Value.cells] at hcs
    obtain ⟨rfl, rfl, rfl⟩ := hcs
    exact ⟨[], Seq.nil _ _, fun x hx => by cases hx⟩
  · simp [Value.cells] at hcs
    obtain ⟨rfl, rfl, rfl⟩ := hcs
    have hz' : zs.length = c := by first | exact hz | simpa using hz
    refine ⟨_, words_of hl hm hz' hcell (fun z hz => (wf_word (hwz z hz)).1), fun y hy => ?_⟩
    obtain ⟨z, hz, rfl⟩ := List.mem_map.1 hy
    have := wf_word (hwz z (List.mem_of_mem_take hz))
    omega

end Go.Proofs.YtcglbopmfdilfaaDoor
