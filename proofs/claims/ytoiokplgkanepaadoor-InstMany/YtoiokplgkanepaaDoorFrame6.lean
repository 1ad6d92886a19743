/-
  What is handed in to the laws of layer 6, and what the cards' listed variables hold.
-/
import Derived.Test.YtoiokplgkanepaaDoorPrintB
import Derived.Test.YtoiokplgkanepaaDoorTie
import Derived.Test.YtoiokplgkanepaaDoorCards
import Derived.ProofKit
import Derived.OpenShut
import Derived.ShutString
import Derived.ChangeOld
import Derived.LaidMore
import Derived.Stop.Joined
import Derived.SevenTiedAt
namespace Go.Proofs.YtoiokplgkanepaaDoor
open Go.RowKit Go.ChangeShapes Go.WideShapes Go.ChangeAt Go.WideElems
set_option linter.unusedVariables false
set_option linter.unusedSimpArgs false
set_option maxRecDepth 100000

theorem own : ownKnob Tryd.prog.godebug = none := by kernel_rfl
theorem laidOut : laidOutB Tryd.prog = true := by kernel_rfl

/-- The listed variables. -/
abbrev laidIn : List (String × DataW Unit) := [("math/bits.deBruijn32tab", Rows.laid_math_bits_deBruijn32tab), ("math/bits.deBruijn64tab", Rows.laid_math_bits_deBruijn64tab), ("internal/strconv.uint64pow10", Rows.laid_internal_strconv_uint64pow10), ("arborist/inst.words", Rows.laid_arborist_inst_words)]
abbrev doorN : Nat := 2000

theorem door_met (os : Os) (args : Array Value) : laidMetH Tryd.prog laidIn ((World.doorLaid Tryd.prog doorN os).forCall (fun _ _ => 0) ⟨#[], args, []⟩).memory :=
  laidMetH_of_parts3 (fuel := 80) (laidMet_of_run' 80 (by kernel_rfl) (by kernel_rfl)) (by kernel_rfl) (by kernel_rfl)

theorem gWords : Tryd.prog.globalNamed "arborist/inst.words" = some 0 := by kernel_rfl
theorem tWords : (Tryd.prog.globals[0]?).map (·.type) = some 90 := by kernel_rfl
theorem uWords : Tryd.prog.underlying 90 = some (.array 11 9) := by kernel_rfl

/-- The words lie where the program has them. -/
theorem tabs_of {W : World} (h : laidMetH Tryd.prog laidIn W) : Tabs W := by
  rw [MakeChecks.laidMetH_plain _ _ _ (by kernel_rfl)] at h
  obtain ⟨ps, ⟨g0, t0, cs0, f0, p0, q0, hg0, ht0, hv0, hd0, ⟨g1, t1, cs1, f1, p1, q1, hg1, ht1, hv1, hd1, ⟨g2, t2, cs2, f2, p2, q2, hg2, ht2, hv2, hd2, ⟨g3, t3, cs3, f3, p3, q3, hg3, ht3, hv3, hd3, _, _⟩, _⟩, _⟩, _⟩, _, _⟩ := h
  obtain rfl := Option.some.inj (gWords.symm.trans hg3)
  obtain rfl := Option.some.inj (tWords.symm.trans ht3)
  obtain ⟨xs, m, rfl, hx, hlen, hn, hel⟩ := DataW.trod_array uWords hd3
  have c1 : Tryd.prog.cellsOf 9 = 1 := by kernel_rfl
  simp only [Prod.mk.injEq] at hx
  have hx1 := hx.1
  have e0 : Rows.laid_arborist_inst_words (H := Unit) = .agg (wordsL.map fun b => .lit (.string b)) := rfl
  rw [e0, DataW.agg.injEq] at hx1
  intro i hi
  have hi11 : i < 11 := hi
  have hxi : (xs.map (·.1))[i]? = some (.lit (.string wordsL[i])) := by rw [← hx1, List.getElem?_map, List.getElem?_eq_getElem hi]; rfl
  rw [List.getElem?_map] at hxi
  cases hxs : xs[i]? with
  | none => rw [hxs] at hxi; cases hxi
  | some y =>
    have h3 := hel i hi11
    rw [hxs] at h3 hxi
    obtain ⟨s, hs1, hs2, _⟩ := DataW.trod_string Tryd.underlying9 h3
    rw [c1, Nat.mul_one] at hs1
    simp only [Option.map_some, Option.some.injEq] at hxi
    rw [hs2] at hxi
    simp only [DataW.lit.injEq, Lit.string.injEq] at hxi
    have hc := World.var?_cell hg3 hv3 i
    have hci : cs3[i]? = some (.string s) := by
      have h5 : (cs3.toList.drop i).take 1 = [.string s] := hs1
      have h6 : (cs3.toList.drop i)[0]? = some (.string s) := by
        cases hl : cs3.toList.drop i with
        | nil => rw [hl] at h5; cases h5
        | cons a b => rw [hl] at h5; simp at h5; subst h5; rfl
      rw [List.getElem?_drop] at h6
      simpa using h6
    rw [hci] at hc
    rw [hc]
    exact congrArg (fun z => some (Value.string z)) (ba_of _ _ hxi)

theorem bytes_cells {w : World} {x : Addr} {len cap : Nat} {zs : List Int} (hl : len ≤ cap) (hm : cap ≤ maxLen) (hz : zs.length = cap) (hcell : ∀ i, i < zs.length → w.cell? (x.add i) = some (.int .u8 (zs.getD i 0))) (hwz : ∀ z ∈ zs, 0 ≤ z ∧ z ≤ 255) :
    Seq byC w (.slice (some x) len cap) ((zs.take len).map fun z => UInt8.ofNat z.toNat) := by
  have hspot : 0 < zs.length → x.spot = none := by
    intro h
    have := hcell 0 h
    simp only [Addr.add, if_true, World.cell?] at this
    split at this
    · split at this
      · cases this
      · rename_i hs; cases hx : x.spot with
        | none => rfl
        | some y => rw [hx] at hs; simp at hs
    · cases this
  refine ⟨some x, cap, by rw [List.length_map, List.length_take, Nat.min_eq_left (by omega)], by simp; omega, hm, by simp, ?_, fun i y hi => ⟨x, rfl, ?_⟩⟩
  · intro x' hx' hne
    cases hx'
    refine hspot ?_
    cases zs with
    | nil => simp at hne
    | cons _ _ => simp
  · have hil : i < len := by
      rcases Nat.lt_or_ge i len with h | h
      · exact h
      · rw [List.getElem?_eq_none (by simp; omega)] at hi; cases hi
    have := hcell i (by omega)
    rw [addr_add (hspot (by omega))] at this
    rw [List.getElem?_map, List.getElem?_take, if_pos hil] at hi
    cases hzi : zs[i]? with
    | none => rw [hzi] at hi; cases hi
    | some z =>
      rw [hzi] at hi
      simp only [Option.map_some, Option.some.injEq] at hi
      subst hi
      obtain ⟨h1, h2⟩ := hwz z (List.mem_of_getElem? hzi)
      rw [this, List.getD_eq_getElem?_getD, hzi]
      have h3 : ((UInt8.ofNat z.toNat).toNat : Int) = z := by rw [UInt8.toNat_ofNat']; omega
      show some (Value.int .u8 z) = some (byC (UInt8.ofNat z.toNat))
      unfold byC
      rw [h3]

theorem wf_byte {n : Int} (h : (Lit.int .u8 n).wf = true) : 0 ≤ n ∧ n ≤ 255 := by simpa [Lit.wf, IntKind.min, IntKind.max, IntKind.signed, IntKind.bits] using h

theorem read_bytes {H : Type} {enc : TypeId × Value → H} {W : World} {v : Value} {d : DataW H} {ps : List MemPlace} {base : Nat} {held : Bool} (h : DataW.Trod enc Tryd.prog W base (fun _ => true) held 38 v d ps) (hv : ∃ a n c, v = .slice a n c) :
    ∃ l : Bytes, Seq byC W v l := by
  obtain ⟨a, n, c, rfl⟩ := hv
  obtain ⟨fuel, hf⟩ := h
  rcases open_ints Tryd.underlying38 Tryd.underlying5 (by kernel_rfl) hf with ⟨hcs, _⟩ | ⟨x, l, c', zs, hcs, _, hl, hm, hz, _, hcell, hwz⟩
  · simp [Value.cells] at hcs
    obtain ⟨rfl, rfl, rfl⟩ := hcs
    exact ⟨[], Seq.nil _ _⟩
  · simp [Value.cells] at hcs
    obtain ⟨rfl, rfl, rfl⟩ := hcs
    exact ⟨_, bytes_cells hl hm (by simpa using hz) hcell (fun k hk => wf_byte (hwz k hk))⟩

theorem read_string {H : Type} {enc : TypeId × Value → H} {W : World} {v : Value} {d : DataW H} {ps : List MemPlace} {base b0 : Nat} {held : Bool} {r : Reach} (h : DataW.Trod enc Tryd.prog W base (fun _ => true) held 9 v d ps) (hv : Value.okWide Tryd.prog W r b0 9 v) :
    ∃ s : ByteArray, v = .string s ∧ s.size ≤ maxLen := by
  obtain ⟨s, hv, _, _, hs⟩ := Go.ChangeMaps.open_string Tryd.underlying9 hv h
  exact ⟨s, hv, hs⟩

def InI64 (n : Int) : Prop := -9223372036854775808 ≤ n ∧ n ≤ 9223372036854775807
theorem wf_in {n : Int} (h : (Lit.int .i64 n).wf = true) : InI64 n := by unfold InI64; simpa [Lit.wf, IntKind.min, IntKind.max, IntKind.signed, IntKind.bits] using h

theorem read_int {H : Type} {enc : TypeId × Value → H} {W : World} {v : Value} {d : DataW H} {ps : List MemPlace} {base b0 : Nat} {held : Bool} {r : Reach} (h : DataW.Trod enc Tryd.prog W base (fun _ => true) held 3 v d ps) (hv : Value.okWide Tryd.prog W r b0 3 v) :
    ∃ n, v = .int .i64 n ∧ InI64 n := by
  obtain ⟨n, hv, _, _, hw⟩ := open_int Tryd.underlying3 hv h
  exact ⟨n, hv, wf_in hw⟩

end Go.Proofs.YtoiokplgkanepaaDoor
