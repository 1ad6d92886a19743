/-
  Bytes that lie in a block: made, written, read as a string.
-/
import Derived.Test.YtehoepliiobliaaScanRun
import Derived.Laws.IdiomStrings
namespace Go.Proofs.Ytehoepliiobliaa
open Go.RowKit
set_option linter.unusedVariables false
set_option linter.unusedSimpArgs false
set_option maxRecDepth 20000

theorem and65535 (n : Int) : bits .and .i64 n 65535 = n % 65536 := by
  have h1 : (BitVec.ofInt 64 65535).toNat = 2 ^ 16 - 1 := by decide
  have key : (BitVec.ofInt 64 n &&& BitVec.ofInt 64 65535).toNat = (n % ((2 ^ 64 : Nat) : Int)).toNat % 2 ^ 16 := by
    rw [BitVec.toNat_and, BitVec.toNat_ofInt, h1, Nat.and_two_pow_sub_one_eq_mod]
  show IntKind.i64.wrap ((BitVec.ofInt 64 n &&& BitVec.ofInt 64 65535).toNat : Nat) = n % 65536
  rw [key, IntKind.wrap_i64]
  omega

/-- The block b begins with these bytes, and may be written. -/
def BytesAt (w : World) (b : Nat) (l : Bytes) : Prop := ∀ j (hj : j < l.length), w.cell? ⟨b, j, none⟩ = some (byV l[j]) ∧ w.frozen? ⟨b, j, none⟩ = false

theorem BytesAt.below {w w' : World} {b : Nat} {l : Bytes} (h : BytesAt w b l) (hb : Below w.heap.size w w') : BytesAt w' b l := fun j hj => by
  obtain ⟨h1, h2⟩ := h j hj
  have hl := cell_lt h1
  exact ⟨Below.cell_of hb h1, by rw [hb.frozen (p := ⟨b, j, none⟩) hl]; exact h2⟩

theorem BytesAt.set {w : World} {b : Nat} {l : Bytes} (h : BytesAt w b l) {k : Nat} (hk : k < l.length) (c : UInt8) : BytesAt (w.setCell ⟨b, k, none⟩ (byV c)) b (l.set k c) := fun j hj => by
  have hj' : j < l.length := by simpa using hj
  obtain ⟨h1, h2⟩ := h j hj'
  refine ⟨?_, by rw [World.frozen?_setCell]; exact h2⟩
  by_cases e : k = j
  · subst e
    rw [World.cell?_setCell_same _ _ _ h1]; simp
  · rw [World.cell?_setCell_other _ _ _ _ (by intro e'; injection e' with _ e2; exact e e2), h1, List.getElem_set_ne e]

theorem BytesAt.string {w : World} {b : Nat} {l : Bytes} (h : BytesAt w b l) {n : Nat} (hn : n = l.length) (cap : Nat) : (convert 35 9 (.slice (some ⟨b, 0, none⟩) n cap)).run Try.prog w = .ok (.string ⟨l.toArray⟩) w := by
  subst hn
  refine run_convert_bytes_back (P := Try.prog) w 35 9 5 ⟨b, 0, none⟩ cap l Try.underlying35 Try.underlying5 Try.underlying9 (fun j hj => ?_)
  rw [addr_add rfl]
  simpa using (h j hj).1

theorem Try.infoByte : (Try.prog.info? 5).map (fun i => (i.zero, i.size, i.bytes)) = some (some (.int .u8 0), 1, 1) := by kernel_rfl

/-- A slice of n bytes is made: all nought. -/
theorem wp_make_bytes {w : World} {ops : Array Oper} {rest : List Oper} {o : Oper} {a : Act} {Q : Exit → Act → World → Prop} (hgd : o.guard = none) (l c : Operand) (ho : o.op = Op.makeSlice 35 l c)
    {n : Nat} (hl : a.eval l = .int .i64 (n : Int)) (hc : a.eval c = .int .i64 (n : Int)) (hlen : n < 100000000000)
    (h : ∀ w', BytesAt w' w.heap.size (List.replicate n 0) → w.heap.size < w'.heap.size → Below w.heap.size w w' → wpList Try.prog ops Q rest (a.put o.dst (.slice (some ⟨w.heap.size, 0, none⟩) n n)) w') :
    wpList Try.prog ops Q (o :: rest) a w := by
  obtain ⟨i, hi, hz0, hz1, hz2⟩ := info_parts Try.infoByte
  refine wpList_make_full w hgd l c 35 ho w.heap.size 5 i (.int .u8 0) 1 Try.underlying35 hi hz0 hz1 .i64 .i64 _ _ n hl hc rfl rfl (by rw [hz2]; omega) (by unfold maxLen; omega) (Nat.le_refl _) ?_
  intro w' hown hg
  have e1 : (madeCells (Value.int IntKind.u8 0).cells (n * 1)).toList = (List.replicate n (0 : UInt8)).map byV := by
    rw [show (Value.int IntKind.u8 0).cells = #[.int .u8 0] from rfl, toList_madeCells_one]; simp [byV]
  rw [e1] at hown
  have hlt : w.heap.size < w'.heap.size := (hown.lt _ rfl).2
  refine h w' ?_ hlt ⟨hg.os, hg.tape, hg.output, hg.size, fun k hk => hg.block k hk (by simp)⟩
  intro j hj
  obtain ⟨h1, h2⟩ := hown
  rcases h2 with ⟨h2, _⟩ | ⟨g', cap, cur, hv, hg', hh, hn, hm, hs, ht⟩
  · cases h2
  cases hv
  refine ⟨?_, frozen_of_row w' _ j cur 5 hh⟩
  have hjn : j < n := by simpa using hj
  have e2 : (cur.toList.take (n * 1))[j]? = ((List.replicate n (0 : UInt8)).map byV)[j]? := by rw [ht]
  rw [List.getElem?_take, if_pos (by omega)] at e2
  simp only [World.cell?, hh]
  simpa [hjn] using e2

theorem lb_append (a b : ByteArray) : lb (a ++ b) = lb a ++ lb b := by
  unfold lb
  rw [ByteArray.data_append, Array.toList_append]

/-- A slice of bytes is made of a string. -/
theorem bytes_of (w : World) (s : ByteArray) : ∃ n cap W', n = s.size ∧ (convert 9 35 (.string s)).run Try.prog w = .ok (.slice (some ⟨w.heap.size, 0, none⟩) n cap) W' ∧ BytesAt W' w.heap.size (lb s) ∧ Below w.heap.size w W' ∧ w.heap.size < W'.heap.size := by
  refine ⟨_, _, _, rfl, run_bytes_of_string (P := Try.prog) w 9 35 5 s Try.underlying9 Try.underlying35 Try.underlying5, ?_, ?_, ?_⟩
  · generalize hC : bytesRow s (grownCap w s.size 0 5) = C
    have hh : (w.drew.alloc (.cells C 5 (C.size, C.size + 1))).heap[w.heap.size]? = some (.cells C 5 (C.size, C.size + 1)) := by
      show (w.heap.push _)[w.heap.size]? = _
      simp
    intro j hj
    have hjs : j < s.size := hj
    have hcj : C[j]? = some (byV (lb s)[j]) := by
      rw [← hC]
      unfold bytesRow
      rw [Array.getElem?_append_left (by simpa using hjs)]
      simp [hjs]
    have hlt : j < C.size := by
      rcases Nat.lt_or_ge j C.size with h | h
      · exact h
      · rw [Array.getElem?_eq_none h] at hcj; cases hcj
    refine ⟨by simp only [World.cell?, hh]; simpa using hcj, ?_⟩
    simp only [World.frozen?, hh]
    simp
    omega
  · exact ⟨rfl, rfl, rfl, by simp, fun k hk => by show (w.heap.push _)[k]? = _; rw [Array.getElem?_push_lt hk]; exact (Array.getElem?_eq_getElem hk).symm⟩
  · show _ < (w.heap.push _).size
    simp

end Go.Proofs.Ytehoepliiobliaa
