/-
  The builder that a printer has in it: the contracts of copyCheck, WriteString, WriteByte, String.
-/
import Derived.Test.YtoiokplgkanepaaDoorRightC
import Derived.Lib.Builder
import Derived.Lib.AppendStr
import Derived.Lib.UnsafeStr
import Derived.Laws.Externs
namespace Go.Proofs.YtoiokplgkanepaaDoor
open Go.RowKit
set_option linter.unusedVariables false
set_option linter.unusedSimpArgs false
set_option maxRecDepth 20000

theorem Tryd.sizeBuilder : (Tryd.prog.info? 61).map (·.size) = some 2 := by kernel_rfl
theorem Tryd.liesPrinter : liesAt Tryd.prog Tryd.prog.depth 63 (2 / Tryd.prog.cellsOf 63) 0 61 1 = true := by kernel_rfl
theorem Tryd.infoByte : (Tryd.prog.info? 5).map (fun i => (i.zero, i.size, i.bytes)) = some (some (.int .u8 0), 1, 1) := by kernel_rfl
theorem Tryd.undBytes : Tryd.prog.underlying 38 = some (.slice 5) := by kernel_rfl
theorem Tryd.undStr : Tryd.prog.underlying 9 = some .string := by kernel_rfl

/-- The printer in the block b has written l; p is what its builder's own address says. -/
abbrev PrAt (b : Nat) (p : Value) (l : Bytes) (w : World) : Prop := Lib.BuilderAt 63 5 b b p (Lib.byteCells l) w
def Pr (b : Nat) (l : Bytes) (w : World) : Prop := PrAt b (.pointer none) l w ∨ PrAt b (.pointer (some ⟨b, 0, none⟩)) l w

theorem PrAt.heap {b : Nat} {p : Value} {l : Bytes} {w : World} (h : PrAt b p l w) : ∃ v, w.heap[b]? = some (.cells #[p, v] 63 (0, 0)) ∧ w.ownsRow b 5 1 v (Lib.byteCells l).length (Lib.byteCells l) ∧ v.ownBlock ≠ some b := by
  obtain ⟨_, v, h1, h2, h3⟩ := h
  exact ⟨v, h1, h2, h3⟩
theorem Pr.lt {b : Nat} {l : Bytes} {w : World} (h : Pr b l w) : b < w.heap.size := by
  have key : ∀ {p : Value}, PrAt b p l w → b < w.heap.size := fun h => by
    obtain ⟨v, h1, _⟩ := h.heap
    rcases Nat.lt_or_ge b w.heap.size with hl | hl
    · exact hl
    · rw [Array.getElem?_eq_none hl] at h1; cases h1
  rcases h with h | h
  · exact key h
  · exact key h
theorem Pr.kept {b : Nat} {l : Bytes} {w w' : World} (h : Pr b l w) (hb : Below w.heap.size w w') : Pr b l w' := by
  have hl := h.lt
  have key : ∀ {p : Value}, PrAt b p l w → PrAt b p l w' := fun h => by
    obtain ⟨v, h1, h2, h3⟩ := h.heap
    exact ⟨Nat.le_refl _, v, by rw [hb.block b hl]; exact h1, own4_below h2 hb, h3⟩
  rcases h with h | h
  · exact .inl (key h)
  · exact .inr (key h)
theorem Pr.new (w : World) : Pr w.heap.size [] (w.alloc (.cells #[.pointer none, .slice none 0 0] 63)) :=
  .inl ⟨Nat.le_refl _, _, heap_alloc_new w _, World.ownsRow_nil _ _ _ _, by intro e; cases e⟩

theorem two_cell0 {w : World} {b : Nat} {p v : Value} {e : TypeId} (h : w.heap[b]? = some (.cells #[p, v] e (0, 0))) : w.cell? ⟨b, 0, none⟩ = some p := by simp only [World.cell?, h]; simp
theorem two_cell1 {w : World} {b : Nat} {p v : Value} {e : TypeId} (h : w.heap[b]? = some (.cells #[p, v] e (0, 0))) : w.cell? ⟨b, 1, none⟩ = some v := by simp only [World.cell?, h]; simp
theorem own_slice {w : World} {B k n : Nat} {e : TypeId} {v : Value} {xs : List Value} (h : w.ownsRow B e k v n xs) : ∃ a m c, v = .slice a m c := by
  rcases h.2 with ⟨hv, _⟩ | ⟨g, cap, cur, hv, _⟩
  · exact ⟨_, _, _, hv⟩
  · exact ⟨_, _, _, hv⟩
/-- The builder's buffer is laid anew. -/
theorem pr_put {w : World} {b : Nat} {v v' : Value} {l : Bytes} (h1 : w.heap[b]? = some (.cells #[.pointer (some ⟨b, 0, none⟩), v] 63 (0, 0))) (ho : w.ownsRow b 5 1 v' l.length (Lib.byteCells l)) : Pr b l (w.setCell ⟨b, 1, none⟩ v') := by
  have hne : v'.ownBlock ≠ some b := fun e => by
    obtain ⟨_, k⟩ := ho
    rcases k with ⟨rfl, _⟩ | ⟨g, cap, cur, rfl, _, hh, _⟩
    · cases e
    · have : g = b := by simpa [Value.ownBlock] using e
      subst this
      rw [h1] at hh
      injection hh with hh
      injection hh with _ ht _
      exact absurd ht (by decide)
  refine .inr ⟨Nat.le_refl _, v', by rw [heap_setCell_same w b 1 _ _ v' h1]; simp, ?_, hne⟩
  rw [Lib.byteCells_length]
  exact ho.kept (grown_set w b 1 v') (by
    cases e : v'.ownBlock with
    | none => exact .inl rfl
    | some k => exact .inr (fun e2 => hne (by rw [e, e2])))

set_option maxHeartbeats 1000000 in
theorem copyCheck_any {b : Nat} {l : Bytes} {w : World} (h : Pr b l w) :
    Calls Tryd.prog 70 #[.pointer (some ⟨b, 0, none⟩)] w fun e w' => e = .returned (.tuple #[]) ∧ PrAt b (.pointer (some ⟨b, 0, none⟩)) l w' ∧ Below b w w' := by
  obtain ⟨j, hj, hjs⟩ := Option.map_eq_some_iff.1 Tryd.sizeBuilder
  rcases h with h | h
  · obtain ⟨v, h1, h2, h3⟩ := h.heap
    have c0 : w.cell? ⟨b, 0, none⟩ = some (.pointer none) := by simp only [World.cell?, h1]; simp
    have f0 : w.frozen? ⟨b, 0, none⟩ = false := frozen_of_row w b 0 _ _ h1
    have hsh : w.shape? b = some (63, 2) := by simp [World.shape?, h1]
    have hset := heap_setCell_same w b 0 _ _ (.pointer (some ⟨b, 0, none⟩)) h1
    have HH : Hid (PrAt b (.pointer (some ⟨b, 0, none⟩)) l (w.setCell ⟨b, 0, none⟩ (.pointer (some ⟨b, 0, none⟩))) ∧ Below b w (w.setCell ⟨b, 0, none⟩ (.pointer (some ⟨b, 0, none⟩)))) := hide ⟨⟨Nat.le_refl _, v, by simpa using hset, h2.kept (grown_set w b 0 _) (by
      cases e : v.ownBlock with
      | none => exact .inl rfl
      | some k => exact .inr (fun e2 => h3 (by rw [e, e2]))), h3⟩, (Below.refl _ _).setCell (by exact Nat.le_refl _) _⟩
    clear h h1 h2 h3 hset
    go_enter Tryd.func70, Tryd.ntmps70
    go_wp2
    rw [Lib.run_to_unsafe w ⟨b, 0, none⟩ Tryd.underlying59 Tryd.underlying120 hj (by rw [hjs]; decide) hsh (Nat.zero_lt_succ 1)]
    simp only [Result.andThen]
    rw [Oper.upon_value]
    go_wp2
    rw [run_callFunc_extern Tryd.func85 (by kernel_rfl) (by kernel_rfl) (by kernel_rfl) (e := Extern.AbiNoEscape.same) (by kernel_rfl)]
    rw [Lib.run_noEscape]
    simp only [Result.andThen]
    rw [Oper.upon_value]
    go_wp2
    rw [Lib.run_from_unsafe w ⟨b, 0, none⟩ Tryd.underlying120 Tryd.underlying59 hj hsh Tryd.liesPrinter]
    simp only [Result.andThen]
    rw [Oper.upon_value]
    go_wp2
    go_end0
    exact ⟨rfl, unhide HH⟩
  · have HH := hide h
    obtain ⟨v, h1, h2, h3⟩ := h.heap
    have c0 : w.cell? ⟨b, 0, none⟩ = some (.pointer (some ⟨b, 0, none⟩)) := by simp only [World.cell?, h1]; simp
    clear h h1 h2 h3
    go_enter Tryd.func70, Tryd.ntmps70
    go_wp2
    rw [Lib.run_neq_ptr_same w _ Tryd.underlying59 hj]
    go_wp2
    go_end0
    exact ⟨rfl, unhide HH, Below.refl _ _⟩

set_option maxHeartbeats 1000000 in
theorem writeString_any {b : Nat} {l : Bytes} {w : World} (s : ByteArray) (h : Pr b l w) (hl : l.length + s.size ≤ 100000000) :
    Calls Tryd.prog 40 #[.pointer (some ⟨b, 0, none⟩), .string s] w fun e w' => (∃ n, e = .returned (.tuple #[.int .i64 n, .nilIface])) ∧ Pr b (l ++ lb s) w' ∧ Below b w w' := by
  obtain ⟨i0, hi, hz0, hz1, hz2⟩ := info_parts Tryd.infoByte
  have HC := hide (copyCheck_any h)
  clear h
  go_enter Tryd.func40, Tryd.ntmps40
  go_wp2_with fail
  refine (unhide HC).mono ?_
  rintro e w1 ⟨rfl, hp, hb1⟩
  obtain ⟨v, h1, h2, h3⟩ := hp.heap
  have hb1l : b < w1.heap.size := (Pr.lt (.inr hp))
  have c0 : w1.cell? ⟨b, 0, none⟩ = some (.pointer (some ⟨b, 0, none⟩)) := by simp only [World.cell?, h1]; simp
  have c1 : w1.cell? ⟨b, 1, none⟩ = some v := by simp only [World.cell?, h1]; simp
  have H1 := hide h1
  have H2 := hide h2
  have H3 := hide h3
  have HL : Hid ((Lib.byteCells l).length = l.length) := hide (Lib.byteCells_length l)
  have HB1 := hide hb1
  clear hp h1 h2 h3 hb1
  go_wp2_with (at_builtin; refine Lib.wpList_append_own_string _ rfl _ _ 38 9 rfl b 5 i0 Tryd.undBytes Tryd.undStr hi hz0 hz1 hz2 _ _ _ rfl (unhide H2) s rfl (by have := unhide HL; unfold maxLen; omega) (by have := unhide HL; omega) (by omega) ?_; intro v' w2 hown' hgrow _; have h1 := (hgrow.block b hb1l (fun e => unhide H3 e.symm)).trans (unhide H1); have d0 := two_cell0 h1; have d1 := two_cell1 h1; have df := frozen_of_row w2 b 1 _ _ h1; have HO := hide hown'; have HW := hide hgrow; have HH1 := hide h1; obtain ⟨va, vn, vc, rfl⟩ := own_slice hown'; clear hown' hgrow h1)
  go_ret2
  refine ⟨⟨_, rfl⟩, pr_put (unhide HH1) ?_, ?_⟩
  · have h := unhide HO
    rw [unhide HL] at h
    have e : Lib.byteCells (l ++ lb s) = Lib.byteCells l ++ Lib.strCells s := by simp [Lib.byteCells, Lib.strCells, lb]
    rw [e, List.length_append, lb_len]
    exact h
  · exact ((unhide HB1).grown (unhide HW) (by omega) (fun k hk => ((unhide H2).lt k hk).1)).setCell (p := ⟨b, 1, none⟩) (Nat.le_refl _) _

end Go.Proofs.YtoiokplgkanepaaDoor
