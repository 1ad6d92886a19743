/-
  The contracts of WriteByte and String, of the builder that a printer has in it; and of Itoa, at one digit.
-/
import Derived.Test.YtoiokplgkanepaaDoorPrintA
namespace Go.Proofs.YtoiokplgkanepaaDoor
open Go.RowKit
set_option linter.unusedVariables false
set_option linter.unusedSimpArgs false
set_option maxRecDepth 20000

def byC (c : UInt8) : Value := .int .u8 c.toNat

theorem wp_app_byte1 {w : World} {ops : Array Oper} {rest : List Oper} {o : Oper} {a : Act} {Q : Exit → Act → World → Prop} (hgd : o.guard = none) (s x : Operand)
    (ho : o.op = .call { callee := .builtin .append, args := #[s, x], argTypes := #[38, 38] }) {B : Nat} {v : Value} {l : Bytes} (y : UInt8) (hown : w.ownsRow B 5 1 v l.length (l.map byC)) (hs : a.eval s = v) (hB : B ≤ w.heap.size)
    (hx : a.eval x = .slice (some ⟨w.heap.size, 0, none⟩) 1 1) (hlen : l.length < 100000000000)
    (h : ∀ v' w', w'.ownsRow B 5 1 v' (l ++ [y]).length ((l ++ [y]).map byC) → Grew B w w' v v' → wpList Tryd.prog ops Q rest (a.put o.dst v') w') :
    wpList Tryd.prog ops Q (o :: rest) a (w.alloc (.cells #[.int .u8 (y.toNat : Int)] 5)) :=
  wpList_plain hgd fun _ hK => op_app_one (enc := byC) Tryd.undBytes Tryd.infoByte rfl (by decide) s x ho hown hs hB hx rfl hlen fun v' w' h1 h2 => hK _ _ (h v' w' h1 h2)

set_option maxHeartbeats 1000000 in
theorem writeByte_any {b : Nat} {l : Bytes} {w : World} (y : UInt8) (h : Pr b l w) (hl : l.length ≤ 100000000) :
    Calls Tryd.prog 45 #[.pointer (some ⟨b, 0, none⟩), .int .u8 (y.toNat : Int)] w fun e w' => e = .returned .nilIface ∧ Pr b (l ++ [y]) w' ∧ Below b w w' := by
  have HC := hide (copyCheck_any h)
  clear h
  go_enter Tryd.func45, Tryd.ntmps45
  go_wp2_with fail
  refine (unhide HC).mono ?_
  rintro e w1 ⟨rfl, hp, hb1⟩
  obtain ⟨v, h1, h2, h3⟩ := hp.heap
  have hb1l : b < w1.heap.size := (Pr.lt (.inr hp))
  have c0 := two_cell0 h1
  have c1 := two_cell1 h1
  have H1 := hide h1
  have H2 : Hid (w1.ownsRow b 5 1 v l.length (l.map byC)) := hide (by rw [Lib.byteCells_length] at h2; exact h2)
  have H3 := hide h3
  have HB1 := hide hb1
  have hbz : b ≤ w1.heap.size := by omega
  clear hp h1 h2 h3 hb1
  go_wp2_with (at_builtin; refine wp_app_byte1 rfl (.tmp 11) (.tmp 13) rfl y (unhide H2) rfl hbz rfl (by omega) ?_; intro v' w2 hown' hgrew; have h1 := (hgrew.by_.block b hb1l (fun e => unhide H3 e.symm)).trans (unhide H1); have d0 := two_cell0 h1; have d1 := two_cell1 h1; have df := frozen_of_row w2 b 1 _ _ h1; have HO := hide hown'; have HW := hide hgrew; have HH1 := hide h1; obtain ⟨va, vn, vc, rfl⟩ := own_slice hown'; clear hown' hgrew h1)
  go_ret
  refine ⟨rfl, pr_put (unhide HH1) (unhide HO), ?_⟩
  exact ((unhide HB1).trans ((unhide HW).below)).setCell (p := ⟨b, 1, none⟩) (Nat.le_refl _) _

set_option maxHeartbeats 1000000 in
theorem string_new {b : Nat} {p : Value} {w : World} (h : w.heap[b]? = some (.cells #[p, .slice none 0 0] 63 (0, 0))) :
    Calls Tryd.prog 22 #[.pointer (some ⟨b, 0, none⟩)] w fun e w' => e = .returned (.string ⟨#[]⟩) ∧ Below w.heap.size w w' := by
  have hUS : ∀ (W : World) (q : Option Addr), (Builtin.unsafeString_ #[94, 3] 9 #[.pointer q, .int .i64 0]).run Tryd.prog W = .ok (.string .empty) W := fun W q => Lib.run_unsafeString_none W _ _ _ q
  have hSD : ∀ (W : World), (Builtin.unsafeSliceData_ #[38] 94 #[.slice none 0 0]).run Tryd.prog W = .ok (.pointer none) W := fun W => Lib.run_unsafeSliceData_nil W _ _ _ _
  have c1 : w.drew.cell? ⟨b, 1, none⟩ = some (.slice none 0 0) := two_cell1 (w := w.drew) h
  clear h
  go_enter Tryd.func22, Tryd.ntmps22
  go_wp2
  go_region
  all_goals (go_wp2; go_ret; exact ⟨rfl, (Below.refl _ _).drew⟩)

set_option maxHeartbeats 1000000 in
theorem string_any {b : Nat} {l : Bytes} {w : World} (h : Pr b l w) (h0 : l ≠ []) (hlen : l.length ≤ 100000000) :
    Calls Tryd.prog 22 #[.pointer (some ⟨b, 0, none⟩)] w fun e w' => e = .returned (.string ⟨l.toArray⟩) ∧ Below b w w' := by
  obtain ⟨p, v, hbk, hown, hne⟩ : ∃ p v, w.heap[b]? = some (.cells #[p, v] 63 (0, 0)) ∧ w.ownsRow b 5 1 v (Lib.byteCells l).length (Lib.byteCells l) ∧ v.ownBlock ≠ some b := by
    rcases h with h | h
    · exact ⟨_, h.heap⟩
    · exact ⟨_, h.heap⟩
  have hl0 : l.length ≠ 0 := by simpa using h0
  rw [Lib.byteCells_length] at hown
  obtain ⟨g, cap, cur, rfl, hbg, hg, hnc, hcm, hcs, htake⟩ : ∃ g cap cur, v = .slice (some ⟨g, 0, none⟩) l.length cap ∧ b ≤ g ∧ w.heap[g]? = some (.cells cur 5 (0, 0)) ∧ l.length ≤ cap ∧ cap ≤ maxLen ∧ cur.size = cap * 1 ∧ cur.toList.take (l.length * 1) = Lib.byteCells l := by
    rcases hown.2 with ⟨_, hz⟩ | ⟨g, cap, cur, hv, r⟩
    · exact absurd hz hl0
    · exact ⟨g, cap, cur, hv, r⟩
  have c1 : w.drew.cell? ⟨b, 1, none⟩ = some (.slice (some ⟨g, 0, none⟩) l.length cap) := two_cell1 (w := w.drew) hbk
  have hSD : (Builtin.unsafeSliceData_ #[38] 94 #[.slice (some ⟨g, 0, none⟩) l.length cap]).run Tryd.prog w.drew = .ok (.pointer (some ⟨g, 0, none⟩)) w.drew :=
    Lib.run_unsafeSliceData_row _ _ _ _ _ _ (by omega)
  have hUS : (Builtin.unsafeString_ #[94, 3] 9 #[.pointer (some ⟨g, 0, none⟩), .int .i64 l.length]).run Tryd.prog w.drew = .ok (.string ⟨l.toArray⟩) (w.drew.freeze ⟨g, 0, none⟩ l.length) := by
    refine Lib.run_unsafeString_row w.drew 94 3 9 5 Tryd.underlying94 (by kernel_rfl) g cur.size (by have hg' : w.drew.heap[g]? = some (.cells cur 5 (0, 0)) := hg; simp [World.shape?, hg']) l h0 (by omega) (by unfold maxLen at hcm; omega) ?_
    intro j x hx
    have := hown.cells (g := g) rfl j (.int .u8 x.toNat) (by simp [Lib.byteCells, hx])
    exact this
  clear h hbk hown hne hg hcm hcs htake
  go_enter Tryd.func22, Tryd.ntmps22
  go_wp2
  go_region
  all_goals (go_wp2; go_ret; exact ⟨rfl, Lib.below_freeze (Below.drew (Below.refl b w)) (p := ⟨g, 0, none⟩) hbg _⟩)

set_option maxHeartbeats 1000000 in
theorem itoa0 (w : World) : Calls Tryd.prog 71 #[.int .i64 0] w fun e w' => e = .returned (.string ⟨#[48]⟩) ∧ Below w.heap.size w w' := by
  go_enter Tryd.func71, Tryd.ntmps71
  go_wp2
  go_ret
  exact ⟨rfl, Below.refl _ _⟩

set_option maxHeartbeats 1000000 in
theorem itoa1 (w : World) : Calls Tryd.prog 71 #[.int .i64 1] w fun e w' => e = .returned (.string ⟨#[49]⟩) ∧ Below w.heap.size w w' := by
  go_enter Tryd.func71, Tryd.ntmps71
  go_wp2
  go_ret
  exact ⟨rfl, Below.refl _ _⟩

end Go.Proofs.YtoiokplgkanepaaDoor
