/-
  The contract of the document's Right (layer 6): what an instance is, and when it may be.
-/
import Derived.Test.YtflibcfecnhjgaaDoorBHolds
import Derived.Test.YtflibcfecnhjgaaDoorQuads
import Derived.Test.YtflibcfecnhjgaaDoorRefSets
import Derived.Deep.RegionHeld3
namespace Go.Proofs.YtflibcfecnhjgaaDoor
open Go.RowKit
set_option linter.unusedVariables false
set_option linter.unusedSimpArgs false
set_option maxRecDepth 20000

/-- Four cells that are a constraint; a soft one. -/
def ConQ (w : World) (q : Quad) (c : Con) : Prop := q.a = .int .i64 c.kind ∧ Ints w q.b c.scope ∧ Tups w q.c c.rows ∧ Ints w q.d c.args
def SftQ (w : World) (q : Quad) (s : Sft) : Prop := Ints w q.a s.scope ∧ Tups w q.b s.rows ∧ Ints w q.c s.costs ∧ q.d = .int .i64 s.dflt
theorem ConQ.below {w w' : World} {q : Quad} {c : Con} (h : ConQ w q c) (hb : Below w.heap.size w w') : ConQ w' q c := ⟨h.1, h.2.1.below hb, h.2.2.1.below hb, h.2.2.2.below hb⟩
theorem SftQ.below {w w' : World} {q : Quad} {s : Sft} (h : SftQ w q s) (hb : Below w.heap.size w w') : SftQ w' q s := ⟨h.1.below hb, h.2.1.below hb, h.2.2.1.below hb, h.2.2.2⟩

theorem SeqQ.below {w w' : World} {v : Value} {l : List Quad} (h : SeqQ w v l) (hb : Below w.heap.size w w') : SeqQ w' v l := by
  obtain ⟨a, cap, rfl, h2, h3, h4⟩ := h
  refine ⟨a, cap, rfl, h2, h3, fun i hi => ?_⟩
  obtain ⟨b, off, rfl, k2, k3, k4, k5⟩ := h4 i hi
  exact ⟨b, off, rfl, Below.cell_of hb k2, Below.cell_of hb k3, Below.cell_of hb k4, Below.cell_of hb k5⟩

def ConsV (w : World) (v : Value) (cs : List Con) : Prop := ∃ qs : List Quad, SeqQ w v qs ∧ qs.length = cs.length ∧ ∀ i (h : i < qs.length) (h' : i < cs.length), ConQ w qs[i] cs[i]
def SftsV (w : World) (v : Value) (cs : List Sft) : Prop := ∃ qs : List Quad, SeqQ w v qs ∧ qs.length = cs.length ∧ ∀ i (h : i < qs.length) (h' : i < cs.length), SftQ w qs[i] cs[i]
theorem ConsV.below {w w' : World} {v : Value} {cs : List Con} (h : ConsV w v cs) (hb : Below w.heap.size w w') : ConsV w' v cs := by
  obtain ⟨qs, h1, h2, h3⟩ := h
  exact ⟨qs, h1.below hb, h2, fun i hi hi' => (h3 i hi hi').below hb⟩
theorem SftsV.below {w w' : World} {v : Value} {cs : List Sft} (h : SftsV w v cs) (hb : Below w.heap.size w w') : SftsV w' v cs := by
  obtain ⟨qs, h1, h2, h3⟩ := h
  exact ⟨qs, h1.below hb, h2, fun i hi hi' => (h3 i hi hi').below hb⟩
theorem ConsV.form {w : World} {v : Value} {cs : List Con} (h : ConsV w v cs) : ∃ a cap, v = .slice a cs.length cap ∧ cs.length ≤ cap ∧ cap ≤ maxLen := by
  obtain ⟨qs, h1, h2, h3⟩ := h
  rw [← h2]; exact h1.form
theorem SftsV.form {w : World} {v : Value} {cs : List Sft} (h : SftsV w v cs) : ∃ a cap, v = .slice a cs.length cap ∧ cs.length ≤ cap ∧ cap ≤ maxLen := by
  obtain ⟨qs, h1, h2, h3⟩ := h
  rw [← h2]; exact h1.form
theorem ConsV.at {w : World} {a : Option Addr} {n cap : Nat} {cs : List Con} (h : ConsV w (.slice a n cap) cs) {i : Nat} (hi : i < cs.length) :
    ∃ b off x y z, a = some ⟨b, off, none⟩ ∧ w.cell? ⟨b, off + i * 4, none⟩ = some (.int .i64 cs[i].kind) ∧ w.cell? ⟨b, off + i * 4 + 1, none⟩ = some x ∧ w.cell? ⟨b, off + i * 4 + 2, none⟩ = some y ∧ w.cell? ⟨b, off + i * 4 + 3, none⟩ = some z ∧
      Ints w x cs[i].scope ∧ Tups w y cs[i].rows ∧ Ints w z cs[i].args := by
  obtain ⟨qs, h1, h2, h3⟩ := h
  obtain ⟨b, off, rfl, k1, k2, k3, k4⟩ := h1.at (i := i) (by omega)
  obtain ⟨e1, e2, e3, e4⟩ := h3 i (by omega) hi
  exact ⟨b, off, _, _, _, rfl, e1 ▸ k1, k2, k3, k4, e2, e3, e4⟩
theorem SftsV.at {w : World} {a : Option Addr} {n cap : Nat} {cs : List Sft} (h : SftsV w (.slice a n cap) cs) {i : Nat} (hi : i < cs.length) :
    ∃ b off x y z, a = some ⟨b, off, none⟩ ∧ w.cell? ⟨b, off + i * 4, none⟩ = some x ∧ w.cell? ⟨b, off + i * 4 + 1, none⟩ = some y ∧ w.cell? ⟨b, off + i * 4 + 2, none⟩ = some z ∧ w.cell? ⟨b, off + i * 4 + 3, none⟩ = some (.int .i64 cs[i].dflt) ∧
      Ints w x cs[i].scope ∧ Tups w y cs[i].rows ∧ Ints w z cs[i].costs := by
  obtain ⟨qs, h1, h2, h3⟩ := h
  obtain ⟨b, off, rfl, k1, k2, k3, k4⟩ := h1.at (i := i) (by omega)
  obtain ⟨e1, e2, e3, e4⟩ := h3 i (by omega) hi
  exact ⟨b, off, _, _, _, rfl, k1, k2, k3, e4 ▸ k4, e1, e2, e3⟩

/-- The value is an instance. -/
def InsV (w : World) (v : Value) (x : Ins) : Prop := ∃ vd vh vs, v = .agg #[vd, vh, vs] ∧ Tups w vd x.doms ∧ ConsV w vh x.hard ∧ SftsV w vs x.soft
theorem InsV.below {w w' : World} {v : Value} {x : Ins} (h : InsV w v x) (hb : Below w.heap.size w w') : InsV w' v x := by
  obtain ⟨vd, vh, vs, h1, h2, h3, h4⟩ := h
  exact ⟨vd, vh, vs, h1, h2.below hb, h3.below hb, h4.below hb⟩

/-- By size at most a limit. -/
def upM (n m : Int) : Bool := decide (-m ≤ n) && decide (n ≤ m)

set_option maxHeartbeats 1000000 in
theorem small6_any (n : Int) (w : World) : Calls Tryd.prog 35 #[.int .i64 n, .int .i64 1000000] w fun e w' => e = .returned (.bool (upM n 1000000)) ∧ w' = w := by
  by_cases h1 : -1000000 ≤ n
  · by_cases h2 : n ≤ 1000000
    · have hq : upM n 1000000 = true := by simp [upM]; omega
      rw [hq]
      clear hq
      go_enter Tryd.func35, Tryd.ntmps35
      go_wp2
      go_ret
      exact ⟨rfl, rfl⟩
    · have hq : upM n 1000000 = false := by simp [upM]; omega
      rw [hq]
      clear hq
      go_enter Tryd.func35, Tryd.ntmps35
      go_wp2
      go_ret
      exact ⟨by simp <;> omega, rfl⟩
  · have hq : upM n 1000000 = false := by simp [upM]; omega
    rw [hq]
    clear hq
    go_enter Tryd.func35, Tryd.ntmps35
    go_wp2
    go_ret
    exact ⟨by simp <;> omega, rfl⟩

/-- May it be a scope, of variables less than nd? -/
def scopeB (nd : Nat) (l : List Int) : Bool :=
  if 1 ≤ l.length ∧ l.length ≤ 6 then if risB l = true then decide (0 ≤ l.getD 0 0) && decide (l.getD (l.length - 1) 0 < (nd : Int)) else false else false

set_option maxHeartbeats 2000000 in
theorem scope6_any {nd : Nat} {l : List Int} {a0 a1 a2 : Option Addr} {c0 c1 c2 n1 n2 : Nat} {v : Value} {w : World} (h : Ints w v l) :
    Calls Tryd.prog 52 #[.agg #[.slice a0 nd c0, .slice a1 n1 c1, .slice a2 n2 c2], v] w fun e w' => e = .returned (.bool (scopeB nd l)) ∧ Below w.heap.size w w' := by
  obtain ⟨a, ca, rfl, hla, hca⟩ := h.form
  unfold maxLen at hca
  have hb0 := (Below.refl w.heap.size w).alloc (Nat.le_refl _) (.cells #[.slice a0 nd c0, .slice a1 n1 c1, .slice a2 n2 c2] 26)
  have HB := hide hb0
  obtain ⟨q, hq⟩ : ∃ q, q = scopeB nd l := ⟨_, rfl⟩
  rw [← hq]
  unfold scopeB at hq
  by_cases hl : 1 ≤ l.length ∧ l.length ≤ 6
  · rw [if_pos hl] at hq
    obtain ⟨hl1, hl2⟩ := hl
    have HR := hide (Calls.toBelow (refRising_any (h.below hb0)))
    cases hr : risB l with
    | true =>
      rw [if_pos hr] at hq
      rw [hr] at HR
      obtain ⟨m, hm⟩ : ∃ m, l.length = m + 1 := ⟨l.length - 1, by omega⟩
      have h0 : 0 < l.length := by omega
      have hlast : l.length - 1 < l.length := by omega
      obtain ⟨b, o, rfl, hc0⟩ := (h.below hb0).at h0
      obtain ⟨b', o', e, hc1⟩ := (h.below hb0).at hlast
      cases e
      rw [Nat.add_zero] at hc0
      rw [show l.getD 0 0 = l[0] by simp [List.getD_eq_getElem?_getD, h0], show l.getD (l.length - 1) 0 = l[l.length - 1] by simp [List.getD_eq_getElem?_getD, hlast]] at hq
      generalize l[0] = x at *
      generalize l[l.length - 1] = y at *
      have HC := hide (fun W (hb : Below (w.alloc (.cells #[.slice a0 nd c0, .slice a1 n1 c1, .slice a2 n2 c2] 26)).heap.size (w.alloc (.cells #[.slice a0 nd c0, .slice a1 n1 c1, .slice a2 n2 c2] 26)) W) => And.intro (Below.cell_of hb hc0) (And.intro (Below.cell_of hb hc1) (Below.cell_of hb (a := ⟨w.heap.size, 0, none⟩) (v := .slice a0 nd c0) (by unfold World.cell?; rw [heap_alloc_new]; rfl))))
      have HQ := hide hq
      have hm6 : m < 6 := by omega
      rw [hm, Nat.add_sub_cancel] at HC
      rw [hm] at HR ⊢
      clear hl1 hl2 hla h0 hlast hm
      clear h hq hr hc0 hc1 hb0
      go_enter Tryd.func52, Tryd.ntmps52
      go_wp2_with fail
      refine (unhide HR).mono ?_
      rintro e w2 ⟨rfl, hb2⟩
      obtain ⟨f1, f2, f3⟩ := unhide HC w2 hb2
      have HB2 := hide ((unhide HB).trans (hb2.mono (unhide HB).size))
      clear hb2
      by_cases hx : 0 ≤ x
      · have HQ2 : Hid (q = decide (y < (nd : Int))) := hide (by rw [unhide HQ]; simp [hx])
        have hxd : decide (0 ≤ x) = true := by simpa using hx
        clear HQ hx
        go_wp2
        go_quiet (fail)
        go_wp2
        go_ret
        exact ⟨ret_bool (unhide HQ2).symm, Below.drewN1 (unhide HB2) _⟩
      · have HQ2 : Hid (q = false) := hide (by rw [unhide HQ]; simp [hx])
        have hxd : decide (0 ≤ x) = false := by simpa using hx
        clear HQ hx
        go_wp2
        go_quiet (fail)
        go_wp2
        go_ret
        exact ⟨ret_bool (unhide HQ2).symm, Below.drewN1 (unhide HB2) _⟩
    | false =>
      rw [if_neg (by simp [hr])] at hq
      rw [hr] at HR
      have HQ := hide hq
      clear h hq hr hb0
      go_enter Tryd.func52, Tryd.ntmps52
      go_wp2_with fail
      refine (unhide HR).mono ?_
      rintro e w2 ⟨rfl, hb2⟩
      have HB2 := hide ((unhide HB).trans (hb2.mono (unhide HB).size))
      clear hb2
      go_wp2
      go_ret
      exact ⟨ret_bool (unhide HQ).symm, unhide HB2⟩
  · rw [if_neg hl] at hq
    have HQ := hide hq
    have hok : Hid (l.length < 1 ∨ (¬ l.length < 1 ∧ 6 < l.length)) := hide (by omega)
    clear h hq hb0 hl
    rcases unhide hok with h1 | ⟨h1, h2⟩
    · have h1' : decide ((l.length : Int) < 1) = true := by simp; omega
      clear hok h1
      go_enter Tryd.func52, Tryd.ntmps52
      go_wp2
      go_ret
      exact ⟨ret_bool (unhide HQ).symm, unhide HB⟩
    · have h1' : decide ((l.length : Int) < 1) = false := by simp; omega
      have h2' : decide ((6 : Int) < (l.length : Int)) = true := by simp; omega
      clear hok h1
      go_enter Tryd.func52, Tryd.ntmps52
      go_wp2
      go_ret
      exact ⟨ret_bool (unhide HQ).symm, unhide HB⟩

end Go.Proofs.YtflibcfecnhjgaaDoor
