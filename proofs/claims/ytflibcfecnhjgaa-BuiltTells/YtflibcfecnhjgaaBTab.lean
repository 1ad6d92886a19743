/-
  The contracts of Full and Table.
-/
import Derived.Test.YtflibcfecnhjgaaBGath2
import Derived.Test.YtflibcfecnhjgaaBoxSt
namespace Go.Proofs.Ytflibcfecnhjgaa
open Go.RowKit
set_option linter.unusedVariables false
set_option linter.unusedSimpArgs false
set_option maxRecDepth 20000

set_option maxHeartbeats 1000000 in
theorem full1_any (vt : Value) (w : World) : Calls Try.prog 31 #[vt] w fun e w' => e = .returned (.bool true) ∧ Below w.heap.size w w' := by
  go_enter Try.func31, Try.ntmps31
  go_wp2
  go_ret
  exact ⟨rfl, Below.refl _ _⟩

theorem boxS_at {w : World} {b : Nat} {a a' : Option Addr} {n n' c c' : Nat} {t : TypeId} (h : w.heap[b]? = some (.cells #[.slice a n c, .slice a' n' c'] t)) : BoxS w b := by
  intro off u hu
  simp only [World.cell?, h] at hu
  match off, hu with
  | 0, hu => simp at hu; exact ⟨_, _, _, hu.symm⟩
  | 1, hu => simp at hu; exact ⟨_, _, _, hu.symm⟩
  | off + 2, hu => simp at hu

set_option maxHeartbeats 4000000 in
theorem full_any {most : Int} {doms : List (List Int)} {scope : List Int} {vd vs : Value} {w : World} (hd : Tups w vd doms) (hs : Ints w vs scope) (hin : ∀ x ∈ scope, 0 ≤ x ∧ x < (doms.length : Int)) (hlen : scope.length < 100000)
    (hcnt : (fullL (scope.map (domL doms))).length < 1000000000) (hdl : ∀ d ∈ doms, d.length < 1000000000) :
    Calls Try.prog 15 #[vd, vs, .int .i64 most] w fun e w' => GathEnds w.heap.size w' e scope (fullL (scope.map (domL doms))) most ∧ Below w.heap.size w w' := by
  obtain ⟨a, ca, rfl, hla, hca⟩ := hd.form
  obtain ⟨b, cb, rfl, hlb, hcb⟩ := hs.form
  unfold maxLen at hca hcb
  have hb0 := (Below.refl w.heap.size w).alloc (Nat.le_refl _) (.cells #[.slice none 0 0, .slice none 0 0] 36)
  have HG := hide (gather_any (most := most) (F := 31) (caps := #[]) (p := fun _ => true) (R := fullL (scope.map (domL doms))) (hd.below hb0) (hs.below hb0) hin hlen hcnt hdl (fun args W => enters Try.func31 (by kernel_rfl) rfl args W) (fun W t vt _ _ _ => full1_any vt W) (List.filter_eq_self.2 (fun _ _ => rfl)).symm)
  have HB0 := hide hb0
  generalize fullL (scope.map (domL doms)) = R at *
  clear hd hs hin hcnt hdl hb0
  go_enter Try.func15, Try.ntmps15
  go_wp2_with fail
  refine (unhide HG).mono ?_
  rintro e w2 ⟨hE, hb2⟩
  have hh : w2.heap[w.heap.size]? = some (.cells #[.slice none 0 0, .slice none 0 0] 36) := by rw [hb2.block _ (by simp)]; exact heap_alloc_new _ _
  have hc0 : w2.cell? ⟨w.heap.size, 0, none⟩ = some (.slice none 0 0) := by unfold World.cell?; rw [hh]; rfl
  have hc1 : w2.cell? ⟨w.heap.size, 1, none⟩ = some (.slice none 0 0) := by unfold World.cell?; rw [hh]; rfl
  have hf0 : w2.frozen? ⟨w.heap.size, 0, none⟩ = false := frozen_of_row _ _ _ _ _ hh
  have hf1 : w2.frozen? ⟨w.heap.size, 1, none⟩ = false := frozen_of_row _ _ _ _ _ hh
  have hB2 := (unhide HB0).trans (hb2.mono (by simp))
  have HB2 := hide hB2
  have HBX := hide (boxS_at hh)
  clear hb2 hh hB2 HB0 HG
  rcases hE with ⟨h1, va, vb, rfl, hi, ht, hn⟩ | ⟨h1, rfl⟩
  · obtain ⟨ua, uc, rfl, _, _⟩ := hi.form
    obtain ⟨xa, xc, rfl, _, _⟩ := ht.form
    have hne : (Value.slice xa R.length xc).ownBlock ≠ some w.heap.size := fun e => by have := hn _ e; simp at this; omega
    have hfin := rel_store (unhide HBX) hc0 hi ht hne
    have HF := hide hfin
    have HN := hide hn
    clear hi ht hn hfin hne
    go_wp2
    refine bodyPost_ret (v := .tuple #[.agg #[.slice ua scope.length uc, .slice xa R.length xc], .int .i64 0]) (by simp [results, Try.results15, go_sem, hc0, hc1]) rfl ⟨.inl ⟨h1, _, _, rfl, ?_, ?_, fun g hg => Nat.le_trans (by simp) (unhide HN g hg)⟩, below_store (unhide HB2) (Nat.le_refl _) _ _⟩
    · obtain ⟨_, _, e, k1, k2⟩ := unhide HF
      cases e
      exact k1
    · obtain ⟨_, _, e, k1, k2⟩ := unhide HF
      cases e
      exact k2
  · go_wp2
    refine bodyPost_ret (v := .tuple #[.agg #[.slice none 0 0, .slice none 0 0], .int .i64 9]) (by simp [results, Try.results15, go_sem, hc0, hc1]) rfl ⟨.inr ⟨h1, rfl⟩, below_store (unhide HB2) (Nat.le_refl _) _ _⟩

/-- The block of a constraint's variable. -/
def ConAt (w : World) (b : Nat) (k : Int) (x y z : Value) : Prop := w.heap[b]? = some (.cells #[.int .i64 k, x, y, z] 31)
theorem ConAt.cells {w : World} {b : Nat} {k : Int} {x y z : Value} (h : ConAt w b k x y z) : w.cell? ⟨b, 0, none⟩ = some (.int .i64 k) ∧ w.cell? ⟨b, 1, none⟩ = some x ∧ w.cell? ⟨b, 2, none⟩ = some y ∧ w.cell? ⟨b, 3, none⟩ = some z := by
  unfold ConAt at h
  refine ⟨?_, ?_, ?_, ?_⟩ <;> (unfold World.cell?; rw [h]; rfl)

set_option maxHeartbeats 1000000 in
theorem table1_any {b : Nat} {c : Con} {x y z : Value} {w : World} {vt : Value} {t : List Int} (h : ConAt w b c.kind x y z) (hx : Ints w x c.scope) (hy : Tups w y c.rows) (hz : Ints w z c.args) (ht : Ints w vt t) (hs : Sane c) (hm : Mill t) :
    Calls Try.prog 28 #[vt, .pointer (some ⟨b, 0, none⟩)] w fun e w' => e = .returned (.bool (holdsB c t)) ∧ Below w.heap.size w w' := by
  have HH := hide (holds_any (c := c) (v := .agg #[.int .i64 c.kind, x, y, z]) ⟨x, y, z, rfl, hx, hy, hz⟩ ht hs hm)
  obtain ⟨k0, k1, k2, k3⟩ := h.cells
  obtain ⟨a1, c1, rfl, _, _⟩ := hx.form
  obtain ⟨a2, c2, rfl, _, _⟩ := hy.form
  obtain ⟨a3, c3, rfl, _, _⟩ := hz.form
  obtain ⟨a4, c4, rfl, _, _⟩ := ht.form
  clear h hx hy hz ht hs hm
  generalize holdsB c t = q at *
  go_enter Try.func28, Try.ntmps28
  go_wp2_with fail
  refine (unhide HH).mono ?_
  rintro e w2 ⟨rfl, hb⟩
  go_wp2
  go_ret
  exact ⟨rfl, hb⟩

set_option maxHeartbeats 4000000 in
theorem table_any {most : Int} {doms : List (List Int)} {c : Con} {vd vc : Value} {w : World} (hd : Tups w vd doms) (hc : ConV w vc c) (hin : ∀ x ∈ c.scope, 0 ≤ x ∧ x < (doms.length : Int))
    (hcnt : (fullL (c.scope.map (domL doms))).length < 1000000000) (hdl : ∀ d ∈ doms, d.length < 1000000000) (hs : Sane c) (hm : ∀ d ∈ doms, Mill d) :
    Calls Try.prog 10 #[vd, vc, .int .i64 most] w fun e w' => GathEnds w.heap.size w' e c.scope ((fullL (c.scope.map (domL doms))).filter (holdsB c)) most ∧ Below w.heap.size w w' := by
  obtain ⟨a, ca, rfl, hla, hca⟩ := hd.form
  obtain ⟨vs, vr, va, rfl, g1, g2, g3⟩ := hc
  obtain ⟨a1, c1, rfl, l1, m1⟩ := g1.form
  obtain ⟨a2, c2, rfl, l2, m2⟩ := g2.form
  obtain ⟨a3, c3, rfl, l3, m3⟩ := g3.form
  unfold maxLen at hca m1 m2 m3
  have hb0 := ((Below.refl w.heap.size w).alloc (Nat.le_refl _) (.cells #[.int .i64 c.kind, .slice a1 c.scope.length c1, .slice a2 c.rows.length c2, .slice a3 c.args.length c3] 31)).alloc (by simp) (.cells #[.slice none 0 0, .slice none 0 0] 36)
  have hca0 : ConAt ((w.alloc (.cells #[.int .i64 c.kind, .slice a1 c.scope.length c1, .slice a2 c.rows.length c2, .slice a3 c.args.length c3] 31)).alloc (.cells #[.slice none 0 0, .slice none 0 0] 36)) w.heap.size c.kind (.slice a1 c.scope.length c1) (.slice a2 c.rows.length c2) (.slice a3 c.args.length c3) := by
    unfold ConAt; simp only [alloc_at, World.size_alloc]; repeat (first | rw [if_pos True.intro] | rw [if_pos rfl] | rw [if_neg (by omega)])
  have hrb : ((w.alloc (.cells #[.int .i64 c.kind, .slice a1 c.scope.length c1, .slice a2 c.rows.length c2, .slice a3 c.args.length c3] 31)).alloc (.cells #[.slice none 0 0, .slice none 0 0] 36)).heap[w.heap.size + 1]? = some (.cells #[.slice none 0 0, .slice none 0 0] 36) := by
    simp only [alloc_at, World.size_alloc]; repeat (first | rw [if_pos True.intro] | rw [if_pos rfl] | rw [if_neg (by omega)])
  have hsz : ((w.alloc (.cells #[.int .i64 c.kind, .slice a1 c.scope.length c1, .slice a2 c.rows.length c2, .slice a3 c.args.length c3] 31)).alloc (.cells #[.slice none 0 0, .slice none 0 0] 36)).heap.size = w.heap.size + 2 := by simp
  obtain ⟨w1, hw1⟩ : ∃ W, W = ((w.alloc (.cells #[.int .i64 c.kind, .slice a1 c.scope.length c1, .slice a2 c.rows.length c2, .slice a3 c.args.length c3] 31)).alloc (.cells #[.slice none 0 0, .slice none 0 0] 36)) := ⟨_, rfl⟩
  rw [← hw1] at hb0 hca0 hrb hsz
  have hg := gather_any (most := most) (F := 28) (caps := #[.pointer (some ⟨w.heap.size, 0, none⟩)]) (p := holdsB c) (R := (fullL (c.scope.map (domL doms))).filter (holdsB c)) (hd.below hb0) (g1.below hb0) hin (by have := hs.scope; omega) hcnt hdl (fun args W => enters Try.func28 (by kernel_rfl) rfl args W)
    (fun W t vt hW ht hmem => table1_any (by unfold ConAt; rw [hW.block _ (by omega)]; exact hca0) ((g1.below hb0).below hW) ((g2.below hb0).below hW) ((g3.below hb0).below hW) ht hs (fun x hx => by
      obtain ⟨e1, e2⟩ := (mem_full _ t).1 hmem
      obtain ⟨i, hi, rfl⟩ := List.getElem_of_mem hx
      have hi' : i < (c.scope.map (domL doms)).length := by omega
      have h3 := e2 i hi hi'
      rw [List.getElem_map] at h3
      have hsc : i < c.scope.length := by simpa using hi'
      have hii := hin _ (List.getElem_mem hsc)
      have hk : (c.scope[i]).toNat < doms.length := by omega
      have hdm : domL doms c.scope[i] = doms[(c.scope[i]).toNat] := by unfold domL; simp [List.getD_eq_getElem?_getD, hk]
      rw [hdm] at h3
      exact hm _ (List.getElem_mem hk) _ h3)) rfl
  have HG := hide hg
  have HB0 := hide hb0
  have hw1s : Hid (w1 = ((w.alloc (.cells #[.int .i64 c.kind, .slice a1 c.scope.length c1, .slice a2 c.rows.length c2, .slice a3 c.args.length c3] 31)).alloc (.cells #[.slice none 0 0, .slice none 0 0] 36))) := hide hw1
  have HRB := hide hrb
  have HSZ := hide hsz
  clear hd g1 g2 g3 hin hcnt hdl hb0 hg hs hm hca0 hrb hsz hw1
  generalize (fullL (c.scope.map (domL doms))).filter (holdsB c) = R at *
  go_enter Try.func10, Try.ntmps10
  go_wp2_with fail
  rw [← unhide hw1s]
  refine (unhide HG).mono ?_
  rintro e w2 ⟨hE, hb2⟩
  have hsz := unhide HSZ
  have hh : w2.heap[w.heap.size + 1]? = some (.cells #[.slice none 0 0, .slice none 0 0] 36) := by rw [hb2.block _ (by omega)]; exact unhide HRB
  have hc0 : w2.cell? ⟨w.heap.size + 1, 0, none⟩ = some (.slice none 0 0) := by unfold World.cell?; rw [hh]; rfl
  have hc1 : w2.cell? ⟨w.heap.size + 1, 1, none⟩ = some (.slice none 0 0) := by unfold World.cell?; rw [hh]; rfl
  have hf0 : w2.frozen? ⟨w.heap.size + 1, 0, none⟩ = false := frozen_of_row _ _ _ _ _ hh
  have hf1 : w2.frozen? ⟨w.heap.size + 1, 1, none⟩ = false := frozen_of_row _ _ _ _ _ hh
  have hB2 := (unhide HB0).trans (hb2.mono (by omega))
  have HB2 := hide hB2
  have HBX := hide (boxS_at hh)
  clear hb2 hh hB2 HB0 HG HRB hw1s
  rcases hE with ⟨h1, va, vb, rfl, hi, ht, hn⟩ | ⟨h1, rfl⟩
  · obtain ⟨ua, uc, rfl, _, _⟩ := hi.form
    obtain ⟨xa, xc, rfl, _, _⟩ := ht.form
    have hne : (Value.slice xa R.length xc).ownBlock ≠ some (w.heap.size + 1) := fun e => by have := hn _ e; omega
    have hfin := rel_store (unhide HBX) hc0 hi ht hne
    have HF := hide hfin
    have HN : Hid (∀ g, (Value.slice xa R.length xc).ownBlock = some g → w.heap.size ≤ g) := hide (fun g hg => by have := hn g hg; omega)
    clear hi ht hn hfin hne hsz
    go_wp2
    refine bodyPost_ret (v := .tuple #[.agg #[.slice ua c.scope.length uc, .slice xa R.length xc], .int .i64 0]) (by simp [results, Try.results10, go_sem, hc0, hc1]) rfl ⟨.inl ⟨h1, _, _, rfl, ?_, ?_, unhide HN⟩, below_store (unhide HB2) (Nat.le_succ _) _ _⟩
    · obtain ⟨_, _, e, k1, k2⟩ := unhide HF
      cases e
      exact k1
    · obtain ⟨_, _, e, k1, k2⟩ := unhide HF
      cases e
      exact k2
  · clear hsz
    go_wp2
    refine bodyPost_ret (v := .tuple #[.agg #[.slice none 0 0, .slice none 0 0], .int .i64 9]) (by simp [results, Try.results10, go_sem, hc0, hc1]) rfl ⟨.inr ⟨h1, rfl⟩, below_store (unhide HB2) (Nat.le_succ _) _ _⟩

end Go.Proofs.Ytflibcfecnhjgaa
