/-
  The document's Neighbors and Clique; and the law's same.
-/
import Derived.Test.YtflibcfecnhjgaaDoorGRefG
import Derived.Test.YtflibcfecnhjgaaDoorGNb
import Derived.Test.YtflibcfecnhjgaaDoorTupCmp
namespace Go.Proofs.YtflibcfecnhjgaaDoor
open Go.RowKit
set_option linter.unusedVariables false
set_option linter.unusedSimpArgs false
set_option maxRecDepth 20000

theorem nbUp_skip {g : List Nat} {a k : Nat} (hb : besB g a k = false) : nbUp g a (k + 1) = nbUp g a k := by
  refine Asc.ext (nbUp_asc _ _ _) (nbUp_asc _ _ _) (fun x => ?_)
  rw [mem_nbUp, mem_nbUp]
  constructor
  · rintro ⟨j, h1, h2, h3, rfl⟩
    rcases Nat.lt_or_ge j k with h | h
    · exact ⟨j, h, h2, h3, rfl⟩
    · have e : j = k := by omega
      subst e
      rw [hb] at h3; cases h3
  · rintro ⟨j, h1, h2, h3, rfl⟩
    exact ⟨j, by omega, h2, h3, rfl⟩

set_option maxHeartbeats 2000000 in
theorem refNeighbors_any {B0 : Nat} {M : List (List Bool)} {v : Value} {bs : List Nat} {a : Int} {w : World} (hM : OwnMat B0 w v M.length M bs) (hl : M.length ≤ 40) :
    Calls Tryd.prog 25 #[v, .int .i64 a] w fun e w' => ∃ u, e = .returned u ∧ OwnI w.heap.size w' u (nbL (graphR M) a) ∧ Below w.heap.size w w' := by
  have hb0 := (Below.refl w.heap.size w).alloc (Nat.le_refl _) (.cells #[] 3)
  have ho0 : OwnI w.heap.size (w.alloc (.cells #[] 3)) (.slice (some ⟨w.heap.size, 0, none⟩) 0 0) [] := own_litI (Nat.le_refl _)
  have HM := hide (fun W (hb : Below w.heap.size w W) => hM.below hb)
  obtain ⟨av, cv, rfl, hvl, hvm⟩ := hM.form
  unfold maxLen at hvm
  have hGl := graphR_len M
  have HB := hide (fun i j => graphR_bes (M := M) i j)
  obtain ⟨G, hG⟩ : ∃ G, G = graphR M := ⟨_, rfl⟩
  rw [← hG] at hGl HB ⊢
  have HGL := hide hGl
  clear hM hG hGl
  have hpB : ptB G.length a = (decide (0 ≤ a) && decide (a < (M.length : Int))) := by unfold ptB; rw [unhide HGL]
  cases hp : ptB G.length a with
  | false =>
    have e : nbL G a = [] := by unfold nbL; rw [if_neg (by simp [hp])]
    rw [e]
    have hcase : Hid (¬ 0 < M.length ∨ (0 < M.length ∧ ¬ 0 ≤ a) ∨ (0 < M.length ∧ 0 ≤ a ∧ ¬ a < (M.length : Int))) := hide (by
      rw [hp] at hpB
      by_cases h1 : 0 < M.length
      · by_cases h2 : 0 ≤ a
        · right; right
          refine ⟨h1, h2, fun h3 => ?_⟩
          simp [h2, h3] at hpB
        · exact .inr (.inl ⟨h1, h2⟩)
      · exact .inl h1)
    have HO := hide (And.intro ho0 hb0)
    clear ho0 hb0 hp hpB
    go_enter Tryd.func25, Tryd.ntmps25
    go_wp2
    go_loopw [5, 6] (fun v i wr => i = .int .i64 0 ∧ v = .slice (some ⟨w.heap.size, 0, none⟩) 0 0 ∧ wr = w.alloc (.cells #[] 3)) (fun _ i _ => 0)
    case atStart => exact ⟨rfl, rfl, rfl⟩
    case round =>
      obtain ⟨rfl, rfl, rfl⟩ := hrel
      rcases unhide hcase with h1 | ⟨h1, h2⟩ | ⟨h1, h2, h3⟩
      all_goals
        clear hcase
        go_wp2
        go_ret
        exact ⟨_, rfl, (unhide HO).1, (unhide HO).2⟩
  | true =>
    obtain ⟨h0, h1⟩ := ptB_iff.1 hp
    rw [unhide HGL] at h1
    obtain ⟨k0, rfl⟩ : ∃ k0 : Nat, a = (k0 : Int) := ⟨a.toNat, by omega⟩
    have hk0 : k0 < M.length := by omega
    clear hp hpB
    go_enter Tryd.func25, Tryd.ntmps25
    go_wp2
    go_loopw [5, 6] (fun v i wr => ∃ k : Nat, k ≤ M.length ∧ i = .int .i64 k ∧ OwnI w.heap.size wr v (nbUp G k0 k) ∧ Below w.heap.size w wr) (fun _ i _ => M.length - (intOf i).toNat)
    case atStart => exact ⟨0, by omega, rfl, by simpa [nbUp] using ho0, hb0⟩
    case round =>
      clear ho0 hb0
      obtain ⟨k, hk, rfl, hown, hbel⟩ := hrel
      rename World => wr
      have hszr := hbel.size
      obtain ⟨ov, oc, rfl, hol, hoc⟩ := (Seq.of_own hown).form
      unfold maxLen at hoc
      by_cases hkl : k < M.length
      · obtain ⟨b, o, r, e, c1, c2, _⟩ := (unhide HM wr hbel).at hk0 hkl
        subst e
        have hbes : besB G k0 k = (M.getD k0 []).getD k false := by rw [unhide HB]; simp [hkl]; rfl
        have hlen := nbUp_len G k0 k
        rw [← hbes] at c2
        cases hb : besB G k0 k with
        | true =>
          rw [hb] at c2
          have hnx := nbUp_next (g := G) (a := k0) (m := k) (Nat.le_refl k) (fun i hi hik => by omega) hb
          rw [if_pos (by rw [unhide HGL]; exact hkl)] at hnx
          have HN := hide hnx
          have HO := hide hown
          clear hnx hb hbes hown
          go_wp2_with (at_builtin; refine wp_app_int rfl (.tmp 31) (.tmp 33) rfl (B := w.heap.size) (unhide HO) rfl (by omega) rfl (by omega) ?_; intro v5 w5 hown5 hg5)
          go_roundw
          case rel => exact ⟨k + 1, by omega, by go_num, by rw [unhide HN]; exact hown5, hbel.trans hg5.below⟩
          case measure => simp [intOf]; omega
        | false =>
          rw [hb] at c2
          have HN := hide (nbUp_skip hb)
          have HO := hide hown
          clear hb hbes hown
          go_wp2
          go_roundw
          case rel => exact ⟨k + 1, by omega, by go_num, by rw [unhide HN]; exact unhide HO, hbel⟩
          case measure => simp [intOf]; omega
      · have hkM : M.length = k := by omega
        have hend : nbUp G k0 k = nbL G (k0 : Int) := nbUp_end (by rw [unhide HGL]; exact hk0) (fun i hi => by
          rw [unhide HB]
          have : ¬ i < M.length := by omega
          simp [this])
        rw [hend] at hown hol ⊢
        have HO := hide hown
        clear hend hown
        go_wp2
        go_ret
        exact ⟨_, rfl, unhide HO, hbel⟩

/-- What the document's Clique asks of two places. -/
def pairOk (g : List Nat) (a b : Int) : Bool := a == b || besB g a.toNat b.toNat

theorem clqB_eq (g : List Nat) (l : List Int) : clqB g l = (l.all (ptB g.length) && l.all fun a => l.all (pairOk g a)) := by
  rw [Bool.eq_iff_iff]
  unfold clqB pairOk
  simp only [List.all_eq_true, Bool.and_eq_true]
  exact ⟨fun h => ⟨fun a ha => (h a ha).1, fun a ha => (h a ha).2⟩, fun h a ha => ⟨h.1 a ha, h.2 a ha⟩⟩

end Go.Proofs.YtflibcfecnhjgaaDoor
