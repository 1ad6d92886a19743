/-
  The contract of shown (layer 7): it answers true.
-/
import Derived.Test.YtflibcfecnhjgaaBTab
namespace Go.Proofs.Ytflibcfecnhjgaa
open Go.RowKit
set_option linter.unusedVariables false
set_option linter.unusedSimpArgs false
set_option maxRecDepth 20000

abbrev lit4 (w : World) : World := (((w.alloc (.cells #[.int .i64 0, .int .i64 1] 3)).alloc (.cells #[.int .i64 5] 3)).alloc (.cells #[.slice (some ⟨w.heap.size, 0, none⟩) 2 2, .slice (some ⟨w.heap.size + 1, 0, none⟩) 1 1] 29)).alloc (.cells #[.int .i64 0, .int .i64 1] 3)

theorem lit4_below (w : World) : Below w.heap.size w (lit4 w) := ((((Below.refl _ w).alloc (Nat.le_refl _) _).alloc (by simp) _).alloc (by simp; omega) _).alloc (by simp; omega) _
theorem lit4_t (w : World) : Tups (lit4 w) (.slice (some ⟨w.heap.size + 1 + 1, 0, none⟩) 2 2) [[0, 1], [5]] := by
  refine ⟨[.slice (some ⟨w.heap.size, 0, none⟩) 2 2, .slice (some ⟨w.heap.size + 1, 0, none⟩) 1 1], litT_at (c := #[.slice (some ⟨w.heap.size, 0, none⟩) 2 2, .slice (some ⟨w.heap.size + 1, 0, none⟩) 1 1]) (e := 29) (fr := (0, 0)) (by simp only [alloc_at, World.size_alloc]; repeat (first | rw [if_pos True.intro] | rw [if_pos rfl] | rw [if_neg (by omega)])) rfl rfl (by simp), rfl, fun i hi hi' => ?_⟩
  match i, hi, hi' with
  | 0, _, _ => exact litI_at (c := #[.int .i64 0, .int .i64 1]) (e := 3) (fr := (0, 0)) (by simp only [alloc_at, World.size_alloc]; repeat (first | rw [if_pos True.intro] | rw [if_pos rfl] | rw [if_neg (by omega)])) rfl rfl (by simp)
  | 1, _, _ => exact litI_at (c := #[.int .i64 5]) (e := 3) (fr := (0, 0)) (by simp only [alloc_at, World.size_alloc]; repeat (first | rw [if_pos True.intro] | rw [if_pos rfl] | rw [if_neg (by omega)])) rfl rfl (by simp)
theorem lit4_i (w : World) : Ints (lit4 w) (.slice (some ⟨w.heap.size + 1 + 1 + 1, 0, none⟩) 2 2) [0, 1] :=
  litI_at (c := #[.int .i64 0, .int .i64 1]) (e := 3) (fr := (0, 0)) (by simp only [alloc_at, World.size_alloc]; repeat (first | rw [if_pos True.intro] | rw [if_pos rfl] | rw [if_neg (by omega)])) rfl rfl (by simp)

theorem full4 : fullL ([0, 1].map (domL [[0, 1], [5]])) = [[0, 5], [1, 5]] := by decide

theorem shown_full (w : World) (most : Int) : Calls Try.prog 15 #[.slice (some ⟨w.heap.size + 1 + 1, 0, none⟩) 2 2, .slice (some ⟨w.heap.size + 1 + 1 + 1, 0, none⟩) 2 2, .int .i64 most] (lit4 w) fun e w' => GathEnds w.heap.size w' e [0, 1] [[0, 5], [1, 5]] most ∧ Below w.heap.size w w' := by
  have h := full_any (most := most) (lit4_t w) (lit4_i w) (by decide) (by decide) (by rw [full4]; decide) (by decide)
  rw [full4] at h
  refine h.mono ?_
  rintro e w' ⟨hE, hb⟩
  refine ⟨?_, (lit4_below w).trans (hb.mono (lit4_below w).size)⟩
  rcases hE with ⟨h1, va, vb, h2, h3, h4, h5⟩ | h1
  · exact .inl ⟨h1, va, vb, h2, h3, h4, fun g hg => Nat.le_trans (lit4_below w).size (h5 g hg)⟩
  · exact .inr h1

theorem rows_cell {w : World} {a : Option Addr} {n c : Nat} {ll : List (List Int)} (h : Tups w (.slice a n c) ll) {i k : Nat} (hi : i < ll.length) (hk : k < ll[i].length) :
    ∃ b o b' o' c', a = some ⟨b, o, none⟩ ∧ w.cell? ⟨b, o + i, none⟩ = some (.slice (some ⟨b', o', none⟩) ll[i].length c') ∧ w.cell? ⟨b', o' + k, none⟩ = some (.int .i64 (ll[i][k])) := by
  obtain ⟨b, o, v, rfl, hc, hv⟩ := h.at hi
  obtain ⟨a', c', rfl, _, _⟩ := hv.form
  obtain ⟨b', o', rfl, hc'⟩ := hv.at hk
  exact ⟨b, o, b', o', c', rfl, hc, hc'⟩

theorem shown_diff : holdsB ⟨3, [0, 1], [], []⟩ [1, 2] = true := by decide
theorem shown_lin : holdsB ⟨6, [0], [], [2, 1, 5]⟩ [3] = false := by decide
theorem shown_cost : costB ⟨[0], [], [], 7⟩ [1] = 7 := by decide
theorem sane_diff : Sane ⟨3, [0, 1], [], []⟩ := ⟨List.Pairwise.nil, by simp, by simp [Mill], by simp⟩
theorem sane_lin : Sane ⟨6, [0], [], [2, 1, 5]⟩ := ⟨List.Pairwise.nil, by simp, by intro x hx; simp at hx; omega, by simp⟩

theorem tups_nilW (w : World) : Tups w (.slice none 0 0) [] := ⟨[], Seq.nil _ _, rfl, fun i h => by simp at h⟩

set_option maxHeartbeats 8000000 in
theorem shown7_any (w : World) : Calls Try.prog 4 #[] w fun e w' => e = .returned (.bool true) ∧ Below w.heap.size w w' := by
  go_enter Try.func4, Try.ntmps4
  go_wp2_with fail
  refine (shown_full w 2).mono ?_
  rintro e w1 ⟨hE, hb1⟩
  rcases hE with ⟨h1, va, vb, rfl, hi, ht, hn⟩ | ⟨h1, rfl⟩
  rotate_left
  · simp at h1
  obtain ⟨ua, uc, rfl, _, _⟩ := hi.form
  obtain ⟨xa, xc, rfl, _, _⟩ := ht.form
  obtain ⟨b1, o1, b2, o2, c2, rfl, k1, k2⟩ := rows_cell ht (i := 1) (k := 1) (by decide) (by decide)
  have k1 : w1.cell? ⟨b1, o1 + 1, none⟩ = some (.slice (some ⟨b2, o2, none⟩) 2 c2) := k1
  have k2 : w1.cell? ⟨b2, o2 + 1, none⟩ = some (.int .i64 5) := k2
  have hB1 := hide (hb1.alloc hb1.size (.cells #[.slice ua 2 uc, .slice (some ⟨b1, o1, none⟩) 2 xc] 36))
  have hcx : (w1.alloc (.cells #[.slice ua 2 uc, .slice (some ⟨b1, o1, none⟩) 2 xc] 36)).cell? ⟨w1.heap.size, 1, none⟩ = some (.slice (some ⟨b1, o1, none⟩) 2 xc) := by unfold World.cell?; rw [heap_alloc_new]; rfl
  have HK := hide (fun W (hb : Below (w1.alloc (.cells #[.slice ua 2 uc, .slice (some ⟨b1, o1, none⟩) 2 xc] 36)).heap.size (w1.alloc (.cells #[.slice ua 2 uc, .slice (some ⟨b1, o1, none⟩) 2 xc] 36)) W) =>
    And.intro (Below.cell_of hb hcx) (And.intro (Below.cell_of hb (cell_push0' k1 _)) (Below.cell_of hb (cell_push0' k2 _))))
  rw [show Value.slice ua [(0 : Int), 1].length uc = .slice ua 2 uc from rfl, show Value.slice (some ⟨b1, o1, none⟩) [[(0 : Int), 5], [1, 5]].length xc = .slice (some ⟨b1, o1, none⟩) 2 xc from rfl]
  have hw1 : (w1.alloc (.cells #[.slice ua 2 uc, .slice (some ⟨b1, o1, none⟩) 2 xc] 36)).heap.size = w1.heap.size + 1 := by simp
  clear hi ht hn k1 k2 hcx hb1
  have hq := shown_full (w1.alloc (.cells #[.slice ua 2 uc, .slice (some ⟨b1, o1, none⟩) 2 xc] 36)) 1
  unfold lit4 at hq
  rw [hw1] at hq
  have HQ := hide hq
  clear hq h1
  go_wp2_with fail
  refine (unhide HQ).mono ?_
  rintro e w2 ⟨hE, hb2⟩
  rcases hE with ⟨h1, _⟩ | ⟨h1, rfl⟩
  · simp at h1
  rw [← hw1] at hb2
  have hb3 := hb2.alloc (by have := hb2.size; exact this) (.cells #[.slice none 0 0, .slice none 0 0] 36)
  obtain ⟨f1, f2, f3⟩ := unhide HK _ hb3
  have HB3 := hide ((unhide hB1).trans (hb3.mono (by have := (unhide hB1).size; exact this)))
  clear h1 hb2 hb3 HQ HK hw1
  go_wp2_with fail
  refine (holds_any (c := ⟨3, [0, 1], [], []⟩) (t := [1, 2]) ⟨_, _, _, rfl, (litI_at (c := #[.int .i64 0, .int .i64 1]) (e := 3) (fr := (0, 0)) (by simp only [alloc_at, World.size_alloc]; repeat (first | rw [if_pos True.intro] | rw [if_pos rfl] | rw [if_neg (by omega)])) rfl rfl (by simp)), tups_nilW _, Seq.nil _ _⟩ (litI_at (c := #[.int .i64 1, .int .i64 2]) (e := 3) (fr := (0, 0)) (by simp only [alloc_at, World.size_alloc]; repeat (first | rw [if_pos True.intro] | rw [if_pos rfl] | rw [if_neg (by omega)])) rfl rfl (by simp)) sane_diff (by intro x hx; simp at hx; omega)).mono ?_
  rintro e w3 ⟨rfl, hb⟩
  rw [shown_diff]
  have hB4 := ((((unhide HB3).alloc (unhide HB3).size _).alloc (by have := (unhide HB3).size; simp at this ⊢; omega) _).trans (hb.mono (by have := (unhide HB3).size; simp at this ⊢; omega)))
  have HB4 := hide hB4
  clear hb hB4 f1 f2 f3
  go_wp2_with fail
  refine (holds_any (c := ⟨6, [0], [], [2, 1, 5]⟩) (t := [3]) ⟨_, _, _, rfl, (litI_at (c := #[.int .i64 0]) (e := 3) (fr := (0, 0)) (by simp only [alloc_at, World.size_alloc]; repeat (first | rw [if_pos True.intro] | rw [if_pos rfl] | rw [if_neg (by omega)])) rfl rfl (by simp)), tups_nilW _, (litI_at (c := #[.int .i64 2, .int .i64 1, .int .i64 5]) (e := 3) (fr := (0, 0)) (by simp only [alloc_at, World.size_alloc]; repeat (first | rw [if_pos True.intro] | rw [if_pos rfl] | rw [if_neg (by omega)])) rfl rfl (by simp))⟩ (litI_at (c := #[.int .i64 3]) (e := 3) (fr := (0, 0)) (by simp only [alloc_at, World.size_alloc]; repeat (first | rw [if_pos True.intro] | rw [if_pos rfl] | rw [if_neg (by omega)])) rfl rfl (by simp)) sane_lin (by intro x hx; simp at hx; omega)).mono ?_
  rintro e w4 ⟨rfl, hb⟩
  rw [shown_lin]
  have hB5 := (((((unhide HB4).alloc (unhide HB4).size _).alloc (by have := (unhide HB4).size; simp; omega) _).alloc (by have := (unhide HB4).size; simp; omega) _).trans (hb.mono (by have := (unhide HB4).size; simp; omega)))
  have HB5 := hide hB5
  clear hb hB5
  go_wp2_with fail
  refine (cost_any (s := ⟨[0], [], [], 7⟩) (t := [1]) ⟨_, _, _, rfl, (litI_at (c := #[.int .i64 0]) (e := 3) (fr := (0, 0)) (by simp only [alloc_at, World.size_alloc]; repeat (first | rw [if_pos True.intro] | rw [if_pos rfl] | rw [if_neg (by omega)])) rfl rfl (by simp)), tups_nilW _, Seq.nil _ _⟩ (litI_at (c := #[.int .i64 1]) (e := 3) (fr := (0, 0)) (by simp only [alloc_at, World.size_alloc]; repeat (first | rw [if_pos True.intro] | rw [if_pos rfl] | rw [if_neg (by omega)])) rfl rfl (by simp)) List.Pairwise.nil (by simp)).mono ?_
  rintro e w5 ⟨rfl, hb⟩
  rw [shown_cost]
  have hB6 := ((((unhide HB5).alloc (unhide HB5).size _).alloc (by have := (unhide HB5).size; simp; omega) _).trans (hb.mono (by have := (unhide HB5).size; simp; omega)))
  have HB6 := hide hB6
  clear hb hB6
  go_wp2
  go_ret
  exact ⟨rfl, unhide HB6⟩

end Go.Proofs.Ytflibcfecnhjgaa
