/-
  The contracts of Project, and of the document's Project.
-/
import Derived.Test.YtafpecdmaogohaaGreatRelMake
import Derived.Test.YtafpecdmaogohaaGreatRelSame
import Derived.Test.YtafpecdmaogohaaGreatRefSets
import Derived.Deep.RegionHeld3
namespace Go.Proofs.YtafpecdmaogohaaGreat
open Go.RowKit
set_option linter.unusedVariables false
set_option linter.unusedSimpArgs false
set_option maxRecDepth 20000

/-- The places, of the first n, of variables that are among these. -/
def idxL (s vars : List Int) (n : Nat) : List Int := ((List.range n).filter fun k => inB vars (s.getD k 0)).map Int.ofNat

theorem idxL_hit {s vars : List Int} {k : Nat} (hk : k < s.length) (h : inB vars s[k] = true) : idxL s vars (k + 1) = idxL s vars k ++ [(k : Int)] := by
  unfold idxL
  rw [List.range_succ, List.filter_append, List.map_append]
  have hd : inB vars (s.getD k 0) = true := by simpa [hk] using h
  simp only [List.filter_cons, hd, if_true, List.filter_nil, List.map_cons, List.map_nil]
  rfl
theorem idxL_miss {s vars : List Int} {k : Nat} (hk : k < s.length) (h : inB vars s[k] = false) : idxL s vars (k + 1) = idxL s vars k := by
  unfold idxL
  rw [List.range_succ, List.filter_append, List.map_append]
  have hd : inB vars (s.getD k 0) = false := by simpa [hk] using h
  simp only [List.filter_cons, hd]; simp
theorem idxL_le (s vars : List Int) (k : Nat) : (idxL s vars k).length ≤ k := by
  unfold idxL
  rw [List.length_map]
  exact Nat.le_trans (List.length_filter_le _ _) (by simp)
theorem idxL_range {s vars : List Int} {n : Nat} {p : Int} (h : p ∈ idxL s vars n) : ∃ k : Nat, k < n ∧ p = k := by
  unfold idxL at h
  obtain ⟨k, hk, rfl⟩ := List.mem_map.1 h
  exact ⟨k, by simpa using (List.mem_filter.1 hk).1, rfl⟩

theorem pick_idx (s vars : List Int) : ∀ k, k ≤ s.length → pickL s (idxL s vars k) = meetL (s.take k) vars
  | 0, _ => rfl
  | k + 1, hk => by
    have hkl : k < s.length := by omega
    have ih := pick_idx s vars k (by omega)
    rw [meetL_snoc hkl]
    cases h : inB vars s[k] with
    | true =>
      have hm : s[k] ∈ vars := by simpa [inB] using h
      rw [idxL_hit hkl h, pickL_snoc, ih, if_pos hm, if_pos (by omega)]
      simp [hkl]
    | false =>
      have hm : s[k] ∉ vars := by simpa [inB] using h
      rw [idxL_miss hkl h, ih, if_neg hm]; simp

def projL (s : List Int) (ll : List (List Int)) (vars : List Int) : List (List Int) := cutL ll ((meetL s vars).map (placeL s))

theorem idx_all {s : List Int} (vars : List Int) (hn : s.Nodup) : pickL s (idxL s vars s.length) = meetL s vars ∧ (meetL s vars).map (placeL s) = idxL s vars s.length := by
  have h := pick_idx s vars s.length (Nat.le_refl _)
  rw [List.take_length] at h
  refine ⟨h, ?_⟩
  rw [← h]
  exact pick_place (fun p hp => idxL_range hp) hn

theorem inB_sort (l : List Int) (x : Int) : inB (sortI l) x = inB l x := by simp [inB, sortI_mem]

theorem cell_push {w : World} {x : Addr} {v : Value} (h : w.cell? x = some v) (o : Obj) : (w.alloc o).cell? x = some v := Below.cell_of ((Below.refl _ _).alloc (Nat.le_refl _) o) h

theorem box2 {w W : World} {a a' b b' : Option Addr} {n n' m m' c c' d d' : Nat} {t t' : TypeId}
    (hb : Below ((w.alloc (.cells #[.slice a n c, .slice a' n' c'] t)).alloc (.cells #[.slice b m d, .slice b' m' d'] t')).heap.size ((w.alloc (.cells #[.slice a n c, .slice a' n' c'] t)).alloc (.cells #[.slice b m d, .slice b' m' d'] t')) W) :
    (W.cell? ⟨w.heap.size, 0, none⟩ = some (.slice a n c) ∧ W.cell? ⟨w.heap.size, 1, none⟩ = some (.slice a' n' c')) ∧ (W.cell? ⟨w.heap.size + 1, 0, none⟩ = some (.slice b m d) ∧ W.cell? ⟨w.heap.size + 1, 1, none⟩ = some (.slice b' m' d')) ∧
    (W.frozen? ⟨w.heap.size + 1, 0, none⟩ = false ∧ W.frozen? ⟨w.heap.size + 1, 1, none⟩ = false) ∧ BoxS W (w.heap.size + 1) := by
  have h1 := box_cells hb
  simp only [World.size_alloc] at h1
  refine ⟨⟨?_, ?_⟩, ⟨h1.1, h1.2.1⟩, ⟨h1.2.2.1, h1.2.2.2⟩, ?_⟩
  · rw [hb.cell (by simp; omega)]; simp
  · rw [hb.cell (by simp; omega)]; simp
  · have := BoxS.of_below hb; simpa using this

set_option maxHeartbeats 8000000 in
theorem project_nw {s vars : List Int} {ll : List (List Int)} {v vv : Value} {w : World} (h : RelV w v s ll) (hv : Ints w vv vars) (hn : s.Nodup) (hl : ll.length < 100000) (hsl : s.length < 100000000) (hvl : vars.length < 100000000) :
    Calls Tryz.prog 31 #[v, vv] w fun e w' => ∃ x y, e = .returned (.agg #[x, y]) ∧ RelV w' (.agg #[x, y]) (meetL s vars) (projL s ll vars) ∧ (∀ b, b < w.heap.size → y.ownBlock ≠ some b) ∧ Below w.heap.size w w' := by
  obtain ⟨a, ca, b, cb, rfl, k1, k2, k3, k4, hs, ht⟩ := h.form
  obtain ⟨d, cd, rfl, k5, k6⟩ := hv.form
  unfold maxLen at k2 k4 k6
  have hb0 := b2x w (.cells #[.slice a s.length ca, .slice b ll.length cb] 29) (.cells #[.slice none 0 0, .slice none 0 0] 29)
  have HC := hide (cloneI_any (hv.below hb0) hvl)
  have HIDX := hide (idx_all vars hn)
  have HPR := hide (show projL s ll vars = cutL ll ((meetL s vars).map (placeL s)) from rfl)
  generalize projL s ll vars = PR at HPR
  have hz0 : w.heap.size ≤ ((w.alloc (.cells #[.slice a s.length ca, .slice b ll.length cb] 29)).alloc (.cells #[.slice none 0 0, .slice none 0 0] 29)).heap.size := by simp; omega
  clear h hv hn
  go_enter Tryz.func31, Tryz.ntmps31
  go_wp2_with fail
  refine (unhide HC).mono ?_
  rintro e w1 ⟨vw, rfl, hw1, hb1⟩
  have HSRT := hide (sortInts_any (HoldsI.of_own hw1) hb1.size (by omega))
  clear HC hw1
  go_wp2_with fail
  refine (unhide HSRT).mono ?_
  rintro e w2 ⟨rfl, hw2, hb2⟩
  have hb2' := hb1.trans hb2
  have hbel2 := hb0.trans (hb2'.mono hz0)
  have hs2 := hs.below hbel2
  have ht2 := ht.below hbel2
  obtain ⟨⟨hc0, hc1⟩, _, _, _⟩ := box2 hb2'
  have hwi := hw2.ints
  have HB2 := hide hb2'
  have hz2 : w.heap.size + 1 < w2.heap.size := by have := hb2'.size; simp at this; omega
  have hc0' := cell_push hc0
  clear HSRT hs ht hb1 hb2 hb2' hw2
  go_wp2
  go_loopw [6, 7, 8, 9, 10, 19] (fun v _ _ _ _ i wr => ∃ k : Nat, k ≤ s.length ∧ i = .int .i64 k ∧ OwnI w2.heap.size wr v (idxL s vars k) ∧ Below w2.heap.size w2 wr) (fun _ _ _ _ _ i _ => s.length - (intOf i).toNat)
  case atStart => exact ⟨0, by omega, rfl, own_litI (Nat.le_refl _), (Below.refl _ _).alloc (Nat.le_refl _) _⟩
  case round =>
    obtain ⟨k, hk, rfl, hown, hbel⟩ := hrel
    have hz := hbel.size
    have hil := idxL_le s vars k
    by_cases hkl : k < s.length
    · obtain ⟨bl, ol, rfl, hcl⟩ := (hs2.below hbel).at hkl
      have HBS := hide (search_ints (x := s[k]) (hwi.below hbel) (sortI_up vars) (by rw [sortI_len]; omega))
      rw [inB_sort] at HBS
      obtain ⟨wa, wc, hwe, _, _⟩ := (hwi.below hbel).form
      have HH := hide (fun h => idxL_hit (vars := vars) hkl h)
      have HM := hide (fun h => idxL_miss (vars := vars) hkl h)
      generalize inB vars s[k] = q at HBS HH HM
      clear hs2 ht2 hwi hwe
      cases q with
      | true =>
        have HN := hide (unhide HH rfl)
        clear HH HM
        go_wp2_with (first | (go_at_call 47; refine (unhide HBS).mono ?_; rintro e w' ⟨j, rfl, m, rfl⟩) | (at_builtin; refine wp_app_int rfl (.tmp 31) (.tmp 33) rfl (own_drewN hown m) rfl hz rfl (by omega) ?_; intro v' w3 hown3 hgrew))
        go_roundw
        case rel => exact ⟨k + 1, by omega, by go_num, by rw [unhide HN]; exact hown3, (Below.drewN1 hbel m).trans hgrew.below⟩
        case measure => simp [intOf]; omega
      | false =>
        have HN := hide (unhide HM rfl)
        clear HH HM
        go_wp2_with (go_at_call 47; refine (unhide HBS).mono ?_; rintro e w' ⟨j, rfl, m, rfl⟩)
        go_roundw
        case rel => exact ⟨k + 1, by omega, by go_num, by rw [unhide HN]; exact own_drewN hown m, Below.drewN1 hbel m⟩
        case measure => simp [intOf]; omega
    · have hkk : k = s.length := by omega
      subst hkk
      have hps := Seq.of_own hown
      have hsW := hs2.below hbel
      have htW := ht2.below hbel
      have hbW := below_then (unhide HB2) hbel
      have hpl := idxL_le s vars s.length
      generalize idxL s vars s.length = ps at *
      obtain ⟨pa, pc, hpe, _, _⟩ := hps.form
      rw [hpe] at hps ⊢
      have HK := hide (fun W (hb : Below wr.heap.size wr W) => box2 (below_then hbW hb))
      have HPK := hide (fun W (hb : Below wr.heap.size wr W) => pick_any (hsW.below hb) (hps.below hb) (by omega))
      have HCT := hide (fun W (hb : Below wr.heap.size wr W) => cut_any (htW.below hb) (hps.below hb) hl (by omega))
      have hbR := Below.refl wr.heap.size wr
      have hwz : w.heap.size + 1 < wr.heap.size := by omega
      have hbT := hide (hbel2.trans (hbel.mono (by omega)))
      clear hs2 ht2 hwi hpe hown hps hsW htW hc0 hc1
      go_wp2
      go_region_held3 (fun W => W.cell? ⟨w.heap.size, 0, none⟩ = some (.slice a s.length ca) ∧ W.cell? ⟨w.heap.size, 1, none⟩ = some (.slice b ll.length cb)) (first | exact (unhide HK _ (by first | exact hB2 | exact hB1 | exact hbR | exact below_same rfl rfl rfl rfl)).1 | go_keep)
        (first
          | (go_at_call 34; refine (unhide HPK _ (by first | exact hbR | exact below_same rfl rfl rfl rfl)).mono ?_; rintro e w3 ⟨u3, rfl, hu3, hun3, hb3⟩; obtain ⟨ua, uc, hue, _, _⟩ := hu3.form; rw [hue] at hu3 hun3 ⊢; clear hue; have hB1 : Below wr.heap.size wr w3 := below_then (by first | exact hbR | exact below_same rfl rfl rfl rfl) hb3)
          | (go_at_call 48; refine (unhide HCT _ hB1).mono ?_; rintro e w4 ⟨u4, rfl, hu4, hun4, hb4⟩; obtain ⟨ra, rc, hre, _, _⟩ := hu4.form; rw [hre] at hu4 hun4 ⊢; clear hre; have hB2 : Below wr.heap.size wr w4 := below_then hB1 hb4; obtain ⟨_, ⟨hd0, hd1⟩, ⟨hg0, hg1⟩, hbx⟩ := unhide HK _ hB2))
      all_goals
        go_wp2
        have hfin := rel_store hbx hd0 (hu3.below hb4) hu4 (hun4.ne (Nat.lt_of_lt_of_le hwz hB1.size))
        have hbl := (unhide hbT).trans (hB2.mono (by omega))
        refine bodyPost_ret (v := .agg #[.slice ua (pickL s ps).length uc, .slice ra (cutL ll ps).length rc]) (by simp [results, Tryz.results31, go_sem, hd0, hd1]) rfl ⟨_, _, rfl, ?_, fun b hb => hun4.ne (by have := hB1.size; omega), below_store hbl (by omega) _ _⟩
        rw [unhide HPR, (unhide HIDX).2, ← (unhide HIDX).1]
        exact hfin

theorem project_any {s vars : List Int} {ll : List (List Int)} {v vv : Value} {w : World} (h : RelV w v s ll) (hv : Ints w vv vars) (hn : s.Nodup) (hl : ll.length < 100000) (hsl : s.length < 100000000) (hvl : vars.length < 100000000) :
    Calls Tryz.prog 31 #[v, vv] w fun e w' => ∃ u, e = .returned u ∧ RelV w' u (meetL s vars) (projL s ll vars) ∧ Below w.heap.size w w' :=
  (project_nw h hv hn hl hsl hvl).mono fun e w' ⟨x, y, he, hr, _, hb⟩ => ⟨_, he, hr, hb⟩

end Go.Proofs.YtafpecdmaogohaaGreat
