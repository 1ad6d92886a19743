/-
  The contract of cut, of the laws of layer 2: a relation, of any, cut to ten variables and forty rows of ten numbers.
-/
import Derived.Test.YtmppialileoimaaLawKit2
import Derived.Test.YtmppialileoimaaUntil
namespace Go.Proofs.Ytmppialileoimaa
open Go.RowKit
set_option linter.unusedVariables false
set_option linter.unusedSimpArgs false
set_option maxRecDepth 20000
attribute [local go_sem ↓] Go.wp_at_zero Go.wp_at_succ

def cutR (ll : List (List Int)) : List (List Int) := (ll.take 40).map (·.take 10)

theorem ownI_sl {B : Nat} {w : World} {v : Value} {l : List Int} (h : OwnI B w v l) : ∃ a n c, v = .slice a n c := by
  obtain ⟨a, c, rfl, _, _⟩ := (Seq.of_own h).form
  exact ⟨_, _, _, rfl⟩

set_option maxHeartbeats 8000000 in
theorem lawCut_any {s : List Int} {ll : List (List Int)} {v : Value} {w : World} (h : RelV w v s ll) :
    Calls Try.prog 13 #[v] w fun e w' => ∃ x y, e = .returned (.agg #[x, y]) ∧ RelV w' (.agg #[x, y]) (s.take 10) (cutR ll) ∧ (∀ b, b < w.heap.size → y.ownBlock ≠ some b) ∧ Below w.heap.size w w' := by
  obtain ⟨a, ca, b, cb, rfl, k1, k2, k3, k4, hs, ht⟩ := h.form
  unfold maxLen at k2 k4
  have hb0 := b2x w (.cells #[.slice a s.length ca, .slice b ll.length cb] 25) (.cells #[.slice none 0 0, .slice none 0 0] 25)
  obtain ⟨W0, hW0⟩ : ∃ W, W = (w.alloc (.cells #[.slice a s.length ca, .slice b ll.length cb] 25)).alloc (.cells #[.slice none 0 0, .slice none 0 0] 25) := ⟨_, rfl⟩
  have hbx0 : Box W0 w.heap.size (.slice a s.length ca) (.slice b ll.length cb) := by rw [hW0]; exact (Box.new w _ _).push _
  have hbx1 : Box W0 (w.heap.size + 1) (.slice none 0 0) (.slice none 0 0) := by rw [hW0]; have := Box.new (w.alloc (.cells #[.slice a s.length ca, .slice b ll.length cb] 25)) (.slice none 0 0) (.slice none 0 0); simpa using this
  rw [← hW0] at hb0
  have hs0 := hs.below hb0
  have ht0 := ht.below hb0
  have hW0z : W0.heap.size = w.heap.size + 1 + 1 := by rw [hW0]; simp
  have HZ := hide hW0z
  have HW0 := hide hW0
  have hpb := (Below.refl W0.heap.size W0).alloc (Nat.le_refl _) (.cells #[] 3)
  have HS := hide ((hs0.cut 10).below hpb)
  have HOW := hide (own_litI (w := W0) (Nat.le_refl _))
  have hcut := run_cut a s.length ca (min (s.length : Int) ((10 : Nat) : Int)) (min (s.length : Int) ((10 : Nat) : Int)).toNat (by omega) (by omega)
  have hl10 : (s.take 10).length ≤ 10 := List.length_take_le _ _
  generalize hS10 : s.take 10 = s10 at HS hl10
  have HS10 := hide hS10
  rw [hW0z] at HOW
  rw [unhide HW0] at HOW HS
  clear h hs ht hW0 hW0z hS10 hs0
  go_enter Try.func13, Try.ntmps13
  go_wp2_with (at_builtin; refine wp_app_ints rfl (.tmp 5) (.tmp 12) rfl (unhide HOW) rfl (by simp) (unhide HS) rfl (by simp; omega) ?_; intro v1 w1 hown1 hgrew1; obtain ⟨sa, sn, sc, hne⟩ := ownI_sl hown1; subst hne)
  have hb1 : Below W0.heap.size W0 w1 := by
    have := hgrew1.below
    rw [← unhide HW0] at this
    rw [← unhide HZ] at this
    exact hpb.trans this
  have hi1 : Ints w1 (.slice sa sn sc) s10 := by have := Seq.of_own hown1; simpa using this
  replace hbx0 := hbx0.belowH hb1
  replace hbx1 := hbx1.belowH hb1
  have ht1 := ht0.below hb1
  have hbw := hb0.trans (hb1.mono hb0.size)
  have hwz : w.heap.size + 1 < w1.heap.size := hbx1.lt
  have hb3 := Box.new w1 (.slice sa sn sc) (.slice none 0 0)
  clear HS HOW hcut hpb hown1 hgrew1 ht0 hb0 hb1 HW0 HZ
  go_loopw [4] (fun i wr => ∃ (k : Nat) (v : Value), k ≤ ll.length ∧ k ≤ 40 ∧ i = .int .i64 k ∧ Box wr w1.heap.size (.slice sa sn sc) v ∧ OwnT (w1.heap.size + 1) wr v ((ll.take k).map (·.take 10)) ∧ Below w1.heap.size w1 wr) (fun i _ => ll.length - (intOf i).toNat)
  case atStart => exact ⟨0, _, by omega, by omega, rfl, hb3, OwnT.nil _ _, (Below.refl _ _).alloc (Nat.le_refl _) _⟩
  case round =>
    clear hb3
    obtain ⟨k, vo, hk, hk40, rfl, hbo, hown, hbel⟩ := hrel
    have hz := hbel.size
    have hz1 := hbo.lt
    have yx := hbx0.belowH hbel
    have hcr := yx.cell1
    have hne : vo.ownBlock ≠ some w1.heap.size := hown.new.ne (by omega)
    obtain ⟨oa, on, oc, hoe⟩ := hown.sl
    subst hoe
    have hco0 := hbo.cell0
    have hco1 := hbo.cell1
    by_cases hkp : k < ll.length ∧ k < 40
    · obtain ⟨hkl, hk4⟩ := hkp
      obtain ⟨bb, ob, uv, hbe, hcw, hiw⟩ := ht1.at hkl
      subst hbe
      have hcb := Below.cell_of hbel hcw
      have hiv := hiw.below hbel
      obtain ⟨ia, ic, rfl, hil, hic⟩ := hiv.form
      unfold maxLen at hic
      obtain ⟨il, hil'⟩ : ∃ il, il = ll[k] := ⟨_, rfl⟩
      rw [← hil'] at hiv hil hcb hcw
      have HIL := hide hil'
      have hll : ((ll.take k).map (·.take 10)).length ≤ 40 := by rw [List.length_map]; exact Nat.le_trans (List.length_take_le _ _) hk40
      have HN := hide (show ((ll.take (k + 1)).map (·.take 10)) = ((ll.take k).map (·.take 10)) ++ [il.take 10] by rw [List.take_succ_eq_append_getElem hkl, List.map_append, ← unhide HIL]; rfl)
      generalize (ll.take k).map (·.take 10) = L at hown HN hll
      have HK := hide (fun W (hb : Below w1.heap.size w1 W) => And.intro (hbx0.belowH hb).cell1 (Below.cell_of hb hcw))
      have hB0 := (Below.refl wr.heap.size wr).alloc (Nat.le_refl _) (.cells #[] 3)
      have hB9 := hbel.alloc hz (.cells #[] 3)
      have hcp := cell_push hco1
      have hk4' : (k : Int) < 40 := by omega
      clear hil' hiw ht1 hcw
      have hm1 : (0 : Int) ≤ min (il.length : Int) 10 := by omega
      have hm2 : min (il.length : Int) 10 ≤ (ic : Int) := by omega
      have HI := hide (fun W hb => Seq.below (w' := W) (hiv.cut 10) hb)
      have hln : (il.take 10).length ≤ 10 := List.length_take_le _ _
      generalize il.take 10 = T at HI HN hln
      clear hiv hil HIL
      go_wp2
      refine wp_region_noPanic ?_
      refine wp_region_till (st := 20) (S := fun W => W.cell? ⟨w.heap.size, 1, none⟩ = some (.slice (some ⟨bb, ob, none⟩) ll.length cb) ∧ W.cell? ⟨bb, ob + k, none⟩ = some (.slice ia il.length ic) ∧ W.cell? ⟨w1.heap.size, 1, none⟩ = some (.slice oa on oc)) (by kernel_rfl) ?_
      have hS0 : wr.drew.cell? ⟨w.heap.size, 1, none⟩ = some (.slice (some ⟨bb, ob, none⟩) ll.length cb) ∧ wr.drew.cell? ⟨bb, ob + k, none⟩ = some (.slice ia il.length ic) ∧ wr.drew.cell? ⟨w1.heap.size, 1, none⟩ = some (.slice oa on oc) := ⟨hcr, hcb, hco1⟩
      refine till_take (i := 0) (v := ?_) rfl (by kernel_rfl) (by kernel_rfl) (by kernel_rfl) (by kernel_rfl) (fun _ _ _ h => h) (Or.inl ⟨by rfl, ?_⟩) (by assumption) ?_
      rotate_left
      · intro W hSW; obtain ⟨hS1, hS2, hS3⟩ := hSW; go_simp; first | done | rfl
      simp only [Act.put, List.setIfInBounds_toArray, List.set_cons_zero, List.set_cons_succ]
      refine till_take (i := 1) (v := ?_) rfl (by kernel_rfl) (by kernel_rfl) (by kernel_rfl) (by kernel_rfl) (fun _ _ _ h => h) (Or.inl ⟨by rfl, ?_⟩) (by assumption) ?_
      rotate_left
      · intro W hSW; obtain ⟨hS1, hS2, hS3⟩ := hSW; go_simp; first | done | rfl
      simp only [Act.put, List.setIfInBounds_toArray, List.set_cons_zero, List.set_cons_succ]
      refine till_take (i := 3) (v := ?_) rfl (by kernel_rfl) (by kernel_rfl) (by kernel_rfl) (by kernel_rfl) (fun _ _ _ h => h) (Or.inl ⟨by rfl, ?_⟩) (by assumption) ?_
      rotate_left
      · intro W hSW; obtain ⟨hS1, hS2, hS3⟩ := hSW; go_simp; first | done | rfl
      simp only [Act.put, List.setIfInBounds_toArray, List.set_cons_zero, List.set_cons_succ]
      refine till_take (i := 4) (v := ?_) rfl (by kernel_rfl) (by kernel_rfl) (by kernel_rfl) (by kernel_rfl) (fun _ _ _ h => h) (Or.inl ⟨by rfl, ?_⟩) (by assumption) ?_
      rotate_left
      · intro W hSW; obtain ⟨hS1, hS2, hS3⟩ := hSW; go_simp; first | done | rfl
      simp only [Act.put, List.setIfInBounds_toArray, List.set_cons_zero, List.set_cons_succ]
      refine till_take (i := 5) (v := ?_) rfl (by kernel_rfl) (by kernel_rfl) (by kernel_rfl) (by kernel_rfl) (fun _ _ _ h => h) (Or.inl ⟨by rfl, ?_⟩) (by assumption) ?_
      rotate_left
      · intro W hSW; obtain ⟨hS1, hS2, hS3⟩ := hSW; go_simp; first | done | rfl
      simp only [Act.put, List.setIfInBounds_toArray, List.set_cons_zero, List.set_cons_succ]
      refine till_take (i := 6) (v := ?_) rfl (by kernel_rfl) (by kernel_rfl) (by kernel_rfl) (by kernel_rfl) (fun _ _ _ h => h) (Or.inl ⟨by rfl, ?_⟩) (by assumption) ?_
      rotate_left
      · intro W hSW; obtain ⟨hS1, hS2, hS3⟩ := hSW; go_simp; first | done | rfl
      simp only [Act.put, List.setIfInBounds_toArray, List.set_cons_zero, List.set_cons_succ]
      refine till_take (i := 7) (v := ?_) rfl (by kernel_rfl) (by kernel_rfl) (by kernel_rfl) (by kernel_rfl) (fun _ _ _ h => h) (Or.inl ⟨by rfl, ?_⟩) (by assumption) ?_
      rotate_left
      · intro W hSW; obtain ⟨hS1, hS2, hS3⟩ := hSW; go_simp; first | done | rfl
      simp only [Act.put, List.setIfInBounds_toArray, List.set_cons_zero, List.set_cons_succ]
      refine till_take (i := 8) (v := ?_) rfl (by kernel_rfl) (by kernel_rfl) (by kernel_rfl) (by kernel_rfl) (fun _ _ _ h => h) (Or.inl ⟨by rfl, ?_⟩) (by assumption) ?_
      rotate_left
      · intro W hSW; obtain ⟨hS1, hS2, hS3⟩ := hSW; go_simp; first | done | rfl
      simp only [Act.put, List.setIfInBounds_toArray, List.set_cons_zero, List.set_cons_succ]
      refine till_take (i := 9) (v := ?_) rfl (by kernel_rfl) (by kernel_rfl) (by kernel_rfl) (by kernel_rfl) (fun _ _ _ h => h) (Or.inl ⟨by rfl, ?_⟩) (by assumption) ?_
      rotate_left
      · intro W hSW; obtain ⟨hS1, hS2, hS3⟩ := hSW; go_simp; first | done | rfl
      simp only [Act.put, List.setIfInBounds_toArray, List.set_cons_zero, List.set_cons_succ]
      refine till_take (i := 10) (v := ?_) rfl (by kernel_rfl) (by kernel_rfl) (by kernel_rfl) (by kernel_rfl) (fun _ _ _ h => h) (Or.inl ⟨by rfl, ?_⟩) (by assumption) ?_
      rotate_left
      · intro W hSW; obtain ⟨hS1, hS2, hS3⟩ := hSW; go_simp; first | done | rfl
      simp only [Act.put, List.setIfInBounds_toArray, List.set_cons_zero, List.set_cons_succ]
      refine till_take (i := 11) (v := ?_) rfl (by kernel_rfl) (by kernel_rfl) (by kernel_rfl) (by kernel_rfl) (fun _ _ _ h => h) (Or.inl ⟨by rfl, ?_⟩) (by assumption) ?_
      rotate_left
      · intro W hSW; obtain ⟨hS1, hS2, hS3⟩ := hSW; go_simp; first | done | rfl
      simp only [Act.put, List.setIfInBounds_toArray, List.set_cons_zero, List.set_cons_succ]
      refine till_take (i := 12) (v := ?_) rfl (by kernel_rfl) (by kernel_rfl) (by kernel_rfl) (by kernel_rfl) (fun _ _ _ h => h) (Or.inl ⟨by rfl, ?_⟩) (by assumption) ?_
      rotate_left
      · intro W hSW; obtain ⟨hS1, hS2, hS3⟩ := hSW; go_simp; first | done | rfl
      simp only [Act.put, List.setIfInBounds_toArray, List.set_cons_zero, List.set_cons_succ]
      refine till_take (i := 13) (v := ?_) rfl (by kernel_rfl) (by kernel_rfl) (by kernel_rfl) (by kernel_rfl) (fun _ _ _ h => h) (Or.inl ⟨by rfl, ?_⟩) (by assumption) ?_
      rotate_left
      · intro W hSW; obtain ⟨hS1, hS2, hS3⟩ := hSW; go_simp; first | done | rfl
      simp only [Act.put, List.setIfInBounds_toArray, List.set_cons_zero, List.set_cons_succ]
      refine till_take (i := 14) (v := ?_) rfl (by kernel_rfl) (by kernel_rfl) (by kernel_rfl) (by kernel_rfl) (fun _ _ _ h => h) (Or.inl ⟨by rfl, ?_⟩) (by assumption) ?_
      rotate_left
      · intro W hSW; obtain ⟨hS1, hS2, hS3⟩ := hSW; go_simp; first | done | rfl
      simp only [Act.put, List.setIfInBounds_toArray, List.set_cons_zero, List.set_cons_succ]
      refine till_take (i := 15) (v := ?_) rfl (by kernel_rfl) (by kernel_rfl) (by kernel_rfl) (by kernel_rfl) (fun _ _ _ h => h) (Or.inl ⟨by rfl, ?_⟩) (by assumption) ?_
      rotate_left
      · intro W hSW; obtain ⟨hS1, hS2, hS3⟩ := hSW; go_simp; first | done | rfl
      simp only [Act.put, List.setIfInBounds_toArray, List.set_cons_zero, List.set_cons_succ]
      refine till_one (i := 2) (by kernel_rfl) rfl rfl (by decide) (fun K hK => ?_)
      go_simp
      refine hK.out _ _ ⟨cell_push hcr _, cell_push hcb _, hcp _⟩ (fun hHeld => ?_)
      clear hK K
      try simp only [Act.put, List.setIfInBounds_toArray, List.set_cons_zero, List.set_cons_succ]
      refine till_one (i := 16) (by kernel_rfl) rfl rfl (by decide) (fun K hK => ?_)
      refine op_app_intsX (.tmp 28) (.tmp 41) rfl (B := wr.heap.size) (w := (wr.alloc (.cells #[] 3)).drew) (l := []) (own_litI (Nat.le_refl _)) rfl (by simp) (unhide HI _ hB0.drew) rfl (by simp; omega) ?_
      intro ua un uc w3 hun hown1 hgrew1
      have Hun := hide hun
      have hB1 : Below wr.heap.size wr w3 := hB0.drew.trans hgrew1.below
      have hB7 : Below w1.heap.size w1 w3 := hbel.trans (hB1.mono hz)
      have hcx := (hbo.belowH hB1).cell1
      refine hK.out _ _ ⟨(unhide HK _ hB7).1, (unhide HK _ hB7).2, hcx⟩ (fun hHeld => ?_)
      clear hK K hun
      try simp only [Act.put, List.setIfInBounds_toArray, List.set_cons_zero, List.set_cons_succ]
      refine till_one (i := 17) (by kernel_rfl) rfl rfl (by decide) (fun K hK => ?_)
      go_simp
      refine hK.out _ _ ⟨cell_push hHeld.1 _, cell_push hHeld.2.1 _, cell_push hcx _⟩ (fun hHeld => ?_)
      clear hK K
      try simp only [Act.put, List.setIfInBounds_toArray, List.set_cons_zero, List.set_cons_succ]
      refine till_one (i := 18) (by kernel_rfl) rfl rfl (by decide) (fun K hK => ?_)
      refine op_app_tup (.tmp 27) (.tmp 43) rfl (hown.below hB1) (Seq.of_own hown1) (fun _ => (Sep.of_new hown.new (Nat.le_refl _) (New.of_own hown1)).symm) rfl (Nat.le_trans hz1 hB1.size) rfl (by omega) ?_
      intro v' w2 hown2 hgrew2
      obtain ⟨na, nn, nc, hne4⟩ := hown2.sl
      subst hne4
      have hB8 : Below w1.heap.size w1 w2 := hB7.trans (hgrew2.below.mono (by omega))
      have hbo4 := (hbo.belowH hB1).grew hgrew2 hne
      have hq0 := hbo4.cell1
      have hq1 := hbo4.frozen 1
      have hn4 := hown2.new.ne (b := w1.heap.size) (by omega)
      refine hK.out _ _ ⟨(unhide HK _ hB8).1, (unhide HK _ hB8).2, hq0⟩ (fun hHeld => ?_)
      clear hK K
      try simp only [Act.put, List.setIfInBounds_toArray, List.set_cons_zero, List.set_cons_succ]
      refine till_one (i := 19) (by kernel_rfl) rfl rfl (by decide) (fun K hK => ?_)
      go_simp
      refine hK.out _ _ hHeld (fun hHeld => ?_)
      clear hK K
      try simp only [Act.put, List.setIfInBounds_toArray, List.set_cons_zero, List.set_cons_succ]
      refine till_last (by kernel_rfl) rfl rfl (by kernel_rfl) (fun K hK => ?_)
      go_simp
      refine hK.out _ _ (NoPanic.normal ?_)
      clear hHeld hco0 hco1 hcr hcb hcp hS0 hq0 hq1
      go_wp2
      go_roundw
      case rel => first | exact ⟨k + 1, _, by omega, by omega, by go_num, hbo4.set1 _, by rw [unhide HN]; exact hown2.setBox hbo4.boxS hn4 _ _, hB8.setCell (Nat.le_refl _) _⟩ | ((repeat apply Exists.intro); exact ⟨⟨k + 1, _, by omega, by omega, by go_num, hbo4.set1 _, by rw [unhide HN]; exact hown2.setBox hbo4.boxS hn4 _ _, hB8.setCell (Nat.le_refl _) _⟩, rfl⟩)
      case measure => simp [intOf]; omega
    · have hF : (ll.take k).map (·.take 10) = cutR ll := by
        unfold cutR
        rw [show ll.take k = ll.take 40 by rw [List.take_eq_take_iff]; omega]
      rw [hF] at hown
      have hok : Hid (decide (k < ll.length) = false ∨ (k < ll.length ∧ ¬ (k : Int) < 40)) := hide (by
        by_cases h1 : k < ll.length
        · exact .inr ⟨h1, fun h2 => hkp ⟨h1, by omega⟩⟩
        · exact .inl (by simpa using h1))
      have y1 := hbx1.belowH hbel
      have hd0 := y1.cell0
      have hd1 := y1.cell1
      have hg0 := y1.frozen 0
      have hg1 := y1.frozen 1
      have hi2 := hi1.below hbel
      have hbl := hbw.trans (hbel.mono (by omega))
      have hnx := hown.new.ne (b := w.heap.size + 1) (by omega)
      clear hF hkp ht1 hi1
      rcases unhide hok with h1 | ⟨h1, h2⟩
      all_goals
        clear hok
        go_wp2
        have hfin := rel_store y1.boxS hd0 hi2 hown.tups hnx
        refine bodyPost_ret (v := .agg #[.slice sa sn sc, .slice oa on oc]) (by simp [results, Try.results13, go_sem, hd0, hd1]) rfl ⟨_, _, rfl, hfin, fun b hb => hown.new.ne (by omega), below_store hbl (by omega) _ _⟩

end Go.Proofs.Ytmppialileoimaa
