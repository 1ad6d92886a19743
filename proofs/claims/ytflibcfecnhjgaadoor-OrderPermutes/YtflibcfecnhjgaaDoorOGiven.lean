/-
  The contract of given: an order that is made of anything.
-/
import Derived.Test.YtflibcfecnhjgaaDoorOValid
import Derived.Test.YtflibcfecnhjgaaDoorGMade
import Derived.Test.YtflibcfecnhjgaaDoorHeld
namespace Go.Proofs.YtflibcfecnhjgaaDoor
open Go.RowKit
set_option linter.unusedVariables false
set_option linter.unusedSimpArgs false
set_option maxRecDepth 20000

theorem run_dropI (a : Option Addr) (len cap : Nat) (h : Int) (n : Nat) (hn : h = n) (h1 : n ≤ len) (h2 : len ≤ cap) (w : World) :
    (Instr.slice 39 (.slice a len cap) (some (.int .i64 h)) none none).run Tryd.prog w = .ok (.slice (dropA a cap n) (len - n) (cap - n)) w := by
  have hu : Tryd.prog.underlying 39 = some (.slice (Tryd.prog.elem 39)) := by kernel_rfl
  have hsz : (sizeOf (Tryd.prog.elem 39)).run Tryd.prog w = .ok 1 w := by kernel_rfl
  subst hn
  rw [run_slice_l w 39 a len cap hu .i64 (n : Int) (by omega) (by omega), hsz]
  simp [Result.andThen_ok, sliced, dropA]

theorem ptsL_succ (n : Nat) : ptsL (n + 1) = ptsL n ++ [(n : Int)] := by simp [ptsL, List.range_succ]
theorem ptsL_nodup (n : Nat) : (ptsL n).Nodup := by
  unfold ptsL List.Nodup
  rw [List.pairwise_map]
  exact List.nodup_range.imp (fun h e => h (Int.ofNat.inj e))
theorem perm_take {L : List Int} {k : Nat} (hk : k < L.length) : (L[k] :: (L.take k ++ L.drop (k + 1))).Perm L := by
  have h1 : L = L.take k ++ (L[k] :: L.drop (k + 1)) := by
    rw [List.getElem_cons_drop, List.take_append_drop]
  have h2 : (L.take k ++ (L[k] :: L.drop (k + 1))).Perm (L[k] :: (L.take k ++ L.drop (k + 1))) := List.perm_middle
  exact h2.symm.trans (by rw [← h1])
theorem ord_perm {n : Nat} {l : List Int} (h : l.Perm (ptsL n)) : ordB (n : Int) l = true := by
  refine ordB_iff.2 ⟨by rw [h.length_eq, ptsL_len], fun x hx => ?_, h.nodup_iff.2 (ptsL_nodup n)⟩
  have := mem_ptsL.1 (h.mem_iff.1 hx)
  exact ptB_iff.1 this

set_option maxHeartbeats 8000000 in
theorem given_any {n : Nat} {l : List Int} {v : Value} {w : World} (hn : n ≤ 1000) (hl : Ints w v l) :
    Calls Tryd.prog 24 #[.int .i64 (n : Int), v] w fun e w' => ∃ u o, e = .returned u ∧ OwnI w.heap.size w' u o ∧ ordB (n : Int) o = true ∧ Below w.heap.size w w' := by
  have HI := hide (fun W (hb : Below w.heap.size w W) => hl.below hb)
  obtain ⟨a0, c0, rfl, hl0, hc0⟩ := hl.form
  unfold maxLen at hc0
  clear hl
  go_enter Tryd.func24, Tryd.ntmps24
  go_wp2
  go_loopw [5, 6] (fun u i wr => ∃ k : Nat, k ≤ n ∧ i = .int .i64 k ∧ OwnI w.heap.size wr u (ptsL k) ∧ Below w.heap.size w wr) (fun _ i _ => n - (intOf i).toNat)
  case atStart => exact ⟨0, by omega, rfl, own_nilI _ _, Below.refl _ _⟩
  case round =>
    obtain ⟨k, hk, rfl, hown, hbel⟩ := hrel
    rename World => wr
    have hzr := hbel.size
    have hpl := ptsL_len k
    by_cases hkn : k < n
    · have HO := hide hown
      have HS := hide (ptsL_succ k)
      have HBE := hide hbel
      have hpl2 : (ptsL k).length < 100000000000 := by omega
      clear hown hbel
      generalize ptsL k = P at *
      clear hpl
      go_wp2_with (at_builtin; refine wp_app_int rfl (.tmp 15) (.tmp 17) rfl (B := w.heap.size) (unhide HO) rfl (by omega) rfl hpl2 ?_; intro v5 w5 ho5 hg5)
      go_roundw
      case rel => exact ⟨k + 1, by omega, by go_num, by rw [unhide HS]; exact ho5, (unhide HBE).trans hg5.below⟩
      case measure => simp [intOf]; omega
    · obtain rfl : k = n := by omega
      obtain ⟨a5, c5, rfl, hl5, hc5⟩ := (Seq.of_own hown).form
      have hlt5 := hown.lt
      have hob := own_litI (B := w.heap.size) hzr
      have hba := (Below.refl w.heap.size wr).alloc hzr (.cells #[] 3)
      have hoa := own_below hown ((Below.refl _ wr).alloc (Nat.le_refl _) (.cells #[] 3))
      have HST := hide (And.intro hoa (And.intro hob (hbel.trans hba)))
      have HSEP := hide (show Sep (.slice a5 (ptsL k).length c5) (.slice (some ⟨wr.heap.size, 0, none⟩) 0 0) from fun g h1 h2 => by
        have h3 := hlt5 g h1
        have h4 : wr.heap.size = g := by injection h2
        omega)
      have HPE := hide (show (([] : List Int) ++ ptsL k).Perm (ptsL k) from List.Perm.refl _)
      clear hown hbel hob hba hoa hlt5
      go_wp2
      go_loopw [5, 7, 8] (fun lv ov i wq => ∃ (j : Nat) (L O : List Int), j ≤ k ∧ i = .int .i64 j ∧ OwnI w.heap.size wq lv L ∧ OwnI w.heap.size wq ov O ∧ Sep lv ov ∧ Hid ((O ++ L).Perm (ptsL k)) ∧ L.length + j = k ∧ O.length = j ∧ Below w.heap.size w wq) (fun _ _ i _ => k - (intOf i).toNat)
      case atStart => exact ⟨0, ptsL k, [], by omega, rfl, (unhide HST).1, (unhide HST).2.1, unhide HSEP, HPE, by omega, rfl, (unhide HST).2.2⟩
      case round =>
        clear HST HSEP HPE
        obtain ⟨j, L, O, hj, rfl, hl, ho, hsep, HP, hLl, hOl, hbel⟩ := hrel
        rename World => wq
        have hzq := hbel.size
        obtain ⟨a5, c5, rfl, hl5, hc5⟩ := (Seq.of_own hl).form
        obtain ⟨a7, c7, rfl, hl7, hc7⟩ := (Seq.of_own ho).form
        unfold maxLen at hc5 hc7
        by_cases hjk : j < k
        · have hL0 : 0 < L.length := by omega
          by_cases hjl : j < l.length
          · obtain ⟨b9, o9, e9, q9⟩ := (unhide HI wq hbel).at hjl
            subst e9
            have hA := rndN_lt (x := l[j]) hL0
            have hAe := rndN_eq (x := l[j]) hL0
            generalize l[j] = y at *
            generalize rndN y L.length = A at *
            have hat : A < L.length := hA
            have HL0 := hL0
            obtain ⟨b5, o5, e5, q5⟩ := (Seq.of_own hl).at hat
            subst e5
            have hpm := perm_take hat
            obtain ⟨x, hx⟩ : ∃ x, x = L[A] := ⟨_, rfl⟩
            rw [← hx] at q5 hpm
            have hcL : (L.length : Int) ≤ (c5 : Int) := by omega
            have hcat : ((A : Nat) : Int) ≤ (c5 : Int) := by omega
            have hdrop := fun W => run_dropI (some ⟨b5, o5, none⟩) L.length c5 (IntKind.i64.wrap (((A : Nat) : Int) + 1)) (A + 1) (by rw [IntKind.wrap_i64]; omega) (by omega) (by omega) W
            have HLs := hide hl
            have HOs := hide ho
            have HPM := hide hpm
            clear hx hl hpm HL0
            go_wp2_with (at_builtin; refine wp_app_int rfl (.tmp 37) (.tmp 42) rfl (B := w.heap.size) (unhide HOs) rfl (by omega) rfl (by omega) ?_; intro v7 w7 ho7 hg7)
            have hl7 := own_grew (unhide HLs) hg7 hsep.or
            have hs7 : Sep (.slice (some ⟨b5, o5, none⟩) L.length c5) v7 := hsep.grewN (A := w.heap.size) (unhide HLs).lt hg7
            have hz7 := hg7.by_.size
            have HL7 := hide hl7
            have HO7 := hide ho7
            have HS7 := hide hs7
            have HB7 := hide (hbel.trans hg7.below)
            have hz70 := (unhide HB7).size
            have hS0 : True ∧ True := ⟨trivial, trivial⟩
            clear hl7 ho7 hs7 hg7 HLs HOs q5 hbel
            refine wp_region_held (S := fun _ => True ∧ True) (by kernel_rfl) ?_
            refine wpAnyH_take (i := 1) (v := ?_) rfl (by kernel_rfl) (by kernel_rfl) (by kernel_rfl) (fun _ _ _ h => h) (Or.inl ⟨by kernel_rfl, ?_⟩) (by assumption) ?_
            rotate_left
            · intro W hSW; obtain ⟨hS1, _⟩ := hSW; go_simp; first | done | rfl
            simp only [Act.put, List.setIfInBounds_toArray, List.set_cons_zero, List.set_cons_succ, List.getElem_toArray, List.getElem_cons_succ, List.getElem_cons_zero]
            refine wpAnyH_take (i := 2) (v := ?_) rfl (by kernel_rfl) (by kernel_rfl) (by kernel_rfl) (fun _ _ _ h => h) (Or.inl ⟨by kernel_rfl, ?_⟩) (by assumption) ?_
            rotate_left
            · intro W hSW; obtain ⟨hS1, _⟩ := hSW; go_simp; first | done | rfl
            simp only [Act.put, List.setIfInBounds_toArray, List.set_cons_zero, List.set_cons_succ, List.getElem_toArray, List.getElem_cons_succ, List.getElem_cons_zero]
            refine wpAnyH_take (i := 3) (v := ?_) rfl (by kernel_rfl) (by kernel_rfl) (by kernel_rfl) (fun _ _ _ h => h) (Or.inl ⟨by kernel_rfl, ?_⟩) (by assumption) ?_
            rotate_left
            · intro W hSW; obtain ⟨hS1, _⟩ := hSW; go_simp; first | done | rfl
            simp only [Act.put, List.setIfInBounds_toArray, List.set_cons_zero, List.set_cons_succ, List.getElem_toArray, List.getElem_cons_succ, List.getElem_cons_zero]
            refine wpAnyH_take (i := 5) (v := ?_) rfl (by kernel_rfl) (by kernel_rfl) (by kernel_rfl) (fun _ _ _ h => h) (Or.inl ⟨by kernel_rfl, ?_⟩) (by assumption) ?_
            rotate_left
            · intro W hSW; obtain ⟨hS1, _⟩ := hSW; go_simp; first | done | rfl
            simp only [Act.put, List.setIfInBounds_toArray, List.set_cons_zero, List.set_cons_succ, List.getElem_toArray, List.getElem_cons_succ, List.getElem_cons_zero]
            refine wpAnyH_take (i := 6) (v := ?_) rfl (by kernel_rfl) (by kernel_rfl) (by kernel_rfl) (fun _ _ _ h => h) (Or.inl ⟨by kernel_rfl, ?_⟩) (by assumption) ?_
            rotate_left
            · intro W hSW; obtain ⟨hS1, _⟩ := hSW; go_simp; first | done | rfl
            simp only [Act.put, List.setIfInBounds_toArray, List.set_cons_zero, List.set_cons_succ, List.getElem_toArray, List.getElem_cons_succ, List.getElem_cons_zero]
            refine wpAnyH_take (i := 7) (v := ?_) rfl (by kernel_rfl) (by kernel_rfl) (by kernel_rfl) (fun _ _ _ h => h) (Or.inl ⟨by kernel_rfl, ?_⟩) (by assumption) ?_
            rotate_left
            · intro W hSW; obtain ⟨hS1, _⟩ := hSW; go_simp; first | done | rfl
            simp only [Act.put, List.setIfInBounds_toArray, List.set_cons_zero, List.set_cons_succ, List.getElem_toArray, List.getElem_cons_succ, List.getElem_cons_zero]
            refine wpAnyH_take (i := 8) (v := ?_) rfl (by kernel_rfl) (by kernel_rfl) (by kernel_rfl) (fun _ _ _ h => h) (Or.inl ⟨by kernel_rfl, ?_⟩) (by assumption) ?_
            rotate_left
            · intro W hSW; obtain ⟨hS1, _⟩ := hSW; go_simp; first | done | rfl
            simp only [Act.put, List.setIfInBounds_toArray, List.set_cons_zero, List.set_cons_succ, List.getElem_toArray, List.getElem_cons_succ, List.getElem_cons_zero]
            refine held_one (i := 0) (by kernel_rfl) rfl (by kernel_rfl) (fun K hK => ?_)
            go_simp
            refine hK.out _ _ ⟨trivial, trivial⟩ ?_
            clear hK K
            try simp only [Act.put, List.setIfInBounds_toArray, List.set_cons_zero, List.set_cons_succ, List.getElem_toArray, List.getElem_cons_succ, List.getElem_cons_zero]
            have hb8 : Below w7.heap.size w7 (w7.alloc (.cells #[] 3)).drew := by
              have h1 := (Below.refl w7.heap.size w7).alloc (Nat.le_refl _) (.cells #[] 3)
              exact ⟨h1.os, h1.tape, h1.output, h1.size, h1.block⟩
            have ho8 : OwnI w7.heap.size (w7.alloc (.cells #[] 3)).drew (.slice (some ⟨w7.heap.size, 0, none⟩) 0 0) [] := own_litI (w := w7) (Nat.le_refl _)
            have hl8 := own_below (unhide HL7) hb8
            have hO8 := own_below (unhide HO7) hb8
            have hz8 := hb8.size
            have ht8 := (Seq.of_own hl8).take (k := A) (by omega)
            have hr8 := (Seq.of_own hl8).drop (k := A + 1) (by omega)
            refine held_one (i := 4) (by kernel_rfl) rfl (by kernel_rfl) (fun K hK => ?_)
            refine op_app_ints _ _ rfl (B := w7.heap.size) ho8 rfl hz8 ht8 rfl (by first | (simp; done) | (simp; omega)) ?_
            intro v9 w9 ho9 hg9
            have hr9 := hr8.grew hg9 (fun hne g h1 h2 => by
              have h3 := (Seq.of_own (unhide HL7)).inheap (by rintro rfl; simp at hat) g (by
                have h5 : (dropA (some ⟨b5, o5, none⟩) c5 (A + 1)) = some ⟨b5, o5, none⟩ ∨ (dropA (some ⟨b5, o5, none⟩) c5 (A + 1)) = some ⟨b5, o5 + (A + 1), none⟩ := by
                  unfold dropA
                  split
                  · exact .inl rfl
                  · exact .inr rfl
                rcases h5 with h5 | h5 <;> (rw [h5] at h1; exact h1))
              have h4 : w7.heap.size = g := by injection h2
              have h6 := h3.2
              omega)
            have hO9 := hO8.kept hg9.by_ (.inr (fun e => by
              have h3 := (unhide HO7).lt w7.heap.size (by rw [e]; rfl)
              omega))
            refine hK.out _ _ ⟨trivial, trivial⟩ ?_
            clear hK K
            try simp only [Act.put, List.setIfInBounds_toArray, List.set_cons_zero, List.set_cons_succ, List.getElem_toArray, List.getElem_cons_succ, List.getElem_cons_zero]
            have hz9 := hg9.by_.size
            refine held_one (i := 9) (by kernel_rfl) rfl (by kernel_rfl) (fun K hK => ?_)
            refine op_app_ints _ _ rfl (B := w7.heap.size) ho9 rfl (by omega) hr9 rfl (by first | (simp; done) | (simp; omega)) ?_
            intro v10 w10 ho10 hg10
            have hO10 := hO9.kept hg10.by_ (.inr (fun e => by
              have h3 : ∀ g, v7.ownBlock = some g → g < w7.heap.size := fun g hg => ((unhide HO7).lt g hg).2
              rcases hg9.at_ with h4 | ⟨g, h4, h5⟩
              · have := h3 w7.heap.size (by rw [e, h4]; rfl); omega
              · have := h3 g (by rw [e, h4]); omega))
            refine hK.out _ _ ⟨trivial, trivial⟩ ?_
            clear hK K
            try simp only [Act.put, List.setIfInBounds_toArray, List.set_cons_zero, List.set_cons_succ, List.getElem_toArray, List.getElem_cons_succ, List.getElem_cons_zero]
            refine wpAnyH_take (i := 10) (v := ?_) rfl (by kernel_rfl) (by kernel_rfl) (by kernel_rfl) (fun _ _ _ h => h) (Or.inl ⟨by kernel_rfl, ?_⟩) (by assumption) ?_
            rotate_left
            · intro W hSW; obtain ⟨hS1, _⟩ := hSW; go_simp; first | done | rfl
            simp only [Act.put, List.setIfInBounds_toArray, List.set_cons_zero, List.set_cons_succ, List.getElem_toArray, List.getElem_cons_succ, List.getElem_cons_zero]
            refine wpAnyH_done (by kernel_rfl) ?_ _
            have HF := hide (show OwnI w.heap.size w10 v10 (L.take A ++ L.drop (A + 1)) ∧ OwnI w.heap.size w10 v7 (O ++ [x]) ∧ Sep v10 v7 ∧ ((O ++ [x]) ++ (L.take A ++ L.drop (A + 1))).Perm (ptsL k) ∧ (L.take A ++ L.drop (A + 1)).length + (j + 1) = k ∧ (O ++ [x]).length = j + 1 ∧ Below w.heap.size w w10 from by
              rw [List.nil_append] at ho10
              refine ⟨own_mono ho10 hz70, hO10, ?_, ?_, ?_, by simp [hOl], ?_⟩
              · intro g h1 h2
                have h3 := (ho10.lt g h1).1
                have h4 := ((unhide HO7).lt g h2).2
                omega
              · refine List.Perm.trans ?_ (unhide HP)
                rw [List.append_assoc]
                exact List.Perm.append_left _ (unhide HPM)
              · simp
                omega
              · exact (unhide HB7).trans ((hb8.mono hz70).trans ((hg9.below.mono hz70).trans (hg10.below.mono hz70))))
            clear hb8 ho8 hl8 hO8 ht8 hr8 ho9 hg9 hr9 hO9 ho10 hg10 hO10 hdrop HL7 HO7 HS7
            go_wp2
            go_roundw
            case rel => exact ⟨j + 1, _, _, by omega, by go_num, (unhide HF).1, (unhide HF).2.1, (unhide HF).2.2.1, hide (unhide HF).2.2.2.1, (unhide HF).2.2.2.2.1, (unhide HF).2.2.2.2.2.1, (unhide HF).2.2.2.2.2.2⟩
            case measure => simp [intOf]; omega
          · have hat : 0 < L.length := hL0
            have HL0 := hL0
            obtain ⟨b5, o5, e5, q5⟩ := (Seq.of_own hl).at hat
            subst e5
            have hpm := perm_take hat
            obtain ⟨x, hx⟩ : ∃ x, x = L[0] := ⟨_, rfl⟩
            rw [← hx] at q5 hpm
            rw [Nat.add_zero] at q5
            have hcL : (L.length : Int) ≤ (c5 : Int) := by omega
            have hcat : (0 : Int) ≤ (c5 : Int) := by omega
            have hdrop := fun W => run_dropI (some ⟨b5, o5, none⟩) L.length c5 (IntKind.i64.wrap 1) 1 (by decide) (by omega) (by omega) W
            have HLs := hide hl
            have HOs := hide ho
            have HPM := hide hpm
            clear hx hl hpm HL0
            go_wp2_with (at_builtin; refine wp_app_int rfl (.tmp 37) (.tmp 42) rfl (B := w.heap.size) (unhide HOs) rfl (by omega) rfl (by omega) ?_; intro v7 w7 ho7 hg7)
            have hl7 := own_grew (unhide HLs) hg7 hsep.or
            have hs7 : Sep (.slice (some ⟨b5, o5, none⟩) L.length c5) v7 := hsep.grewN (A := w.heap.size) (unhide HLs).lt hg7
            have hz7 := hg7.by_.size
            have HL7 := hide hl7
            have HO7 := hide ho7
            have HS7 := hide hs7
            have HB7 := hide (hbel.trans hg7.below)
            have hz70 := (unhide HB7).size
            have hS0 : True ∧ True := ⟨trivial, trivial⟩
            clear hl7 ho7 hs7 hg7 HLs HOs q5 hbel
            refine wp_region_held (S := fun _ => True ∧ True) (by kernel_rfl) ?_
            refine wpAnyH_take (i := 1) (v := ?_) rfl (by kernel_rfl) (by kernel_rfl) (by kernel_rfl) (fun _ _ _ h => h) (Or.inl ⟨by kernel_rfl, ?_⟩) (by assumption) ?_
            rotate_left
            · intro W hSW; obtain ⟨hS1, _⟩ := hSW; go_simp; first | done | rfl
            simp only [Act.put, List.setIfInBounds_toArray, List.set_cons_zero, List.set_cons_succ, List.getElem_toArray, List.getElem_cons_succ, List.getElem_cons_zero]
            refine wpAnyH_take (i := 2) (v := ?_) rfl (by kernel_rfl) (by kernel_rfl) (by kernel_rfl) (fun _ _ _ h => h) (Or.inl ⟨by kernel_rfl, ?_⟩) (by assumption) ?_
            rotate_left
            · intro W hSW; obtain ⟨hS1, _⟩ := hSW; go_simp; first | done | rfl
            simp only [Act.put, List.setIfInBounds_toArray, List.set_cons_zero, List.set_cons_succ, List.getElem_toArray, List.getElem_cons_succ, List.getElem_cons_zero]
            refine wpAnyH_take (i := 3) (v := ?_) rfl (by kernel_rfl) (by kernel_rfl) (by kernel_rfl) (fun _ _ _ h => h) (Or.inl ⟨by kernel_rfl, ?_⟩) (by assumption) ?_
            rotate_left
            · intro W hSW; obtain ⟨hS1, _⟩ := hSW; go_simp; first | done | rfl
            simp only [Act.put, List.setIfInBounds_toArray, List.set_cons_zero, List.set_cons_succ, List.getElem_toArray, List.getElem_cons_succ, List.getElem_cons_zero]
            refine wpAnyH_take (i := 5) (v := ?_) rfl (by kernel_rfl) (by kernel_rfl) (by kernel_rfl) (fun _ _ _ h => h) (Or.inl ⟨by kernel_rfl, ?_⟩) (by assumption) ?_
            rotate_left
            · intro W hSW; obtain ⟨hS1, _⟩ := hSW; go_simp; first | done | rfl
            simp only [Act.put, List.setIfInBounds_toArray, List.set_cons_zero, List.set_cons_succ, List.getElem_toArray, List.getElem_cons_succ, List.getElem_cons_zero]
            refine wpAnyH_take (i := 6) (v := ?_) rfl (by kernel_rfl) (by kernel_rfl) (by kernel_rfl) (fun _ _ _ h => h) (Or.inl ⟨by kernel_rfl, ?_⟩) (by assumption) ?_
            rotate_left
            · intro W hSW; obtain ⟨hS1, _⟩ := hSW; go_simp; first | done | rfl
            simp only [Act.put, List.setIfInBounds_toArray, List.set_cons_zero, List.set_cons_succ, List.getElem_toArray, List.getElem_cons_succ, List.getElem_cons_zero]
            refine wpAnyH_take (i := 7) (v := ?_) rfl (by kernel_rfl) (by kernel_rfl) (by kernel_rfl) (fun _ _ _ h => h) (Or.inl ⟨by kernel_rfl, ?_⟩) (by assumption) ?_
            rotate_left
            · intro W hSW; obtain ⟨hS1, _⟩ := hSW; go_simp; first | done | rfl
            simp only [Act.put, List.setIfInBounds_toArray, List.set_cons_zero, List.set_cons_succ, List.getElem_toArray, List.getElem_cons_succ, List.getElem_cons_zero]
            refine wpAnyH_take (i := 8) (v := ?_) rfl (by kernel_rfl) (by kernel_rfl) (by kernel_rfl) (fun _ _ _ h => h) (Or.inl ⟨by kernel_rfl, ?_⟩) (by assumption) ?_
            rotate_left
            · intro W hSW; obtain ⟨hS1, _⟩ := hSW; go_simp; first | done | rfl
            simp only [Act.put, List.setIfInBounds_toArray, List.set_cons_zero, List.set_cons_succ, List.getElem_toArray, List.getElem_cons_succ, List.getElem_cons_zero]
            refine held_one (i := 0) (by kernel_rfl) rfl (by kernel_rfl) (fun K hK => ?_)
            go_simp
            refine hK.out _ _ ⟨trivial, trivial⟩ ?_
            clear hK K
            try simp only [Act.put, List.setIfInBounds_toArray, List.set_cons_zero, List.set_cons_succ, List.getElem_toArray, List.getElem_cons_succ, List.getElem_cons_zero]
            have hb8 : Below w7.heap.size w7 (w7.alloc (.cells #[] 3)).drew := by
              have h1 := (Below.refl w7.heap.size w7).alloc (Nat.le_refl _) (.cells #[] 3)
              exact ⟨h1.os, h1.tape, h1.output, h1.size, h1.block⟩
            have ho8 : OwnI w7.heap.size (w7.alloc (.cells #[] 3)).drew (.slice (some ⟨w7.heap.size, 0, none⟩) 0 0) [] := own_litI (w := w7) (Nat.le_refl _)
            have hl8 := own_below (unhide HL7) hb8
            have hO8 := own_below (unhide HO7) hb8
            have hz8 := hb8.size
            have ht8 := (Seq.of_own hl8).take (k := 0) (by omega)
            have hr8 := (Seq.of_own hl8).drop (k := 1) (by omega)
            refine held_one (i := 4) (by kernel_rfl) rfl (by kernel_rfl) (fun K hK => ?_)
            refine op_app_ints _ _ rfl (B := w7.heap.size) ho8 rfl hz8 ht8 rfl (by first | (simp; done) | (simp; omega)) ?_
            intro v9 w9 ho9 hg9
            have hr9 := hr8.grew hg9 (fun hne g h1 h2 => by
              have h3 := (Seq.of_own (unhide HL7)).inheap (by rintro rfl; simp at hat) g (by
                have h5 : (dropA (some ⟨b5, o5, none⟩) c5 (1)) = some ⟨b5, o5, none⟩ ∨ (dropA (some ⟨b5, o5, none⟩) c5 (1)) = some ⟨b5, o5 + (1), none⟩ := by
                  unfold dropA
                  split
                  · exact .inl rfl
                  · exact .inr rfl
                rcases h5 with h5 | h5 <;> (rw [h5] at h1; exact h1))
              have h4 : w7.heap.size = g := by injection h2
              have h6 := h3.2
              omega)
            have hO9 := hO8.kept hg9.by_ (.inr (fun e => by
              have h3 := (unhide HO7).lt w7.heap.size (by rw [e]; rfl)
              omega))
            refine hK.out _ _ ⟨trivial, trivial⟩ ?_
            clear hK K
            try simp only [Act.put, List.setIfInBounds_toArray, List.set_cons_zero, List.set_cons_succ, List.getElem_toArray, List.getElem_cons_succ, List.getElem_cons_zero]
            have hz9 := hg9.by_.size
            refine held_one (i := 9) (by kernel_rfl) rfl (by kernel_rfl) (fun K hK => ?_)
            refine op_app_ints _ _ rfl (B := w7.heap.size) ho9 rfl (by omega) hr9 rfl (by first | (simp; done) | (simp; omega)) ?_
            intro v10 w10 ho10 hg10
            have hO10 := hO9.kept hg10.by_ (.inr (fun e => by
              have h3 : ∀ g, v7.ownBlock = some g → g < w7.heap.size := fun g hg => ((unhide HO7).lt g hg).2
              rcases hg9.at_ with h4 | ⟨g, h4, h5⟩
              · have := h3 w7.heap.size (by rw [e, h4]; rfl); omega
              · have := h3 g (by rw [e, h4]); omega))
            refine hK.out _ _ ⟨trivial, trivial⟩ ?_
            clear hK K
            try simp only [Act.put, List.setIfInBounds_toArray, List.set_cons_zero, List.set_cons_succ, List.getElem_toArray, List.getElem_cons_succ, List.getElem_cons_zero]
            refine wpAnyH_take (i := 10) (v := ?_) rfl (by kernel_rfl) (by kernel_rfl) (by kernel_rfl) (fun _ _ _ h => h) (Or.inl ⟨by kernel_rfl, ?_⟩) (by assumption) ?_
            rotate_left
            · intro W hSW; obtain ⟨hS1, _⟩ := hSW; go_simp; first | done | rfl
            simp only [Act.put, List.setIfInBounds_toArray, List.set_cons_zero, List.set_cons_succ, List.getElem_toArray, List.getElem_cons_succ, List.getElem_cons_zero]
            refine wpAnyH_done (by kernel_rfl) ?_ _
            have HF := hide (show OwnI w.heap.size w10 v10 (L.take 0 ++ L.drop (1)) ∧ OwnI w.heap.size w10 v7 (O ++ [x]) ∧ Sep v10 v7 ∧ ((O ++ [x]) ++ (L.take 0 ++ L.drop (1))).Perm (ptsL k) ∧ (L.take 0 ++ L.drop (1)).length + (j + 1) = k ∧ (O ++ [x]).length = j + 1 ∧ Below w.heap.size w w10 from by
              rw [List.nil_append] at ho10
              refine ⟨own_mono ho10 hz70, hO10, ?_, ?_, ?_, by simp [hOl], ?_⟩
              · intro g h1 h2
                have h3 := (ho10.lt g h1).1
                have h4 := ((unhide HO7).lt g h2).2
                omega
              · refine List.Perm.trans ?_ (unhide HP)
                rw [List.append_assoc]
                exact List.Perm.append_left _ (unhide HPM)
              · simp
                omega
              · exact (unhide HB7).trans ((hb8.mono hz70).trans ((hg9.below.mono hz70).trans (hg10.below.mono hz70))))
            clear hb8 ho8 hl8 hO8 ht8 hr8 ho9 hg9 hr9 hO9 ho10 hg10 hO10 hdrop HL7 HO7 HS7
            go_wp2
            go_roundw
            case rel => exact ⟨j + 1, _, _, by omega, by go_num, (unhide HF).1, (unhide HF).2.1, (unhide HF).2.2.1, hide (unhide HF).2.2.2.1, (unhide HF).2.2.2.2.1, (unhide HF).2.2.2.2.2.1, (unhide HF).2.2.2.2.2.2⟩
            case measure => simp [intOf]; omega
        · obtain rfl : j = k := by omega
          have hL : L = [] := List.length_eq_zero_iff.1 (by omega)
          subst hL
          rw [List.append_nil] at HP
          have HV := hide (ord_perm (unhide HP))
          go_wp2
          go_ret
          exact ⟨_, O, rfl, ho, unhide HV, hbel⟩

end Go.Proofs.YtflibcfecnhjgaaDoor
