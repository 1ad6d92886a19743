/-
  The contract of Clique.
-/
import Derived.Test.YtflibcfecnhjgaaDoorGThree
namespace Go.Proofs.YtflibcfecnhjgaaDoor
open Go.RowKit
set_option linter.unusedVariables false
set_option linter.unusedSimpArgs false
set_option maxRecDepth 20000

theorem getD_at {g : List Nat} {k : Nat} (hk : k < g.length) : g[k] = g.getD k 0 := by rw [List.getD_eq_getElem?_getD, List.getElem?_eq_getElem hk]; rfl

set_option maxHeartbeats 4000000 in
theorem clique_any {g : List Nat} {l : List Int} {x v : Value} {w : World} (hg : Words w x g) (hn : g.length ≤ 64) (hw : W64 g) (hl : Ints w v l) :
    Calls Tryd.prog 16 #[.agg #[x], v] w fun e w' => e = .returned (.bool (clqB g l)) ∧ Below w.heap.size w w' := by
  obtain ⟨W1, hW1, hb1, hz1, hx1⟩ := boxed (w := w) (x := x)
  have HP := hide (fun W (b : Int) (hb : Below W1.heap.size W1 W) => isPoint_any (a := b) ((hg.below hb1).below hb))
  have HT := hide (fun W (b : Int) (hb : Below W1.heap.size W1 W) => bitOf_any (a := b) ((hg.below hb1).below hb) hn)
  have HA := hide (fun W (hb : Below W1.heap.size W1 W) => bitsOf_any ((hg.below hb1).below hb) hn ((hl.below hb1).below hb))
  have HC := hide (fun W (hb : Below W1.heap.size W1 W) => (hx1.below hb (by omega)).cell)
  have HG := hide (fun W (hb : Below W1.heap.size W1 W) => ((hg.below hb1).below hb))
  have HL := hide (fun W (hb : Below W1.heap.size W1 W) => ((hl.below hb1).below hb))
  have HB := hide hb1
  have HW1 := hide hW1
  obtain ⟨ax, cx, rfl, hlx, hcx⟩ := hg.form
  obtain ⟨al, cl, rfl, hll, hcl⟩ := hl.form
  unfold maxLen at hcl
  have hA := bitsN_lt hn l
  obtain ⟨q, hq⟩ : ∃ q, q = clqB g l := ⟨_, rfl⟩
  rw [← hq]
  rw [← clq_eq hw hn l] at hq
  generalize bitsN g.length l = A at *
  have HQ := hide hq
  clear hb1 hx1 hg hW1 hl hq
  have y0 := unhide HC W1 (Below.refl _ _)
  go_enter Tryd.func16, Tryd.ntmps16
  go_wp2_with fail
  rw [← unhide HW1]
  go_wp2_with fail
  refine (unhide HA _ (Below.refl _ _)).mono ?_
  rintro e w2 ⟨rfl, hb2⟩
  have HB2 := hide hb2
  clear hb2 HA y0
  go_wp2
  go_loopw [13] (fun i wr => ∃ k : Nat, k ≤ l.length ∧ i = .int .i64 k ∧ Hid (q = clqS g A (l.drop k)) ∧ Below W1.heap.size W1 wr) (fun i _ => l.length - (intOf i).toNat)
  case atStart => exact ⟨0, by omega, rfl, HQ, unhide HB2⟩
  case round =>
    clear HQ HB2
    obtain ⟨k, hk, rfl, HQ, hbel⟩ := hrel
    rename World => wr
    have hzr := hbel.size
    have y0 := unhide HC wr hbel
    by_cases hkl : k < l.length
    · obtain ⟨bl, ol, rfl, q1⟩ := (unhide HL wr hbel).at hkl
      have hq := unhide HQ
      rw [List.drop_eq_getElem_cons hkl] at hq
      have hq' : q = ((ptB g.length l[k] && (andNot64 (andNot64 A (bitN g.length l[k])) (g.getD l[k].toNat 0) == 0)) && clqS g A (l.drop (k + 1))) := hq
      obtain ⟨r, hr⟩ : ∃ r, r = clqS g A (l.drop (k + 1)) := ⟨_, rfl⟩
      rw [← hr] at hq'
      have HR := hide hr
      have HPA := hide (fun W hb => unhide HP W l[k] hb)
      have HTA := hide (fun W hb => unhide HT W l[k] hb)
      generalize l[k] = a at *
      have hbD : Below W1.heap.size W1 wr.drew := hbel.trans ((drewB (w := wr)).mono hzr)
      cases hp : ptB g.length a with
      | false =>
        rw [hp] at hq' HPA
        have HQ2 : Hid (q = false) := hide (by rw [hq']; simp)
        clear hq hq' hr HQ
        go_wp2
        have hS0 : wr.drew.cell? ⟨w.heap.size, 0, none⟩ = some (.slice ax g.length cx) ∧ True := ⟨y0, trivial⟩
        refine wp_region_held (S := fun U => U.cell? ⟨w.heap.size, 0, none⟩ = some (.slice ax g.length cx) ∧ True) (by kernel_rfl) ?_
        refine wpAnyH_take (i := 0) (v := ?_) rfl (by kernel_rfl) (by kernel_rfl) (by kernel_rfl) (fun _ _ _ h => h) (Or.inl ⟨by kernel_rfl, ?_⟩) (by assumption) ?_
        rotate_left
        · intro W hSW; obtain ⟨hS1, _⟩ := hSW; go_simp; first | done | rfl
        simp only [Act.put, List.setIfInBounds_toArray, List.set_cons_zero, List.set_cons_succ, List.getElem_toArray, List.getElem_cons_succ, List.getElem_cons_zero]
        refine wpAnyH_take (i := 1) (v := ?_) rfl (by kernel_rfl) (by kernel_rfl) (by kernel_rfl) (fun _ _ _ h => h) (Or.inl ⟨by kernel_rfl, ?_⟩) (by assumption) ?_
        rotate_left
        · intro W hSW; obtain ⟨hS1, _⟩ := hSW; go_simp; first | done | rfl
        simp only [Act.put, List.setIfInBounds_toArray, List.set_cons_zero, List.set_cons_succ, List.getElem_toArray, List.getElem_cons_succ, List.getElem_cons_zero]
        refine held_one (i := 2) (by kernel_rfl) rfl (by kernel_rfl) (fun K hK => ?_)
        go_simp
        refine (unhide HPA _ (by exact hbel.trans (Below.mono (below_same rfl rfl rfl rfl) hzr))).mono ?_
        rintro e w3 ⟨rfl, hb3⟩
        have hB3 : Below W1.heap.size W1 w3 := hbD.trans (Below.mono hb3 hzr)
        have hS0 : w3.cell? ⟨w.heap.size, 0, none⟩ = some (.slice ax g.length cx) ∧ True := ⟨unhide HC _ hB3, trivial⟩
        refine hK.out _ _ hS0 ?_
        clear hK K
        try simp only [Act.put, List.setIfInBounds_toArray, List.set_cons_zero, List.set_cons_succ]
        refine wpAnyH_take (i := 3) (v := ?_) rfl (by kernel_rfl) (by kernel_rfl) (by kernel_rfl) (fun _ _ _ h => h) (Or.inl ⟨by kernel_rfl, ?_⟩) (by assumption) ?_
        rotate_left
        · intro W hSW; obtain ⟨hS1, _⟩ := hSW; go_simp; first | done | rfl
        simp only [Act.put, List.setIfInBounds_toArray, List.set_cons_zero, List.set_cons_succ, List.getElem_toArray, List.getElem_cons_succ, List.getElem_cons_zero]
        refine wpAnyH_take (i := 4) (v := ?_) rfl (by kernel_rfl) (by kernel_rfl) (by kernel_rfl) (fun _ _ _ h => h) (Or.inl ⟨by kernel_rfl, ?_⟩) (by assumption) ?_
        rotate_left
        · intro W hSW; obtain ⟨hS1, _⟩ := hSW; go_simp; first | done | rfl
        simp only [Act.put, List.setIfInBounds_toArray, List.set_cons_zero, List.set_cons_succ, List.getElem_toArray, List.getElem_cons_succ, List.getElem_cons_zero]
        refine wpAnyH_take (i := 5) (v := undef) rfl (by kernel_rfl) (by kernel_rfl) (by kernel_rfl) (fun _ _ _ h => h) (Or.inr ⟨by kernel_rfl, rfl⟩) (by assumption) ?_
        simp only [Act.put, List.setIfInBounds_toArray, List.set_cons_zero, List.set_cons_succ, List.getElem_toArray, List.getElem_cons_succ, List.getElem_cons_zero]
        refine wpAnyH_take (i := 6) (v := undef) rfl (by kernel_rfl) (by kernel_rfl) (by kernel_rfl) (fun _ _ _ h => h) (Or.inr ⟨by kernel_rfl, rfl⟩) (by assumption) ?_
        simp only [Act.put, List.setIfInBounds_toArray, List.set_cons_zero, List.set_cons_succ, List.getElem_toArray, List.getElem_cons_succ, List.getElem_cons_zero]
        refine wpAnyH_take (i := 7) (v := undef) rfl (by kernel_rfl) (by kernel_rfl) (by kernel_rfl) (fun _ _ _ h => h) (Or.inr ⟨by kernel_rfl, rfl⟩) (by assumption) ?_
        simp only [Act.put, List.setIfInBounds_toArray, List.set_cons_zero, List.set_cons_succ, List.getElem_toArray, List.getElem_cons_succ, List.getElem_cons_zero]
        refine wpAnyH_take (i := 8) (v := undef) rfl (by kernel_rfl) (by kernel_rfl) (by kernel_rfl) (fun _ _ _ h => h) (Or.inr ⟨by kernel_rfl, rfl⟩) (by assumption) ?_
        simp only [Act.put, List.setIfInBounds_toArray, List.set_cons_zero, List.set_cons_succ, List.getElem_toArray, List.getElem_cons_succ, List.getElem_cons_zero]
        refine wpAnyH_take (i := 9) (v := undef) rfl (by kernel_rfl) (by kernel_rfl) (by kernel_rfl) (fun _ _ _ h => h) (Or.inr ⟨by kernel_rfl, rfl⟩) (by assumption) ?_
        simp only [Act.put, List.setIfInBounds_toArray, List.set_cons_zero, List.set_cons_succ, List.getElem_toArray, List.getElem_cons_succ, List.getElem_cons_zero]
        refine wpAnyH_take (i := 10) (v := undef) rfl (by kernel_rfl) (by kernel_rfl) (by kernel_rfl) (fun _ _ _ h => h) (Or.inr ⟨by kernel_rfl, rfl⟩) (by assumption) ?_
        simp only [Act.put, List.setIfInBounds_toArray, List.set_cons_zero, List.set_cons_succ, List.getElem_toArray, List.getElem_cons_succ, List.getElem_cons_zero]
        refine wpAnyH_take (i := 11) (v := undef) rfl (by kernel_rfl) (by kernel_rfl) (by kernel_rfl) (fun _ _ _ h => h) (Or.inr ⟨by kernel_rfl, rfl⟩) (by assumption) ?_
        simp only [Act.put, List.setIfInBounds_toArray, List.set_cons_zero, List.set_cons_succ, List.getElem_toArray, List.getElem_cons_succ, List.getElem_cons_zero]
        refine wpAnyH_take (i := 12) (v := undef) rfl (by kernel_rfl) (by kernel_rfl) (by kernel_rfl) (fun _ _ _ h => h) (Or.inr ⟨by kernel_rfl, rfl⟩) (by assumption) ?_
        simp only [Act.put, List.setIfInBounds_toArray, List.set_cons_zero, List.set_cons_succ, List.getElem_toArray, List.getElem_cons_succ, List.getElem_cons_zero]
        refine wpAnyH_take (i := 13) (v := undef) rfl (by kernel_rfl) (by kernel_rfl) (by kernel_rfl) (fun _ _ _ h => h) (Or.inr ⟨by kernel_rfl, rfl⟩) (by assumption) ?_
        simp only [Act.put, List.setIfInBounds_toArray, List.set_cons_zero, List.set_cons_succ, List.getElem_toArray, List.getElem_cons_succ, List.getElem_cons_zero]
        refine wpAnyH_take (i := 14) (v := undef) rfl (by kernel_rfl) (by kernel_rfl) (by kernel_rfl) (fun _ _ _ h => h) (Or.inr ⟨by kernel_rfl, rfl⟩) (by assumption) ?_
        simp only [Act.put, List.setIfInBounds_toArray, List.set_cons_zero, List.set_cons_succ, List.getElem_toArray, List.getElem_cons_succ, List.getElem_cons_zero]
        refine wpAnyH_take (i := 15) (v := undef) rfl (by kernel_rfl) (by kernel_rfl) (by kernel_rfl) (fun _ _ _ h => h) (Or.inr ⟨by kernel_rfl, rfl⟩) (by assumption) ?_
        simp only [Act.put, List.setIfInBounds_toArray, List.set_cons_zero, List.set_cons_succ, List.getElem_toArray, List.getElem_cons_succ, List.getElem_cons_zero]
        refine wpAnyH_take (i := 16) (v := undef) rfl (by kernel_rfl) (by kernel_rfl) (by kernel_rfl) (fun _ _ _ h => h) (Or.inr ⟨by kernel_rfl, rfl⟩) (by assumption) ?_
        simp only [Act.put, List.setIfInBounds_toArray, List.set_cons_zero, List.set_cons_succ, List.getElem_toArray, List.getElem_cons_succ, List.getElem_cons_zero]
        refine wpAnyH_take (i := 17) (v := ?_) rfl (by kernel_rfl) (by kernel_rfl) (by kernel_rfl) (fun _ _ _ h => h) (Or.inl ⟨by kernel_rfl, ?_⟩) (by assumption) ?_
        rotate_left
        · intro W hSW; obtain ⟨hS1, _⟩ := hSW; go_simp; first | done | rfl
        simp only [Act.put, List.setIfInBounds_toArray, List.set_cons_zero, List.set_cons_succ, List.getElem_toArray, List.getElem_cons_succ, List.getElem_cons_zero]
        refine wpAnyH_done (by kernel_rfl) ?_ _
        go_wp2
        go_ret
        exact ⟨ret_bool (unhide HQ2).symm, (unhide HB).trans (hB3.mono (by omega))⟩
      | true =>
        obtain ⟨h0, h1⟩ := ptB_iff.1 hp
        have ha : (a.toNat : Int) = a := by omega
        have hka : a.toNat < g.length := by omega
        obtain ⟨bg, og, e1, q2⟩ := (unhide HG wr hbel).at hka
        subst e1
        rw [getD_at hka] at q2
        have hx0 := getD_lt hw a.toNat
        have hbn := bitN_lt hn a
        rw [hp, Bool.true_and] at hq'
        rw [hp] at HPA
        have HD := hide (fun W (hb : Below wr.heap.size wr W) => And.intro (unhide HC W (hbel.trans (hb.mono hzr))) (Below.cell_of hb q2))
        have HV : Hid (bits .andNot .u64 (bits .andNot .u64 (A : Int) ((bitN g.length a : Nat) : Int)) ((g.getD a.toNat 0 : Nat) : Int) = ((andNot64 (andNot64 A (bitN g.length a)) (g.getD a.toNat 0) : Nat) : Int)) := hide (by
          rw [u64_andNot_nat _ _ hA hbn]
          exact u64_andNot_nat _ _ (andNot64_lt hA) hx0)
        generalize andNot64 (andNot64 A (bitN g.length a)) (g.getD a.toNat 0) = z at *
        generalize g.getD a.toNat 0 = x0 at *
        generalize bitN g.length a = t at *
        generalize a.toNat = j at *
        subst ha
        have HQ' := hide hq'
        clear hq hq' hr HQ hx0 hbn
        go_wp2
        have hbR : Below wr.heap.size wr wr.drew := drewB
        go_region_held3 (fun W => W.cell? ⟨w.heap.size, 0, none⟩ = some (.slice (some ⟨bg, og, none⟩) g.length cx) ∧ W.cell? ⟨bg, og + j, none⟩ = some (u64C x0))
          (first | exact unhide HD _ (by first | exact hB4 | exact hB3 | exact hbR | exact below_same rfl rfl rfl rfl))
          (first
            | (go_at_call 43; refine (unhide HTA _ (hbel.trans (Below.mono hB3 hzr))).mono ?_; rintro e w4 ⟨rfl, hb4⟩; have hB4 : Below wr.heap.size wr w4 := below_then hB3 hb4)
            | (go_at_call 42; refine (unhide HPA _ (by first | exact hbel.trans (Below.mono hbR hzr) | exact hbel.trans (Below.mono (below_same rfl rfl rfl rfl) hzr))).mono ?_; rintro e w3 ⟨rfl, hb3⟩; have hB3 : Below wr.heap.size wr w3 := below_then (by first | exact hbR | exact below_same rfl rfl rfl rfl) hb3))
        all_goals
          have hfin := hide (hbel.trans (Below.mono hB4 hzr))
          by_cases hz : z = 0
          · have hne : (bits .andNot .u64 (bits .andNot .u64 (A : Int) (t : Int)) (x0 : Int) != 0) = false := by rw [unhide HV, hz]; rfl
            have HQ2 : Hid (q = clqS g A (l.drop (k + 1))) := hide (by rw [unhide HQ', hz, unhide HR]; simp)
            clear HV HQ' hz HR
            go_wp2
            go_roundw
            case rel => exact ⟨k + 1, by omega, by go_num, HQ2, unhide hfin⟩
            case measure => simp [intOf]; omega
          · have hne : (bits .andNot .u64 (bits .andNot .u64 (A : Int) (t : Int)) (x0 : Int) != 0) = true := by rw [unhide HV]; simp; omega
            have HQ2 : Hid (q = false) := hide (by rw [unhide HQ']; simp [hz])
            clear HV HQ' hz HR
            go_wp2
            go_ret
            exact ⟨ret_bool (unhide HQ2).symm, (unhide HB).trans ((unhide hfin).mono (by omega))⟩
    · have HQ2 : Hid (q = true) := hide (by rw [unhide HQ, List.drop_eq_nil_of_le (by omega)]; rfl)
      clear HQ
      go_wp2
      go_ret
      exact ⟨ret_bool (unhide HQ2).symm, (unhide HB).trans (hbel.mono (by omega))⟩

end Go.Proofs.YtflibcfecnhjgaaDoor
