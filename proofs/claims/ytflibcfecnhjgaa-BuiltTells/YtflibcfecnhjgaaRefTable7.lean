/-
  The contract of the document's Table (layer 7).
-/
import Derived.Test.YtflibcfecnhjgaaRefHolds7
import Derived.Test.YtflibcfecnhjgaaRefFull7
import Derived.Test.YtflibcfecnhjgaaBTab
namespace Go.Proofs.Ytflibcfecnhjgaa
open Go.RowKit
set_option linter.unusedVariables false
set_option linter.unusedSimpArgs false
set_option maxRecDepth 20000

theorem full_mill {doms : List (List Int)} {scope t : List Int} (hin : ∀ x ∈ scope, 0 ≤ x ∧ x < (doms.length : Int)) (hm : ∀ d ∈ doms, Mill d) (hmem : t ∈ fullL (scope.map (domL doms))) : Mill t := fun x hx => by
  obtain ⟨e1, e2⟩ := (mem_full _ t).1 hmem
  obtain ⟨i, hi, rfl⟩ := List.getElem_of_mem hx
  have hi' : i < (scope.map (domL doms)).length := by omega
  have h3 := e2 i hi hi'
  rw [List.getElem_map] at h3
  have hsc : i < scope.length := by simpa using hi'
  have hii := hin _ (List.getElem_mem hsc)
  have hk : (scope[i]).toNat < doms.length := by omega
  have hdm : domL doms scope[i] = doms[(scope[i]).toNat] := by unfold domL; simp [List.getD_eq_getElem?_getD, hk]
  rw [hdm] at h3
  exact hm _ (List.getElem_mem hk) _ h3

set_option maxHeartbeats 4000000 in
theorem refTable_any {doms : List (List Int)} {c : Con} {vd vc : Value} {w : World} (hd : Tups w vd doms) (hc : ConV w vc c) (hin : ∀ x ∈ c.scope, 0 ≤ x ∧ x < (doms.length : Int)) (hlen : c.scope.length < 100000)
    (hcnt : ∀ i, i ≤ c.scope.length → prodN ((c.scope.take i).map (domL doms)) < 1000000000) (hs : Sane c) (hm : ∀ d ∈ doms, Mill d) :
    Calls Try.prog 9 #[vd, vc] w fun e w' => ∃ v, e = .returned v ∧ Tups w' v ((fullL (c.scope.map (domL doms))).filter (holdsB c)) ∧ Below w.heap.size w w' := by
  obtain ⟨a, ca, rfl, hla, hca⟩ := hd.form
  obtain ⟨vs, vr, va, rfl, g1, g2, g3⟩ := hc
  obtain ⟨a1, c1, rfl, l1, m1⟩ := g1.form
  obtain ⟨a2, c2, rfl, l2, m2⟩ := g2.form
  obtain ⟨a3, c3, rfl, l3, m3⟩ := g3.form
  unfold maxLen at hca m1 m2 m3
  have hb0 := (Below.refl w.heap.size w).alloc (Nat.le_refl _) (.cells #[.int .i64 c.kind, .slice a1 c.scope.length c1, .slice a2 c.rows.length c2, .slice a3 c.args.length c3] 31)
  obtain ⟨W1, hW1⟩ : ∃ W, W = w.alloc (.cells #[.int .i64 c.kind, .slice a1 c.scope.length c1, .slice a2 c.rows.length c2, .slice a3 c.args.length c3] 31) := ⟨_, rfl⟩
  have x0 : W1.heap[w.heap.size]? = some (.cells #[.int .i64 c.kind, .slice a1 c.scope.length c1, .slice a2 c.rows.length c2, .slice a3 c.args.length c3] 31) := by rw [hW1]; exact heap_alloc_new _ _
  have hs1 : W1.heap.size = w.heap.size + 1 := by rw [hW1]; simp
  rw [← hW1] at hb0
  have HC := hide (fun W (hb : Below W1.heap.size W1 W) =>
    have e0 : ConAt W w.heap.size c.kind (.slice a1 c.scope.length c1) (.slice a2 c.rows.length c2) (.slice a3 c.args.length c3) := by unfold ConAt; rw [hb.block _ (by omega)]; exact x0
    e0.cells)
  have HCV := hide (fun W (hb : Below W1.heap.size W1 W) => (show ConV W (.agg #[.int .i64 c.kind, .slice a1 c.scope.length c1, .slice a2 c.rows.length c2, .slice a3 c.args.length c3]) c from ⟨_, _, _, rfl, (g1.below hb0).below hb, (g2.below hb0).below hb, (g3.below hb0).below hb⟩))
  have HF := hide (refFull_any (hd.below hb0) (g1.below hb0) hin hlen hcnt)
  have HML := hide (fun t (h : t ∈ fullL (c.scope.map (domL doms))) => full_mill hin hm h)
  have HB := hide hb0
  have HW1 := hide hW1
  have HS := hide hs
  have hFl : (fullL (c.scope.map (domL doms))).length < 1000000000 := by rw [full_count]; have := hcnt c.scope.length (Nat.le_refl _); rwa [List.take_length] at this
  obtain ⟨y0, y1, y2, y3⟩ := unhide HC W1 (Below.refl _ _)
  generalize fullL (c.scope.map (domL doms)) = F at *
  clear hd g1 g2 g3 hin hlen hcnt hs hm hb0 x0 hs1 hW1
  go_enter Try.func9, Try.ntmps9
  go_wp2_with fail
  rw [← unhide HW1]
  refine (unhide HF).mono ?_
  rintro e w2 ⟨u2, rfl, ht2, hb2⟩
  obtain ⟨fa, fc, rfl, hfl, hfc⟩ := ht2.form
  unfold maxLen at hfc
  have hbx := (Below.refl w2.heap.size w2).alloc (Nat.le_refl _) (.cells #[] 29)
  have HT := hide ht2
  have HB2 := hide hb2
  have hz2 := hb2.size
  have HBX := hide hbx
  clear HW1 HF y0 y1 y2 y3 ht2 hb2 hbx
  go_wp2
  go_loopw [6, 7, 8] (fun v i _ wr => ∃ k : Nat, k ≤ F.length ∧ i = .int .i64 k ∧ OwnT w2.heap.size wr v ((F.take k).filter (holdsB c)) ∧ Below w2.heap.size w2 wr) (fun _ i _ _ => F.length - (intOf i).toNat)
  case atStart => exact ⟨0, by omega, rfl, by simpa using OwnT.lit (Nat.le_refl _), unhide HBX⟩
  case round =>
    clear HBX
    obtain ⟨k, hk, rfl, hown, hbr⟩ := hrel
    rename World => wr
    have hzr := hbr.size
    by_cases hkl : k < F.length
    · obtain ⟨b4, o4, u4, rfl, q4, r4⟩ := (unhide HT).at hkl
      obtain ⟨a5, c5, rfl, _, _⟩ := r4.form
      have HST : Hid ((F.take (k + 1)).filter (holdsB c) = (F.take k).filter (holdsB c) ++ if holdsB c F[k] = true then [F[k]] else []) := hide (by
        rw [List.take_succ_eq_append_getElem hkl, List.filter_append]; simp [List.filter_cons])
      have hll : ((F.take k).filter (holdsB c)).length < 1000000000 := by
        have h1 := List.length_filter_le (holdsB c) (F.take k)
        rw [List.length_take] at h1; omega
      have HM := hide (unhide HML _ (List.getElem_mem hkl))
      have HCL := hide (fun W (hb : Below w2.heap.size w2 W) => refHolds_any (unhide HCV W ((unhide HB2).trans (hb.mono hz2))) (r4.below hb) (unhide HS) (unhide HM))
      have HK := hide (fun W (hb : Below w2.heap.size w2 W) => And.intro (unhide HC W ((unhide HB2).trans (hb.mono hz2))) (Below.cell_of hb q4))
      have HR4 := hide (fun W (hb : Below w2.heap.size w2 W) => r4.below hb)
      have HAP := hide (fun (v : Value) (W : World) (hv : New w2.heap.size W v) => r4.apart hv (Nat.le_refl _))
      generalize F[k] = t at *
      generalize (F.take k).filter (holdsB c) = L at *
      have HOW := hide hown
      clear q4 r4 hown
      go_wp2
      go_region_held3 (fun W => (W.cell? ⟨w.heap.size, 0, none⟩ = some (.int .i64 c.kind) ∧ W.cell? ⟨w.heap.size, 1, none⟩ = some (.slice a1 c.scope.length c1) ∧ W.cell? ⟨w.heap.size, 2, none⟩ = some (.slice a2 c.rows.length c2) ∧ W.cell? ⟨w.heap.size, 3, none⟩ = some (.slice a3 c.args.length c3)) ∧ W.cell? ⟨b4, o4 + k, none⟩ = some (.slice a5 t.length c5))
        (first | exact unhide HK _ (by first | exact hB9 | exact hbr | exact hbr.drew))
        (first | (go_at_call 8; refine (unhide HCL _ (by first | exact hbr | exact hbr.drew)).mono ?_; rintro e w9 ⟨rfl, hb9⟩; have hb9' : Below wr.heap.size wr w9 := ⟨hb9.os, hb9.tape, hb9.output, hb9.size, hb9.block⟩; have hB9 : Below w2.heap.size w2 w9 := hbr.trans (hb9'.mono hzr)))
      have hown9 := (unhide HOW).below hb9'
      have hap := hide (unhide HAP _ _ hown9.new)
      have hr9 := unhide HR4 w9 hB9
      have hz9 : w2.heap.size ≤ w9.heap.size := hB9.size
      have hq4 := (unhide HK w9 hB9).2
      clear hb9 HCL HOW
      cases hh : holdsB c t with
      | true =>
        have HST2 := hide (show _ from unhide HST)
        rw [hh] at HST2
        clear HST
        go_wp2_with (at_builtin; refine wp_app_tup rfl (.tmp 27) (.tmp 32) rfl hown9 hr9 (unhide hap) rfl hz9 rfl (by omega) ?_; intro v6 w6 hown6 hg6)
        go_roundw
        case rel => exact ⟨k + 1, by omega, by go_num, by rw [unhide HST2]; simpa using hown6, hB9.trans hg6.below⟩
        case measure => simp [intOf]; omega
      | false =>
        have HST2 := hide (show _ from unhide HST)
        rw [hh] at HST2
        clear HST
        go_wp2
        go_roundw
        case rel => exact ⟨k + 1, by omega, by go_num, by rw [unhide HST2]; simpa using hown9, hB9⟩
        case measure => simp [intOf]; omega
    · have hke : k = F.length := by omega
      subst hke
      have hfin := hown.tups
      rw [List.take_length] at hfin
      have HE := hide ((unhide HB).trans (((unhide HB2).trans (hbr.mono hz2)).mono (unhide HB).size))
      clear hown hkl HC HCV HT
      go_wp2
      go_ret
      exact ⟨_, rfl, hfin, unhide HE⟩

end Go.Proofs.Ytflibcfecnhjgaa
