/-
  The contract of take.
-/
import Derived.Test.YtflibcfecnhjgaaDoorOState
import Derived.Test.YtflibcfecnhjgaaDoorOApart
import Derived.Test.YtflibcfecnhjgaaDoorOIns
import Derived.Test.YtflibcfecnhjgaaDoorGJoin2
import Derived.Test.YtflibcfecnhjgaaDoorUntil
namespace Go.Proofs.YtflibcfecnhjgaaDoor
open Go.RowKit
set_option linter.unusedVariables false
set_option linter.unusedSimpArgs false
set_option maxRecDepth 20000

theorem takeS_card (s : Srch) (a : Nat) : takeS 3 s (a : Int) = ⟨s.g, s.t.set a true, (a : Int) :: s.o⟩ := rfl
theorem takeS_else {how : Int} (h : how ≠ 3) (s : Srch) (a : Nat) : takeS how s (a : Int) = ⟨joinPs s.g (apartL s.g (s.t.set a true) (a : Int)), s.t.set a true, s.o ++ [(a : Int)]⟩ := by
  unfold takeS
  rw [if_neg h]
  rfl

set_option maxHeartbeats 1000000 in
theorem takeS_any {B : Nat} {w : World} {b a : Nat} {s : Srch} {x y z : Value} {how : Int} (h : StO B w b s x y z) (hr : RightG s.g) (hl : s.t.length = s.g.length) (hol : s.o.length ≤ 100) (hT : TabD w) (ha : a < s.t.length) (hB : B ≤ w.heap.size) (hB0 : 0 < B) :
    Calls Tryd.prog 45 #[.pointer (some ⟨b, 0, none⟩), .int .i64 (a : Int), .int .i64 how] w fun e w' => ∃ x' z', e = .returned (.tuple #[]) ∧ StO B w' b (takeS how s (a : Int)) x' y z' ∧ Below B w w' := by
  obtain ⟨gy, cy, rfl, hcy, hyc, ⟨u0, hc0⟩, hf0, hs1, hb1⟩ := h.setT ha
  obtain ⟨y0, y1, y2⟩ := h.box.cells
  obtain ⟨az, cz, rfl, hzl, hzc⟩ := (Seq.of_own h.o).form
  unfold maxLen at hcy hzc
  obtain ⟨w1, hw1⟩ : ∃ w1, w1 = w.setCell ⟨gy, a, none⟩ (.bool true) := ⟨_, rfl⟩
  rw [← hw1] at hs1 hb1
  have HS1 := hide hs1
  have HB1 := hide hb1
  have HW1 := hide hw1
  have HSZ : Hid (w1.heap.size = w.heap.size) := hide (by rw [hw1]; simp)
  have hz1 := hb1.size
  have hay : (a : Int) < (s.t.length : Int) := by omega
  have hT1 := hide (hT.belowB hb1 hB0)
  obtain ⟨x0, x1, x2⟩ := hs1.box.cells
  rw [hw1] at x0 x1 x2
  have HL := hide hl
  clear h hT hs1 hb1 hw1 hl
  by_cases hh : how = 3
  · subst hh
    rw [takeS_card]
    obtain ⟨oc, hoc⟩ : ∃ oc, oc = (a : Int) :: s.o := ⟨_, rfl⟩
    rw [← hoc]
    have HOC := hide hoc
    clear hoc
    have HI := hide (insert_any (a := (a : Int)) (unhide HS1).o (unhide HS1).nil (by show s.o.length < 100000000000; omega) (by omega : B ≤ w1.heap.size))
    go_enter Tryd.func45, Tryd.ntmps45
    go_wp2_with fail
    rw [← unhide HW1, ← unhide HSZ]
    refine (unhide HI).mono ?_
    rintro e w2 ⟨z', rfl, ho2, hg2⟩
    rw [← unhide HOC] at ho2
    obtain ⟨az', cz', rfl, hzl', hzc'⟩ := (Seq.of_own ho2).form
    obtain ⟨⟨u1, hc1⟩, hf1, hs3, hb3⟩ := (unhide HS1).setO (by omega) ho2 hg2 (by rw [unhide HOC]; simp)
    have HF := hide (And.intro hs3 ((unhide HB1).trans hb3))
    clear hs3 hb3 ho2 hg2 HI x0 x1 x2 y0 y1 y2 hc0 hf0
    go_wp2
    refine bodyPost_ret (results_none rfl _ _ _) rfl ?_
    exact ⟨_, _, rfl, (unhide HF).1, (unhide HF).2⟩
  · have hne : (how == 3) = false := by simpa using hh
    rw [takeS_else hh]
    obtain ⟨oc, hoc⟩ : ∃ oc, oc = s.o ++ [(a : Int)] := ⟨_, rfl⟩
    rw [← hoc]
    have HOC := hide hoc
    obtain ⟨t', ht'⟩ : ∃ t', t' = s.t.set a true := ⟨_, rfl⟩
    rw [← ht'] at HS1 ⊢
    have htl : t'.length = s.g.length := by rw [ht']; simp [unhide HL]
    obtain ⟨ps, hps⟩ : ∃ ps, ps = apartL s.g t' (a : Int) := ⟨_, rfl⟩
    rw [← hps]
    have hpl : ps.length ≤ 40 * 40 := by
      rw [hps]
      exact Nat.le_trans (apUp_len _ _ _) (Nat.mul_le_mul (Nat.le_trans (besT_len _ _ _ _) hr.few) (Nat.le_trans (besT_len _ _ _ _) hr.few))
    have HPS := hide hps
    have HTL := hide htl
    clear hoc ht' hps htl
    go_enter Tryd.func45, Tryd.ntmps45
    go_wp2_with (at_builtin; rw [← unhide HW1, ← unhide HSZ]; refine wp_app_int rfl (.tmp 30) (.tmp 32) rfl (B := B) (unhide HS1).o rfl (by omega) rfl (by show s.o.length < 100000000000; omega) ?_; intro z' w2 ho2 hg2; rw [show s.o ++ [(a : Int)] = oc from (unhide HOC).symm] at ho2; obtain ⟨az', cz', rfl, hzl', hzc'⟩ := (Seq.of_own ho2).form; obtain ⟨⟨u1, hc1⟩, hf1, hs3, hb3⟩ := (unhide HS1).setO (by omega) ho2 hg2 (by rw [unhide HOC]; simp))
    obtain ⟨W2, hW2⟩ : ∃ W, W = w2.setCell ⟨b, 2, none⟩ (.slice az' oc.length cz') := ⟨_, rfl⟩
    rw [← hW2] at hs3 hb3 ⊢
    have hBW := (unhide HB1).trans hb3
    have hzW := hBW.size
    have hg3 : StO B W2 b ⟨s.g, t', oc⟩ x (.slice (some ⟨gy, 0, none⟩) s.t.length cy) (.slice az' oc.length cz') := hs3
    have HAP := hide (apartS_any hg3.st hr (unhide HTL) ((unhide hT1).belowB hb3 hB0) (a : Int))
    have HT2 := hide (fun W (hb : Below B W2 W) => ((unhide hT1).belowB hb3 hB0).belowB hb hB0)
    have hbl := hg3.box.lt
    have hBb := hg3.bB
    have HS2 := hide hg3
    have HBW := hide hBW
    clear hs3 hb3 hBW hg3 hW2 ho2 hg2 x0 x1 x2 y0 y1 y2 hc0 hf0 hc1 hf1 HS1 hT1
    dsimp only at HAP
    rw [← unhide HPS] at HAP
    refine (unhide HAP).mono ?_
    rintro e w3 ⟨vp, rfl, ho3, hb3⟩
    obtain ⟨ap, cp, rfl, hpc⟩ := (Own2.prs ho3).form
    unfold maxLen at hpc
    have HS3 := hide ((unhide HS2).below hb3)
    have HO3 := hide ho3
    have hz3 := hb3.size
    have HB3b := hide (hb3.mono (show B ≤ W2.heap.size by omega))
    clear ho3 hb3 HAP HS2
    go_wp2
    go_loopw [40] (fun i wr => ∃ (k : Nat) (x' : Value), k ≤ ps.length ∧ i = .int .i64 k ∧ StO B wr b ⟨joinPs s.g (ps.take k), t', oc⟩ x' (.slice (some ⟨gy, 0, none⟩) s.t.length cy) (.slice az' oc.length cz') ∧ Own2 W2.heap.size wr (.slice ap ps.length cp) ps ∧ Below B W2 wr) (fun i wr => ps.length - (intOf i).toNat)
    case atStart => exact ⟨0, x, by omega, rfl, unhide HS3, unhide HO3, (unhide HB3b)⟩
    case round =>
      clear HS3 HO3 HB3b
      obtain ⟨k, x', hk, rfl, hst, hop, hbel⟩ := hrel
      rename World => wr
      have hzr := hbel.size
      by_cases hkl : k < ps.length
      · obtain ⟨bp, op, e1, q1, q2⟩ := (Own2.prs hop).at hkl
        subst e1
        have hsn : joinPs s.g (ps.take (k + 1)) = joinN (joinPs s.g (ps.take k)) [ps[k].1, ps[k].2] := by rw [List.take_succ_eq_append_getElem hkl, joinPs_snoc]
        have hgr := joinPs_right hr (ps.take k)
        generalize joinPs s.g (ps.take k) = G at *
        generalize ps[k] = p at *
        obtain ⟨p1, p2⟩ := p
        dsimp only at q1 q2 hsn
        have HSN := hide hsn
        have hst' := hst
        obtain ⟨ax, cx, rfl, hxl, hxc⟩ := hst.g.form
        dsimp only at hxl hst hst'
        unfold maxLen at hxc
        obtain ⟨y0, y1, y2⟩ := hst'.box.cells
        have HS := hide hst'
        have HO := hide hop
        have HBE := hide hbel
        have HJ := hide (fun W (hb : Below wr.heap.size wr W) => join_any (a := p1) (b := p2) ((unhide HS).below hb).g (by show G.length ≤ 64; have := hgr.few; omega) hgr.w64)
        dsimp only at HJ
        clear hsn hst hst' hop hbel y1 y2
        go_wp2
        obtain ⟨WA, hWA⟩ : ∃ W, W = wr.alloc (.cells #[.int .i64 p1, .int .i64 p2] 97) := ⟨_, rfl⟩
        have hbA : Below wr.heap.size wr WA := by rw [hWA]; exact (Below.refl _ _).alloc (Nat.le_refl _) _
        have hzA : WA.heap.size = wr.heap.size + 1 := by rw [hWA]; simp
        have hnA : WA.heap[wr.heap.size]? = some (.cells #[.int .i64 p1, .int .i64 p2] 97) := by rw [hWA]; exact heap_alloc_new _ _
        have p0 : WA.cell? ⟨wr.heap.size, 0, none⟩ = some (.int .i64 p1) := by simp only [World.cell?, hnA]; simp
        have p9 : WA.cell? ⟨wr.heap.size, 1, none⟩ = some (.int .i64 p2) := by simp only [World.cell?, hnA]; simp
        have yA := Below.cell_of hbA y0
        rw [← hWA]
        have HSA := hide ((unhide HS).below hbA)
        have HBA := hide ((unhide HBE).trans (hbA.mono (by omega)))
        have HOA := hide (own_below2 (unhide HO) hbA)
        have HHA := hide hbA
        clear hWA hbA hnA y0 q1 q2 HS HBE HO
        refine wp_region_till (st := 12) (S := fun U => U.cell? ⟨b, 0, none⟩ = some (.slice ax G.length cx) ∧ U.cell? ⟨wr.heap.size, 0, none⟩ = some (.int .i64 p1) ∧ U.cell? ⟨wr.heap.size, 1, none⟩ = some (.int .i64 p2)) (by kernel_rfl) ?_
        have hS0 : WA.drew.cell? ⟨b, 0, none⟩ = some (.slice ax G.length cx) ∧ WA.drew.cell? ⟨wr.heap.size, 0, none⟩ = some (.int .i64 p1) ∧ WA.drew.cell? ⟨wr.heap.size, 1, none⟩ = some (.int .i64 p2) := ⟨yA, p0, p9⟩
        refine till_take (i := 0) (v := ?_) rfl (by kernel_rfl) (by kernel_rfl) (by kernel_rfl) (by kernel_rfl) (fun _ _ _ h => h) (Or.inl ⟨by kernel_rfl, ?_⟩) (by assumption) ?_
        rotate_left
        · intro W hSW; obtain ⟨hS1, hS2, hS3⟩ := hSW; go_simp; first | done | rfl
        simp only [Act.put, List.setIfInBounds_toArray, List.set_cons_zero, List.set_cons_succ]
        refine till_take (i := 1) (v := ?_) rfl (by kernel_rfl) (by kernel_rfl) (by kernel_rfl) (by kernel_rfl) (fun _ _ _ h => h) (Or.inl ⟨by kernel_rfl, ?_⟩) (by assumption) ?_
        rotate_left
        · intro W hSW; obtain ⟨hS1, hS2, hS3⟩ := hSW; go_simp; first | done | rfl
        simp only [Act.put, List.setIfInBounds_toArray, List.set_cons_zero, List.set_cons_succ]
        refine till_take (i := 2) (v := ?_) rfl (by kernel_rfl) (by kernel_rfl) (by kernel_rfl) (by kernel_rfl) (fun _ _ _ h => h) (Or.inl ⟨by kernel_rfl, ?_⟩) (by assumption) ?_
        rotate_left
        · intro W hSW; obtain ⟨hS1, hS2, hS3⟩ := hSW; go_simp; first | done | rfl
        simp only [Act.put, List.setIfInBounds_toArray, List.set_cons_zero, List.set_cons_succ]
        refine till_take (i := 3) (v := ?_) rfl (by kernel_rfl) (by kernel_rfl) (by kernel_rfl) (by kernel_rfl) (fun _ _ _ h => h) (Or.inl ⟨by kernel_rfl, ?_⟩) (by assumption) ?_
        rotate_left
        · intro W hSW; obtain ⟨hS1, hS2, hS3⟩ := hSW; go_simp; first | done | rfl
        simp only [Act.put, List.setIfInBounds_toArray, List.set_cons_zero, List.set_cons_succ]
        refine till_take (i := 4) (v := ?_) rfl (by kernel_rfl) (by kernel_rfl) (by kernel_rfl) (by kernel_rfl) (fun _ _ _ h => h) (Or.inl ⟨by kernel_rfl, ?_⟩) (by assumption) ?_
        rotate_left
        · intro W hSW; obtain ⟨hS1, hS2, hS3⟩ := hSW; go_simp; first | done | rfl
        simp only [Act.put, List.setIfInBounds_toArray, List.set_cons_zero, List.set_cons_succ]
        refine till_take (i := 5) (v := ?_) rfl (by kernel_rfl) (by kernel_rfl) (by kernel_rfl) (by kernel_rfl) (fun _ _ _ h => h) (Or.inl ⟨by kernel_rfl, ?_⟩) (by assumption) ?_
        rotate_left
        · intro W hSW; obtain ⟨hS1, hS2, hS3⟩ := hSW; go_simp; first | done | rfl
        simp only [Act.put, List.setIfInBounds_toArray, List.set_cons_zero, List.set_cons_succ]
        refine till_take (i := 6) (v := ?_) rfl (by kernel_rfl) (by kernel_rfl) (by kernel_rfl) (by kernel_rfl) (fun _ _ _ h => h) (Or.inl ⟨by kernel_rfl, ?_⟩) (by assumption) ?_
        rotate_left
        · intro W hSW; obtain ⟨hS1, hS2, hS3⟩ := hSW; go_simp; first | done | rfl
        simp only [Act.put, List.setIfInBounds_toArray, List.set_cons_zero, List.set_cons_succ]
        refine till_take (i := 7) (v := ?_) rfl (by kernel_rfl) (by kernel_rfl) (by kernel_rfl) (by kernel_rfl) (fun _ _ _ h => h) (Or.inl ⟨by kernel_rfl, ?_⟩) (by assumption) ?_
        rotate_left
        · intro W hSW; obtain ⟨hS1, hS2, hS3⟩ := hSW; go_simp; first | done | rfl
        simp only [Act.put, List.setIfInBounds_toArray, List.set_cons_zero, List.set_cons_succ]
        refine till_take (i := 8) (v := ?_) rfl (by kernel_rfl) (by kernel_rfl) (by kernel_rfl) (by kernel_rfl) (fun _ _ _ h => h) (Or.inl ⟨by kernel_rfl, ?_⟩) (by assumption) ?_
        rotate_left
        · intro W hSW; obtain ⟨hS1, hS2, hS3⟩ := hSW; go_simp; first | done | rfl
        simp only [Act.put, List.setIfInBounds_toArray, List.set_cons_zero, List.set_cons_succ]
        refine till_one (i := 9) (by kernel_rfl) rfl rfl (by decide) (fun K hK => ?_)
        go_simp
        refine (unhide HJ _ (by exact (unhide HHA).trans (Below.mono (below_same rfl rfl rfl rfl) (by omega)))).mono ?_
        rintro e w4 ⟨y', rfl, ho4, hb4⟩
        have hb4' : Below WA.heap.size WA w4 := ⟨hb4.os, hb4.tape, hb4.output, hb4.size, hb4.block⟩
        have ho4' : OwnW WA.heap.size w4 y' (joinN G [p1, p2]) := ho4
        obtain ⟨G2, hG2⟩ : ∃ G2, G2 = joinN G [p1, p2] := ⟨_, rfl⟩
        rw [← hG2] at ho4'
        have HG2 := hide (hG2.trans (unhide HSN).symm)
        clear hG2 ho4
        obtain ⟨ay, cy2, rfl, _, _⟩ := (Seq.of_own ho4').form
        have q4 := Below.cell_of hb4' yA
        have q5 := Below.cell_of hb4' p0
        have q6 := Below.cell_of hb4' p9
        refine hK.out _ _ ⟨q4, q5, q6⟩ (fun hHeld => ?_)
        clear hK K
        try simp only [Act.put, List.setIfInBounds_toArray, List.set_cons_zero, List.set_cons_succ]
        refine till_one (i := 10) (by kernel_rfl) rfl rfl (by decide) (fun K hK => ?_)
        go_simp
        refine hK.out _ _ ⟨q4, q5, q6⟩ (fun hHeld => ?_)
        clear hK K
        try simp only [Act.put, List.setIfInBounds_toArray, List.set_cons_zero, List.set_cons_succ]
        refine till_one (i := 11) (by kernel_rfl) rfl rfl (by decide) (fun K hK => ?_)
        go_simp
        refine hK.out _ _ ⟨q4, q5, q6⟩ (fun hHeld => ?_)
        clear hK K
        try simp only [Act.put, List.setIfInBounds_toArray, List.set_cons_zero, List.set_cons_succ]
        have hBA : B ≤ WA.heap.size := by omega
        obtain ⟨_, hfr, hset, hbs⟩ := (unhide HSA).setG hBA ho4' hb4'
        have hop2 : Own2 W2.heap.size (w4.setCell ⟨b, 0, none⟩ (.slice ay G2.length cy2)) (.slice (some ⟨bp, op, none⟩) ps.length cp) ps := (own_below2 (unhide HOA) hb4').kept (row := some b) (grown_set w4 b 0 _) (by
          refine .inr (fun e => ?_)
          have h9 := (unhide HOA).lt bp rfl
          injection e with e
          have e2 : bp = b := e
          omega)
        have HF := hide (And.intro hset (And.intro hop2 ((unhide HBA).trans hbs)))
        refine till_last (by kernel_rfl) rfl rfl (by kernel_rfl) (fun K hK => ?_)
        go_simp
        refine hK.out _ _ ?_
        clear hK K hset hbs hop2 ho4' hb4 hb4' q4 q5 q6 hfr yA p0 p9
        try simp only [Act.put, List.setIfInBounds_toArray, List.set_cons_zero, List.set_cons_succ]
        generalize w4.setCell ⟨b, 0, none⟩ (.slice ay G2.length cy2) = w5 at *
        go_wp2
        go_roundw
        case rel => exact ⟨k + 1, _, by omega, by go_num, by rw [← unhide HG2]; exact (unhide HF).1, (unhide HF).2.1, (unhide HF).2.2⟩
        case measure => simp [intOf]; omega
      · obtain rfl : k = ps.length := by omega
        rw [List.take_length] at hst
        go_wp2
        go_end0
        exact ⟨_, _, rfl, hst, (unhide HBW).trans hbel⟩

end Go.Proofs.YtflibcfecnhjgaaDoor
