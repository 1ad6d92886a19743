/-
  Proved: BuiltTells answers true for every instance and limit, and leaves them as they were. No condition.
-/
import Derived.Test.YtflibcfecnhjgaaFrame
import Derived.Test.YtflibcfecnhjgaaFrame2
import Derived.Test.YtflibcfecnhjgaaShown7
import Derived.Test.YtflibcfecnhjgaaLiftI
import Derived.Test.YtflibcfecnhjgaaFewSane
import Derived.Test.YtflibcfecnhjgaaRefTable7
import Derived.Test.YtflibcfecnhjgaaBCost
import Derived.Test.YtflibcfecnhjgaaRelSame
import Derived.Test.YtflibcfecnhjgaaHeld
namespace Go.Proofs.Ytflibcfecnhjgaa.builtTells
open Go.RowKit Go.ChangeShapes Go.WideShapes Go.ChangeAt
set_option linter.unusedVariables false
set_option linter.unusedSimpArgs false
set_option maxRecDepth 20000

theorem run_dropI (a : Option Addr) (len cap : Nat) (h : Int) (n : Nat) (hn : h = n) (h1 : n ≤ len) (h2 : len ≤ cap) (w : World) :
    (Instr.slice 29 (.slice a len cap) (some (.int .i64 h)) none none).run Try.prog w = .ok (.slice (dropA a cap n) (len - n) (cap - n)) w := by
  have hu : Try.prog.underlying 29 = some (.slice (Try.prog.elem 29)) := by kernel_rfl
  have hsz : (sizeOf (Try.prog.elem 29)).run Try.prog w = .ok 1 w := by kernel_rfl
  subst hn
  rw [run_slice_l w 29 a len cap hu .i64 (n : Int) (by omega) (by omega), hsz]
  simp [Result.andThen_ok, sliced, dropA]

set_option maxHeartbeats 4000000 in
theorem walk {x : Ins} {l1 : Int} {v0 v1 : Value} {w : World} (i0 : InsV w v0 x) (i1 : v1 = .int .i64 l1) (m1 : InI64 l1) :
    Calls Try.prog 3 #[v0, v1] w fun e w' => e = .returned (.bool true) ∧ Below w.heap.size w w' := by
  subst i1
  have i0' := i0
  obtain ⟨vd, vh, vs, rfl, h1, h2, h3⟩ := i0'
  obtain ⟨a0, c0, rfl, hl0, hc0⟩ := h1.form
  obtain ⟨a1, c1, rfl, hl1, hc1⟩ := h2.form
  obtain ⟨a2, c2, rfl, hl2, hc2⟩ := h3.form
  unfold maxLen at hc0 hc1 hc2
  obtain ⟨W1, hW1⟩ : ∃ W, W = w.alloc (.cells #[.slice a0 x.doms.length c0, .slice a1 x.hard.length c1, .slice a2 x.soft.length c2] 26) := ⟨_, rfl⟩
  have hb0 : Below w.heap.size w W1 := by rw [hW1]; exact (Below.refl _ _).alloc (Nat.le_refl _) _
  have hz1 : W1.heap.size = w.heap.size + 1 := by rw [hW1]; simp
  have x0 : W1.heap[w.heap.size]? = some (.cells #[.slice a0 x.doms.length c0, .slice a1 x.hard.length c1, .slice a2 x.soft.length c2] 26) := by
    rw [hW1]; exact heap_alloc_new _ _
  have HX := hide (fun W (hb : Below W1.heap.size W1 W) =>
    have e0 : W.heap[w.heap.size]? = some (.cells #[.slice a0 x.doms.length c0, .slice a1 x.hard.length c1, .slice a2 x.soft.length c2] 26) := by rw [hb.block _ (by omega)]; exact x0
    (show W.cell? ⟨w.heap.size, 0, none⟩ = some (.slice a0 x.doms.length c0) ∧ W.cell? ⟨w.heap.size, 1, none⟩ = some (.slice a1 x.hard.length c1) ∧ W.cell? ⟨w.heap.size, 2, none⟩ = some (.slice a2 x.soft.length c2) from by
      refine ⟨?_, ?_, ?_⟩ <;> (unfold World.cell?; rw [e0]; rfl)))
  have HV := hide (fun W (hb : Below W1.heap.size W1 W) => (i0.below hb0).below hb)
  have HD := hide (fun W (hb : Below W1.heap.size W1 W) => (h1.below hb0).below hb)
  have HH := hide (fun W (hb : Below W1.heap.size W1 W) => (h2.below hb0).below hb)
  have HS := hide (fun W (hb : Below W1.heap.size W1 W) => (h3.below hb0).below hb)
  have HB := hide hb0
  have HW1 := hide hW1
  clear i0 h1 h2 h3 hb0 x0 hW1 m1
  go_enter Try.func3, Try.ntmps3
  go_wp2_with fail
  rw [← unhide HW1]
  refine (shown7_any _).mono ?_
  rintro e w1 ⟨rfl, hb1⟩
  obtain ⟨y0, y1, y2⟩ := unhide HX w1 hb1
  have HF := hide (few7_any (unhide HV w1 hb1))
  have HB1 := hide hb1
  clear HW1 HV hb1
  go_wp2_with fail
  refine (unhide HF).mono ?_
  rintro e w2 ⟨⟨b, rfl, hb⟩, hb2⟩
  have HB2 := hide ((unhide HB1).trans (hb2.mono (unhide HB1).size))
  have hz2 := (unhide HB2).size
  clear HF hb2 HB1 y0 y1 y2
  cases b with
  | false =>
    clear hb
    go_wp2
    go_ret
    exact ⟨rfl, (unhide HB).trans ((unhide HB2).mono (unhide HB).size)⟩
  | true =>
    have HP := hide (hb.1 rfl)
    clear hb
    obtain ⟨y0, y1, y2⟩ := unhide HX w2 (unhide HB2)
    go_wp2
    go_loopw [6, 7, 8, 9, 10, 11, 12] (fun i _ _ _ _ _ _ wr => ∃ k : Nat, k ≤ x.hard.length ∧ i = .int .i64 k ∧ Below w2.heap.size w2 wr) (fun i _ _ _ _ _ _ _ => x.hard.length - (intOf i).toNat)
    case atStart => exact ⟨0, by omega, rfl, Below.refl _ _⟩
    case round =>
      clear y0 y1 y2
      obtain ⟨k, hk, rfl, hbel⟩ := hrel
      rename World => wr
      have hzr := hbel.size
      have hBW := (unhide HB2).trans (hbel.mono hz2)
      obtain ⟨y0, y1, y2⟩ := unhide HX wr hBW
      have hlt : w.heap.size < wr.heap.size := by have := hBW.size; omega
      have hne1 : ¬ (wr.heap.size = w.heap.size) := by omega
      have hne2 : ¬ (w.heap.size = wr.heap.size) := by omega
      by_cases hkl : k < x.hard.length
      · obtain ⟨bh, oh, u1, u2, u3, rfl, k0, k1, k2, k3, hi1, ht2, hi3⟩ := (unhide HH wr hBW).at hkl
        obtain ⟨ua, uc, rfl, _, huc⟩ := hi1.form
        obtain ⟨va, vc, rfl, _, hvc⟩ := ht2.form
        obtain ⟨xa, xc, rfl, _, hxc⟩ := hi3.form
        have hdv := unhide HD wr hBW
        have hc := (unhide HP).1.hard k hkl
        have hsn := (unhide HP).sane hkl
        have hpr := (unhide HP).prod hc.scope
        have hfl := (unhide HP).full hc.scope
        obtain ⟨hin, hs1, hs6, hasc⟩ := scopeB_in hc.scope
        have HSN := hide hsn
        have HC := hide hc
        generalize x.hard[k] = c at *
        obtain ⟨WA, hWA⟩ : ∃ W, W = wr.alloc (.cells #[.int .i64 c.kind, .slice ua c.scope.length uc, .slice va c.rows.length vc, .slice xa c.args.length xc] 31) := ⟨_, rfl⟩
        have hbA : Below wr.heap.size wr WA := by rw [hWA]; exact (Below.refl _ _).alloc (Nat.le_refl _) _
        have hzA : WA.heap.size = wr.heap.size + 1 := by rw [hWA]; simp
        have xA : ConAt WA wr.heap.size c.kind (.slice ua c.scope.length uc) (.slice va c.rows.length vc) (.slice xa c.args.length xc) := by unfold ConAt; rw [hWA]; exact heap_alloc_new _ _
        have HCA := hide (fun W (hb : Below WA.heap.size WA W) => (show ConAt W wr.heap.size c.kind (.slice ua c.scope.length uc) (.slice va c.rows.length vc) (.slice xa c.args.length xc) from by unfold ConAt; rw [hb.block _ (by omega)]; exact xA).cells)
        have HCV := hide (fun W (hb : Below WA.heap.size WA W) => (show ConV W (.agg #[.int .i64 c.kind, .slice ua c.scope.length uc, .slice va c.rows.length vc, .slice xa c.args.length xc]) c from ⟨_, _, _, rfl, (hi1.below hbA).below hb, (ht2.below hbA).below hb, (hi3.below hbA).below hb⟩))
        have HBA := hide (hBW.trans (hbA.mono (by have := hBW.size; omega)))
        have HRF := hide (refFull_any (hdv.below hbA) (hi1.below hbA) hin (by omega) (fun i _ => by have := hpr i; omega))
        have HA2 := hide (fun W (hb : Below WA.heap.size WA W) => hbA.trans (hb.mono (by omega)))
        have HWA := hide hWA
        have HPR := hide (fun i (_ : i ≤ c.scope.length) => (show prodN ((c.scope.take i).map (domL x.doms)) < 1000000000 from by have := hpr i; omega))
        have HSC := hide (fun W (hb : Below WA.heap.size WA W) => (hi1.below hbA).below hb)
        clear hWA hbA hi1 ht2 hi3 hdv hc hsn hpr hasc
        go_wp2_with fail
        rw [← unhide HWA]
        refine (unhide HRF).mono ?_
        rintro e w3 ⟨uF, rfl, htF, hb3⟩
        obtain ⟨fa, fc, rfl, _, hfc⟩ := htF.form
        unfold maxLen at hfc
        have HTF := hide (fun W (hb : Below w3.heap.size w3 W) => htF.below hb)
        have HB3 := hide hb3
        have hz3 := hb3.size
        have HML := hide (fun t (h : t ∈ fullL (c.scope.map (domL x.doms))) => full_mill hin (unhide HP).1.mill h)
        have HLN := hide (fun t (h : t ∈ fullL (c.scope.map (domL x.doms))) => (show t.length = c.scope.length from by have := ((mem_full _ t).1 h).1; simpa using this))
        have hA1 : ∀ W, Below WA.heap.size WA W → Below W1.heap.size W1 W := fun W hb => (unhide HBA).trans (hb.mono (unhide HBA).size)
        have HRT := hide (fun W (hb : Below WA.heap.size WA W) => refTable_any (unhide HD W (hA1 W hb)) (unhide HCV W hb) hin (by omega) (unhide HPR) (unhide HSN) (unhide HP).1.mill)
        have HTB := hide (fun W (hb : Below WA.heap.size WA W) => table_any (most := l1) (unhide HD W (hA1 W hb)) (unhide HCV W hb) hin (by omega) (fun d hd => by have := (unhide HP).1.short d hd; omega) (unhide HSN) (unhide HP).1.mill)
        clear hA1
        generalize fullL (c.scope.map (domL x.doms)) = F at *
        clear htF hb3 HRF HWA k0 k1 k2 k3 y0 y1 y2
        go_wp2
        go_loopw [9] (fun j wq => ∃ m : Nat, m ≤ F.length ∧ j = .int .i64 m ∧ Below w3.heap.size w3 wq) (fun j _ => F.length - (intOf j).toNat)
        case atStart => exact ⟨0, by omega, rfl, Below.refl _ _⟩
        case round =>
          obtain ⟨m, hm, rfl, hbq⟩ := hrel
          rename World => wq
          have hQ := hbq
          have hBq : Below WA.heap.size WA wq := (unhide HB3).trans (hbq.mono hz3)
          have hBq1 : Below W1.heap.size W1 wq := (unhide HBA).trans (hBq.mono (by have := (unhide HBA).size; omega))
          obtain ⟨y0, y1, y2⟩ := unhide HX wq hBq1
          obtain ⟨k0, k1, k2, k3⟩ := unhide HCA wq hBq
          by_cases hml : m < F.length
          · obtain ⟨bt, ot, ut, rfl, q4, r4⟩ := (unhide HTF wq hbq).at hml
            obtain ⟨a5, c5, rfl, hl5, hc5⟩ := r4.form
            unfold maxLen at hc5
            have hmt := unhide HML _ (List.getElem_mem hml)
            have hlt1 := unhide HLN _ (List.getElem_mem hml)
            have hlI : (1 : Int) ≤ (F[m].length : Int) := by omega
            have hlJ : (F[m].length : Int) ≤ (c5 : Int) := by omega
            have hlK : (1 : Int) ≤ (c5 : Int) := by omega
            have r4' : ∀ W, Below w3.heap.size w3 W → Ints W (.slice a5 F[m].length c5) F[m] := fun W hb => by
              obtain ⟨bt', ot', ut', e1, q4', r4'⟩ := (unhide HTF W hb).at hml
              cases e1
              obtain ⟨_, _, _, e2, q5, _⟩ := (unhide HTF w3 (Below.refl _ _)).at hml
              cases e2
              have e3 := Below.cell_of hb q5
              have e4 := Below.cell_of hbq q5
              rw [q4'] at e3
              rw [q4] at e4
              cases e3
              cases e4
              exact r4'
            have HK := hide (fun W (hb : Below w3.heap.size w3 W) => (show (W.cell? ⟨wr.heap.size, 0, none⟩ = some (.int .i64 c.kind) ∧ W.cell? ⟨wr.heap.size, 1, none⟩ = some (.slice ua c.scope.length uc) ∧ W.cell? ⟨wr.heap.size, 2, none⟩ = some (.slice va c.rows.length vc) ∧ W.cell? ⟨wr.heap.size, 3, none⟩ = some (.slice xa c.args.length xc)) ∧ W.cell? ⟨bt, ot + m, none⟩ = some (.slice a5 F[m].length c5) from by
              refine ⟨unhide HCA W ((unhide HB3).trans (hb.mono hz3)), ?_⟩
              obtain ⟨_, _, _, e2, q5, _⟩ := (unhide HTF w3 (Below.refl _ _)).at hml
              cases e2
              have e3 := Below.cell_of hb q5
              have e4 := Below.cell_of hbq q5
              rw [q4] at e4
              cases e4
              exact e3))
            have HC1 := hide (fun W (hb : Below w3.heap.size w3 W) => holds_any (unhide HCV W ((unhide HB3).trans (hb.mono hz3))) (r4' W hb) (unhide HSN) hmt)
            have HC2 := hide (fun W (hb : Below w3.heap.size w3 W) => refHolds_any (unhide HCV W ((unhide HB3).trans (hb.mono hz3))) (r4' W hb) (unhide HSN) hmt)
            have HC3 := hide (fun W (hb : Below w3.heap.size w3 W) => holds_any (unhide HCV W ((unhide HB3).trans (hb.mono hz3))) ((r4' W hb).drop (k := 1) (by omega)) (unhide HSN) (fun y hy => hmt y (List.mem_of_mem_drop hy)))
            have hdrop := fun W => run_dropI a5 F[m].length c5 1 1 rfl (by omega) (by omega) W
            have HT1 : Hid (holdsB c (F[m].drop 1) = false) := hide (by unfold holdsB; rw [if_neg (by rw [List.length_drop]; omega)])
            generalize F[m] = t at *
            rw [unhide HT1] at HC3
            clear r4 r4' hmt hlt1
            go_wp2
            go_region_held3 (fun W => (W.cell? ⟨wr.heap.size, 0, none⟩ = some (.int .i64 c.kind) ∧ W.cell? ⟨wr.heap.size, 1, none⟩ = some (.slice ua c.scope.length uc) ∧ W.cell? ⟨wr.heap.size, 2, none⟩ = some (.slice va c.rows.length vc) ∧ W.cell? ⟨wr.heap.size, 3, none⟩ = some (.slice xa c.args.length xc)) ∧ W.cell? ⟨bt, ot + m, none⟩ = some (.slice a5 t.length c5))
              (first | exact unhide HK _ (by first | exact hQ | exact hQ.drew))
              (first
                | (go_at_call_of 7 (Value.slice a5 t.length c5); refine (unhide HC1 _ (by first | exact hQ | exact hQ.drew)).mono ?_; rintro e w9 ⟨rfl, hb9⟩; replace hQ : Below w3.heap.size w3 w9 := by first | exact hQ.trans (hb9.mono hQ.size) | exact hQ.drew.trans (hb9.mono hQ.drew.size))
                | (go_at_call 8; refine (unhide HC2 _ (by first | exact hQ | exact hQ.drew)).mono ?_; rintro e w9 ⟨rfl, hb9⟩; replace hQ : Below w3.heap.size w3 w9 := by first | exact hQ.trans (hb9.mono hQ.size) | exact hQ.drew.trans (hb9.mono hQ.drew.size))
                | (go_at_call 7; refine (unhide HC3 _ (by first | exact hQ | exact hQ.drew)).mono ?_; rintro e w9 ⟨rfl, hb9⟩; replace hQ : Below w3.heap.size w3 w9 := by first | exact hQ.trans (hb9.mono hQ.size) | exact hQ.drew.trans (hb9.mono hQ.drew.size)))
            all_goals
              clear hb9
              go_wp2
              go_roundw
              case rel => exact ⟨m + 1, by omega, by go_num, hQ⟩
              case measure => simp [intOf]; omega
          · go_wp2_with fail
            refine (unhide HRT _ hBq).mono ?_
            rintro e w4 ⟨vT, rfl, htT, hb4⟩
            obtain ⟨R, hR⟩ : ∃ R, R = F.filter (holdsB c) := ⟨_, rfl⟩
            rw [← hR] at htT HTB
            obtain ⟨ta, tc, rfl, _, htc⟩ := htT.form
            unfold maxLen at htc
            have hB4 : Below WA.heap.size WA w4 := hBq.trans (hb4.mono hBq.size)
            have hB41 : Below W1.heap.size W1 w4 := hBq1.trans (hb4.mono hBq1.size)
            have hB42 : Below w2.heap.size w2 w4 := hbel.trans ((unhide HA2 _ hB4).mono hzr)
            have HTT := hide (fun W (hb : Below w4.heap.size w4 W) => htT.below hb)
            clear y0 y1 y2 k0 k1 k2 k3
            obtain ⟨y0, y1, y2⟩ := unhide HX w4 hB41
            obtain ⟨k0, k1, k2, k3⟩ := unhide HCA w4 hB4
            clear htT hb4 hR HRT hQ hbq hBq hBq1
            go_wp2_with fail
            refine (unhide HTB _ hB4).mono ?_
            rintro e w5 ⟨hG, hb5⟩
            have hB5 : Below WA.heap.size WA w5 := hB4.trans (hb5.mono hB4.size)
            have hB51 : Below W1.heap.size W1 w5 := hB41.trans (hb5.mono hB41.size)
            have hB52 : Below w2.heap.size w2 w5 := hB42.trans (hb5.mono hB42.size)
            rcases hG with ⟨hle, vs, vr, rfl, hvs, hvr, _⟩ | ⟨hgt, rfl⟩
            · obtain ⟨sa, sc, rfl, _, hsc⟩ := hvs.form
              obtain ⟨ra, rc, rfl, _, hrc⟩ := hvr.form
              unfold maxLen at hsc hrc
              obtain ⟨W6, hW6⟩ : ∃ W, W = w5.alloc (.cells #[.slice sa c.scope.length sc, .slice ra R.length rc] 36) := ⟨_, rfl⟩
              have hb6 : Below w5.heap.size w5 W6 := by rw [hW6]; exact (Below.refl _ _).alloc (Nat.le_refl _) _
              have hB6 : Below WA.heap.size WA W6 := hB5.trans (hb6.mono hB5.size)
              have hB62 : Below w2.heap.size w2 W6 := hB52.trans (hb6.mono hB52.size)
              have z0 := unhide HCA w5 hB5
              have e6 := heap_alloc_new w5 (.cells #[.slice sa c.scope.length sc, .slice ra R.length rc] 36)
              obtain ⟨k0', k1', k2', k3'⟩ := unhide HCA W6 hB6
              rw [hW6] at k0' k1' k2' k3'
              have HSM := hide (refSame_rel (w := W6) (v := .agg #[.slice sa c.scope.length sc, .slice ra R.length rc]) (v' := .agg #[.slice ua c.scope.length uc, .slice ta R.length tc]) ⟨_, _, rfl, hvs.below hb6, hvr.below hb6⟩ ⟨_, _, rfl, unhide HSC W6 hB6, unhide HTT W6 (hb5.trans (hb6.mono hb5.size))⟩)
              have hsr : sameR c.scope R c.scope R = true := sameR_iff.2 ⟨rfl, rfl⟩
              have HSR := hide hsr
              have hle' : decide ((R.length : Int) ≤ l1) = true := by simpa using hle
              have r0 : (w5.alloc (.cells #[.slice sa c.scope.length sc, .slice ra R.length rc] 36)).cell? ⟨w5.heap.size, 0, none⟩ = some (.slice sa c.scope.length sc) := by unfold World.cell?; rw [e6]; rfl
              have r1 : (w5.alloc (.cells #[.slice sa c.scope.length sc, .slice ra R.length rc] 36)).cell? ⟨w5.heap.size, 1, none⟩ = some (.slice ra R.length rc) := by unfold World.cell?; rw [e6]; rfl
              have HW6 := hide hW6
              clear hvs hvr hb6 hB6 e6 z0 hW6 hsr k0 k1 k2 k3 hb5
              go_wp2_with fail
              rw [← unhide HW6]
              refine (unhide HSM).mono ?_
              rintro e w7 ⟨rfl, hb7⟩
              rw [unhide HSR]
              have hB7 := hB62.trans (hb7.mono hB62.size)
              clear hb7
              go_wp2
              go_roundw
              case rel => exact ⟨k + 1, by omega, by go_num, hB7⟩
              case measure => simp [intOf]; omega
            · have hle' : decide ((R.length : Int) ≤ l1) = false := by simp; omega
              have hgt' : ¬ (R.length : Int) ≤ l1 := by omega
              have hB62 : Below w2.heap.size w2 (w5.alloc (.cells #[.slice none 0 0, .slice none 0 0] 36)) := hB52.trans (((Below.refl _ _).alloc (Nat.le_refl _) _ : Below w5.heap.size w5 (w5.alloc (.cells #[.slice none 0 0, .slice none 0 0] 36))).mono hB52.size)
              have e6 := heap_alloc_new w5 (.cells #[.slice none 0 0, .slice none 0 0] 36)
              have r1 : (w5.alloc (.cells #[.slice none 0 0, .slice none 0 0] 36)).cell? ⟨w5.heap.size, 1, none⟩ = some (.slice none 0 0) := by unfold World.cell?; rw [e6]; rfl
              clear e6 hb5
              go_wp2
              go_roundw
              case rel => exact ⟨k + 1, by omega, by go_num, hB62⟩
              case measure => simp [intOf]; omega
      · go_wp2
        go_loopw [13, 14, 15, 16, 17, 18, 19] (fun i _ _ _ _ _ _ wr => ∃ k : Nat, k ≤ x.soft.length ∧ i = .int .i64 k ∧ Below w2.heap.size w2 wr) (fun i _ _ _ _ _ _ _ => x.soft.length - (intOf i).toNat)
        case atStart => exact ⟨0, by omega, rfl, hbel⟩
        case round =>
          clear y0 y1 y2 hbel hzr hBW hlt hne1 hne2
          obtain ⟨k3, hk3, rfl, hbel⟩ := hrel
          rename World => wr
          have hzr := hbel.size
          have hBW := (unhide HB2).trans (hbel.mono hz2)
          obtain ⟨y0, y1, y2⟩ := unhide HX wr hBW
          have hlt : w.heap.size < wr.heap.size := by have := hBW.size; omega
          by_cases hkl3 : k3 < x.soft.length
          · obtain ⟨bh, oh, u1, u2, u3, rfl, k0, k1, k2, k4, hi1, ht2, hi3⟩ := (unhide HS wr hBW).at hkl3
            obtain ⟨ua, uc, rfl, _, huc⟩ := hi1.form
            obtain ⟨va, vc, rfl, _, hvc⟩ := ht2.form
            obtain ⟨xa, xc, rfl, _, hxc⟩ := hi3.form
            have hdv := unhide HD wr hBW
            have hc := (unhide HP).1.soft k3 hkl3
            have hpr := (unhide HP).prod hc.scope
            have hfl := (unhide HP).full hc.scope
            have hrw := (unhide HP).rows hc.scope hc.rows
            have hra := rows_asc hc.rows
            obtain ⟨hin, hs1, hs6, hasc⟩ := scopeB_in hc.scope
            have HC := hide hc
            generalize x.soft[k3] = c at *
            obtain ⟨WA, hWA⟩ : ∃ W, W = wr.alloc (.cells #[.slice ua c.scope.length uc, .slice va c.rows.length vc, .slice xa c.costs.length xc, .int .i64 c.dflt] 43) := ⟨_, rfl⟩
            have hbA : Below wr.heap.size wr WA := by rw [hWA]; exact (Below.refl _ _).alloc (Nat.le_refl _) _
            have hzA : WA.heap.size = wr.heap.size + 1 := by rw [hWA]; simp
            have xA : WA.heap[wr.heap.size]? = some (.cells #[.slice ua c.scope.length uc, .slice va c.rows.length vc, .slice xa c.costs.length xc, .int .i64 c.dflt] 43) := by rw [hWA]; exact heap_alloc_new _ _
            have HCA := hide (fun W (hb : Below WA.heap.size WA W) => (show W.cell? ⟨wr.heap.size, 0, none⟩ = some (.slice ua c.scope.length uc) ∧ W.cell? ⟨wr.heap.size, 1, none⟩ = some (.slice va c.rows.length vc) ∧ W.cell? ⟨wr.heap.size, 2, none⟩ = some (.slice xa c.costs.length xc) ∧ W.cell? ⟨wr.heap.size, 3, none⟩ = some (.int .i64 c.dflt) from by
              have e0 := (hb.block _ (by omega)).trans xA
              refine ⟨?_, ?_, ?_, ?_⟩ <;> (unfold World.cell?; rw [e0]; rfl)))
            have HCV := hide (fun W (hb : Below WA.heap.size WA W) => (show SftV W (.agg #[.slice ua c.scope.length uc, .slice va c.rows.length vc, .slice xa c.costs.length xc, .int .i64 c.dflt]) c from ⟨_, _, _, rfl, (hi1.below hbA).below hb, (ht2.below hbA).below hb, (hi3.below hbA).below hb⟩))
            have HBA := hide (hBW.trans (hbA.mono (by have := hBW.size; omega)))
            have HRF := hide (refFull_any (hdv.below hbA) (hi1.below hbA) hin (by omega) (fun i _ => by have := hpr i; omega))
            have HA2 := hide (fun W (hb : Below WA.heap.size WA W) => hbA.trans (hb.mono (by omega)))
            have HWA := hide hWA
            have HSC := hide (fun W (hb : Below WA.heap.size WA W) => (hi1.below hbA).below hb)
            have hA1 : ∀ W, Below WA.heap.size WA W → Below W1.heap.size W1 W := fun W hb => (unhide HBA).trans (hb.mono (unhide HBA).size)
            have HTB := hide (fun W (hb : Below WA.heap.size WA W) => costs_any (most := l1) (unhide HD W (hA1 W hb)) (unhide HCV W hb) hin (by omega) (by omega) (fun d hd => by have := (unhide HP).1.short d hd; omega) hra (by omega))
            have HA1 := hide hA1
            clear hA1 hWA hbA hi1 ht2 hi3 hdv hc hpr hasc xA
            go_wp2_with fail
            rw [← unhide HWA]
            refine (unhide HRF).mono ?_
            rintro e w3 ⟨uF, rfl, htF, hb3⟩
            obtain ⟨fa, fc, rfl, _, hfc⟩ := htF.form
            unfold maxLen at hfc
            have HTF := hide (fun W (hb : Below w3.heap.size w3 W) => htF.below hb)
            generalize fullL (c.scope.map (domL x.doms)) = F at *
            have hB31 := unhide HA1 w3 hb3
            clear k0 k1 k2 k4 y0 y1 y2
            obtain ⟨y0, y1, y2⟩ := unhide HX w3 hB31
            obtain ⟨k0, k1, k2, k4⟩ := unhide HCA w3 hb3
            have HB3 := hide hb3
            clear htF hb3 HRF HWA hB31
            go_wp2_with fail
            refine (unhide HTB _ (unhide HB3)).mono ?_
            rintro e w5 ⟨hG, hb5⟩
            rcases hG with ⟨hle, sa, sb, sc, rfl, hva, hvb, hvc2⟩ | ⟨hgt, rfl⟩
            · have hB5 := (unhide HB3).trans (hb5.mono (unhide HB3).size)
              have hB51 := unhide HA1 w5 hB5
              have hB52 := hbel.trans ((unhide HA2 _ hB5).mono hzr)
              obtain ⟨aa, ac, rfl, _, hac⟩ := hva.form
              obtain ⟨ba, bc, rfl, _, hbc⟩ := hvb.form
              obtain ⟨sc2, scc, esc, _, hscc⟩ := hvc2.form
              rw [List.length_map] at esc
              subst esc
              unfold maxLen at hac hbc hscc
              obtain ⟨W6, hW6⟩ : ∃ W, W = w5.alloc (.cells #[.slice aa c.scope.length ac, .slice ba F.length bc, .slice sc2 F.length scc] 45) := ⟨_, rfl⟩
              have hb6 : Below w5.heap.size w5 W6 := by rw [hW6]; exact (Below.refl _ _).alloc (Nat.le_refl _) _
              have hB6 := hB5.trans (hb6.mono hB5.size)
              have hB62 := hB52.trans (hb6.mono hB52.size)
              have hx6 : Box3 W6 w5.heap.size (.slice aa c.scope.length ac) (.slice ba F.length bc) (.slice sc2 F.length scc) := by unfold Box3; rw [hW6]; exact heap_alloc_new _ _
              obtain ⟨r0, r1, r2, _, _, _⟩ := hx6.cells
              obtain ⟨k0', k1', k2', k4'⟩ := unhide HCA W6 hB6
              have HTF6 := hide (unhide HTF W6 (hb5.trans (hb6.mono hb5.size)))
              have HSM := hide (refSame_rel (w := W6) (v := .agg #[.slice aa c.scope.length ac, .slice ba F.length bc]) (v' := .agg #[.slice ua c.scope.length uc, .slice fa F.length fc]) ⟨_, _, rfl, hva.below hb6, hvb.below hb6⟩ ⟨_, _, rfl, unhide HSC W6 hB6, unhide HTF6⟩)
              have HSR := hide (show sameR c.scope F c.scope F = true from sameR_iff.2 ⟨rfl, rfl⟩)
              have HW6c := hide (fun W (hb : Below W6.heap.size W6 W) => And.intro (hx6.below hb).cells.2.2.1 ((hvc2.below hb6).below hb))
              have hle' : decide ((F.length : Int) ≤ l1) = true := by simpa using hle
              have HB6 := hide hB6
              have HB62 := hide hB62
              have HB63 := hide (hb5.trans (hb6.mono hb5.size))
              have HW6 := hide hW6
              rw [hW6] at r0 r1 r2 k0' k1' k2' k4'
              clear hva hvb hvc2 hb6 hB6 hB62 hx6 hW6 hB5 hB51 hB52 hb5 k0 k1 k2 k4 y0 y1 y2
              go_wp2_with fail
              rw [← unhide HW6]
              refine (unhide HSM).mono ?_
              rintro e w7 ⟨rfl, hb7⟩
              rw [unhide HSR]
              have HBB := hide ((unhide HB6).trans (hb7.mono (unhide HB6).size))
              have HB2c := hide ((unhide HB62).trans (hb7.mono (unhide HB62).size))
              have HB3c := hide ((unhide HB63).trans (hb7.mono (unhide HB63).size))
              have HWC := hide (fun W (hb : Below w7.heap.size w7 W) => unhide HW6c W (hb7.trans (hb.mono hb7.size)))
              have r2' := (unhide HWC w7 (Below.refl _ _)).1
              clear hb7 HSM HSR HW6c HB6 HB62 HB63 r0 r1 r2 k0' k1' k2' k4'
              go_wp2
              go_loopw [18, 19] (fun i _ wq => ∃ m : Nat, m ≤ F.length ∧ i = .int .i64 m ∧ Below w7.heap.size w7 wq) (fun i _ _ => F.length - (intOf i).toNat)
              case atStart => exact ⟨0, by omega, rfl, Below.refl _ _⟩
              case round =>
                obtain ⟨m, hm, rfl, hbq⟩ := hrel
                rename World => wq
                have hBqA := (unhide HBB).trans (hbq.mono (unhide HBB).size)
                have hBq3 := (unhide HB3c).trans (hbq.mono (unhide HB3c).size)
                obtain ⟨k0, k1, k2, k4⟩ := unhide HCA wq hBqA
                by_cases hml : m < F.length
                · obtain ⟨bt, ot, ut, e9, q4, r4⟩ := (unhide HTF wq hBq3).at hml
                  subst e9
                  obtain ⟨a5, c5, rfl, hl5, hc5⟩ := r4.form
                  unfold maxLen at hc5
                  have HC1 := hide (fun W (hb : Below wq.heap.size wq W) => refCost_any (unhide HCV W (hBqA.trans (hb.mono hBqA.size))) (r4.below hb) hra)
                  have HC2 := hide (fun W (hb : Below wq.heap.size wq W) => cost_any (unhide HCV W (hBqA.trans (hb.mono hBqA.size))) (r4.below hb) hra (by omega))
                  have hWs := unhide HWC wq hbq
                  obtain ⟨b8, o8, e8, q8⟩ := hWs.2.at (by rw [List.length_map]; exact hml : m < (F.map (costB c)).length)
                  subst e8
                  rw [List.getElem_map] at q8
                  have y8 := hWs.1
                  generalize F[m] = t at *
                  generalize costB c t = n at *
                  have HK := hide (fun W (hb : Below wq.heap.size wq W) => (show (W.cell? ⟨wr.heap.size, 0, none⟩ = some (.slice ua c.scope.length uc) ∧ W.cell? ⟨wr.heap.size, 1, none⟩ = some (.slice va c.rows.length vc) ∧ W.cell? ⟨wr.heap.size, 2, none⟩ = some (.slice xa c.costs.length xc) ∧ W.cell? ⟨wr.heap.size, 3, none⟩ = some (.int .i64 c.dflt)) ∧ W.cell? ⟨bt, ot + m, none⟩ = some (.slice a5 t.length c5) from ⟨⟨Below.cell_of hb k0, Below.cell_of hb k1, Below.cell_of hb k2, Below.cell_of hb k4⟩, Below.cell_of hb q4⟩))
                  have HK2 := hide (fun W (hb : Below wq.heap.size wq W) => (show (W.cell? ⟨wr.heap.size, 0, none⟩ = some (.slice ua c.scope.length uc) ∧ W.cell? ⟨wr.heap.size, 1, none⟩ = some (.slice va c.rows.length vc) ∧ W.cell? ⟨wr.heap.size, 2, none⟩ = some (.slice xa c.costs.length xc) ∧ W.cell? ⟨wr.heap.size, 3, none⟩ = some (.int .i64 c.dflt)) ∧ W.cell? ⟨bt, ot + m, none⟩ = some (.slice a5 t.length c5) ∧ W.cell? ⟨w5.heap.size, 2, none⟩ = some (.slice (some ⟨b8, o8, none⟩) F.length scc) ∧ W.cell? ⟨b8, o8 + m, none⟩ = some (.int .i64 n) from ⟨⟨Below.cell_of hb k0, Below.cell_of hb k1, Below.cell_of hb k2, Below.cell_of hb k4⟩, Below.cell_of hb q4, Below.cell_of hb y8, Below.cell_of hb q8⟩))
                  have HBQ := hide hbq
                  have hQ := Below.refl wq.heap.size wq
                  clear r4 hbq hBqA hBq3 hWs
                  go_wp2
                  go_region_held3 (fun W => (W.cell? ⟨wr.heap.size, 0, none⟩ = some (.slice ua c.scope.length uc) ∧ W.cell? ⟨wr.heap.size, 1, none⟩ = some (.slice va c.rows.length vc) ∧ W.cell? ⟨wr.heap.size, 2, none⟩ = some (.slice xa c.costs.length xc) ∧ W.cell? ⟨wr.heap.size, 3, none⟩ = some (.int .i64 c.dflt)) ∧ W.cell? ⟨bt, ot + m, none⟩ = some (.slice a5 t.length c5))
                    (first | exact unhide HK _ (by first | exact hQ | exact hQ.drew))
                    (first
                      | (go_at_call 13; refine (unhide HC1 _ (by first | exact hQ | exact hQ.drew)).mono ?_; rintro e w9 ⟨rfl, hb9⟩; replace hQ : Below wq.heap.size wq w9 := by first | exact hQ.trans (hb9.mono hQ.size) | exact hQ.drew.trans (hb9.mono hQ.drew.size)))
                  clear hb9
                  go_wp2
                  go_region_held3 (fun W => (W.cell? ⟨wr.heap.size, 0, none⟩ = some (.slice ua c.scope.length uc) ∧ W.cell? ⟨wr.heap.size, 1, none⟩ = some (.slice va c.rows.length vc) ∧ W.cell? ⟨wr.heap.size, 2, none⟩ = some (.slice xa c.costs.length xc) ∧ W.cell? ⟨wr.heap.size, 3, none⟩ = some (.int .i64 c.dflt)) ∧ W.cell? ⟨bt, ot + m, none⟩ = some (.slice a5 t.length c5) ∧ W.cell? ⟨w5.heap.size, 2, none⟩ = some (.slice (some ⟨b8, o8, none⟩) F.length scc) ∧ W.cell? ⟨b8, o8 + m, none⟩ = some (.int .i64 n))
                    (first | exact unhide HK2 _ (by first | exact hQ | exact hQ.drew))
                    (first
                      | (go_at_call 14; refine (unhide HC2 _ (by first | exact hQ | exact hQ.drew)).mono ?_; rintro e w10 ⟨rfl, hb10⟩; replace hQ : Below wq.heap.size wq w10 := by first | exact hQ.trans (hb10.mono hQ.size) | exact hQ.drew.trans (hb10.mono hQ.drew.size)))
                  clear hb10
                  go_wp2
                  go_roundw
                  case rel => exact ⟨m + 1, by omega, by go_num, (unhide HBQ).trans (hQ.mono (unhide HBQ).size)⟩
                  case measure => simp [intOf]; omega
                · have HZ := hide ((unhide HB2c).trans (hbq.mono (unhide HB2c).size))
                  clear hbq hBqA hBq3
                  go_wp2
                  go_roundw
                  case rel => exact ⟨k3 + 1, by omega, by go_num, unhide HZ⟩
                  case measure => simp [intOf]; omega
            · have hB5 := (unhide HB3).trans (hb5.mono (unhide HB3).size)
              have hB52 := hbel.trans ((unhide HA2 _ hB5).mono hzr)
              obtain ⟨W6, hW6⟩ : ∃ W, W = w5.alloc (.cells #[.slice none 0 0, .slice none 0 0, .slice none 0 0] 45) := ⟨_, rfl⟩
              have hb6 : Below w5.heap.size w5 W6 := by rw [hW6]; exact (Below.refl _ _).alloc (Nat.le_refl _) _
              have hB6 := hB5.trans (hb6.mono hB5.size)
              have hx6 : Box3 W6 w5.heap.size (.slice none 0 0) (.slice none 0 0) (.slice none 0 0) := by unfold Box3; rw [hW6]; exact heap_alloc_new _ _
              obtain ⟨r0, r1, r2, _, _, _⟩ := hx6.cells
              have hle' : decide ((F.length : Int) ≤ l1) = false := by simp; omega
              have hgt' : ¬ (F.length : Int) ≤ l1 := by omega
              have HBB := hide hB6
              have HB2c := hide (hB52.trans (hb6.mono hB52.size))
              have HB3c := hide (hb5.trans (hb6.mono hb5.size))
              have HW6 := hide hW6
              rw [hW6] at r0 r1 r2
              clear hb6 hB6 hx6 hW6 hB5 hB52 hb5 k0 k1 k2 k4 y0 y1 y2
              go_wp2_with fail
              rw [← unhide HW6]
              clear r0 r1 r2
              go_wp2
              go_loopw [18, 19] (fun i _ wq => ∃ m : Nat, m ≤ F.length ∧ i = .int .i64 m ∧ Below W6.heap.size W6 wq) (fun i _ _ => F.length - (intOf i).toNat)
              case atStart => exact ⟨0, by omega, rfl, Below.refl _ _⟩
              case round =>
                obtain ⟨m, hm, rfl, hbq⟩ := hrel
                rename World => wq
                have hBqA := (unhide HBB).trans (hbq.mono (unhide HBB).size)
                have hBq3 := (unhide HB3c).trans (hbq.mono (unhide HB3c).size)
                obtain ⟨k0, k1, k2, k4⟩ := unhide HCA wq hBqA
                by_cases hml : m < F.length
                · obtain ⟨bt, ot, ut, e9, q4, r4⟩ := (unhide HTF wq hBq3).at hml
                  subst e9
                  obtain ⟨a5, c5, rfl, hl5, hc5⟩ := r4.form
                  unfold maxLen at hc5
                  have HC1 := hide (fun W (hb : Below wq.heap.size wq W) => refCost_any (unhide HCV W (hBqA.trans (hb.mono hBqA.size))) (r4.below hb) hra)
                  have HC2 := hide (fun W (hb : Below wq.heap.size wq W) => cost_any (unhide HCV W (hBqA.trans (hb.mono hBqA.size))) (r4.below hb) hra (by omega))
                  generalize F[m] = t at *
                  generalize costB c t = n at *
                  have HK := hide (fun W (hb : Below wq.heap.size wq W) => (show (W.cell? ⟨wr.heap.size, 0, none⟩ = some (.slice ua c.scope.length uc) ∧ W.cell? ⟨wr.heap.size, 1, none⟩ = some (.slice va c.rows.length vc) ∧ W.cell? ⟨wr.heap.size, 2, none⟩ = some (.slice xa c.costs.length xc) ∧ W.cell? ⟨wr.heap.size, 3, none⟩ = some (.int .i64 c.dflt)) ∧ W.cell? ⟨bt, ot + m, none⟩ = some (.slice a5 t.length c5) from ⟨⟨Below.cell_of hb k0, Below.cell_of hb k1, Below.cell_of hb k2, Below.cell_of hb k4⟩, Below.cell_of hb q4⟩))
                  have HK2 := hide (fun W (hb : Below wq.heap.size wq W) => (show (W.cell? ⟨wr.heap.size, 0, none⟩ = some (.slice ua c.scope.length uc) ∧ W.cell? ⟨wr.heap.size, 1, none⟩ = some (.slice va c.rows.length vc) ∧ W.cell? ⟨wr.heap.size, 2, none⟩ = some (.slice xa c.costs.length xc) ∧ W.cell? ⟨wr.heap.size, 3, none⟩ = some (.int .i64 c.dflt)) ∧ W.cell? ⟨bt, ot + m, none⟩ = some (.slice a5 t.length c5) from ⟨⟨Below.cell_of hb k0, Below.cell_of hb k1, Below.cell_of hb k2, Below.cell_of hb k4⟩, Below.cell_of hb q4⟩))
                  have HBQ := hide hbq
                  have hQ := Below.refl wq.heap.size wq
                  clear r4 hbq hBqA hBq3
                  go_wp2
                  go_region_held3 (fun W => (W.cell? ⟨wr.heap.size, 0, none⟩ = some (.slice ua c.scope.length uc) ∧ W.cell? ⟨wr.heap.size, 1, none⟩ = some (.slice va c.rows.length vc) ∧ W.cell? ⟨wr.heap.size, 2, none⟩ = some (.slice xa c.costs.length xc) ∧ W.cell? ⟨wr.heap.size, 3, none⟩ = some (.int .i64 c.dflt)) ∧ W.cell? ⟨bt, ot + m, none⟩ = some (.slice a5 t.length c5))
                    (first | exact unhide HK _ (by first | exact hQ | exact hQ.drew))
                    (first
                      | (go_at_call 13; refine (unhide HC1 _ (by first | exact hQ | exact hQ.drew)).mono ?_; rintro e w9 ⟨rfl, hb9⟩; replace hQ : Below wq.heap.size wq w9 := by first | exact hQ.trans (hb9.mono hQ.size) | exact hQ.drew.trans (hb9.mono hQ.drew.size)))
                  clear hb9
                  go_wp2
                  have hi0 : (0 : Int) ≤ (m : Int) := by omega
                  have hi1 : (m : Int) < (F.length : Int) := by omega
                  have hS0 := unhide HK2 _ hQ.drew
                  refine wp_region_held (S := fun U => ((U.cell? ⟨wr.heap.size, 0, none⟩ = some (.slice ua c.scope.length uc) ∧ U.cell? ⟨wr.heap.size, 1, none⟩ = some (.slice va c.rows.length vc) ∧ U.cell? ⟨wr.heap.size, 2, none⟩ = some (.slice xa c.costs.length xc) ∧ U.cell? ⟨wr.heap.size, 3, none⟩ = some (.int .i64 c.dflt)) ∧ U.cell? ⟨bt, ot + m, none⟩ = some (.slice a5 t.length c5))) (by kernel_rfl) ?_
                  refine wpAnyH_take (i := 0) (v := ?_) rfl (by kernel_rfl) (by kernel_rfl) (by kernel_rfl) (fun _ _ _ h => h) (Or.inl ⟨by kernel_rfl, ?_⟩) (by assumption) ?_
                  rotate_left
                  · intro W hSW; obtain ⟨⟨s0, s1, s2, s3⟩, s4⟩ := hSW; go_simp; first | done | rfl
                  simp only [Act.put, List.setIfInBounds_toArray, List.set_cons_zero, List.set_cons_succ, List.getElem_toArray, List.getElem_cons_succ, List.getElem_cons_zero]
                  refine wpAnyH_take (i := 1) (v := ?_) rfl (by kernel_rfl) (by kernel_rfl) (by kernel_rfl) (fun _ _ _ h => h) (Or.inl ⟨by kernel_rfl, ?_⟩) (by assumption) ?_
                  rotate_left
                  · intro W hSW; obtain ⟨⟨s0, s1, s2, s3⟩, s4⟩ := hSW; go_simp; first | done | rfl
                  simp only [Act.put, List.setIfInBounds_toArray, List.set_cons_zero, List.set_cons_succ, List.getElem_toArray, List.getElem_cons_succ, List.getElem_cons_zero]
                  refine wpAnyH_take (i := 2) (v := ?_) rfl (by kernel_rfl) (by kernel_rfl) (by kernel_rfl) (fun _ _ _ h => h) (Or.inl ⟨by kernel_rfl, ?_⟩) (by assumption) ?_
                  rotate_left
                  · intro W hSW; obtain ⟨⟨s0, s1, s2, s3⟩, s4⟩ := hSW; go_simp; first | done | rfl
                  simp only [Act.put, List.setIfInBounds_toArray, List.set_cons_zero, List.set_cons_succ, List.getElem_toArray, List.getElem_cons_succ, List.getElem_cons_zero]
                  refine wpAnyH_take (i := 3) (v := ?_) rfl (by kernel_rfl) (by kernel_rfl) (by kernel_rfl) (fun _ _ _ h => h) (Or.inl ⟨by kernel_rfl, ?_⟩) (by assumption) ?_
                  rotate_left
                  · intro W hSW; obtain ⟨⟨s0, s1, s2, s3⟩, s4⟩ := hSW; go_simp; first | done | rfl
                  simp only [Act.put, List.setIfInBounds_toArray, List.set_cons_zero, List.set_cons_succ, List.getElem_toArray, List.getElem_cons_succ, List.getElem_cons_zero]
                  refine wpAnyH_take (i := 4) (v := ?_) rfl (by kernel_rfl) (by kernel_rfl) (by kernel_rfl) (fun _ _ _ h => h) (Or.inl ⟨by kernel_rfl, ?_⟩) (by assumption) ?_
                  rotate_left
                  · intro W hSW; obtain ⟨⟨s0, s1, s2, s3⟩, s4⟩ := hSW; go_simp; first | done | rfl
                  simp only [Act.put, List.setIfInBounds_toArray, List.set_cons_zero, List.set_cons_succ, List.getElem_toArray, List.getElem_cons_succ, List.getElem_cons_zero]
                  refine wpAnyH_take (i := 6) (v := ?_) rfl (by kernel_rfl) (by kernel_rfl) (by kernel_rfl) (fun _ _ _ h => h) (Or.inl ⟨by kernel_rfl, ?_⟩) (by assumption) ?_
                  rotate_left
                  · intro W hSW; obtain ⟨⟨s0, s1, s2, s3⟩, s4⟩ := hSW; go_simp; first | done | rfl
                  simp only [Act.put, List.setIfInBounds_toArray, List.set_cons_zero, List.set_cons_succ, List.getElem_toArray, List.getElem_cons_succ, List.getElem_cons_zero]
                  refine held_one (i := 5) (by kernel_rfl) rfl (by kernel_rfl) (fun K hK => ?_)
                  go_simp
                  refine (unhide HC2 _ hQ.drew).mono ?_
                  rintro e w10 ⟨rfl, hb10⟩
                  replace hQ : Below wq.heap.size wq w10 := hQ.drew.trans (hb10.mono hQ.drew.size)
                  replace hS0 := unhide HK2 _ hQ
                  refine hK.out _ _ hS0 ?_
                  clear hK K
                  try simp only [Act.put, List.setIfInBounds_toArray, List.set_cons_zero, List.set_cons_succ]
                  refine wpAnyH_take (i := 7) (v := ?_) rfl (by kernel_rfl) (by kernel_rfl) (by kernel_rfl) (fun _ _ _ h => h) (Or.inl ⟨by kernel_rfl, ?_⟩) (by assumption) ?_
                  rotate_left
                  · intro W hSW; obtain ⟨_, _⟩ := hSW; go_simp; first | done | rfl
                  simp only [Act.put, List.setIfInBounds_toArray, List.set_cons_zero, List.set_cons_succ, List.getElem_toArray, List.getElem_cons_succ, List.getElem_cons_zero]
                  refine wpAnyH_take (i := 8) (v := ?_) rfl (by kernel_rfl) (by kernel_rfl) (by kernel_rfl) (fun _ _ _ h => h) (Or.inl ⟨by kernel_rfl, ?_⟩) (by assumption) ?_
                  rotate_left
                  · intro W hSW; obtain ⟨_, _⟩ := hSW; go_simp; first | done | rfl
                  simp only [Act.put, List.setIfInBounds_toArray, List.set_cons_zero, List.set_cons_succ, List.getElem_toArray, List.getElem_cons_succ, List.getElem_cons_zero]
                  refine wpAnyH_take (i := 9) (v := ?_) rfl (by kernel_rfl) (by kernel_rfl) (by kernel_rfl) (fun _ _ _ h => h) (Or.inl ⟨by kernel_rfl, ?_⟩) (by assumption) ?_
                  rotate_left
                  · intro W hSW; obtain ⟨_, _⟩ := hSW; go_simp; first | done | rfl
                  simp only [Act.put, List.setIfInBounds_toArray, List.set_cons_zero, List.set_cons_succ, List.getElem_toArray, List.getElem_cons_succ, List.getElem_cons_zero]
                  refine wpAnyH_take (i := 10) (v := ?_) rfl (by kernel_rfl) (by kernel_rfl) (by kernel_rfl) (fun _ _ _ h => h) (Or.inl ⟨by kernel_rfl, ?_⟩) (by assumption) ?_
                  rotate_left
                  · intro W hSW; obtain ⟨_, _⟩ := hSW; go_simp; first | done | rfl
                  simp only [Act.put, List.setIfInBounds_toArray, List.set_cons_zero, List.set_cons_succ, List.getElem_toArray, List.getElem_cons_succ, List.getElem_cons_zero]
                  refine wpAnyH_take (i := 11) (v := ?_) rfl (by kernel_rfl) (by kernel_rfl) (by kernel_rfl) (fun _ _ _ h => h) (Or.inl ⟨by kernel_rfl, ?_⟩) (by assumption) ?_
                  rotate_left
                  · intro W hSW; obtain ⟨_, _⟩ := hSW; go_simp; first | done | rfl
                  simp only [Act.put, List.setIfInBounds_toArray, List.set_cons_zero, List.set_cons_succ, List.getElem_toArray, List.getElem_cons_succ, List.getElem_cons_zero]
                  refine wpAnyH_take (i := 12) (v := undef) rfl (by kernel_rfl) (by kernel_rfl) (by kernel_rfl) (fun _ _ _ h => h) (Or.inr ⟨by kernel_rfl, rfl⟩) (by assumption) ?_
                  simp only [Act.put, List.setIfInBounds_toArray, List.set_cons_zero, List.set_cons_succ, List.getElem_toArray, List.getElem_cons_succ, List.getElem_cons_zero]
                  refine wpAnyH_take (i := 13) (v := undef) rfl (by kernel_rfl) (by kernel_rfl) (by kernel_rfl) (fun _ _ _ h => h) (Or.inr ⟨by kernel_rfl, rfl⟩) (by assumption) ?_
                  simp only [Act.put, List.setIfInBounds_toArray, List.set_cons_zero, List.set_cons_succ, List.getElem_toArray, List.getElem_cons_succ, List.getElem_cons_zero]
                  refine wpAnyH_take (i := 14) (v := undef) rfl (by kernel_rfl) (by kernel_rfl) (by kernel_rfl) (fun _ _ _ h => h) (Or.inr ⟨by kernel_rfl, rfl⟩) (by assumption) ?_
                  simp only [Act.put, List.setIfInBounds_toArray, List.set_cons_zero, List.set_cons_succ, List.getElem_toArray, List.getElem_cons_succ, List.getElem_cons_zero]
                  refine wpAnyH_take (i := 15) (v := undef) rfl (by kernel_rfl) (by kernel_rfl) (by kernel_rfl) (fun _ _ _ h => h) (Or.inr ⟨by kernel_rfl, rfl⟩) (by assumption) ?_
                  simp only [Act.put, List.setIfInBounds_toArray, List.set_cons_zero, List.set_cons_succ, List.getElem_toArray, List.getElem_cons_succ, List.getElem_cons_zero]
                  refine wpAnyH_take (i := 16) (v := undef) rfl (by kernel_rfl) (by kernel_rfl) (by kernel_rfl) (fun _ _ _ h => h) (Or.inr ⟨by kernel_rfl, rfl⟩) (by assumption) ?_
                  simp only [Act.put, List.setIfInBounds_toArray, List.set_cons_zero, List.set_cons_succ, List.getElem_toArray, List.getElem_cons_succ, List.getElem_cons_zero]
                  refine wpAnyH_take (i := 17) (v := undef) rfl (by kernel_rfl) (by kernel_rfl) (by kernel_rfl) (fun _ _ _ h => h) (Or.inr ⟨by kernel_rfl, rfl⟩) (by assumption) ?_
                  simp only [Act.put, List.setIfInBounds_toArray, List.set_cons_zero, List.set_cons_succ, List.getElem_toArray, List.getElem_cons_succ, List.getElem_cons_zero]
                  refine wpAnyH_take (i := 18) (v := undef) rfl (by kernel_rfl) (by kernel_rfl) (by kernel_rfl) (fun _ _ _ h => h) (Or.inr ⟨by kernel_rfl, rfl⟩) (by assumption) ?_
                  simp only [Act.put, List.setIfInBounds_toArray, List.set_cons_zero, List.set_cons_succ, List.getElem_toArray, List.getElem_cons_succ, List.getElem_cons_zero]
                  refine wpAnyH_take (i := 19) (v := ?_) rfl (by kernel_rfl) (by kernel_rfl) (by kernel_rfl) (fun _ _ _ h => h) (Or.inl ⟨by kernel_rfl, ?_⟩) (by assumption) ?_
                  rotate_left
                  · intro W hSW; obtain ⟨_, _⟩ := hSW; go_simp; first | done | rfl
                  simp only [Act.put, List.setIfInBounds_toArray, List.set_cons_zero, List.set_cons_succ, List.getElem_toArray, List.getElem_cons_succ, List.getElem_cons_zero]
                  refine wpAnyH_take (i := 20) (v := ?_) rfl (by kernel_rfl) (by kernel_rfl) (by kernel_rfl) (fun _ _ _ h => h) (Or.inl ⟨by kernel_rfl, ?_⟩) (by assumption) ?_
                  rotate_left
                  · intro W hSW; obtain ⟨_, _⟩ := hSW; go_simp; first | done | rfl
                  simp only [Act.put, List.setIfInBounds_toArray, List.set_cons_zero, List.set_cons_succ, List.getElem_toArray, List.getElem_cons_succ, List.getElem_cons_zero]
                  refine wpAnyH_done (by kernel_rfl) ?_ _
                  clear hb10 hS0
                  go_wp2
                  go_roundw
                  case rel => exact ⟨m + 1, by omega, by go_num, (unhide HBQ).trans (hQ.mono (unhide HBQ).size)⟩
                  case measure => simp [intOf]; omega
                · have HZ := hide ((unhide HB2c).trans (hbq.mono (unhide HB2c).size))
                  clear hbq hBqA hBq3
                  go_wp2
                  go_roundw
                  case rel => exact ⟨k3 + 1, by omega, by go_num, unhide HZ⟩
                  case measure => simp [intOf]; omega
          · go_wp2
            go_ret
            exact ⟨rfl, (unhide HB).trans (hBW.mono (unhide HB).size)⟩

set_option maxRecDepth 100000 in
theorem lifted (os : Os) (started : os.Started) (H : Type) (enc : TypeId × Value → H) :
    ReturnsInHanded {} Try.checked os 3 .any (Rows.builtTellsSpec.pre6 enc Try.prog Try.f3 Rows.builtTellsRow.domain false) (Rows.builtTellsSpec.post enc Try.prog Try.f3 false true false false) := by
  refine returnsInHanded_of_change (C := Try.checked) own started (by kernel_rfl) Try.func3
    (ChangeSpec.witness6 (enc := enc) (C := Try.checked) false ⟨#[], #[.agg #[.slice none 0 0, .slice none 0 0, .slice none 0 0], .int .i64 0], []⟩ 8 (by kernel_rfl) (by kernel_rfl) (by kernel_rfl) (by kernel_rfl)) ?_
  intro W base args ds gs before hval0 hW hcnd _
  have hval : ∀ (j : Nat) t v, Try.f3.params[j]? = some t → args[j]? = some v → Value.okWide Try.prog W .any base t v := hval0
  have hW' := hW
  obtain ⟨p, q, hA0, hV, rfl, hfz, hnd⟩ := hW
  have hA : DataW.TrodAll enc Try.prog W 0 (fun _ => true) true Try.f3.params.toList args.toList ds p := hA0
  rw [Try.params3] at hA hval
  obtain ⟨v0, vs0, d0, ds0, p0, q0, hargs, rfl, rfl, h0, r0⟩ := trodAll_cons hA
  obtain ⟨v1, vs1, d1, ds1, p1, q1, rfl, rfl, rfl, h1, r1⟩ := trodAll_cons r0
  obtain ⟨rfl, rfl, rfl⟩ := trodAll_nil r1
  obtain rfl : args = #[v0, v1] := by cases args; simp_all
  obtain ⟨rfl, rfl⟩ := trodVars_none hV
  obtain ⟨l0, i0⟩ := read_ins h0 (hval 0 26 v0 rfl rfl)
  have lt0 : ∀ x ∈ p0, x.block < W.heap.size := by obtain ⟨m, hm⟩ := h0; exact DataW.trod_lt m _ _ _ hm
  obtain ⟨l1, i1, m1⟩ := read_int h1 (hval 1 3 v1 rfl rfl)
  have lt1 : ∀ x ∈ p1, x.block < W.heap.size := by obtain ⟨m, hm⟩ := h1; exact DataW.trod_lt m _ _ _ hm
  clear hA0 hval0
  refine (walk i0 i1 m1).mono fun e W' ⟨he, bel⟩ => ?_
  subst he
  exact ⟨_, rfl, _, _, _, [], _, [], hW', trodAll_mk1 (shut_bool Try.underlying4 _), (trodAll_cons_mk (Below.trod laidOut (by kernel_rfl) (of_decide_eq_true (by kernel_rfl)) h0 bel lt0) (trodAll_cons_mk (Below.trod laidOut (by kernel_rfl) (of_decide_eq_true (by kernel_rfl)) h1 bel lt1) trodAll_mk0)), rfl, bel.frame _, fun h => by cases h⟩

theorem over : Rows.builtTellsRow.holds Try.pinned (OpenSpec.ofChange Rows.builtTellsSpec) :=
  OpenClaim.holds_of_wide 3 Try.f3 rfl rfl rfl rfl rfl rfl rfl ⟨rfl, rfl, rfl, rfl, rfl⟩ rfl rfl rfl rfl rfl (by kernel_rfl) Try.func3 (by kernel_rfl)
    (of_decide_eq_true (by kernel_rfl)) (by unfold Func.isWrapper; first | (rw [if_pos (by decide +kernel)]; kernel_rfl) | (rw [if_neg (by decide +kernel)]; exact ⟨rfl, rfl⟩))
    (fun os started H enc _ => lifted os started H enc)

/-- The statement. -/
theorem proved : Rows.BuiltTellsSaid := over
end Go.Proofs.Ytflibcfecnhjgaa.builtTells
