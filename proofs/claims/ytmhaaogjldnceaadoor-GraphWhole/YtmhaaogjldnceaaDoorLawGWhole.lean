/-
  GraphWhole: where each is beside each all are a clique, and one part; with one edge less they are none.
-/
import Derived.Test.YtmhaaogjldnceaaDoorFrame8
import Derived.Test.YtmhaaogjldnceaaDoorFrameN
import Derived.Test.YtmhaaogjldnceaaDoorGMade
import Derived.Test.YtmhaaogjldnceaaDoorGWhole
import Derived.Test.YtmhaaogjldnceaaDoorTupCmp
namespace Go.Proofs.YtmhaaogjldnceaaDoor.graphWhole
open Go.RowKit Go.ChangeShapes Go.WideShapes Go.ChangeAt
set_option linter.unusedVariables false
set_option linter.unusedSimpArgs false
set_option maxRecDepth 20000

theorem ptsL_succ (k : Nat) : ptsL (k + 1) = ptsL k ++ [(k : Int)] := by simp [ptsL, List.range_succ]
abbrev noS : Nat → Nat → Prop := fun _ _ => False

set_option maxHeartbeats 4000000 in
theorem walk {l0 : Int} {v0 : Value} {l1 : Int} {v1 : Value} {l2 : Int} {v2 : Value} {w : World} (hT : TabD w) (i0 : v0 = .int .i64 l0) (m0 : InI64 l0) (i1 : v1 = .int .i64 l1) (m1 : InI64 l1) (i2 : v2 = .int .i64 l2) (m2 : InI64 l2) :
    Calls Tryd.prog 8 #[v0, v1, v2] w fun e w' => e = .returned (.bool true) ∧ Below w.heap.size w w' := by
  subst i0 i1 i2
  clear m0 m1 m2
  have HT := hide (fun W (hb : Below w.heap.size w W) => hT.below hb)
  have HSH := hide (shown8_any hT)
  have hN10 := rndN_lt (x := l0) (n := 10) (by decide)
  have eN := rndN_eq (x := l0) (n := 10) (by decide)
  obtain ⟨N, hN⟩ : ∃ N, N = rndN l0 10 + 3 := ⟨_, rfl⟩
  have eN : (bits .and .i64 l0 65535).tmod 10 = ((N : Int) - 3) := by rw [show (10 : Int) = ((10 : Nat) : Int) from rfl, eN]; omega
  have hN3 : 3 ≤ N := by omega
  have hN12 : N ≤ 12 := by omega
  have hA := rndN_lt (x := l1) (n := N) (by omega)
  have hB := rndN_lt (x := l2) (n := N) (by omega)
  have eA := rndN_eq (x := l1) (n := N) (by omega)
  have eB := rndN_eq (x := l2) (n := N) (by omega)
  generalize rndN l1 N = A at *
  generalize rndN l2 N = B at *
  have e3 : (3 : Int) + ((N : Int) - 3) = (N : Int) := by omega
  clear hT hN hN10
  go_enter Tryd.func8, Tryd.ntmps8
  go_wp2_with fail
  refine (unhide HSH).mono ?_
  rintro e w1 ⟨rfl, hb1⟩
  have HB1 := hide hb1
  have hz1 := hb1.size
  clear hb1 HSH
  go_wp2_with fail
  refine (new_any (N : Int) w1).mono ?_
  rintro e w2 ⟨x2, rfl, hown2, hb2⟩
  have hnew : newN (N : Int) = N := by unfold newN; omega
  rw [hnew] at hown2
  obtain ⟨a2, c2, rfl, _, _⟩ := (Seq.of_own hown2).form
  have hrl : (List.replicate N 0).length = N := by simp
  rw [hrl] at hown2 ⊢
  have hz2 := hb2.size
  have hb3 : Below w2.heap.size w2 (w2.alloc (.cells #[.slice a2 N c2] 25)) := (Below.refl _ _).alloc (Nat.le_refl _) _
  have hbx4 := BoxG.new w2 (.slice a2 N c2)
  have HW3 := hide (show (w2.alloc (.cells #[.slice a2 N c2] 25)).heap.size = w2.heap.size + 1 by simp)
  have HO2 := hide (show OwnW w1.heap.size w2 (.slice a2 N c2) (List.replicate N 0) by rw [OwnW, hrl]; simpa [OwnW] using hown2)
  have HA3 := hide ((Seq.of_own (unhide HO2)).below hb3)
  have HB3 := hide ((unhide HB1).trans ((hb2.trans (hb3.mono hz2)).mono hz1))
  have HX4 := hide hbx4
  clear hown2 hb2 hb3 hbx4 HB1
  go_wp2_with fail
  generalize w2.alloc (.cells #[.slice a2 N c2] 25) = W3 at *
  refine (new_any (N : Int) W3).mono ?_
  rintro e w4 ⟨x4, rfl, hown4, hb4⟩
  rw [hnew] at hown4
  obtain ⟨a4, c4, rfl, _, _⟩ := (Seq.of_own hown4).form
  rw [hrl] at hown4 ⊢
  have hown4' : OwnW W3.heap.size w4 (.slice a4 N c4) (List.replicate N 0) := by rw [OwnW, hrl]; simpa [OwnW] using hown4
  have hz4 := hb4.size
  have hzW3 := unhide HW3
  have hb5 : Below w4.heap.size w4 (w4.alloc (.cells #[.slice a4 N c4] 25)) := (Below.refl _ _).alloc (Nat.le_refl _) _
  have hbx5 := BoxG.new w4 (.slice a4 N c4)
  have hzW5 : (w4.alloc (.cells #[.slice a4 N c4] 25)).heap.size = w4.heap.size + 1 := by simp
  have hTwo : TwoG w2.heap.size w4.heap.size (w4.alloc (.cells #[.slice a4 N c4] 25)) (.slice a2 N c2) (.slice a4 N c4) (List.replicate N 0) (List.replicate N 0) :=
    ⟨((unhide HX4).below hb4 (by omega)).below hb5 (by omega), hbx5, ((unhide HA3).below hb4).below hb5, (Seq.of_own hown4').below hb5, fun _ b h1 h2 => by have := ((unhide HO2).lt b h1).2; rcases h2 with h2 | h2 <;> omega, fun _ b h1 h2 => by have := hown4'.lt b h1; rcases h2 with h2 | h2 <;> omega⟩
  have HTwo := hide hTwo
  have HB5 := hide ((unhide HB3).trans ((hb4.trans (hb5.mono hz4)).mono (unhide HB3).size))
  have HW5 := hide hzW5
  have hlt24 : w2.heap.size < w4.heap.size := by omega
  have hw2w : w.heap.size ≤ w2.heap.size := by omega
  obtain ⟨MX, hMX⟩ : ∃ MX, MX = max A B := ⟨_, rfl⟩
  obtain ⟨MN, hMN⟩ : ∃ MN, MN = min A B := ⟨_, rfl⟩
  have hmax : ∀ W ts t, (Builtin.max_ ts t #[.int .i64 (A : Int), .int .i64 (B : Int)]).run Tryd.prog W = .ok (.int .i64 (MX : Int)) W := fun W ts t => by rw [run_max_int2]; split <;> (congr 2; omega)
  have hmin : ∀ W ts t, (Builtin.min_ ts t #[.int .i64 (A : Int), .int .i64 (B : Int)]).run Tryd.prog W = .ok (.int .i64 (MN : Int)) W := fun W ts t => by rw [run_min_int2]; split <;> (congr 2; omega)
  have HMX := hide hMX
  have HMN := hide hMN
  clear hown4 hown4' hb4 hb5 hbx5 hzW5 hTwo HB3 HX4 HA3 HO2 HW3 hrl hMX hMN
  go_wp2
  generalize w4.alloc (.cells #[.slice a4 N c4] 25) = W5 at *
  have hzW5 := unhide HW5
  clear HW5
  go_loopw [10, 11] (fun v i wr => ∃ (k : Nat) (va vb : Value) (ga gb : List Nat), i = .int .i64 k ∧ k ≤ N ∧ OwnI W5.heap.size wr v (ptsL k) ∧ TwoG w2.heap.size w4.heap.size wr va vb ga gb ∧ Apart va ga v ∧ Apart vb gb v ∧ Hid (WG ga N k 0 noS ∧ WG gb N k 0 (fun p q => p = MX ∧ q = MN)) ∧ Below w.heap.size w wr ∧ W5.heap.size ≤ wr.heap.size) (fun _ i _ => N - (intOf i).toNat)
  case atStart => exact ⟨0, _, _, _, _, rfl, by omega, own_nilI _ _, unhide HTwo, (fun _ b h1 h2 => by simp [Value.ownBlock] at h2), (fun _ b h1 h2 => by simp [Value.ownBlock] at h2), hide ⟨WG.start (by omega) _, WG.start (by omega) _⟩, unhide HB5, Nat.le_refl _⟩
  case round =>
    clear HTwo HB5
    obtain ⟨k, va, vb, ga, gb, rfl, hk, hown, hTwo, hpA, hpB, HG, hbel, hszr⟩ := hrel
    rename World => wr
    obtain ⟨oa, oc, rfl, hol, hoc⟩ := (Seq.of_own hown).form
    rw [ptsL_len] at hown hol hpA hpB ⊢
    unfold maxLen at hoc
    by_cases hkN : k < N
    · have HO := hide hown
      have HTW := hide hTwo
      have HPA := hide hpA
      have HPB := hide hpB
      have HBE := hide hbel
      have hpl : (ptsL k).length < 100000000000 := by rw [ptsL_len]; omega
      clear hown hTwo hpA hpB hbel
      go_wp2_with (at_builtin; refine wp_app_int rfl (.tmp 37) (.tmp 39) rfl (B := W5.heap.size) (v := .slice oa k oc) (l := ptsL k) (y := (k : Int)) (unhide HO) rfl (by omega) rfl hpl ?_; intro v6 w6 hown6 hg6; rw [← ptsL_succ] at hown6; obtain ⟨pa, pc, rfl, hpl6, hpc6⟩ := (Seq.of_own hown6).form; rw [ptsL_len] at hown6 hg6 hpl6 ⊢)
      have hT6 : TwoG w2.heap.size w4.heap.size w6 va vb ga gb := ⟨(hg6.by_.block _ (unhide HTW).boxA.lt (fun e => by have := ptsL_len k; have := (unhide HO).lt _ e.symm; omega)).trans (unhide HTW).boxA, (hg6.by_.block _ (unhide HTW).boxB.lt (fun e => by have := (unhide HO).lt _ e.symm; omega)).trans (unhide HTW).boxB, (unhide HTW).wA.grew hg6 (unhide HPA), (unhide HTW).wB.grew hg6 (unhide HPB), (unhide HTW).offA, (unhide HTW).offB⟩
      have hp6A := (unhide HPA).grew (unhide HTW).wA hg6
      have hp6B := (unhide HPB).grew (unhide HTW).wB hg6
      have hB6 : Below w.heap.size w w6 := (unhide HBE).trans (hg6.below.mono (by omega))
      have hs6 : W5.heap.size ≤ w6.heap.size := Nat.le_trans hszr hg6.below.size
      clear hg6 HO HTW HPA HPB HBE
      go_loopw [12] (fun j wq => ∃ (m : Nat) (va vb : Value) (ga gb : List Nat), j = .int .i64 m ∧ m ≤ k ∧ OwnI W5.heap.size wq (.slice pa (k + 1) pc) (ptsL (k + 1)) ∧ TwoG w2.heap.size w4.heap.size wq va vb ga gb ∧ Apart va ga (.slice pa (k + 1) pc) ∧ Apart vb gb (.slice pa (k + 1) pc) ∧ Hid (WG ga N k m noS ∧ WG gb N k m (fun p q => p = MX ∧ q = MN)) ∧ Below w.heap.size w wq ∧ W5.heap.size ≤ wq.heap.size) (fun j _ => k - (intOf j).toNat)
      case atStart => exact ⟨0, va, vb, ga, gb, rfl, by omega, hown6, hT6, hp6A, hp6B, HG, hB6, hs6⟩
      case round =>
        clear hown6 hT6 hp6A hp6B hB6 hs6 HG
        obtain ⟨m, va, vb, ga, gb, rfl, hm, hown, hTwo, hpA, hpB, HG, hbel, hszq⟩ := hrel
        rename World => wq
        by_cases hmk : m < k
        · obtain ⟨xa, xc, eX, _, _⟩ := hTwo.wA.form
          subst eX
          obtain ⟨xb, xd, eX, _, _⟩ := hTwo.wB.form
          subst eX
          have hlenA := (unhide HG).1.len
          have hlenB := (unhide HG).2.len
          have HJA := hide (join_any (a := (k : Int)) (b := (m : Int)) hTwo.wA (by omega) (unhide HG).1.right.w64)
          have qA := hTwo.boxA.cell
          have HGA := hide ((unhide HG).1.join hkN hmk id)
          have HTW := hide hTwo
          have HO := hide hown
          have HPB := hide hpB
          have HBE := hide hbel
          clear hlenA hlenB hTwo hown hpA hpB hbel
          go_wp2_with fail
          refine (unhide HJA).mono ?_
          rintro e w7 ⟨y, rfl, hown7, hb7⟩
          obtain ⟨ya, yc, rfl, _, _⟩ := (Seq.of_own hown7).form
          have hT7 := (unhide HTW).below hb7
          have k7 := hT7.boxA.cell
          have f7 := hT7.boxA.frozen
          have k7b := hT7.boxB.cell
          have hz7 := hb7.size
          have hT8 := hT7.setA (by omega) hown7 (by omega) (by omega)
          have hO8 : OwnI W5.heap.size (w7.setCell ⟨w2.heap.size, 0, none⟩ (.slice ya (joinN ga [(k : Int), (m : Int)]).length yc)) (.slice pa (k + 1) pc) (ptsL (k + 1)) := ownsRow_setCell_below (own_below (unhide HO) hb7) (a := ⟨w2.heap.size, 0, none⟩) (by show w2.heap.size < W5.heap.size; omega) _
          have hpA8 : Apart (.slice ya (joinN ga [(k : Int), (m : Int)]).length yc) (joinN ga [(k : Int), (m : Int)]) (.slice pa (k + 1) pc) := fun _ b h1 h2 => by
            have := hown7.lt b h1
            have := (unhide HO).lt b h2
            omega
          have hB8 := Below.setCell (p := ⟨w2.heap.size, 0, none⟩) ((unhide HBE).trans (hb7.mono (unhide HBE).size)) hw2w (.slice ya (joinN ga [(k : Int), (m : Int)]).length yc)
          have hs8 : W5.heap.size ≤ (w7.setCell ⟨w2.heap.size, 0, none⟩ (.slice ya (joinN ga [(k : Int), (m : Int)]).length yc)).heap.size := by simp; omega
          have HF := hide (And.intro hT8 (And.intro hO8 (And.intro hpA8 (And.intro hB8 hs8))))
          clear hT7 hT8 hO8 hpA8 hB8 hs8 hown7 hb7 HTW HO HBE HJA qA
          obtain ⟨GA', hGA'⟩ : ∃ GA', GA' = joinN ga [(k : Int), (m : Int)] := ⟨_, rfl⟩
          rw [← hGA'] at HF HGA ⊢
          clear hGA'
          by_cases hs : k = MX ∧ m = MN
          · have HGB := hide ((unhide HG).2.skip hs)
            obtain ⟨h1, h2⟩ := hs
            have n1 : ((k : Int) != (MX : Int)) = false := by simp [h1]
            have n2 : ((m : Int) != (MN : Int)) = false := by simp [h2]
            clear h1 h2
            go_wp2
            generalize w7.setCell ⟨w2.heap.size, 0, none⟩ (.slice ya GA'.length yc) = w8 at *
            go_roundw
            case rel => exact ⟨m + 1, _, _, GA', gb, by go_num, by omega, (unhide HF).2.1, (unhide HF).1, (unhide HF).2.2.1, unhide HPB, hide ⟨unhide HGA, unhide HGB⟩, (unhide HF).2.2.2.1, (unhide HF).2.2.2.2⟩
            case measure => simp [intOf]; omega
          · have HGB := hide ((unhide HG).2.join hkN hmk hs)
            have hlenB := (unhide HG).2.len
            have HJB := hide (join_any (a := (k : Int)) (b := (m : Int)) (unhide HF).1.wB (by omega) (unhide HG).2.right.w64)
            have qB := (unhide HF).1.boxB.cell
            have hcs : Hid (((k : Int) != (MX : Int)) = true ∨ (((k : Int) != (MX : Int)) = false ∧ ((m : Int) != (MN : Int)) = true)) := hide (by
              by_cases h1 : k = MX
              · right; subst h1; simp; omega
              · left; simp; omega)
            clear hs hlenB
            rcases unhide hcs with n1 | ⟨n1, n2⟩
            all_goals
              clear hcs
              go_wp2_with fail
              refine (unhide HJB).mono ?_
              rintro e w9 ⟨z, rfl, hown9, hb9⟩
              obtain ⟨za, zc, rfl, _, _⟩ := (Seq.of_own hown9).form
              have hT9 := (unhide HF).1.below hb9
              have k9 := hT9.boxB.cell
              have f9 := hT9.boxB.frozen
              have hz9 := hb9.size
              have hz8 := (unhide HF).2.2.2.2
              have hT10 := hT9.setB (by omega) hown9 (by omega) (by omega)
              have hO9 := own_below (unhide HF).2.1 hb9
              have hO10 : OwnI W5.heap.size (w9.setCell ⟨w4.heap.size, 0, none⟩ (.slice za (joinN gb [(k : Int), (m : Int)]).length zc)) (.slice pa (k + 1) pc) (ptsL (k + 1)) := ownsRow_setCell_below hO9 (a := ⟨w4.heap.size, 0, none⟩) (by show w4.heap.size < W5.heap.size; omega) _
              have hpB10 : Apart (.slice za (joinN gb [(k : Int), (m : Int)]).length zc) (joinN gb [(k : Int), (m : Int)]) (.slice pa (k + 1) pc) := fun _ b h1 h2 => by
                have := hown9.lt b h1
                have := (unhide HF).2.1.lt b h2
                omega
              have hB10 := Below.setCell (p := ⟨w4.heap.size, 0, none⟩) ((unhide HF).2.2.2.1.trans (hb9.mono (unhide HF).2.2.2.1.size)) (show w.heap.size ≤ w4.heap.size by omega) (.slice za (joinN gb [(k : Int), (m : Int)]).length zc)
              have hs10 : W5.heap.size ≤ (w9.setCell ⟨w4.heap.size, 0, none⟩ (.slice za (joinN gb [(k : Int), (m : Int)]).length zc)).heap.size := by simp only [World.size_setCell]; omega
              have HF2 := hide (And.intro hT10 (And.intro hO10 (And.intro hpB10 (And.intro hB10 hs10))))
              have HPA2 := hide (unhide HF).2.2.1
              clear hT9 hT10 hO9 hO10 hpB10 hB10 hs10 hown9 hb9 HF HJB qB k7 f7 k7b
              obtain ⟨GB', hGB'⟩ : ∃ GB', GB' = joinN gb [(k : Int), (m : Int)] := ⟨_, rfl⟩
              rw [← hGB'] at HF2 HGB ⊢
              clear hGB'
              go_wp2
              generalize w9.setCell ⟨w4.heap.size, 0, none⟩ (.slice za GB'.length zc) = w10 at *
              go_roundw
              case rel => exact ⟨m + 1, _, _, GA', GB', by go_num, by omega, (unhide HF2).2.1, (unhide HF2).1, unhide HPA2, (unhide HF2).2.2.1, hide ⟨unhide HGA, unhide HGB⟩, (unhide HF2).2.2.2.1, (unhide HF2).2.2.2.2⟩
              case measure => simp [intOf]; omega
        · have hmk' : m = k := by omega
          subst hmk'
          go_wp2
          go_roundw
          case rel => exact ⟨m + 1, va, vb, ga, gb, by go_num, by omega, hown, hTwo, hpA, hpB, hide ⟨(unhide HG).1.up, (unhide HG).2.up⟩, hbel, hszq⟩
          case measure => simp [intOf]; omega
    · have hkN' : N = k := by omega
      subst hkN'
      have hMX := unhide HMX
      have hMN := unhide HMN
      subst hMX
      subst hMN
      have hR := (unhide HG).1.right
      have hR2 := (unhide HG).2.right
      have hlen := (unhide HG).1.len
      have hlen2 := (unhide HG).2.len
      have hP1 := (unhide HG).1.parts (by omega)
      have hP2 := (unhide HG).2.parts2 hN3
      have hC1 := (unhide HG).1.clique
      have hC2 := (unhide HG).2.clique2 hA hB
      have hNb := (unhide HG).1.nbs hA
      have hRS := (rightS_iff hR.w64).2 hR
      have HTW := hide (fun W (hb : Below wr.heap.size wr W) => hTwo.below hb)
      have hAL := Seq.of_own hown
      have HAL := hide (fun W (hb : Below wr.heap.size wr W) => (show Ints W (.slice oa N oc) (ptsL N) from hAL.below hb))
      have hszw := hbel.size
      have HTR := hide (fun W (hb : Below wr.heap.size wr W) => unhide HT W (hbel.trans (hb.mono hszw)))
      have HPG := hide (parts_any hTwo.wA hR (unhide HTR _ (Below.refl _ _)))
      have HPH := hide (fun W (hb : Below wr.heap.size wr W) => parts_any (unhide HTW W hb).wB hR2 (unhide HTR W hb))
      have HCG := hide (fun W (hb : Below wr.heap.size wr W) => clique_any (unhide HTW W hb).wA (by omega) hR.w64 (unhide HAL W hb))
      have HCH := hide (fun W (hb : Below wr.heap.size wr W) => clique_any (unhide HTW W hb).wB (by omega) hR2.w64 (unhide HAL W hb))
      have HNB := hide (fun W (hb : Below wr.heap.size wr W) => neighbors_any (a := (A : Int)) (unhide HTW W hb).wA (by omega) hR.w64 (unhide HTR W hb))
      have HRG := hide (fun W (hb : Below wr.heap.size wr W) => right_any (unhide HTW W hb).wA (by omega) hR.w64 (unhide HTR W hb))
      rw [hP1] at HPG
      rw [hP2] at HPH
      rw [hC1] at HCG
      rw [hC2] at HCH
      rw [hRS] at HRG
      have HNL := hide hNb
      obtain ⟨xa, xc, eX, _, _⟩ := hTwo.wA.form
      subst eX
      obtain ⟨xb, xd, eX, _, _⟩ := hTwo.wB.form
      subst eX
      have HBE := hide hbel
      have q8 := (unhide HTW _ (Below.refl _ _)).boxA.cell
      have q9 := (unhide HTW _ (Below.refl _ _)).boxB.cell
      clear hTwo hown hpA hpB hbel hR hR2 hlen hlen2 hP1 hP2 hC1 hC2 hNb hRS hAL HG HMX HMN HT hmax hmin
      go_wp2_with fail
      refine (unhide HPG).mono ?_
      rintro e w6 ⟨vp, rfl, ho6, hb6⟩
      have ht6 := ho6.tups
      obtain ⟨ap, cp, rfl, hpl, hpc⟩ := ht6.form
      have ht6 : Tups w6 (.slice ap 1 cp) [ptsL N] := ht6
      have HTP := hide (fun W (hb : Below w6.heap.size w6 W) => ht6.below hb)
      have q8' := (unhide HTW _ hb6).boxA.cell
      have q9' := (unhide HTW _ hb6).boxB.cell
      have HB6 := hide hb6
      have hz6 := hb6.size
      clear ho6 ht6 hb6 HPG q8 q9
      go_wp2_with fail
      refine (unhide HPH _ (unhide HB6)).mono ?_
      rintro e w7 ⟨vq, rfl, ho7, hb7⟩
      obtain ⟨aq, cq, rfl, hql, hqc⟩ := ho7.tups.form
      have HTP7 := hide (fun W (hb : Below w7.heap.size w7 W) => unhide HTP W (hb7.trans (hb.mono hb7.size)))
      have HB7 := hide ((unhide HB6).trans (hb7.mono hz6))
      have z8 := (unhide HTW _ (unhide HB7)).boxA.cell
      have z9 := (unhide HTW _ (unhide HB7)).boxB.cell
      clear ho7 hb7 HPH q8' q9' HTP HB6
      go_wp2_with fail
      refine (unhide HCG _ (unhide HB7)).mono ?_
      rintro e w8 ⟨rfl, hb8⟩
      have HTP8 := hide (fun W (hb : Below w8.heap.size w8 W) => unhide HTP7 W (hb8.trans (hb.mono hb8.size)))
      have HB8 := hide ((unhide HB7).trans (hb8.mono (unhide HB7).size))
      have y8 := (unhide HTW _ (unhide HB8)).boxA.cell
      have y9 := (unhide HTW _ (unhide HB8)).boxB.cell
      clear hb8 z8 z9 HCG HTP7 HB7
      go_wp2_with fail
      refine (unhide HCH _ (unhide HB8)).mono ?_
      rintro e w9 ⟨rfl, hb9⟩
      have hT9 := unhide HTP8 _ hb9
      obtain ⟨bp, op, ur, e6, qr, hr⟩ := hT9.at (k := 0) (by simp)
      subst e6
      obtain ⟨ar, cr, rfl, _, _⟩ := hr.form
      have qr : w9.cell? ⟨bp, op, none⟩ = some (.slice ar (ptsL N).length cr) := qr
      have HB9 := hide ((unhide HB8).trans (hb9.mono (unhide HB8).size))
      have HCM := hide (refCompare_any (show Ints w9 (.slice ar (ptsL N).length cr) (ptsL N) from hr) (unhide HAL _ (unhide HB9)))
      have x8 := (unhide HTW _ (unhide HB9)).boxA.cell
      have heq : (decide (A = B) == ((A : Int) == (B : Int))) = true := by
        by_cases e : A = B
        · subst e; simp
        · have : ((A : Int) == (B : Int)) = false := by simp; omega
          rw [this]; simp [e]
      clear hb9 hT9 hr y8 y9 HCH HTP8 HB8
      go_wp2_with fail
      refine (unhide HCM).mono ?_
      rintro e w10 ⟨rfl, dn, rfl⟩
      rw [cmpL_refl]
      have HB10 := hide ((unhide HB9).trans ((Below.drewN w9 dn).mono (unhide HB9).size))
      have v8 := (unhide HTW _ (unhide HB10)).boxA.cell
      have HN10 := hide (unhide HNB _ (unhide HB10))
      have hd10 : (w9.drewN dn).heap.size = w9.heap.size := rfl
      clear HCM x8 qr HNB HB9
      go_wp2_with fail
      refine (unhide HN10).mono ?_
      rintro e w11 ⟨vn, rfl, hown11, hb11⟩
      obtain ⟨an, cn, rfl, hnl, hnc⟩ := (Seq.of_own hown11).form
      rw [unhide HNL] at hnl ⊢
      have HB11 := hide ((unhide HB10).trans (hb11.mono (unhide HB10).size))
      have u8 := (unhide HTW _ (unhide HB11)).boxA.cell
      have HR11 := hide (unhide HRG _ (unhide HB11))
      have hn1 : ((N - 1 : Nat) : Int) = (N : Int) - 1 := by omega
      clear hown11 hb11 HN10 v8 HNL HRG HB10
      go_wp2_with fail
      refine (unhide HR11).mono ?_
      rintro e w12 ⟨rfl, hb12⟩
      have HB12 := hide ((unhide HBE).trans (((unhide HB11).trans (hb12.mono (unhide HB11).size)).mono hszw))
      clear hb12 HB11 HR11 u8
      go_wp2
      go_ret
      exact ⟨rfl, unhide HB12⟩

set_option maxRecDepth 100000 in
theorem lifted (os : Os) (started : os.Started) (H : Type) (enc : TypeId × Value → H) :
    ReturnsInHanded {} Tryd.checked os 8 .any (fun w args => (Rows.graphWholeSpec.pre enc Tryd.prog Tryd.f8 [] false w args ∧ laidMetH Tryd.prog laidIn w) ∧ sizedMet enc Tryd.prog Tryd.f8 (OpenSpec.ofChange Rows.graphWholeSpec) false w args)
      (Rows.graphWholeSpec.post enc Tryd.prog Tryd.f8 false true false false) := by
  refine returnsInHanded_of_change_and (C := Tryd.checked) (X := fun w _ => laidMetH Tryd.prog laidIn w) (fun _ _ _ hh h => h.of_heap hh) own started (by kernel_rfl) Tryd.func8
    (ChangeSpec.witness_shaped (enc := enc) (C := Tryd.checked) (os := os) (X := fun w _ => laidMetH Tryd.prog laidIn w) false (World.doorLaid Tryd.prog doorN os) #[.int .i64 0, .int .i64 0, .int .i64 0] 8 rfl (World.shaped_of_RefB (by kernel_rfl) (by kernel_rfl)) (by kernel_rfl) (by kernel_rfl) (by kernel_rfl) (door_met os _)) ?_
  intro W base args ds gs before hval0 hW _ _ hL _
  have hval : ∀ (j : Nat) t v, Tryd.f8.params[j]? = some t → args[j]? = some v → Value.okWide Tryd.prog W .any base t v := hval0
  have hW' := hW
  obtain ⟨p, q, hA0, hV, rfl, hfz, hnd⟩ := hW
  have hA : DataW.TrodAll enc Tryd.prog W 0 (fun _ => true) true Tryd.f8.params.toList args.toList ds p := hA0
  rw [Tryd.params8] at hA hval
  obtain ⟨v0, vs0, d0, ds0, p0, q0, hargs, rfl, rfl, h0, r0⟩ := trodAll_cons hA
  obtain ⟨v1, vs1, d1, ds1, p1, q1, rfl, rfl, rfl, h1, r1⟩ := trodAll_cons r0
  obtain ⟨v2, vs2, d2, ds2, p2, q2, rfl, rfl, rfl, h2, r2⟩ := trodAll_cons r1
  obtain ⟨rfl, rfl, rfl⟩ := trodAll_nil r2
  obtain rfl : args = #[v0, v1, v2] := by cases args; simp_all
  obtain ⟨rfl, rfl⟩ := trodVars_none hV
  obtain ⟨l0, i0, m0⟩ := read_int h0 (hval 0 3 v0 rfl rfl)
  have lt0 : ∀ x ∈ p0, x.block < W.heap.size := by obtain ⟨m, hm⟩ := h0; exact DataW.trod_lt m _ _ _ hm
  obtain ⟨l1, i1, m1⟩ := read_int h1 (hval 1 3 v1 rfl rfl)
  have lt1 : ∀ x ∈ p1, x.block < W.heap.size := by obtain ⟨m, hm⟩ := h1; exact DataW.trod_lt m _ _ _ hm
  obtain ⟨l2, i2, m2⟩ := read_int h2 (hval 2 3 v2 rfl rfl)
  have lt2 : ∀ x ∈ p2, x.block < W.heap.size := by obtain ⟨m, hm⟩ := h2; exact DataW.trod_lt m _ _ _ hm
  clear hA0 hval0
  refine (walk (tabs_of hL) i0 m0 i1 m1 i2 m2).mono fun e W' ⟨he, bel⟩ => ?_
  subst he
  exact ⟨_, rfl, _, _, _, [], _, [], hW', trodAll_mk1 (shut_bool Tryd.underlying4 _), (trodAll_cons_mk (Below.trod laidOut (by kernel_rfl) (of_decide_eq_true (by kernel_rfl)) h0 bel lt0) (trodAll_cons_mk (Below.trod laidOut (by kernel_rfl) (of_decide_eq_true (by kernel_rfl)) h1 bel lt1) (trodAll_cons_mk (Below.trod laidOut (by kernel_rfl) (of_decide_eq_true (by kernel_rfl)) h2 bel lt2) trodAll_mk0))), rfl, bel.frame _, fun h => by cases h⟩

theorem over : Rows.graphWholeRow.holds Tryd.pinned (OpenSpec.ofChange Rows.graphWholeSpec) :=
  OpenClaim.holds_of_wide 8 Tryd.f8 rfl rfl rfl rfl rfl rfl rfl ⟨rfl, rfl, rfl, rfl, rfl⟩ rfl rfl rfl rfl rfl (by kernel_rfl) Tryd.func8 (by kernel_rfl)
    (of_decide_eq_true (by kernel_rfl)) (by unfold Func.isWrapper; first | (rw [if_pos (by decide +kernel)]; kernel_rfl) | (rw [if_neg (by decide +kernel)]; exact ⟨rfl, rfl⟩))
    (fun os started H enc _ => lifted os started H enc)

/-- The statement: the tied card. -/
theorem proved : Rows.GraphWholeCardSaid :=
  Claim7.holds_tied_plain_at .later [] [.data] true (true, "157dde362406d82824f5618f866d1cc9b7096a3b3657dcbd1ee63959cb86c8c6") false
    over (fun _ h => by cases h) (by kernel_rfl) (fun _ h => by cases h) graphWhole_row_tie rfl ⟨rfl, rfl⟩ (by kernel_rfl) rfl
    (fun f fn hf hfn => by
      obtain rfl : f = 8 := Option.some.inj ((show Tryd.prog.funcNamed "arborist/arboristlaw08.GraphWhole" = some 8 by kernel_rfl).symm.trans hf) |>.symm
      obtain rfl : fn = Tryd.f8 := (Option.some.inj (Tryd.func8.symm.trans hfn)).symm
      exact ⟨by kernel_rfl, fun j t ht => by
        rw [Tryd.params8] at ht
        have hm : t ∈ [3, 3, 3] := by simpa using Array.mem_of_getElem? ht
        have hall : ([3, 3, 3].all fun u => !Tryd.prog.wantsStandIn u) = true := by kernel_rfl
        exact (show Tryd.prog.wantsStandIn t = false by simpa using List.all_eq_true.1 hall t hm)⟩)
    (by kernel_rfl)

end Go.Proofs.YtmhaaogjldnceaaDoor.graphWhole
