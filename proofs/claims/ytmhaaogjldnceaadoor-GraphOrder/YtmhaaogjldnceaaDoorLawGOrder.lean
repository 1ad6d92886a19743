/-
  GraphOrder: edges may come in any order, and from either end.
-/
import Derived.Test.YtmhaaogjldnceaaDoorFrame8
import Derived.Test.YtmhaaogjldnceaaDoorGBox
import Derived.Test.YtmhaaogjldnceaaDoorGOrd
import Derived.Test.YtmhaaogjldnceaaDoorRefSets
import Derived.Test.YtmhaaogjldnceaaDoorTupCmp
import Derived.Deep.CutRange
namespace Go.Proofs.YtmhaaogjldnceaaDoor.graphOrder
open Go.RowKit Go.ChangeShapes Go.WideShapes Go.ChangeAt
set_option linter.unusedVariables false
set_option linter.unusedSimpArgs false
set_option maxRecDepth 20000

theorem cmp_self (l : List Int) : cmpL l l = 0 := cmpL_refl l

set_option maxHeartbeats 4000000 in
theorem walk {l0 : List (List Int)} {v0 : Value} {w : World} (hT : TabD w) (i0 : Tups w v0 l0) (m0 : ∀ l ∈ l0, ∀ n ∈ l, InI64 n) :
    Calls Tryd.prog 7 #[v0] w fun e w' => e = .returned (.bool true) ∧ Below w.heap.size w w' := by
  clear m0
  have HT := hide (fun W (hb : Below w.heap.size w W) => hT.below hb)
  have HI := hide (fun W (hb : Below w.heap.size w W) => i0.below hb)
  have HSH := hide (shown8_any hT)
  obtain ⟨a0, c0, rfl, hl0, hc0⟩ := i0.form
  unfold maxLen at hc0
  clear hT i0
  obtain ⟨N, hN⟩ : ∃ N, N = min l0.length 60 := ⟨_, rfl⟩
  have hmin : ∀ W ts t, (Builtin.min_ ts t #[.int .i64 (l0.length : Int), .int .i64 60]).run Tryd.prog W = .ok (.int .i64 (N : Int)) W := fun W ts t => by rw [run_min_int2]; split <;> (congr 2; omega)
  have hN1 : N ≤ l0.length := by omega
  have hN2 : N ≤ 60 := by omega
  clear hN
  go_enter Tryd.func7, Tryd.ntmps7
  go_wp2_with fail
  refine (unhide HSH).mono ?_
  rintro e w1 ⟨rfl, hb1⟩
  have HB1 := hide hb1
  have hz1 := hb1.size
  clear hb1 HSH
  go_wp2_with fail
  refine (new_any 12 w1).mono ?_
  rintro e w2 ⟨x2, rfl, hown2, hb2⟩
  rw [show newN 12 = 12 from rfl] at hown2
  obtain ⟨a2, c2, rfl, _, _⟩ := (Seq.of_own hown2).form
  have hz2 := hb2.size
  have hb3 : Below w2.heap.size w2 (w2.alloc (.cells #[.slice a2 12 c2] 25)) := (Below.refl _ _).alloc (Nat.le_refl _) _
  have hbx4 := BoxG.new w2 (.slice a2 12 c2)
  have hzW3 : (w2.alloc (.cells #[.slice a2 12 c2] 25)).heap.size = w2.heap.size + 1 := by simp
  have HW3 := hide hzW3
  have hw2 := Seq.of_own hown2
  have hA3 := hw2.below hb3
  have HOA := hide (fun b hb => (hown2.lt b hb).2)
  have HB3 := hide ((unhide HB1).trans ((hb2.trans (hb3.mono hz2)).mono hz1))
  have HA3 := hide hA3
  have HX4 := hide hbx4
  clear hown2 hw2 hb2 hb3 hbx4 hA3 hzW3 HB1
  go_wp2_with fail
  generalize w2.alloc (.cells #[.slice a2 12 c2] 25) = W3 at *
  refine (new_any 12 W3).mono ?_
  rintro e w4 ⟨x4, rfl, hown4, hb4⟩
  rw [show newN 12 = 12 from rfl] at hown4
  obtain ⟨a4, c4, rfl, _, _⟩ := (Seq.of_own hown4).form
  have hz4 := hb4.size
  have hzW3 := unhide HW3
  have hb5 : Below w4.heap.size w4 (w4.alloc (.cells #[.slice a4 12 c4] 25)) := (Below.refl _ _).alloc (Nat.le_refl _) _
  have hbx5 := BoxG.new w4 (.slice a4 12 c4)
  have hzW5 : (w4.alloc (.cells #[.slice a4 12 c4] 25)).heap.size = w4.heap.size + 1 := by simp
  have hTwo : TwoG w2.heap.size w4.heap.size (w4.alloc (.cells #[.slice a4 12 c4] 25)) (.slice a2 12 c2) (.slice a4 12 c4) (List.replicate 12 0) (List.replicate 12 0) :=
    ⟨((unhide HX4).below hb4 (by omega)).below hb5 (by omega), hbx5, ((unhide HA3).below hb4).below hb5, (Seq.of_own hown4).below hb5, fun _ b h1 h2 => by have := unhide HOA b h1; rcases h2 with h2 | h2 <;> omega, fun _ b h1 h2 => by have := hown4.lt b h1; rcases h2 with h2 | h2 <;> omega⟩
  have HTwo := hide hTwo
  have HB5 := hide ((unhide HB3).trans ((hb4.trans (hb5.mono hz4)).mono (unhide HB3).size))
  have HW5 := hide hzW5
  have hlt24 : w2.heap.size < w4.heap.size := by omega
  have hw2w : w.heap.size ≤ w2.heap.size := by omega
  clear hown4 hb4 hb5 hbx5 hzW5 hTwo HB3 HX4 HA3 HOA HW3
  go_wp2
  generalize w4.alloc (.cells #[.slice a4 12 c4] 25) = W5 at *
  have hzW5 := unhide HW5
  clear HW5
  go_loopw [7] (fun i wr => ∃ (k : Nat) (va vb : Value) (ga gb : List Nat), i = .int .i64 k ∧ k ≤ N ∧ TwoG w2.heap.size w4.heap.size wr va vb ga gb ∧ Hid (GA ga (l0.take k) ∧ GA gb (lastN l0 N k)) ∧ Below w.heap.size w wr ∧ W5.heap.size ≤ wr.heap.size) (fun i _ => N - (intOf i).toNat)
  case atStart => exact ⟨0, _, _, _, _, rfl, by omega, unhide HTwo, hide ⟨by simpa using GA.start, by unfold lastN; rw [Nat.sub_zero, List.drop_eq_nil_of_le (by simp; omega)]; exact GA.start⟩, unhide HB5, Nat.le_refl _⟩
  case round =>
    clear HTwo HB5
    obtain ⟨k, va, vb, ga, gb, rfl, hk, hTwo, HG, hbel, hszr⟩ := hrel
    rename World => wr
    by_cases hkN : k < N
    · have hk0 : k < l0.length := by omega
      have hj0 : N - 1 - k < l0.length := by omega
      obtain ⟨b0, o0, ur, e0, qr, hr⟩ := (unhide HI wr hbel).at hk0
      subst e0
      obtain ⟨b0', o0', us, e0', qs, hs⟩ := (unhide HI wr hbel).at hj0
      cases e0'
      obtain ⟨ar, cr, rfl, hlr, hcr⟩ := hr.form
      obtain ⟨az, cs, rfl, hls, hcs⟩ := hs.form
      have HMA := hide (mem_take_succ hk0)
      have HMB := hide (mem_lastN hN1 hkN)
      obtain ⟨R, hR⟩ : ∃ R, R = l0[k] := ⟨_, rfl⟩
      obtain ⟨S, hS⟩ : ∃ S, S = l0[N - 1 - k] := ⟨_, rfl⟩
      have HMA : Hid (∀ z, z ∈ l0.take (k + 1) ↔ z ∈ l0.take k ∨ z = R) := by rw [hR]; exact HMA
      have HMB : Hid (∀ z, z ∈ lastN l0 N (k + 1) ↔ z ∈ lastN l0 N k ∨ z = S) := by rw [hS]; exact HMB
      rw [← hR] at qr hr hlr
      rw [← hS] at qs hs hls
      have HRW := hide (fun W (hb : Below wr.heap.size wr W) => And.intro (Below.cell_of hb qr) (hr.below hb))
      have HSW := hide (fun W (hb : Below w.heap.size w W) => by
        obtain ⟨b1, o1, u1, e1, q1, h1⟩ := (unhide HI W hb).at hj0
        cases e1
        obtain ⟨a1, c1, rfl, hl1, hc1⟩ := h1.form
        rw [← hS] at q1 h1 hl1
        exact (show ∃ a1 c1, W.cell? ⟨b0, o0 + (N - 1 - k), none⟩ = some (.slice a1 S.length c1) ∧ Ints W (.slice a1 S.length c1) S ∧ S.length ≤ c1 ∧ c1 ≤ maxLen from ⟨a1, c1, q1, h1, hl1, hc1⟩))
      have HTW := hide hTwo
      have HBE := hide hbel
      unfold maxLen at hcr
      clear hTwo hbel hR hS qs hs hls hcs
      go_upto_if 28 with fail
      go_cut [] from 18 to 71 (fun wx => ∃ (va' : Value) (ga' : List Nat), TwoG w2.heap.size w4.heap.size wx va' vb ga' gb ∧ Hid (GA ga' (l0.take (k + 1))) ∧ Below w.heap.size w wx ∧ W5.heap.size ≤ wx.heap.size)
      case first =>
        by_cases hl : 1 < R.length
        · have hl0R : 0 < R.length := by omega
          obtain ⟨bp, op, e1, q0⟩ := hr.at (k := 0) (by omega)
          subst e1
          obtain ⟨bp', op', e1, q1⟩ := hr.at (k := 1) hl
          cases e1
          have e0 : R[0] = R.getD 0 0 := by rw [List.getD_eq_getElem?_getD, List.getElem?_eq_getElem (by omega)]; rfl
          have e1 : R[1] = R.getD 1 0 := by rw [List.getD_eq_getElem?_getD, List.getElem?_eq_getElem hl]; rfl
          rw [e0, Nat.add_zero] at q0
          rw [e1] at q1
          have HADD := hide ((unhide HG).1.add (unhide HMA) hl (.inl ⟨rfl, rfl⟩))
          have hw64 := (unhide HG).1.right.w64
          have hlen := (unhide HG).1.len
          have hTwo := unhide HTW
          have hbW := unhide HBE
          have hszw := hbW.size
          have qb := hTwo.boxA.cell
          have qf := hTwo.boxA.frozen
          have HJ := hide (fun W (hb : Below wr.heap.size wr W) => join_any (a := R.getD 0 0) (b := R.getD 1 0) (hTwo.wA.below hb) (by omega) hw64)
          generalize R.getD 0 0 = p at *
          generalize R.getD 1 0 = q at *
          obtain ⟨xa, xc, e5, _, _⟩ := hTwo.wA.form
          subst e5
          clear hr e0 e1 hTwo hw64 hlen
          go_wp2
          refine wp_region_till (st := 14) (S := fun U => U.cell? ⟨w2.heap.size, 0, none⟩ = some (.slice xa ga.length xc) ∧ U.cell? ⟨b0, o0 + k, none⟩ = some (.slice (some ⟨bp, op, none⟩) R.length cr) ∧ U.cell? ⟨bp, op, none⟩ = some (.int .i64 p) ∧ U.cell? ⟨bp, op + 1, none⟩ = some (.int .i64 q)) (by kernel_rfl) ?_
          have hS0 : wr.drew.cell? ⟨w2.heap.size, 0, none⟩ = some (.slice xa ga.length xc) ∧ wr.drew.cell? ⟨b0, o0 + k, none⟩ = some (.slice (some ⟨bp, op, none⟩) R.length cr) ∧ wr.drew.cell? ⟨bp, op, none⟩ = some (.int .i64 p) ∧ wr.drew.cell? ⟨bp, op + 1, none⟩ = some (.int .i64 q) := ⟨qb, qr, q0, q1⟩
          refine till_take (i := 0) (v := ?_) rfl (by kernel_rfl) (by kernel_rfl) (by kernel_rfl) (by kernel_rfl) (fun _ _ _ h => h) (Or.inl ⟨by kernel_rfl, ?_⟩) (by assumption) ?_
          rotate_left
          · intro W hSW; obtain ⟨hS1, hS2, hS3, hS4⟩ := hSW; go_simp; first | done | rfl
          simp only [Act.put, List.setIfInBounds_toArray, List.set_cons_zero, List.set_cons_succ]
          refine till_take (i := 1) (v := ?_) rfl (by kernel_rfl) (by kernel_rfl) (by kernel_rfl) (by kernel_rfl) (fun _ _ _ h => h) (Or.inl ⟨by kernel_rfl, ?_⟩) (by assumption) ?_
          rotate_left
          · intro W hSW; obtain ⟨hS1, hS2, hS3, hS4⟩ := hSW; go_simp; first | done | rfl
          simp only [Act.put, List.setIfInBounds_toArray, List.set_cons_zero, List.set_cons_succ]
          refine till_take (i := 2) (v := ?_) rfl (by kernel_rfl) (by kernel_rfl) (by kernel_rfl) (by kernel_rfl) (fun _ _ _ h => h) (Or.inl ⟨by kernel_rfl, ?_⟩) (by assumption) ?_
          rotate_left
          · intro W hSW; obtain ⟨hS1, hS2, hS3, hS4⟩ := hSW; go_simp; first | done | rfl
          simp only [Act.put, List.setIfInBounds_toArray, List.set_cons_zero, List.set_cons_succ]
          refine till_take (i := 3) (v := ?_) rfl (by kernel_rfl) (by kernel_rfl) (by kernel_rfl) (by kernel_rfl) (fun _ _ _ h => h) (Or.inl ⟨by kernel_rfl, ?_⟩) (by assumption) ?_
          rotate_left
          · intro W hSW; obtain ⟨hS1, hS2, hS3, hS4⟩ := hSW; go_simp; first | done | rfl
          simp only [Act.put, List.setIfInBounds_toArray, List.set_cons_zero, List.set_cons_succ]
          refine till_take (i := 4) (v := ?_) rfl (by kernel_rfl) (by kernel_rfl) (by kernel_rfl) (by kernel_rfl) (fun _ _ _ h => h) (Or.inl ⟨by kernel_rfl, ?_⟩) (by assumption) ?_
          rotate_left
          · intro W hSW; obtain ⟨hS1, hS2, hS3, hS4⟩ := hSW; go_simp; first | done | rfl
          simp only [Act.put, List.setIfInBounds_toArray, List.set_cons_zero, List.set_cons_succ]
          refine till_take (i := 5) (v := ?_) rfl (by kernel_rfl) (by kernel_rfl) (by kernel_rfl) (by kernel_rfl) (fun _ _ _ h => h) (Or.inl ⟨by kernel_rfl, ?_⟩) (by assumption) ?_
          rotate_left
          · intro W hSW; obtain ⟨hS1, hS2, hS3, hS4⟩ := hSW; go_simp; first | done | rfl
          simp only [Act.put, List.setIfInBounds_toArray, List.set_cons_zero, List.set_cons_succ]
          refine till_take (i := 6) (v := ?_) rfl (by kernel_rfl) (by kernel_rfl) (by kernel_rfl) (by kernel_rfl) (fun _ _ _ h => h) (Or.inl ⟨by kernel_rfl, ?_⟩) (by assumption) ?_
          rotate_left
          · intro W hSW; obtain ⟨hS1, hS2, hS3, hS4⟩ := hSW; go_simp; first | done | rfl
          simp only [Act.put, List.setIfInBounds_toArray, List.set_cons_zero, List.set_cons_succ]
          refine till_take (i := 7) (v := ?_) rfl (by kernel_rfl) (by kernel_rfl) (by kernel_rfl) (by kernel_rfl) (fun _ _ _ h => h) (Or.inl ⟨by kernel_rfl, ?_⟩) (by assumption) ?_
          rotate_left
          · intro W hSW; obtain ⟨hS1, hS2, hS3, hS4⟩ := hSW; go_simp; first | done | rfl
          simp only [Act.put, List.setIfInBounds_toArray, List.set_cons_zero, List.set_cons_succ]
          refine till_take (i := 8) (v := ?_) rfl (by kernel_rfl) (by kernel_rfl) (by kernel_rfl) (by kernel_rfl) (fun _ _ _ h => h) (Or.inl ⟨by kernel_rfl, ?_⟩) (by assumption) ?_
          rotate_left
          · intro W hSW; obtain ⟨hS1, hS2, hS3, hS4⟩ := hSW; go_simp; first | done | rfl
          simp only [Act.put, List.setIfInBounds_toArray, List.set_cons_zero, List.set_cons_succ]
          refine till_take (i := 9) (v := ?_) rfl (by kernel_rfl) (by kernel_rfl) (by kernel_rfl) (by kernel_rfl) (fun _ _ _ h => h) (Or.inl ⟨by kernel_rfl, ?_⟩) (by assumption) ?_
          rotate_left
          · intro W hSW; obtain ⟨hS1, hS2, hS3, hS4⟩ := hSW; go_simp; first | done | rfl
          simp only [Act.put, List.setIfInBounds_toArray, List.set_cons_zero, List.set_cons_succ]
          refine till_take (i := 10) (v := ?_) rfl (by kernel_rfl) (by kernel_rfl) (by kernel_rfl) (by kernel_rfl) (fun _ _ _ h => h) (Or.inl ⟨by kernel_rfl, ?_⟩) (by assumption) ?_
          rotate_left
          · intro W hSW; obtain ⟨hS1, hS2, hS3, hS4⟩ := hSW; go_simp; first | done | rfl
          simp only [Act.put, List.setIfInBounds_toArray, List.set_cons_zero, List.set_cons_succ]
          refine till_take (i := 11) (v := ?_) rfl (by kernel_rfl) (by kernel_rfl) (by kernel_rfl) (by kernel_rfl) (fun _ _ _ h => h) (Or.inl ⟨by kernel_rfl, ?_⟩) (by assumption) ?_
          rotate_left
          · intro W hSW; obtain ⟨hS1, hS2, hS3, hS4⟩ := hSW; go_simp; first | done | rfl
          simp only [Act.put, List.setIfInBounds_toArray, List.set_cons_zero, List.set_cons_succ]
          refine till_take (i := 12) (v := ?_) rfl (by kernel_rfl) (by kernel_rfl) (by kernel_rfl) (by kernel_rfl) (fun _ _ _ h => h) (Or.inl ⟨by kernel_rfl, ?_⟩) (by assumption) ?_
          rotate_left
          · intro W hSW; obtain ⟨hS1, hS2, hS3, hS4⟩ := hSW; go_simp; first | done | rfl
          simp only [Act.put, List.setIfInBounds_toArray, List.set_cons_zero, List.set_cons_succ]
          refine till_one (i := 13) (by kernel_rfl) rfl rfl (by decide) (fun K hK => ?_)
          go_simp
          refine (unhide HJ _ (by exact below_same rfl rfl rfl rfl)).mono ?_
          rintro e w6 ⟨y, rfl, hown6, hb6⟩
          have hb6' : Below wr.heap.size wr w6 := ⟨hb6.os, hb6.tape, hb6.output, hb6.size, hb6.block⟩
          have hTw6 := (unhide HTW).below hb6'
          have k1 := hTw6.boxA.cell
          have f1 := hTw6.boxA.frozen
          refine hK.out _ _ ⟨k1, Below.cell_of hb6' qr, Below.cell_of hb6' q0, Below.cell_of hb6' q1⟩ (fun hHeld => ?_)
          clear hK K
          try simp only [Act.put, List.setIfInBounds_toArray, List.set_cons_zero, List.set_cons_succ]
          have hown6' : OwnW wr.heap.size w6 y (joinN ga [p, q]) := hown6
          obtain ⟨ya, yc, rfl, _, _⟩ := (Seq.of_own hown6').form
          have HF := hide (And.intro (hTw6.setA (by omega) hown6' (by omega) (by omega)) (And.intro (Below.setCell (p := ⟨w2.heap.size, 0, none⟩) (hbW.trans (hb6'.mono hszw)) hw2w (.slice ya (joinN ga [p, q]).length yc)) (show W5.heap.size ≤ (w6.setCell ⟨w2.heap.size, 0, none⟩ (.slice ya (joinN ga [p, q]).length yc)).heap.size by have := hb6'.size; simp; omega)))
          clear hown6 hown6' hb6 hb6' hTw6
          refine till_last (by kernel_rfl) rfl rfl (by kernel_rfl) (fun K hK => ?_)
          go_simp
          refine hK.out _ _ ?_
          clear hK K hHeld hS0 k1 f1 q0 q1 qr qb qf
          try simp only [Act.put, List.setIfInBounds_toArray, List.set_cons_zero, List.set_cons_succ]
          generalize w6.setCell ⟨w2.heap.size, 0, none⟩ (.slice ya (joinN ga [p, q]).length yc) = w7 at *
          go_wp2
          go_meet
          case rel => exact ⟨_, _, (unhide HF).1, HADD, (unhide HF).2.1, (unhide HF).2.2⟩
        · have HSK := hide ((unhide HG).1.skip (unhide HMA) hl)
          go_wp2
          go_meet
          case rel => exact ⟨va, ga, unhide HTW, HSK, unhide HBE, hszr⟩
      case rest =>
        obtain ⟨va', ga', hTwo, HGA, hbel, hszr2⟩ := hcut
        obtain ⟨az, cs, qs, hs, hls, hcs⟩ := unhide HSW wc hbel
        unfold maxLen at hcs
        obtain ⟨j, hj⟩ : ∃ j, j = N - 1 - k := ⟨_, rfl⟩
        have hij : (N : Int) - 1 - (k : Int) = (j : Int) := by omega
        have hwr : IntKind.i64.wrap (IntKind.i64.wrap ((N : Int) - 1) - (k : Int)) = (j : Int) := by rw [IntKind.wrap_i64, IntKind.wrap_i64]; omega
        have hjl : j < l0.length := by omega
        rw [← hj] at qs
        have HTW := hide hTwo
        have HBE := hide hbel
        clear hTwo hbel hj hj0
        go_upto_if 51 with fail
        by_cases hl : 1 < S.length
        · have hl0S : 0 < S.length := by omega
          obtain ⟨bp, op, e1, q0⟩ := hs.at (k := 0) (by omega)
          subst e1
          obtain ⟨bp', op', e1, q1⟩ := hs.at (k := 1) hl
          cases e1
          have e0 : S[0] = S.getD 0 0 := by rw [List.getD_eq_getElem?_getD, List.getElem?_eq_getElem (by omega)]; rfl
          have e1 : S[1] = S.getD 1 0 := by rw [List.getD_eq_getElem?_getD, List.getElem?_eq_getElem hl]; rfl
          rw [e0, Nat.add_zero] at q0
          rw [e1] at q1
          have HADD := hide ((unhide HG).2.add (unhide HMB) hl (.inr ⟨rfl, rfl⟩))
          have hw64 := (unhide HG).2.right.w64
          have hlen := (unhide HG).2.len
          have hTwo := unhide HTW
          have hbW := unhide HBE
          have hszw := hbW.size
          have qb := hTwo.boxB.cell
          have qf := hTwo.boxB.frozen
          have HJ := hide (fun W (hb : Below wc.heap.size wc W) => join_any (a := S.getD 1 0) (b := S.getD 0 0) (hTwo.wB.below hb) (by omega) hw64)
          generalize S.getD 0 0 = p at *
          generalize S.getD 1 0 = q at *
          obtain ⟨xa, xc, e5, _, _⟩ := hTwo.wB.form
          subst e5
          clear hs e0 e1 hTwo hw64 hlen
          go_wp2
          refine wp_region_till (st := 20) (S := fun U => U.cell? ⟨w4.heap.size, 0, none⟩ = some (.slice xa gb.length xc) ∧ U.cell? ⟨b0, o0 + j, none⟩ = some (.slice (some ⟨bp, op, none⟩) S.length cs) ∧ U.cell? ⟨bp, op, none⟩ = some (.int .i64 p) ∧ U.cell? ⟨bp, op + 1, none⟩ = some (.int .i64 q)) (by kernel_rfl) ?_
          have hS0 : wc.drew.cell? ⟨w4.heap.size, 0, none⟩ = some (.slice xa gb.length xc) ∧ wc.drew.cell? ⟨b0, o0 + j, none⟩ = some (.slice (some ⟨bp, op, none⟩) S.length cs) ∧ wc.drew.cell? ⟨bp, op, none⟩ = some (.int .i64 p) ∧ wc.drew.cell? ⟨bp, op + 1, none⟩ = some (.int .i64 q) := ⟨qb, qs, q0, q1⟩
          refine till_take (i := 0) (v := ?_) rfl (by kernel_rfl) (by kernel_rfl) (by kernel_rfl) (by kernel_rfl) (fun _ _ _ h => h) (Or.inl ⟨by kernel_rfl, ?_⟩) (by assumption) ?_
          rotate_left
          · intro W hSW; obtain ⟨hS1, hS2, hS3, hS4⟩ := hSW; go_simp; first | done | rfl
          simp only [Act.put, List.setIfInBounds_toArray, List.set_cons_zero, List.set_cons_succ]
          refine till_take (i := 1) (v := ?_) rfl (by kernel_rfl) (by kernel_rfl) (by kernel_rfl) (by kernel_rfl) (fun _ _ _ h => h) (Or.inl ⟨by kernel_rfl, ?_⟩) (by assumption) ?_
          rotate_left
          · intro W hSW; obtain ⟨hS1, hS2, hS3, hS4⟩ := hSW; go_simp; first | done | rfl
          simp only [Act.put, List.setIfInBounds_toArray, List.set_cons_zero, List.set_cons_succ]
          refine till_take (i := 2) (v := ?_) rfl (by kernel_rfl) (by kernel_rfl) (by kernel_rfl) (by kernel_rfl) (fun _ _ _ h => h) (Or.inl ⟨by kernel_rfl, ?_⟩) (by assumption) ?_
          rotate_left
          · intro W hSW; obtain ⟨hS1, hS2, hS3, hS4⟩ := hSW; go_simp; first | done | rfl
          simp only [Act.put, List.setIfInBounds_toArray, List.set_cons_zero, List.set_cons_succ]
          refine till_take (i := 3) (v := ?_) rfl (by kernel_rfl) (by kernel_rfl) (by kernel_rfl) (by kernel_rfl) (fun _ _ _ h => h) (Or.inl ⟨by kernel_rfl, ?_⟩) (by assumption) ?_
          rotate_left
          · intro W hSW; obtain ⟨hS1, hS2, hS3, hS4⟩ := hSW; go_simp; first | done | rfl
          simp only [Act.put, List.setIfInBounds_toArray, List.set_cons_zero, List.set_cons_succ]
          refine till_take (i := 4) (v := ?_) rfl (by kernel_rfl) (by kernel_rfl) (by kernel_rfl) (by kernel_rfl) (fun _ _ _ h => h) (Or.inl ⟨by kernel_rfl, ?_⟩) (by assumption) ?_
          rotate_left
          · intro W hSW; obtain ⟨hS1, hS2, hS3, hS4⟩ := hSW; go_simp; first | done | rfl
          simp only [Act.put, List.setIfInBounds_toArray, List.set_cons_zero, List.set_cons_succ]
          refine till_take (i := 5) (v := ?_) rfl (by kernel_rfl) (by kernel_rfl) (by kernel_rfl) (by kernel_rfl) (fun _ _ _ h => h) (Or.inl ⟨by kernel_rfl, ?_⟩) (by assumption) ?_
          rotate_left
          · intro W hSW; obtain ⟨hS1, hS2, hS3, hS4⟩ := hSW; go_simp; first | done | rfl
          simp only [Act.put, List.setIfInBounds_toArray, List.set_cons_zero, List.set_cons_succ]
          refine till_take (i := 6) (v := ?_) rfl (by kernel_rfl) (by kernel_rfl) (by kernel_rfl) (by kernel_rfl) (fun _ _ _ h => h) (Or.inl ⟨by kernel_rfl, ?_⟩) (by assumption) ?_
          rotate_left
          · intro W hSW; obtain ⟨hS1, hS2, hS3, hS4⟩ := hSW; go_simp; first | done | rfl
          simp only [Act.put, List.setIfInBounds_toArray, List.set_cons_zero, List.set_cons_succ]
          refine till_take (i := 7) (v := ?_) rfl (by kernel_rfl) (by kernel_rfl) (by kernel_rfl) (by kernel_rfl) (fun _ _ _ h => h) (Or.inl ⟨by kernel_rfl, ?_⟩) (by assumption) ?_
          rotate_left
          · intro W hSW; obtain ⟨hS1, hS2, hS3, hS4⟩ := hSW; go_simp; first | done | rfl
          simp only [Act.put, List.setIfInBounds_toArray, List.set_cons_zero, List.set_cons_succ]
          refine till_take (i := 8) (v := ?_) rfl (by kernel_rfl) (by kernel_rfl) (by kernel_rfl) (by kernel_rfl) (fun _ _ _ h => h) (Or.inl ⟨by kernel_rfl, ?_⟩) (by assumption) ?_
          rotate_left
          · intro W hSW; obtain ⟨hS1, hS2, hS3, hS4⟩ := hSW; go_simp; first | done | rfl
          simp only [Act.put, List.setIfInBounds_toArray, List.set_cons_zero, List.set_cons_succ]
          refine till_take (i := 9) (v := ?_) rfl (by kernel_rfl) (by kernel_rfl) (by kernel_rfl) (by kernel_rfl) (fun _ _ _ h => h) (Or.inl ⟨by kernel_rfl, ?_⟩) (by assumption) ?_
          rotate_left
          · intro W hSW; obtain ⟨hS1, hS2, hS3, hS4⟩ := hSW; go_simp; first | done | rfl
          simp only [Act.put, List.setIfInBounds_toArray, List.set_cons_zero, List.set_cons_succ]
          refine till_take (i := 10) (v := ?_) rfl (by kernel_rfl) (by kernel_rfl) (by kernel_rfl) (by kernel_rfl) (fun _ _ _ h => h) (Or.inl ⟨by kernel_rfl, ?_⟩) (by assumption) ?_
          rotate_left
          · intro W hSW; obtain ⟨hS1, hS2, hS3, hS4⟩ := hSW; go_simp; first | done | rfl
          simp only [Act.put, List.setIfInBounds_toArray, List.set_cons_zero, List.set_cons_succ]
          refine till_take (i := 11) (v := ?_) rfl (by kernel_rfl) (by kernel_rfl) (by kernel_rfl) (by kernel_rfl) (fun _ _ _ h => h) (Or.inl ⟨by kernel_rfl, ?_⟩) (by assumption) ?_
          rotate_left
          · intro W hSW; obtain ⟨hS1, hS2, hS3, hS4⟩ := hSW; go_simp; first | done | rfl
          simp only [Act.put, List.setIfInBounds_toArray, List.set_cons_zero, List.set_cons_succ]
          refine till_take (i := 12) (v := ?_) rfl (by kernel_rfl) (by kernel_rfl) (by kernel_rfl) (by kernel_rfl) (fun _ _ _ h => h) (Or.inl ⟨by kernel_rfl, ?_⟩) (by assumption) ?_
          rotate_left
          · intro W hSW; obtain ⟨hS1, hS2, hS3, hS4⟩ := hSW; go_simp; first | done | rfl
          simp only [Act.put, List.setIfInBounds_toArray, List.set_cons_zero, List.set_cons_succ]
          refine till_take (i := 13) (v := ?_) rfl (by kernel_rfl) (by kernel_rfl) (by kernel_rfl) (by kernel_rfl) (fun _ _ _ h => h) (Or.inl ⟨by kernel_rfl, ?_⟩) (by assumption) ?_
          rotate_left
          · intro W hSW; obtain ⟨hS1, hS2, hS3, hS4⟩ := hSW; go_simp; first | done | rfl
          simp only [Act.put, List.setIfInBounds_toArray, List.set_cons_zero, List.set_cons_succ]
          refine till_take (i := 14) (v := ?_) rfl (by kernel_rfl) (by kernel_rfl) (by kernel_rfl) (by kernel_rfl) (fun _ _ _ h => h) (Or.inl ⟨by kernel_rfl, ?_⟩) (by assumption) ?_
          rotate_left
          · intro W hSW; obtain ⟨hS1, hS2, hS3, hS4⟩ := hSW; go_simp; first | done | rfl
          simp only [Act.put, List.setIfInBounds_toArray, List.set_cons_zero, List.set_cons_succ]
          refine till_take (i := 15) (v := ?_) rfl (by kernel_rfl) (by kernel_rfl) (by kernel_rfl) (by kernel_rfl) (fun _ _ _ h => h) (Or.inl ⟨by kernel_rfl, ?_⟩) (by assumption) ?_
          rotate_left
          · intro W hSW; obtain ⟨hS1, hS2, hS3, hS4⟩ := hSW; go_simp; first | done | rfl
          simp only [Act.put, List.setIfInBounds_toArray, List.set_cons_zero, List.set_cons_succ]
          refine till_take (i := 16) (v := ?_) rfl (by kernel_rfl) (by kernel_rfl) (by kernel_rfl) (by kernel_rfl) (fun _ _ _ h => h) (Or.inl ⟨by kernel_rfl, ?_⟩) (by assumption) ?_
          rotate_left
          · intro W hSW; obtain ⟨hS1, hS2, hS3, hS4⟩ := hSW; go_simp; first | done | rfl
          simp only [Act.put, List.setIfInBounds_toArray, List.set_cons_zero, List.set_cons_succ]
          refine till_take (i := 17) (v := ?_) rfl (by kernel_rfl) (by kernel_rfl) (by kernel_rfl) (by kernel_rfl) (fun _ _ _ h => h) (Or.inl ⟨by kernel_rfl, ?_⟩) (by assumption) ?_
          rotate_left
          · intro W hSW; obtain ⟨hS1, hS2, hS3, hS4⟩ := hSW; go_simp; first | done | rfl
          simp only [Act.put, List.setIfInBounds_toArray, List.set_cons_zero, List.set_cons_succ]
          refine till_take (i := 18) (v := ?_) rfl (by kernel_rfl) (by kernel_rfl) (by kernel_rfl) (by kernel_rfl) (fun _ _ _ h => h) (Or.inl ⟨by kernel_rfl, ?_⟩) (by assumption) ?_
          rotate_left
          · intro W hSW; obtain ⟨hS1, hS2, hS3, hS4⟩ := hSW; go_simp; first | done | rfl
          simp only [Act.put, List.setIfInBounds_toArray, List.set_cons_zero, List.set_cons_succ]
          refine till_one (i := 19) (by kernel_rfl) rfl rfl (by decide) (fun K hK => ?_)
          go_simp
          refine (unhide HJ _ (by exact below_same rfl rfl rfl rfl)).mono ?_
          rintro e w6 ⟨y, rfl, hown6, hb6⟩
          have hb6' : Below wc.heap.size wc w6 := ⟨hb6.os, hb6.tape, hb6.output, hb6.size, hb6.block⟩
          have hTw6 := (unhide HTW).below hb6'
          have k1 := hTw6.boxB.cell
          have f1 := hTw6.boxB.frozen
          refine hK.out _ _ ⟨k1, Below.cell_of hb6' qs, Below.cell_of hb6' q0, Below.cell_of hb6' q1⟩ (fun hHeld => ?_)
          clear hK K
          try simp only [Act.put, List.setIfInBounds_toArray, List.set_cons_zero, List.set_cons_succ]
          have hown6' : OwnW wc.heap.size w6 y (joinN gb [q, p]) := hown6
          obtain ⟨ya, yc, rfl, _, _⟩ := (Seq.of_own hown6').form
          have HF := hide (And.intro (hTw6.setB (by omega) hown6' (by omega) (by omega)) (And.intro (Below.setCell (p := ⟨w4.heap.size, 0, none⟩) (hbW.trans (hb6'.mono hszw)) (show w.heap.size ≤ w4.heap.size by omega) (.slice ya (joinN gb [q, p]).length yc)) (show W5.heap.size ≤ (w6.setCell ⟨w4.heap.size, 0, none⟩ (.slice ya (joinN gb [q, p]).length yc)).heap.size by have := hb6'.size; simp; omega)))
          clear hown6 hown6' hb6 hb6' hTw6
          refine till_last (by kernel_rfl) rfl rfl (by kernel_rfl) (fun K hK => ?_)
          go_simp
          refine hK.out _ _ ?_
          clear hK K hHeld hS0 k1 f1 q0 q1 qs qb qf
          try simp only [Act.put, List.setIfInBounds_toArray, List.set_cons_zero, List.set_cons_succ]
          generalize w6.setCell ⟨w4.heap.size, 0, none⟩ (.slice ya (joinN gb [q, p]).length yc) = w7 at *
          go_wp2
          go_roundw
          case rel => exact ⟨k + 1, va', _, ga', _, by go_num, by omega, (unhide HF).1, hide ⟨unhide HGA, unhide HADD⟩, (unhide HF).2.1, (unhide HF).2.2⟩
          case measure => simp [intOf]; omega
        · have HSK := hide ((unhide HG).2.skip (unhide HMB) hl)
          go_wp2
          go_roundw
          case rel => exact ⟨k + 1, va', vb, ga', gb, by go_num, by omega, unhide HTW, hide ⟨unhide HGA, unhide HSK⟩, unhide HBE, hszr2⟩
          case measure => simp [intOf]; omega
    · have hkN' : k = N := by omega
      subst hkN'
      have hsame : ga = gb := (unhide HG).1.same (unhide HG).2 (fun z => by unfold lastN; rw [Nat.sub_self, List.drop_zero])
      subst hsame
      have hR := (unhide HG).1.right
      have hlen := (unhide HG).1.len
      have HTW := hide (fun W (hb : Below wr.heap.size wr W) => hTwo.below hb)
      have HTR := hide (fun W (hb : Below wr.heap.size wr W) => unhide HT W (hbel.trans (hb.mono hbel.size)))
      have HNA := hide (fun W (a : Int) (hb : Below wr.heap.size wr W) => neighbors_any (a := a) (unhide HTW W hb).wA (by omega) hR.w64 (unhide HTR W hb))
      have HNB := hide (fun W (a : Int) (hb : Below wr.heap.size wr W) => neighbors_any (a := a) (unhide HTW W hb).wB (by omega) hR.w64 (unhide HTR W hb))
      have HBS := hide (fun W (a b : Int) (hb : Below wr.heap.size wr W) => beside_any (a := a) (b := b) (unhide HTW W hb).wA (by omega) hR.w64)
      have HSY := hide (fun (i : Nat) (hi : i < 12) (x : Int) (hx : x ∈ nbL ga (i : Int)) => by
        obtain ⟨h1, h2, h3⟩ := mem_nbL'.1 hx
        have h3 : besB ga i x.toNat = true := by simpa using h3
        have h4 := hR.sym _ _ h3
        exact (show decide ((i : Int) ∈ nbL ga x) = true ∧ besI ga (i : Int) x = true from
          ⟨decide_eq_true (mem_nbL'.2 ⟨h2, h1, by simpa using h4⟩), by rw [besI_eq, h1, h2]; simpa using h3⟩))
      have HBE := hide hbel
      have hwr0 := hbel.size
      obtain ⟨xa, xc, e5, _, _⟩ := hTwo.wA.form
      subst e5
      obtain ⟨ya, yc, e5, _, _⟩ := hTwo.wB.form
      subst e5
      clear hTwo hbel HG hR hlen HT HI hmin
      go_wp2
      go_loopw [8] (fun i wq => ∃ m : Nat, m ≤ 12 ∧ i = .int .i64 m ∧ Below wr.heap.size wr wq) (fun i _ => 12 - (intOf i).toNat)
      case atStart => exact ⟨0, by omega, rfl, Below.refl _ _⟩
      case round =>
        obtain ⟨m, hm, rfl, hbq⟩ := hrel
        rename World => wq
        have hzq := hbq.size
        have y4 := (unhide HTW wq hbq).boxA.cell
        have y5 := (unhide HTW wq hbq).boxB.cell
        by_cases hm12 : m < 12
        · have HN1 := hide (unhide HNA wq (m : Int) hbq)
          go_wp2_with fail
          refine (unhide HN1).mono ?_
          rintro e w6 ⟨vx, rfl, hown6, hb6⟩
          have hB6 := hbq.trans (hb6.mono hzq)
          have hX6 := Seq.of_own hown6
          obtain ⟨xxa, xxc, rfl, hxl, hxc⟩ := hX6.form
          unfold maxLen at hxc
          have z4 := (unhide HTW w6 hB6).boxA.cell
          have z5 := (unhide HTW w6 hB6).boxB.cell
          have HN2 := hide (unhide HNB w6 (m : Int) hB6)
          have HX6 := hide (fun W (hb : Below w6.heap.size w6 W) => hX6.below hb)
          have HB6 := hide hB6
          have hz6 := hB6.size
          clear hb6 hB6 hown6 hX6 y4 y5 HN1
          go_wp2_with fail
          refine (unhide HN2).mono ?_
          rintro e w7 ⟨vy, rfl, hown7, hb7⟩
          have HC7 := hide (refCompare_any (unhide HX6 w7 hb7) (Seq.of_own hown7))
          have HB7 := hide ((unhide HB6).trans (hb7.mono hz6))
          have HX7 := hide (fun W (hb : Below w7.heap.size w7 W) => unhide HX6 W (hb7.trans (hb.mono hb7.size)))
          clear hb7 hown7 z4 z5 HN2
          go_wp2_with fail
          refine (unhide HC7).mono ?_
          rintro e w8 ⟨rfl, dn, rfl⟩
          rw [cmp_self]
          have HB8 := hide ((unhide HB7).trans ((Below.drewN w7 dn).mono (unhide HB7).size))
          have HX8 := hide (fun W (hb : Below w7.heap.size (w7.drewN dn) W) => unhide HX7 W ((Below.drewN w7 dn).trans hb))
          have HSM := hide (unhide HSY m hm12)
          have hz8 := (unhide HB8).size
          have hd8 : (w7.drewN dn).heap.size = w7.heap.size := rfl
          clear HC7 HX6 HX7 HB6 HB7
          generalize nbL ga (m : Int) = X at *
          go_wp2
          generalize w7.drewN dn = w8 at *
          go_loopw [10] (fun i wz => ∃ j : Nat, j ≤ X.length ∧ i = .int .i64 j ∧ Below w8.heap.size w8 wz) (fun i _ => X.length - (intOf i).toNat)
          case atStart => exact ⟨0, by omega, rfl, Below.refl _ _⟩
          case round =>
            obtain ⟨j, hj, rfl, hbz⟩ := hrel
            rename World => wz
            have hzz := hbz.size
            have hBz := (unhide HB8).trans (hbz.mono hz8)
            have hXz := unhide HX8 wz (by rw [← hd8]; exact hbz)
            by_cases hjl : j < X.length
            · obtain ⟨bx, ox, e6, q1⟩ := hXz.at hjl
              subst e6
              obtain ⟨s1, s2⟩ := unhide HSM X[j] (List.getElem_mem _)
              have hT4 := (unhide HTW wz hBz).boxA.cell
              have HD := hide (fun W (hb : Below wz.heap.size wz W) => And.intro (Below.cell_of hb hT4) (Below.cell_of hb q1))
              have HN1 := hide (fun W (hb : Below wz.heap.size wz W) => unhide HNA W X[j] (hBz.trans (hb.mono hBz.size)))
              have HB1 := hide (fun W (hb : Below wz.heap.size wz W) => unhide HBS W (m : Int) X[j] (hBz.trans (hb.mono hBz.size)))
              generalize X[j] = x at *
              have HS1 := hide s1
              have HS2 := hide s2
              clear s1 s2
              have hbR : Below wz.heap.size wz wz.drew := drewB
              go_wp2
              go_region_held3 (fun W => W.cell? ⟨w2.heap.size, 0, none⟩ = some (.slice xa ga.length xc) ∧ W.cell? ⟨bx, ox + j, none⟩ = some (.int .i64 x))
                (first | exact unhide HD _ (by first | exact hB9 | exact hbR | exact below_same rfl rfl rfl rfl))
                (first
                  | (go_at_call 31; refine (refIn_any (m : Int) hI9).mono ?_; rintro e w10 ⟨rfl, rfl⟩; rw [unhide HS1])
                  | (go_at_call 20; refine (unhide HN1 _ (by first | exact hbR | exact below_same rfl rfl rfl rfl)).mono ?_; rintro e w9 ⟨vn, rfl, hown9, hb9⟩; have hB9 : Below wz.heap.size wz w9 := below_then (by first | exact hbR | exact below_same rfl rfl rfl rfl) hb9; have hI9 := Seq.of_own hown9))
              all_goals
                have z4 := (unhide HTW w10 (hBz.trans (hB9.mono hBz.size))).boxA.cell
                have q2 := Below.cell_of hB9 q1
                have hs9 := hB9.size
                have HD9 := hide (fun W (hb : Below w10.heap.size w10 W) => And.intro (Below.cell_of hb z4) (Below.cell_of hb q2))
                have HB9 := hide (fun W (hb : Below w10.heap.size w10 W) => unhide HB1 W (hB9.trans (hb.mono hs9)))
                have HZ9 := hide (hbz.trans (hB9.mono hzz))
                have hbR9 : Below w10.heap.size w10 w10.drew := drewB
                clear hB9 hbR hT4 q1 HD HN1 HB1 hI9 hown9 hXz
                go_wp2
                go_region_held3 (fun W => W.cell? ⟨w2.heap.size, 0, none⟩ = some (.slice xa ga.length xc) ∧ W.cell? ⟨bx, ox + j, none⟩ = some (.int .i64 x))
                  (first | exact unhide HD9 _ (by first | exact hB11 | exact hbR9 | exact below_same rfl rfl rfl rfl))
                  (first
                    | (go_at_call 18; refine (unhide HB9 _ (by first | exact hbR9 | exact below_same rfl rfl rfl rfl)).mono ?_; rintro e w11 ⟨rfl, hb11⟩; rw [unhide HS2]; have hB11 : Below w10.heap.size w10 w11 := below_then (by first | exact hbR9 | exact below_same rfl rfl rfl rfl) hb11))
                all_goals
                  have HZ11 := hide ((unhide HZ9).trans (hB11.mono (unhide HZ9).size))
                  clear hB11 hbR9 z4 q2
                  go_wp2
                  go_roundw
                  case rel => exact ⟨j + 1, by omega, by go_num, unhide HZ11⟩
                  case measure => simp [intOf]; omega
            · have hjX : j = X.length := by omega
              go_wp2
              go_roundw
              case rel => exact ⟨m + 1, by omega, by go_num, hBz⟩
              case measure => simp [intOf]; omega
        · go_wp2
          go_ret
          exact ⟨rfl, (unhide HBE).trans (hbq.mono hwr0)⟩

set_option maxRecDepth 100000 in
theorem lifted (os : Os) (started : os.Started) (H : Type) (enc : TypeId × Value → H) :
    ReturnsInHanded {} Tryd.checked os 7 .any (fun w args => (Rows.graphOrderSpec.pre enc Tryd.prog Tryd.f7 [] false w args ∧ laidMetH Tryd.prog laidIn w) ∧ sizedMet enc Tryd.prog Tryd.f7 (OpenSpec.ofChange Rows.graphOrderSpec) false w args)
      (Rows.graphOrderSpec.post enc Tryd.prog Tryd.f7 false true false false) := by
  refine returnsInHanded_of_change_and (C := Tryd.checked) (X := fun w _ => laidMetH Tryd.prog laidIn w) (fun _ _ _ hh h => h.of_heap hh) own started (by kernel_rfl) Tryd.func7
    (ChangeSpec.witness_shaped (enc := enc) (C := Tryd.checked) (os := os) (X := fun w _ => laidMetH Tryd.prog laidIn w) false (World.doorLaid Tryd.prog doorN os) #[.slice none 0 0] 8 rfl (World.shaped_of_RefB (by kernel_rfl) (by kernel_rfl)) (by kernel_rfl) (by kernel_rfl) (by kernel_rfl) (door_met os _)) ?_
  intro W base args ds gs before hval0 hW _ _ hL _
  have hval : ∀ (j : Nat) t v, Tryd.f7.params[j]? = some t → args[j]? = some v → Value.okWide Tryd.prog W .any base t v := hval0
  have hW' := hW
  obtain ⟨p, q, hA0, hV, rfl, hfz, hnd⟩ := hW
  have hA : DataW.TrodAll enc Tryd.prog W 0 (fun _ => true) true Tryd.f7.params.toList args.toList ds p := hA0
  rw [Tryd.params7] at hA hval
  obtain ⟨v0, vs0, d0, ds0, p0, q0, hargs, rfl, rfl, h0, r0⟩ := trodAll_cons hA
  obtain ⟨rfl, rfl, rfl⟩ := trodAll_nil r0
  obtain rfl : args = #[v0] := by cases args; simp_all
  obtain ⟨rfl, rfl⟩ := trodVars_none hV
  obtain ⟨l0, i0, m0⟩ := read_tups h0 (okWide_slice Tryd.underlying33 (hval 0 33 v0 rfl rfl))
  have lt0 : ∀ x ∈ p0, x.block < W.heap.size := by obtain ⟨m, hm⟩ := h0; exact DataW.trod_lt m _ _ _ hm
  clear hA0 hval0
  refine (walk (tabs_of hL) i0 m0).mono fun e W' ⟨he, bel⟩ => ?_
  subst he
  exact ⟨_, rfl, _, _, _, [], _, [], hW', trodAll_mk1 (shut_bool Tryd.underlying4 _), (trodAll_cons_mk (Below.trod laidOut (by kernel_rfl) (of_decide_eq_true (by kernel_rfl)) h0 bel lt0) trodAll_mk0), rfl, bel.frame _, fun h => by cases h⟩

theorem over : Rows.graphOrderRow.holds Tryd.pinned (OpenSpec.ofChange Rows.graphOrderSpec) :=
  OpenClaim.holds_of_wide 7 Tryd.f7 rfl rfl rfl rfl rfl rfl rfl ⟨rfl, rfl, rfl, rfl, rfl⟩ rfl rfl rfl rfl rfl (by kernel_rfl) Tryd.func7 (by kernel_rfl)
    (of_decide_eq_true (by kernel_rfl)) (by unfold Func.isWrapper; first | (rw [if_pos (by decide +kernel)]; kernel_rfl) | (rw [if_neg (by decide +kernel)]; exact ⟨rfl, rfl⟩))
    (fun os started H enc _ => lifted os started H enc)

/-- The statement: the tied card. -/
theorem proved : Rows.GraphOrderCardSaid :=
  Claim7.holds_tied_plain_at .later [] [.data] true (true, "157dde362406d82824f5618f866d1cc9b7096a3b3657dcbd1ee63959cb86c8c6") false
    over (fun _ h => by cases h) (by kernel_rfl) (fun _ h => by cases h) graphOrder_row_tie rfl ⟨rfl, rfl⟩ (by kernel_rfl) rfl
    (fun f fn hf hfn => by
      obtain rfl : f = 7 := Option.some.inj ((show Tryd.prog.funcNamed "arborist/arboristlaw08.GraphOrder" = some 7 by kernel_rfl).symm.trans hf) |>.symm
      obtain rfl : fn = Tryd.f7 := (Option.some.inj (Tryd.func7.symm.trans hfn)).symm
      exact ⟨by kernel_rfl, fun j t ht => by
        rw [Tryd.params7] at ht
        have hm : t ∈ [33] := by simpa using Array.mem_of_getElem? ht
        have hall : ([33].all fun u => !Tryd.prog.wantsStandIn u) = true := by kernel_rfl
        exact (show Tryd.prog.wantsStandIn t = false by simpa using List.all_eq_true.1 hall t hm)⟩)
    (by kernel_rfl)

end Go.Proofs.YtmhaaogjldnceaaDoor.graphOrder
