/-
  The contract of Neighbors.
-/
import Derived.Test.YtcglbopmfdilfaaDoorGNb
namespace Go.Proofs.YtcglbopmfdilfaaDoor
open Go.RowKit
set_option linter.unusedVariables false
set_option linter.unusedSimpArgs false
set_option maxRecDepth 20000

set_option maxHeartbeats 2000000 in
theorem neighbors_any {g : List Nat} {a : Int} {x : Value} {w : World} (hg : Words w x g) (hn : g.length ≤ 64) (hw : W64 g) (hT : TabD w) :
    Calls Tryd.prog 46 #[.agg #[x], .int .i64 a] w fun e w' => ∃ v, e = .returned v ∧ OwnI w.heap.size w' v (nbL g a) ∧ Below w.heap.size w w' := by
  obtain ⟨W1, hW1, hb1, hz1, hx1⟩ := boxed (w := w) (x := x)
  have HP := hide (fun W (b : Int) (hb : Below W1.heap.size W1 W) => isPoint_any (a := b) ((hg.below hb1).below hb))
  have HC := hide (fun W (hb : Below W1.heap.size W1 W) => (hx1.below hb (by omega)).cell)
  have HG := hide (fun W (hb : Below W1.heap.size W1 W) => ((hg.below hb1).below hb))
  have HT := hide (fun W (hb : Below W1.heap.size W1 W) => ((hT.below hb1).below hb))
  have HB := hide hb1
  have HW1 := hide hW1
  obtain ⟨ax, cx, rfl, hlx, hcx⟩ := hg.form
  clear hb1 hx1 hg hW1 hT
  have y0 := unhide HC W1 (Below.refl _ _)
  have HPA := hide (unhide HP W1 a (Below.refl _ _))
  cases hp : ptB g.length a with
  | false =>
    have e : nbL g a = [] := by unfold nbL; rw [if_neg (by simp [hp])]
    rw [hp] at HPA
    rw [e]
    go_enter Tryd.func46, Tryd.ntmps46
    go_wp2_with fail
    rw [← unhide HW1]
    go_wp2_with fail
    refine (unhide HPA).mono ?_
    rintro e w2 ⟨rfl, hb2⟩
    have HB2 := hide ((unhide HB).trans (hb2.mono (by omega)))
    clear hb2
    go_wp2
    go_ret
    exact ⟨_, rfl, own_nilI _ _, unhide HB2⟩
  | true =>
    obtain ⟨h0, h1⟩ := ptB_iff.1 hp
    have ha : (a.toNat : Int) = a := by omega
    have hk : a.toNat < g.length := by omega
    have HE : Hid (g[a.toNat] = g.getD a.toNat 0) := hide (by rw [List.getD_eq_getElem?_getD, List.getElem?_eq_getElem hk]; rfl)
    obtain ⟨bg, og, e1, q1⟩ := (unhide HG W1 (Below.refl _ _)).at hk
    subst e1
    rw [unhide HE] at q1
    have HD := hide (fun W (hb : Below W1.heap.size W1 W) => Below.cell_of hb q1)
    have hx0 := getD_lt hw a.toNat
    generalize a.toNat = k at *
    subst ha
    have HX : Hid (∀ i, (g.getD k 0).testBit i = besB g k i) := hide (fun i => rfl)
    generalize g.getD k 0 = x0 at *
    rw [hp] at HPA
    clear HG HE q1
    go_enter Tryd.func46, Tryd.ntmps46
    go_wp2_with fail
    rw [← unhide HW1]
    go_wp2_with fail
    refine (unhide HPA).mono ?_
    rintro e w2 ⟨rfl, hb2⟩
    have q2 := unhide HD _ hb2
    have y2 := unhide HC _ hb2
    have HB2 := hide hb2
    clear hb2 y0
    go_wp2
    go_loopw [5, 6] (fun v l wr => ∃ m left : Nat, m ≤ 64 ∧ l = .int .u64 (left : Int) ∧ Hid (LeftN x0 m left) ∧ left < 18446744073709551616 ∧ OwnI W1.heap.size wr v (nbUp g k m) ∧ Below W1.heap.size W1 wr) (fun _ l _ => (intOf l).toNat)
    case atStart => exact ⟨0, x0, by omega, rfl, hide (LeftN.start x0), hx0, own_nilI _ _, unhide HB2⟩
    case round =>
      clear q2 y2
      obtain ⟨m, left, hm, rfl, HL, hll, hown, hbel⟩ := hrel
      rename World => wr
      have hzr := hbel.size
      have y0 := unhide HC wr hbel
      by_cases hl0 : left = 0
      · subst hl0
        have hend := nbUp_end hk (fun i hi => (unhide HX i).symm.trans ((unhide HL).done i hi))
        rw [hend] at hown
        clear HL HX
        go_wp2
        go_ret
        exact ⟨_, rfl, own_mono hown (by omega), (unhide HB).trans (hbel.mono (by omega))⟩
      · obtain ⟨s1, s2, s3, s4, s5, s6⟩ := (unhide HL).step hl0 hll
        have HTZ := hide (tz_any hll hl0 (unhide HT wr hbel))
        have hnx := nbUp_next (g := g) (a := k) s1 (fun i hi hik => (unhide HX i).symm.trans (s4 i hi hik)) ((unhide HX _).symm.trans s3)
        have HL2 := hide s6
        have hll2 : left &&& (left - 1) < 18446744073709551616 := by omega
        have HV : Hid (bits .and .u64 (left : Int) ((left : Int) - 1) = ((left &&& (left - 1) : Nat) : Int)) := hide (by
          have e1 : (left : Int) - 1 = ((left - 1 : Nat) : Int) := by omega
          rw [e1, u64_and_nat _ _ hll (by omega)])
        have hpt := ptB_nat (n := g.length) (k := Lib.ctz 64 left)
        have hlen := nbUp_len g k m
        have hlne : ((left : Int) == 0) = false := by simp; omega
        have HPP := hide (unhide HP wr ((Lib.ctz 64 left : Nat) : Int) hbel)
        generalize left &&& (left - 1) = left2 at *
        generalize Lib.ctz 64 left = j at *
        rw [hpt] at HPP
        have HS5 := hide s5
        clear s1 s3 s4 s5 s6 HL hpt
        go_wp2_with fail
        refine (unhide HTZ).mono ?_
        rintro e w3 ⟨rfl, rfl⟩
        go_wp2_with fail
        refine (unhide HPP).mono ?_
        rintro e w4 ⟨rfl, hb4⟩
        have hbel4 := hide (hbel.trans (hb4.mono hzr))
        have hown4 := own_below hown hb4
        have hz4 := hb4.size
        clear hb4 hown y0 HTZ HPP
        by_cases hjg : j < g.length
        · rw [if_pos hjg] at hnx
          have hjd : decide (j < g.length) = true := decide_eq_true hjg
          have HN := hide hnx
          clear hnx
          go_wp2_with (at_builtin; refine wp_app_int rfl (.tmp 29) (.tmp 31) rfl (B := W1.heap.size) hown4 rfl (by omega) rfl (by omega) ?_; intro v5 w5 hown5 hg5)
          go_roundw
          case rel => exact ⟨j + 1, left2, by omega, by rw [unhide HV], HL2, hll2, by rw [unhide HN]; exact hown5, (unhide hbel4).trans hg5.below⟩
          case measure => have := unhide HS5; simp [intOf, unhide HV]; omega
        · rw [if_neg hjg] at hnx
          have hjd : decide (j < g.length) = false := decide_eq_false hjg
          have HN := hide hnx
          clear hnx
          go_wp2
          go_roundw
          case rel => exact ⟨j + 1, left2, by omega, by rw [unhide HV], HL2, hll2, by rw [unhide HN]; exact hown4, unhide hbel4⟩
          case measure => have := unhide HS5; simp [intOf, unhide HV]; omega

end Go.Proofs.YtcglbopmfdilfaaDoor
