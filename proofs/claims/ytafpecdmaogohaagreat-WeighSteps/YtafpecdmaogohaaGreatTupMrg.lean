/-
  The contract of merge, whatever the closure keeps.
-/
import Derived.Test.YtafpecdmaogohaaGreatTupSets
namespace Go.Proofs.YtafpecdmaogohaaGreat
open Go.RowKit
set_option linter.unusedVariables false
set_option linter.unusedSimpArgs false

set_option maxRecDepth 20000 in
set_option maxHeartbeats 4000000 in
theorem merge_any (g : Nat) (kf : Bool → Bool → Bool) (hg : ∀ args w, (callFunc g args).run Tryz.prog w = .ok (.enter g args) w) (hK : ∀ p q w, Calls Tryz.prog g #[.bool p, .bool q] w fun e w' => e = .returned (.bool (kf p q)) ∧ w' = w)
    {la lb : List Int} {va vb : Value} {w : World} (ha : Ints w va la) (hb : Ints w vb lb) (hlen : la.length + lb.length < 100000000000) :
    Calls Tryz.prog 71 #[va, vb, .func (.func g) #[] #[]] w fun e w' => ∃ v, e = .returned v ∧ Ints w' v (mrg kf la lb) ∧ New w.heap.size w' v ∧ Below w.heap.size w w' := by
  obtain ⟨a, ca, rfl, hla, hca⟩ := ha.form
  obtain ⟨b, cb, rfl, hlb, hcb⟩ := hb.form
  unfold maxLen at hca hcb
  have HK := hide hK
  clear hK
  obtain ⟨M, hM⟩ : ∃ M, M = mrg kf la lb := ⟨_, rfl⟩
  rw [← hM]
  go_enter Tryz.func71, Tryz.ntmps71
  go_wp2
  go_loopw [7, 8, 9] (fun v si sk wr => ∃ (i k : Nat) (out : List Int), i ≤ la.length ∧ k ≤ lb.length ∧ si = .int .i64 i ∧ sk = .int .i64 k ∧ OwnI w.heap.size wr v out ∧ Below w.heap.size w wr ∧ out.length ≤ i + k ∧ Hid (M = out ++ mrg kf (la.drop i) (lb.drop k)))
    (fun _ si sk _ => la.length + lb.length - ((intOf si).toNat + (intOf sk).toNat))
  case atStart => exact ⟨0, 0, [], by omega, by omega, rfl, rfl, own_litI (Nat.le_refl _), (Below.refl _ _).alloc (Nat.le_refl _) _, by simp, hide (by simpa using hM)⟩
  case round =>
    clear hM
    obtain ⟨i, k, out, hi, hk, rfl, rfl, hown, hbel, hol, hM⟩ := hrel
    have hz := hbel.size
    by_cases hia : i < la.length
    · obtain ⟨ba, oa, rfl, hca⟩ := (ha.below hbel).at hia
      have hd3 : ((i : Int) == (la.length : Int)) = false := by simp; omega
      by_cases hkb : k < lb.length
      · obtain ⟨bb, ob, rfl, hcb⟩ := (hb.below hbel).at hkb
        have hd4 : ((k : Int) == (lb.length : Int)) = false := by simp; omega
        clear ha hb
        rcases Int.lt_trichotomy la[i] lb[k] with h | h | h
        · have hM' := hM.out
          rw [mrg_at_lt hia hkb h] at hM'
          clear hM
          obtain ⟨kb, hkb'⟩ : ∃ kb, kf true false = kb := ⟨_, rfl⟩
          have HC := unhide HK true false
          rw [hkb'] at HC hM'
          have hd1 : decide (la[i] ≤ lb[k]) = true := by simp; omega
          have hd2 : decide (lb[k] ≤ la[i]) = false := by simp; omega
          have HC' := hide HC
          have HM := hide hM'
          clear HC hM' hkb' HK
          go_wp2
          go_quiet (fail)
          go_wp2
          go_quiet (fail)
          go_wp2_with fail
          refine (unhide HC' _).mono ?_
          rintro e w' ⟨rfl, rfl⟩
          cases kb
          · have HM' := hide (show M = out ++ mrg kf (la.drop (i + 1)) (lb.drop k) by have := unhide HM; simpa using this)
            clear HM HC' hg hd3 hd4
            (try clear hd1); (try clear hd2); (try clear hd5); (try clear hd6)
            go_wp2
            go_roundw
            case rel => exact ⟨i + 1, k, out, by omega, by omega, by go_num, by go_num, hown, Below.drewN2 hbel _ _, by omega, HM'⟩
            case measure => simp [intOf]; omega
          · have HM' := hide (show M = (out ++ [la[i]]) ++ mrg kf (la.drop (i + 1)) (lb.drop k) by have := unhide HM; simpa using this)
            clear HM HC' hg hd3 hd4
            (try clear hd1); (try clear hd2); (try clear hd5); (try clear hd6)
            go_wp2_with (at_builtin; refine wp_app_int rfl (.tmp 84) (.tmp 86) rfl (own_drewN hown _) rfl hz rfl (by omega) ?_; intro v' w1 hown1 hgrew)
            go_roundw
            case rel => exact ⟨i + 1, k, _, by omega, by omega, by go_num, by go_num, hown1, (Below.drewN2 hbel _ _).trans hgrew.below, by simp; omega, HM'⟩
            case measure => simp [intOf]; omega
        · have hM' := hM.out
          rw [mrg_at_eq hia hkb h] at hM'
          clear hM
          obtain ⟨kb, hkb'⟩ : ∃ kb, kf true true = kb := ⟨_, rfl⟩
          have HC := unhide HK true true
          rw [hkb'] at HC hM'
          have hd1 : decide (la[i] ≤ lb[k]) = true := by simp; omega
          have hd2 : decide (lb[k] ≤ la[i]) = true := by simp; omega
          clear h
          have HC' := hide HC
          have HM := hide hM'
          clear HC hM' hkb' HK
          go_wp2
          go_quiet (fail)
          go_wp2
          go_quiet (fail)
          go_wp2_with fail
          refine (unhide HC' _).mono ?_
          rintro e w' ⟨rfl, rfl⟩
          cases kb
          · have HM' := hide (show M = out ++ mrg kf (la.drop (i + 1)) (lb.drop (k + 1)) by have := unhide HM; simpa using this)
            clear HM HC' hg hd3 hd4
            (try clear hd1); (try clear hd2); (try clear hd5); (try clear hd6)
            go_wp2
            go_roundw
            case rel => exact ⟨i + 1, k + 1, out, by omega, by omega, by go_num, by go_num, hown, Below.drewN2 hbel _ _, by omega, HM'⟩
            case measure => simp [intOf]; omega
          · have HM' := hide (show M = (out ++ [la[i]]) ++ mrg kf (la.drop (i + 1)) (lb.drop (k + 1)) by have := unhide HM; simpa using this)
            clear HM HC' hg hd3 hd4
            (try clear hd1); (try clear hd2); (try clear hd5); (try clear hd6)
            go_wp2_with (at_builtin; refine wp_app_int rfl (.tmp 84) (.tmp 86) rfl (own_drewN hown _) rfl hz rfl (by omega) ?_; intro v' w1 hown1 hgrew)
            go_roundw
            case rel => exact ⟨i + 1, k + 1, _, by omega, by omega, by go_num, by go_num, hown1, (Below.drewN2 hbel _ _).trans hgrew.below, by simp; omega, HM'⟩
            case measure => simp [intOf]; omega
        · have hM' := hM.out
          rw [mrg_at_gt hia hkb h] at hM'
          clear hM
          obtain ⟨kb, hkb'⟩ : ∃ kb, kf false true = kb := ⟨_, rfl⟩
          have HC := unhide HK false true
          rw [hkb'] at HC hM'
          have hd1 : decide (la[i] ≤ lb[k]) = false := by simp; omega
          have hd2 : decide (lb[k] ≤ la[i]) = true := by simp; omega
          have HC' := hide HC
          have HM := hide hM'
          clear HC hM' hkb' HK
          go_wp2
          go_quiet (fail)
          go_wp2
          go_quiet (fail)
          go_wp2_with fail
          refine (unhide HC' _).mono ?_
          rintro e w' ⟨rfl, rfl⟩
          cases kb
          · have HM' := hide (show M = out ++ mrg kf (la.drop i) (lb.drop (k + 1)) by have := unhide HM; simpa using this)
            clear HM HC' hg hd3 hd4
            (try clear hd1); (try clear hd2); (try clear hd5); (try clear hd6)
            go_wp2
            go_roundw
            case rel => exact ⟨i, k + 1, out, by omega, by omega, by go_num, by go_num, hown, Below.drewN2 hbel _ _, by omega, HM'⟩
            case measure => simp [intOf]; omega
          · have HM' := hide (show M = (out ++ [lb[k]]) ++ mrg kf (la.drop i) (lb.drop (k + 1)) by have := unhide HM; simpa using this)
            clear HM HC' hg hd3 hd4
            (try clear hd1); (try clear hd2); (try clear hd5); (try clear hd6)
            go_wp2_with (at_builtin; refine wp_app_int rfl (.tmp 84) (.tmp 86) rfl (own_drewN hown _) rfl hz rfl (by omega) ?_; intro v' w1 hown1 hgrew)
            go_roundw
            case rel => exact ⟨i, k + 1, _, by omega, by omega, by go_num, by go_num, hown1, (Below.drewN2 hbel _ _).trans hgrew.below, by simp; omega, HM'⟩
            case measure => simp [intOf]; omega
      · have hM' := hM.out
        rw [mrg_at_left hia (by omega)] at hM'
        clear hM
        obtain ⟨kb, hkb'⟩ : ∃ kb, kf true false = kb := ⟨_, rfl⟩
        have HC := unhide HK true false
        rw [hkb'] at HC hM'
        have hd4 : ((k : Int) == (lb.length : Int)) = true := by simp; omega
        have hd5 : decide (k < lb.length) = false := by simp; omega
        clear ha hb
        have HC' := hide HC
        have HM := hide hM'
        clear HC hM' hkb' HK
        go_wp2
        go_quiet (fail)
        go_wp2
        go_quiet (fail)
        go_wp2_with fail
        refine (unhide HC' _).mono ?_
        rintro e w' ⟨rfl, rfl⟩
        cases kb
        · have HM' := hide (show M = out ++ mrg kf (la.drop (i + 1)) (lb.drop k) by have := unhide HM; simpa using this)
          clear HM HC' hg hd3 hd4
          (try clear hd1); (try clear hd2); (try clear hd5); (try clear hd6)
          go_wp2
          go_roundw
          case rel => exact ⟨i + 1, k, out, by omega, by omega, by go_num, by go_num, hown, Below.drewN2 hbel _ _, by omega, HM'⟩
          case measure => simp [intOf]; omega
        · have HM' := hide (show M = (out ++ [la[i]]) ++ mrg kf (la.drop (i + 1)) (lb.drop k) by have := unhide HM; simpa using this)
          clear HM HC' hg hd3 hd4
          (try clear hd1); (try clear hd2); (try clear hd5); (try clear hd6)
          go_wp2_with (at_builtin; refine wp_app_int rfl (.tmp 84) (.tmp 86) rfl (own_drewN hown _) rfl hz rfl (by omega) ?_; intro v' w1 hown1 hgrew)
          go_roundw
          case rel => exact ⟨i + 1, k, _, by omega, by omega, by go_num, by go_num, hown1, (Below.drewN2 hbel _ _).trans hgrew.below, by simp; omega, HM'⟩
          case measure => simp [intOf]; omega
    · have hd3 : ((i : Int) == (la.length : Int)) = true := by simp; omega
      have hd6 : decide (i < la.length) = false := by simp; omega
      by_cases hkb : k < lb.length
      · obtain ⟨bb, ob, rfl, hcb⟩ := (hb.below hbel).at hkb
        have hd4 : ((k : Int) == (lb.length : Int)) = false := by simp; omega
        clear ha hb
        have hM' := hM.out
        rw [mrg_at_right (by omega) hkb] at hM'
        clear hM
        obtain ⟨kb, hkb'⟩ : ∃ kb, kf false true = kb := ⟨_, rfl⟩
        have HC := unhide HK false true
        rw [hkb'] at HC hM'
          
        have HC' := hide HC
        have HM := hide hM'
        clear HC hM' hkb' HK
        go_wp2
        go_quiet (fail)
        go_wp2
        go_quiet (fail)
        go_wp2_with fail
        refine (unhide HC' _).mono ?_
        rintro e w' ⟨rfl, rfl⟩
        cases kb
        · have HM' := hide (show M = out ++ mrg kf (la.drop i) (lb.drop (k + 1)) by have := unhide HM; simpa using this)
          clear HM HC' hg hd3 hd4
          (try clear hd1); (try clear hd2); (try clear hd5); (try clear hd6)
          go_wp2
          go_roundw
          case rel => exact ⟨i, k + 1, out, by omega, by omega, by go_num, by go_num, hown, Below.drewN2 hbel _ _, by omega, HM'⟩
          case measure => simp [intOf]; omega
        · have HM' := hide (show M = (out ++ [lb[k]]) ++ mrg kf (la.drop i) (lb.drop (k + 1)) by have := unhide HM; simpa using this)
          clear HM HC' hg hd3 hd4
          (try clear hd1); (try clear hd2); (try clear hd5); (try clear hd6)
          go_wp2_with (at_builtin; refine wp_app_int rfl (.tmp 84) (.tmp 86) rfl (own_drewN hown _) rfl hz rfl (by omega) ?_; intro v' w1 hown1 hgrew)
          go_roundw
          case rel => exact ⟨i, k + 1, _, by omega, by omega, by go_num, by go_num, hown1, (Below.drewN2 hbel _ _).trans hgrew.below, by simp; omega, HM'⟩
          case measure => simp [intOf]; omega
      · have hM' := hM.out
        rw [mrg_at_end (by omega) (by omega), List.append_nil] at hM'
        clear hM ha hb
        have HM := hide hM'
        clear hM'
        go_wp2
        go_ret
        exact ⟨_, rfl, by rw [unhide HM]; exact Seq.of_own hown, New.of_own hown, hbel⟩

theorem meet_any {la lb : List Int} {va vb : Value} {w : World} (ha : Ints w va la) (hb : Ints w vb lb) (hlen : la.length + lb.length < 100000000000) :
    Calls Tryz.prog 54 #[va, vb] w fun e w' => ∃ v, e = .returned v ∧ Ints w' v (mrg kAnd la lb) ∧ New w.heap.size w' v ∧ Below w.heap.size w w' := by
  go_enter Tryz.func54, Tryz.ntmps54
  go_wp2_with fail
  refine (merge_any 72 kAnd (fun args w => enters Tryz.func72 (by kernel_rfl) rfl args w) meetK_any ha hb hlen).mono ?_
  rintro e w' ⟨v, rfl, hv, hn, hbel⟩
  go_wp2
  go_ret
  exact ⟨_, rfl, hv, hn, hbel⟩

theorem without_any {la lb : List Int} {va vb : Value} {w : World} (ha : Ints w va la) (hb : Ints w vb lb) (hlen : la.length + lb.length < 100000000000) :
    Calls Tryz.prog 55 #[va, vb] w fun e w' => ∃ v, e = .returned v ∧ Ints w' v (mrg kNot la lb) ∧ New w.heap.size w' v ∧ Below w.heap.size w w' := by
  go_enter Tryz.func55, Tryz.ntmps55
  go_wp2_with fail
  refine (merge_any 73 kNot (fun args w => enters Tryz.func73 (by kernel_rfl) rfl args w) lessK_any ha hb hlen).mono ?_
  rintro e w' ⟨v, rfl, hv, hn, hbel⟩
  go_wp2
  go_ret
  exact ⟨_, rfl, hv, hn, hbel⟩

end Go.Proofs.YtafpecdmaogohaaGreat
