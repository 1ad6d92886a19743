/-
  The contract of the document's Unite, and of rise.
-/
import Derived.Test.YtlbiebnihoekkaaRefSets
namespace Go.Proofs.Ytlbiebnihoekkaa
open Go.RowKit
set_option linter.unusedVariables false
set_option linter.unusedSimpArgs false
set_option maxRecDepth 20000

def jm (a b : List Int) : List Int := List.merge a b (fun x y => decide (x < y))

set_option maxHeartbeats 4000000 in
theorem refJoin_own {la lb : List Int} {va vb : Value} {w : World} (ha : Ints w va la) (hb : Ints w vb lb) (hlen : la.length + lb.length < 100000000000) :
    Calls Try.prog 20 #[va, vb] w fun e w' => ∃ v, e = .returned v ∧ OwnI w.heap.size w' v (joinL la lb) ∧ Below w.heap.size w w' := by
  obtain ⟨a, ca, rfl, hla, hca⟩ := ha.form
  have HC := hide (fun w' h1 h2 => refLess_any (w := w') (Seq.below hb h1) (Seq.below ha h2) (by omega))
  obtain ⟨lm, hlm⟩ : ∃ m, m = lessL lb la := ⟨_, rfl⟩
  have hml := lessL_le lb la
  obtain ⟨M, hM⟩ : ∃ M, M = joinL la lb := ⟨_, rfl⟩
  rw [← hM]
  have hM2 : M = jm la lm := by rw [hM, hlm]; rfl
  rw [← hlm] at HC hml
  clear hlm hM
  unfold maxLen at hca
  go_enter Try.func20, Try.ntmps20
  go_wp2_with fail
  refine (unhide HC _ ((Below.refl _ _).alloc (Nat.le_refl _) _) ((Below.refl _ _).alloc (Nat.le_refl _) _)).mono ?_
  rintro e w1 ⟨vm, rfl, hm, hnm, hb1⟩
  have hbel1 := ((Below.refl _ w).alloc (Nat.le_refl _) _).trans (hb1.mono (by simp))
  have hown1 := own_below (own_litI (Nat.le_refl w.heap.size)) hb1
  have ha1 := ha.below hbel1
  obtain ⟨b, cm, rfl, hlb, hcb⟩ := hm.form
  unfold maxLen at hcb
  have ha0 := ha
  clear HC ha hb hb1
  have hm2 := hide hM2
  clear hM2
  go_wp2
  have hsa : Apart (.slice a la.length ca) la (.slice (some ⟨w.heap.size, 0, none⟩) 0 0) := ha0.apart (New.of_own hown1) (Nat.le_refl _)
  have hsm : Apart (.slice b lm.length cm) lm (.slice (some ⟨w.heap.size, 0, none⟩) 0 0) := fun _ g h1 h2 => by have := hnm g h1; cases h2; simp at this; omega
  go_loopw [5, 7, 8] (fun v si sk wr => ∃ (i k : Nat) (out : List Int), i ≤ la.length ∧ k ≤ lm.length ∧ si = .int .i64 i ∧ sk = .int .i64 k ∧ OwnI w.heap.size wr v out ∧ Below w.heap.size w wr ∧ Seq (Value.int .i64) wr (.slice a la.length ca) la ∧ Seq (Value.int .i64) wr (.slice b lm.length cm) lm ∧
      Apart (.slice a la.length ca) la v ∧ Apart (.slice b lm.length cm) lm v ∧ out.length ≤ i + k ∧ Hid (M = out ++ jm (la.drop i) (lm.drop k)))
    (fun _ si sk _ => la.length + lm.length - ((intOf si).toNat + (intOf sk).toNat))
  case atStart => exact ⟨0, 0, [], by omega, by omega, rfl, rfl, hown1, hbel1, ha1, hm, hsa, hsm, by simp, hide (by simpa using unhide hm2)⟩
  case round =>
    clear hm2 ha1 hm hown1 hbel1 hnm hsa hsm ha0
    obtain ⟨i, k, out, hi, hk, rfl, rfl, hown, hbel, ha, hm, hs1, hs2, hol, hM⟩ := hrel
    have hz := hbel.size
    by_cases hia : i < la.length
    · obtain ⟨ba, oa, rfl, hca⟩ := ha.at hia
      by_cases hkb : k < lm.length
      · obtain ⟨bb, ob, rfl, hcb⟩ := hm.at hkb
        have hd4 : ((k : Int) == (lm.length : Int)) = false := by simp; omega
        by_cases h : la[i] < lm[k]
        · have hM' := hM.out
          unfold jm at hM'
          rw [joinM_lt hia hkb h] at hM'
          have HM := hide (show M = (out ++ [la[i]]) ++ jm (la.drop (i + 1)) (lm.drop k) by rw [hM']; simp [jm])
          clear hM hM'
          go_wp2
          go_quiet (fail)
          (try clear hd1); (try clear hd4); (try clear hd6)
          go_wp2_with (at_builtin; refine wp_app_int rfl (.tmp 44) (.tmp 49) rfl (own_drewN hown _) rfl hz rfl (by omega) ?_; intro v' w2 hown2 hgrew)
          go_roundw
          case rel => exact ⟨i + 1, k, _, by omega, by omega, by go_num, by go_num, hown2, (Below.drewN1 hbel _).trans hgrew.below, Seq.grew (ha.drewN _) hgrew hs1, Seq.grew (hm.drewN _) hgrew hs2, hs1.grew (ha.drewN _) hgrew, hs2.grew (hm.drewN _) hgrew, by simp; omega, HM⟩
          case measure => simp [intOf]; omega
        · have hM' := hM.out
          unfold jm at hM'
          rw [joinM_ge hia hkb h] at hM'
          have HM := hide (show M = (out ++ [lm[k]]) ++ jm (la.drop i) (lm.drop (k + 1)) by rw [hM']; simp [jm])
          clear hM hM'
          have hd1 : decide (la[i] < lm[k]) = false := by simpa using h
          go_wp2
          go_quiet (fail)
          (try clear hd1); (try clear hd4); (try clear hd6)
          go_wp2_with (at_builtin; refine wp_app_int rfl (.tmp 53) (.tmp 58) rfl (own_drewN hown _) rfl hz rfl (by omega) ?_; intro v' w2 hown2 hgrew)
          go_roundw
          case rel => exact ⟨i, k + 1, _, by omega, by omega, by go_num, by go_num, hown2, (Below.drewN1 hbel _).trans hgrew.below, Seq.grew (ha.drewN _) hgrew hs1, Seq.grew (hm.drewN _) hgrew hs2, hs1.grew (ha.drewN _) hgrew, hs2.grew (hm.drewN _) hgrew, by simp; omega, HM⟩
          case measure => simp [intOf]; omega
      · have hM' := hM.out
        unfold jm at hM'
        rw [joinM_left hia (by omega)] at hM'
        have HM := hide (show M = (out ++ [la[i]]) ++ jm (la.drop (i + 1)) (lm.drop k) by rw [hM']; simp [jm])
        clear hM hM'
        have hd4 : ((k : Int) == (lm.length : Int)) = true := by simp; omega
        go_wp2
        go_quiet (fail)
        (try clear hd1); (try clear hd4); (try clear hd6)
        go_wp2_with (at_builtin; refine wp_app_int rfl (.tmp 44) (.tmp 49) rfl (own_drewN hown _) rfl hz rfl (by omega) ?_; intro v' w2 hown2 hgrew)
        go_roundw
        case rel => exact ⟨i + 1, k, _, by omega, by omega, by go_num, by go_num, hown2, (Below.drewN1 hbel _).trans hgrew.below, Seq.grew (ha.drewN _) hgrew hs1, Seq.grew (hm.drewN _) hgrew hs2, hs1.grew (ha.drewN _) hgrew, hs2.grew (hm.drewN _) hgrew, by simp; omega, HM⟩
        case measure => simp [intOf]; omega
    · have hd6 : decide (i < la.length) = false := by simpa using hia
      by_cases hkb : k < lm.length
      · obtain ⟨bb, ob, rfl, hcb⟩ := hm.at hkb
        have hd4 : ((k : Int) == (lm.length : Int)) = false := by simp; omega
        have hM' := hM.out
        unfold jm at hM'
        rw [joinM_right (by omega) hkb] at hM'
        have HM := hide (show M = (out ++ [lm[k]]) ++ jm (la.drop i) (lm.drop (k + 1)) by rw [hM']; simp [jm])
        clear hM hM'
        go_wp2
        go_quiet (fail)
        (try clear hd1); (try clear hd4); (try clear hd6)
        go_wp2_with (at_builtin; refine wp_app_int rfl (.tmp 53) (.tmp 58) rfl (own_drewN hown _) rfl hz rfl (by omega) ?_; intro v' w2 hown2 hgrew)
        go_roundw
        case rel => exact ⟨i, k + 1, _, by omega, by omega, by go_num, by go_num, hown2, (Below.drewN1 hbel _).trans hgrew.below, Seq.grew (ha.drewN _) hgrew hs1, Seq.grew (hm.drewN _) hgrew hs2, hs1.grew (ha.drewN _) hgrew, hs2.grew (hm.drewN _) hgrew, by simp; omega, HM⟩
        case measure => simp [intOf]; omega
      · have hM' := hM.out
        unfold jm at hM'
        rw [joinM_end (by omega) (by omega), List.append_nil] at hM'
        have HM := hide hM'
        clear hM hM' ha hm hs1 hs2
        go_wp2
        go_ret
        exact ⟨_, rfl, by rw [unhide HM]; exact hown, hbel⟩

theorem refJoin_any {la lb : List Int} {va vb : Value} {w : World} (ha : Ints w va la) (hb : Ints w vb lb) (hlen : la.length + lb.length < 100000000000) :
    Calls Try.prog 20 #[va, vb] w fun e w' => ∃ v, e = .returned v ∧ Ints w' v (joinL la lb) ∧ New w.heap.size w' v ∧ Below w.heap.size w w' :=
  (refJoin_own ha hb hlen).mono fun e w' ⟨v, h1, h2, h3⟩ => ⟨v, h1, Seq.of_own h2, New.of_own h2, h3⟩

/-- The numbers of the first k places, rising, each once. -/
def riseL (l : List Int) : List Int := l.foldl (fun acc x => joinL acc [x]) []

theorem riseL_snoc {l : List Int} {k : Nat} (hk : k < l.length) : riseL (l.take (k + 1)) = joinL (riseL (l.take k)) [l[k]] := by
  rw [List.take_succ_eq_append_getElem hk]; simp only [riseL, List.foldl_append, List.foldl_cons, List.foldl_nil]

theorem asc_riseL (l : List Int) : Asc (riseL l) := by
  unfold riseL
  have : ∀ (l acc : List Int), Asc acc → Asc (l.foldl (fun acc x => joinL acc [x]) acc) := by
    intro l
    induction l with
    | nil => exact fun acc h => h
    | cons x r ih => exact fun acc h => ih _ (asc_joinL h (by simp [Asc]))
  exact this l [] (by simp [Asc])

theorem joinL_le (a b : List Int) : (joinL a b).length ≤ a.length + b.length := by
  unfold joinL
  rw [List.length_merge]
  have := lessL_le b a
  omega

theorem riseL_le (l : List Int) : (riseL l).length ≤ l.length := by
  unfold riseL
  have : ∀ (l acc : List Int), (l.foldl (fun acc x => joinL acc [x]) acc).length ≤ acc.length + l.length := by
    intro l
    induction l with
    | nil => intro acc; simp
    | cons x r ih => intro acc; have := ih (joinL acc [x]); have := joinL_le acc [x]; simp at *; omega
  simpa using this l []

theorem lit_int (w : World) (x : Int) : Ints (w.alloc (.cells #[.int .i64 x] 3)) (.slice (some ⟨w.heap.size, 0, none⟩) 1 1) [x] := by
  refine ⟨_, 1, rfl, by simp, by simp [maxLen], by simp, by rintro x h _; cases h; rfl, fun i y hi => ⟨_, rfl, ?_⟩⟩
  match i, hi with
  | 0, hi => simp at hi; subst hi; simp

end Go.Proofs.Ytlbiebnihoekkaa
