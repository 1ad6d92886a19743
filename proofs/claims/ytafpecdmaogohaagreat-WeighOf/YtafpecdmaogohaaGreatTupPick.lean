/-
  The contracts of Pick: the program's, and the document's.
-/
import Derived.Test.YtafpecdmaogohaaGreatApp
import Derived.Test.YtafpecdmaogohaaGreatLists
namespace Go.Proofs.YtafpecdmaogohaaGreat
open Go.RowKit
set_option linter.unusedVariables false
set_option linter.unusedSimpArgs false

/-- t's numbers at these places. -/
def pickL (t ps : List Int) : List Int := ps.filterMap fun p : Int => if 0 ≤ p ∧ p < t.length then some (t.getD p.toNat 0) else none

theorem pickL_snoc (t ps : List Int) (p : Int) : pickL t (ps ++ [p]) = pickL t ps ++ if 0 ≤ p ∧ p < t.length then [t.getD p.toNat 0] else [] := by
  unfold pickL
  rw [List.filterMap_append]
  by_cases h : 0 ≤ p ∧ p < t.length <;> simp [h]

theorem pickL_le (t ps : List Int) : (pickL t ps).length ≤ ps.length := List.length_filterMap_le _ _

theorem pick_hit {t ps : List Int} {k : Nat} (hk : k < ps.length) {m : Nat} (hp : ps[k] = m) (hm : m < t.length) : pickL t (ps.take (k + 1)) = pickL t (ps.take k) ++ [t[m]] := by
  rw [List.take_succ_eq_append_getElem hk, pickL_snoc, if_pos (by omega), hp]
  simp [hm]

theorem pick_miss {t ps : List Int} {k : Nat} (hk : k < ps.length) (hp : ¬ (0 ≤ ps[k] ∧ ps[k] < t.length)) : pickL t (ps.take (k + 1)) = pickL t (ps.take k) := by
  rw [List.take_succ_eq_append_getElem hk, pickL_snoc, if_neg hp, List.append_nil]

set_option maxHeartbeats 1000000 in
theorem pick_any {t ps : List Int} {vt vp : Value} {w : World} (ht : Ints w vt t) (hp : Ints w vp ps) (hlen : ps.length < 100000000000) :
    Calls Tryz.prog 34 #[vt, vp] w fun e w' => ∃ v, e = .returned v ∧ Ints w' v (pickL t ps) ∧ New w.heap.size w' v ∧ Below w.heap.size w w' := by
  obtain ⟨a, ca, rfl, hla, hca⟩ := ht.form
  obtain ⟨b, cb, rfl, hlb, hcb⟩ := hp.form
  unfold maxLen at hca hcb
  go_enter Tryz.func34, Tryz.ntmps34
  go_wp2
  go_loopw [5, 11] (fun v i wr => ∃ k : Nat, k ≤ ps.length ∧ i = .int .i64 k ∧ OwnI w.heap.size wr v (pickL t (ps.take k)) ∧ Below w.heap.size w wr) (fun _ i _ => ps.length - (intOf i).toNat)
  case atStart => exact ⟨0, by omega, rfl, own_litI (Nat.le_refl _), (Below.refl _ _).alloc (Nat.le_refl _) _⟩
  case round =>
    obtain ⟨k, hk, rfl, hown, hbel⟩ := hrel
    have hz := hbel.size
    have hll := pickL_le t (ps.take k)
    have hlt := List.length_take_le k ps
    by_cases hkp : k < ps.length
    · obtain ⟨bb, ob, rfl, hcb⟩ := (hp.below hbel).at hkp
      by_cases hr : 0 ≤ ps[k] ∧ ps[k] < t.length
      · obtain ⟨h0, h1⟩ := hr
        obtain ⟨m, hm⟩ := Int.eq_ofNat_of_zero_le h0
        have hmt : m < t.length := by omega
        obtain ⟨ba, oa, rfl, hca⟩ := (ht.below hbel).at hmt
        have hpick := hide (pick_hit hkp hm hmt)
        rw [hm] at hcb
        clear ht hp h0 h1 hm
        go_wp2_with (at_builtin; refine wp_app_int rfl (.tmp 23) (.tmp 28) rfl hown rfl hz rfl (by omega) ?_; intro v' w1 hown1 hgrew)
        go_roundw
        case rel => exact ⟨k + 1, by omega, by go_num, by rw [unhide hpick]; exact hown1, hbel.trans hgrew.below⟩
        case measure => simp [intOf]; omega
      · have hpick := hide (pick_miss hkp hr)
        clear ht hp
        go_wp2
        all_goals
          go_roundw
          case rel => exact ⟨k + 1, by omega, by go_num, by rw [unhide hpick]; exact hown, hbel⟩
          case measure => simp [intOf]; omega
    · clear ht hp
      go_wp2
      go_ret
      have : k = ps.length := by omega
      subst this
      rw [List.take_length] at hown
      exact ⟨_, rfl, Seq.of_own hown, New.of_own hown, hbel⟩

end Go.Proofs.YtafpecdmaogohaaGreat
