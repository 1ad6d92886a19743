/-
  The contract of few.
-/
import Derived.Test.YtdpcfjnflpgeiaaApp2
import Derived.Deep.RegionHeld3
import Derived.Deep.DrawnRows
namespace Go.Proofs.Ytdpcfjnflpgeiaa
open Go.RowKit
set_option linter.unusedVariables false
set_option linter.unusedSimpArgs false
set_option maxRecDepth 20000
attribute [local go_sem ↓] Go.wp_at_zero Go.wp_at_succ

def fewL (ll : List (List Int)) : List (List Int) := (ll.take 60).map (·.take 6)

set_option maxHeartbeats 4000000 in
theorem few_any {ll : List (List Int)} {v : Value} {w : World} (h : Tups w v ll) :
    Calls Try.prog 13 #[v] w fun e w' => ∃ v, e = .returned v ∧ Tups w' v (fewL ll) ∧ New w.heap.size w' v ∧ Below w.heap.size w w' := by
  obtain ⟨a, ca, rfl, hla, hca⟩ := h.form
  unfold maxLen at hca
  go_enter Try.func13, Try.ntmps13
  go_wp2
  go_loopw [3, 4] (fun v i wr => ∃ k : Nat, k ≤ ll.length ∧ k ≤ 60 ∧ i = .int .i64 k ∧ OwnT w.heap.size wr v ((ll.take k).map (·.take 6)) ∧ Below w.heap.size w wr) (fun _ i _ => ll.length - (intOf i).toNat)
  case atStart => exact ⟨0, by omega, by omega, rfl, OwnT.nil _ _, Below.refl _ _⟩
  case round =>
    obtain ⟨k, hk, hk6, rfl, hown, hbel⟩ := hrel
    have hz := hbel.size
    by_cases hkp : k < ll.length ∧ k < 60
    · obtain ⟨hkl, hk60⟩ := hkp
      obtain ⟨bb, ob, uv, rfl, hcw, hiw⟩ := h.at hkl
      have hcb := Below.cell_of hbel hcw
      have hiv := hiw.below hbel
      clear hiw
      obtain ⟨ia, ic, rfl, hil, hic⟩ := hiv.form
      unfold maxLen at hic
      obtain ⟨il, hil'⟩ : ∃ il, il = ll[k] := ⟨_, rfl⟩
      rw [← hil'] at hiv hil hcb hcw
      have HIL := hide hil'
      clear hil' h
      by_cases h6 : 6 < il.length
      · have hlen' : ((ll.take k).map (·.take 6)).length < 100000000000 := by simp; omega
        have h6i : (6 : Int) < (il.length : Int) := by omega
        have hcutI := hiv.take (k := 6) (by omega)
        have hcut := run_cut ia il.length ic 6 6 rfl (by omega)
        have HI := hide (fun W hb => Seq.below (w' := W) hcutI hb)
        have HS := hide (show ((ll.take (k + 1)).map (·.take 6)) = ((ll.take k).map (·.take 6)) ++ [il.take 6] by rw [List.take_succ_eq_append_getElem hkl, List.map_append, ← unhide HIL]; rfl)
        have HK := hide (fun W (hb : Below w.heap.size w W) => Below.cell_of hb hcw)
        have hB0 := (Below.refl wr.heap.size wr).alloc (Nat.le_refl _) (.cells #[] 3)
        have hB9 := hbel.alloc hz (.cells #[] 3)
        clear hiv hcutI hcw
        go_wp2
        go_region_held3 (fun w' => w'.cell? ⟨bb, ob + k, none⟩ = some (Value.slice ia il.length ic)) (first | exact unhide HK _ (by first | exact hB8 | exact hB7 | exact hB9.drew | exact hB9 | exact hbel.drew | exact hbel | exact (hB7.alloc (Nat.le_trans hz hB1.size) _)) | go_keep)
          (first | (refine step_of rfl (op_app_intsX (.tmp 16) (.tmp 27) rfl (B := wr.heap.size) (w := (wr.alloc (.cells #[] 3)).drew) (l := []) (own_litI (Nat.le_refl _)) rfl (by simp) (unhide HI _ hB0.drew) rfl (by simp; omega) ?_); intro ua un uc w1 hun hown1 hgrew1; have Hun := hide hun; clear hun; have hB1 : Below wr.heap.size wr w1 := hB0.drew.trans hgrew1.below; have hB7 : Below w.heap.size w w1 := hbel.trans (hB1.mono hz)) | (refine step_of rfl (op_app_tup (.tmp 15) (.tmp 29) rfl (hown.below hB1) (Seq.of_own hown1) (fun _ => (Sep.of_new hown.new (Nat.le_refl _) (New.of_own hown1)).symm) rfl (Nat.le_trans hz hB1.size) rfl hlen' ?_); intro v' w2 hown2 hgrew2; have hB8 : Below w.heap.size w w2 := hB7.trans hgrew2.below))
        all_goals go_wp2
        all_goals
          go_roundw
          case rel => exact ⟨k + 1, by omega, by omega, by go_num, by rw [unhide HS]; exact hown2, hB8⟩
          case measure => simp [intOf]; omega
      · have hlen' : ((ll.take k).map (·.take 6)).length < 100000000000 := by simp; omega
        have hcutI := hiv
        have hmin : ∀ W ts t, (Builtin.min_ ts t #[.int .i64 (il.length : Int), .int .i64 6]).run Try.prog W = .ok (.int .i64 (il.length : Int)) W := fun W ts t => by rw [run_min_int2, if_neg (by omega)]
        have hcut := run_cut ia il.length ic il.length il.length rfl (by omega)
        have HI := hide (fun W hb => Seq.below (w' := W) hcutI hb)
        have HS := hide (show ((ll.take (k + 1)).map (·.take 6)) = ((ll.take k).map (·.take 6)) ++ [il] by rw [List.take_succ_eq_append_getElem hkl, List.map_append, ← unhide HIL]; simp only [List.map_cons, List.map_nil, List.take_of_length_le (Nat.not_lt.1 h6)])
        have HK := hide (fun W (hb : Below w.heap.size w W) => Below.cell_of hb hcw)
        have hB0 := (Below.refl wr.heap.size wr).alloc (Nat.le_refl _) (.cells #[] 3)
        have hB9 := hbel.alloc hz (.cells #[] 3)
        clear hiv hcutI hcw hil
        go_wp2
        go_region_held3 (fun w' => w'.cell? ⟨bb, ob + k, none⟩ = some (Value.slice ia il.length ic)) (first | exact unhide HK _ (by first | exact hB8 | exact hB7 | exact hB9.drew | exact hB9 | exact hbel.drew | exact hbel | exact (hB7.alloc (Nat.le_trans hz hB1.size) _)) | go_keep)
          (first | (refine step_of rfl (op_app_intsX (.tmp 16) (.tmp 27) rfl (B := wr.heap.size) (w := (wr.alloc (.cells #[] 3)).drew) (l := []) (own_litI (Nat.le_refl _)) rfl (by simp) (unhide HI _ hB0.drew) rfl (by simp; omega) ?_); intro ua un uc w1 hun hown1 hgrew1; have Hun := hide hun; clear hun; have hB1 : Below wr.heap.size wr w1 := hB0.drew.trans hgrew1.below; have hB7 : Below w.heap.size w w1 := hbel.trans (hB1.mono hz)) | (refine step_of rfl (op_app_tup (.tmp 15) (.tmp 29) rfl (hown.below hB1) (Seq.of_own hown1) (fun _ => (Sep.of_new hown.new (Nat.le_refl _) (New.of_own hown1)).symm) rfl (Nat.le_trans hz hB1.size) rfl hlen' ?_); intro v' w2 hown2 hgrew2; have hB8 : Below w.heap.size w w2 := hB7.trans hgrew2.below))
        all_goals go_wp2
        all_goals
          go_roundw
          case rel => exact ⟨k + 1, by omega, by omega, by go_num, by rw [unhide HS]; exact hown2, hB8⟩
          case measure => simp [intOf]; omega
    · have hkd : (ll.take k).map (·.take 6) = fewL ll := by
        unfold fewL
        rcases Nat.lt_or_ge k 60 with h6 | h6
        · rw [List.take_of_length_le (by omega), List.take_of_length_le (by omega)]
        · rw [show k = 60 by omega]
      rw [hkd] at hown
      clear h hkd
      by_cases hkl : k < ll.length
      all_goals
        go_wp2
        go_ret
        exact ⟨_, rfl, hown.tups, hown.new, hbel⟩
end Go.Proofs.Ytdpcfjnflpgeiaa
