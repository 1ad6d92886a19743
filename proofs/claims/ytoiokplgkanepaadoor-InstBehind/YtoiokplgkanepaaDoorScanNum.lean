/-
  The contracts of isWritten and value.
-/
import Derived.Test.YtoiokplgkanepaaDoorScanRun
namespace Go.Proofs.YtoiokplgkanepaaDoor
open Go.RowKit
set_option linter.unusedVariables false
set_option linter.unusedSimpArgs false
set_option maxRecDepth 20000

theorem u8_48 (c : UInt8) : ((c.toNat : Int) = 48 ↔ c = 48) ∧ (c.toNat = 48 ↔ c = 48) := by
  have h : c.toNat = 48 ↔ c = 48 := ⟨fun h => UInt8.toNat_inj.1 h, fun h => by rw [h]; rfl⟩
  exact ⟨⟨fun h' => h.1 (by omega), fun h' => by have := h.2 h'; omega⟩, h⟩

theorem ba_toList (s : ByteArray) : s.toList = lb s := ByteArray.toList_eq s

set_option maxHeartbeats 1000000 in
theorem isWritten_any (s : ByteArray) (below : Bool) (w : World) :
    Calls Tryd.prog 80 #[.string s, .bool below] w fun e w' => e = .returned (.bool (writtenB (lb s) below)) ∧ w' = w := by
  obtain ⟨W, hW⟩ : ∃ W, W = writtenB (lb s) below := ⟨_, rfl⟩
  rw [← hW]
  have ht := ba_toList s
  by_cases h0 : s.size = 0
  · have hn : lb s = [] := List.length_eq_zero_iff.1 h0
    rw [hn] at ht hW
    have HW : Hid (W = false) := hide hW
    clear hW h0 hn
    go_enter Tryd.func80, Tryd.ntmps80
    go_wp2
    go_ret
    exact ⟨ret_bool (by rw [HW.out]), rfl⟩
  · have hn := lb_drop s 0 (by omega)
    rw [List.drop_zero] at hn
    rw [hn] at ht hW
    generalize (lb s).drop (0 + 1) = r at *
    have h0' : 0 < s.size := by omega
    have h48 := u8_48 s[0]
    have HW := hide hW
    have H48 := hide h48
    clear hW hn h48
    go_enter Tryd.func80, Tryd.ntmps80
    go_wp2
    all_goals
      go_ret
      refine ⟨ret_bool ?_, rfl⟩
      rw [unhide HW]
      have h48 := unhide H48
      unfold writtenB
      clear ht
      simp_all

theorem val_cons (m : Nat) (c : UInt8) (r : Bytes) : valFrom m (c :: r) = valFrom (10 * m + (c.toNat - 48)) r := by unfold valFrom; rw [List.foldl_cons]
theorem val_mono : ∀ (d : Bytes) (m : Nat), m ≤ valFrom m d
  | [], m => Nat.le_refl m
  | c :: r, m => by rw [val_cons]; have := val_mono r (10 * m + (c.toNat - 48)); omega

set_option maxHeartbeats 1000000 in
theorem value_any (s : ByteArray) (w : World) (hd : ∀ c ∈ lb s, digitB c = true) (hs : s.size ≤ 1000000) :
    Calls Tryd.prog 81 #[.string s] w fun e w' => e = .returned (.tuple #[.int .i64 ((if valN (lb s) ≤ 1000000000000 then valN (lb s) else 0 : Nat) : Int), .bool (decide (valN (lb s) ≤ 1000000000000))]) ∧ w' = w := by
  obtain ⟨V, hV⟩ : ∃ V, V = valN (lb s) := ⟨_, rfl⟩
  rw [← hV]
  obtain ⟨X, hX⟩ : ∃ X : Int, X = ((if V ≤ 1000000000000 then V else 0 : Nat) : Int) := ⟨_, rfl⟩
  obtain ⟨b, hb⟩ : ∃ b : Bool, b = decide (V ≤ 1000000000000) := ⟨_, rfl⟩
  rw [← hX, ← hb]
  have HX := hide hX
  have HB := hide hb
  have HD := hide hd
  clear hd hX hb
  go_enter Tryd.func81, Tryd.ntmps81
  go_wp2
  go_loop [4, 5, 8] (fun n _ i => ∃ j m : Nat, j ≤ s.size ∧ i = .int .i64 j ∧ n = .int .i64 m ∧ m ≤ 1000000000000 ∧ Hid (V = valFrom m ((lb s).drop j))) (fun _ _ i => s.size - (intOf i).toNat)
  case atStart => exact ⟨0, 0, Nat.zero_le _, rfl, rfl, by omega, hide hV⟩
  case round =>
    clear hV
    obtain ⟨j, m, hj, rfl, rfl, hm, HV⟩ := hrel
    by_cases hlt : j < s.size
    · have hV := HV.out
      rw [lb_drop s _ hlt, val_cons] at hV
      have hdj := unhide HD s[j] (by rw [← lb_at s j hlt]; exact List.getElem_mem _)
      have hd1 : 48 ≤ (s[j].toNat : Int) ∧ (s[j].toNat : Int) ≤ 57 := by unfold digitB at hdj; simp at hdj; omega
      obtain ⟨q, hq⟩ : ∃ q, q = 10 * m + (s[j].toNat - 48) := ⟨_, rfl⟩
      have hmono := val_mono ((lb s).drop (j + 1)) q
      rw [← hq] at hV
      have HQ : Hid (10 * (m : Int) + ((s[j].toNat : Int) - 48) = (q : Int)) := hide (by omega)
      obtain ⟨hd2, hd3⟩ := hd1
      clear hdj HV hq
      by_cases hb : q ≤ 1000000000000
      · have HV : Hid (V = valFrom q ((lb s).drop (j + 1))) := hide hV
        have hdec : 10 * (m : Int) + ((s[j].toNat : Int) - 48) ≤ 1000000000000 := by rw [unhide HQ]; omega
        clear hV hmono
        go_wp2
        go_round
        case rel => exact ⟨j + 1, q, by omega, by go_num, by rw [← unhide HQ], hb, HV⟩
        case measure => simp [intOf]; omega
      · have HV : Hid (¬ V ≤ 1000000000000) := hide (by omega)
        have hdec : 1000000000000 < 10 * (m : Int) + ((s[j].toNat : Int) - 48) := by rw [unhide HQ]; omega
        clear hV hmono
        go_wp2
        go_ret2
        refine ⟨?_, rfl⟩
        rw [unhide HX, unhide HB, if_neg HV.out, decide_eq_false HV.out]
        rfl
    · have hV := HV.out
      rw [lb_end s _ (by omega)] at hV
      have HV : Hid (V = m) := hide hV
      clear hV
      go_wp2
      go_ret2
      refine ⟨?_, rfl⟩
      rw [unhide HX, unhide HB, HV.out, if_pos hm, decide_eq_true hm]
      rfl

end Go.Proofs.YtoiokplgkanepaaDoor
