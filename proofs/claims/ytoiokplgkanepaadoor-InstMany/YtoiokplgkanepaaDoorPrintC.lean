/-
  The contracts of numbers, begin, end, and of hard where there are neither rows nor args.
-/
import Derived.Test.YtoiokplgkanepaaDoorPrintB
namespace Go.Proofs.YtoiokplgkanepaaDoor
open Go.RowKit
set_option linter.unusedVariables false
set_option linter.unusedSimpArgs false
set_option maxRecDepth 20000

/-- Itoa tells n as dec n, whenever the words lie where they lie. -/
def Tells10 (dec : Int → Bytes) (n : Int) : Prop := ∀ W : World, Tabs W → Calls Tryd.prog 71 #[.int .i64 n] W fun e w' => e = .returned (.string ⟨(dec n).toArray⟩) ∧ Below W.heap.size W w'

def numsL (dec : Int → Bytes) (l : List Int) : Bytes := l.flatMap fun n => 32 :: dec n
theorem numsL_cons (dec : Int → Bytes) (n : Int) (l : List Int) : numsL dec (n :: l) = (32 :: dec n) ++ numsL dec l := by simp [numsL]

set_option maxHeartbeats 1000000 in
theorem numbers_any {dec : Int → Bytes} {l : List Int} {v : Value} {b : Nat} {t : Bytes} {w : World} (T : Tabs w) (hb0 : 0 < b) (h : Pr b t w) (hI : ∀ w', Below b w w' → Ints w' v l) (hd : ∀ n ∈ l, Tells10 dec n ∧ (dec n).length ≤ 20) (hl : t.length + l.length * 30 ≤ 10000000) :
    Calls Tryd.prog 41 #[.pointer (some ⟨b, 0, none⟩), v] w fun e w' => e = .returned (.tuple #[]) ∧ Pr b (t ++ numsL dec l) w' ∧ Below b w w' := by
  obtain ⟨a, ca, rfl, hla, hca⟩ := (hI w (Below.refl _ _)).form
  unfold maxLen at hca
  obtain ⟨X, hX⟩ : ∃ X, X = t ++ numsL dec l := ⟨_, rfl⟩
  rw [← hX]
  have HX : Hid (X = t ++ numsL dec (l.drop 0)) := hide hX
  have HP := hide h
  have HI := hide hI
  have HD := hide hd
  have HT := hide T
  clear hX h hI hd T
  go_enter Tryd.func41, Tryd.ntmps41
  go_wp2
  go_loopw [8] (fun i wr => ∃ (k : Nat) (u : Bytes), k ≤ l.length ∧ i = .int .i64 k ∧ Pr b u wr ∧ Below b w wr ∧ u.length + (l.length - k) * 30 ≤ 10000000 ∧ Hid (X = u ++ numsL dec (l.drop k))) (fun i _ => l.length - (intOf i).toNat)
  case atStart => exact ⟨0, t, Nat.zero_le _, rfl, unhide HP, Below.refl _ _, by simpa using hl, HX⟩
  case round =>
    clear HX HP
    obtain ⟨k, u, hk, rfl, hp, hb, hul, HX⟩ := hrel
    rename World => wr
    by_cases hlt : k < l.length
    · have hX := HX.out
      rw [List.drop_eq_getElem_cons hlt, numsL_cons] at hX
      obtain ⟨bb, oo, rfl, hc⟩ := (unhide HI wr hb).at hlt
      obtain ⟨hd1, hd2⟩ := unhide HD _ (List.getElem_mem hlt)
      generalize l[k] = n at *
      have HW := hide (writeByte_any 32 hp (by omega))
      have HB := hide hb
      have HX1 : Hid (X = (u ++ [32] ++ dec n) ++ numsL dec (l.drop (k + 1))) := hide (by rw [hX]; simp)
      have HIT := hide hd1
      have hbl := hp.lt
      clear hX HX hp hb hd1
      go_wp2_with fail
      refine (unhide HW).mono ?_
      rintro e w1 ⟨rfl, hp1, hb1⟩
      have hp2 := hp1.kept (Below.drewN w1 1)
      have hB1 := (unhide HB).trans hb1
      have HT1 : Hid (Tabs w1.drew) := hide (fun i hi => by
        have h0 := unhide HT i hi
        have : w1.cell? ⟨0, i, none⟩ = some (.string ⟨wordsL[i].toArray⟩) := by rw [hB1.cell (by exact hb0)]; exact h0
        exact this)
      have HIT1 := hide (unhide HIT _ (unhide HT1))
      have HP2 := hide hp2
      have HB1 := hide hB1
      clear hp1 hb1 hp2 hB1 HW
      go_wp2
      refine wp_region_held (S := fun _ => True ∧ True) (by kernel_rfl) ?_
      have hS0 : True ∧ True := ⟨trivial, trivial⟩
      refine wpAnyH_take (i := 0) (v := ?_) rfl (by kernel_rfl) (by kernel_rfl) (by kernel_rfl) (fun _ _ _ h => h) (Or.inl ⟨by kernel_rfl, ?_⟩) (by assumption) ?_
      rotate_left
      · intro W hSW; obtain ⟨_, _⟩ := hSW; go_simp; first | done | rfl
      simp only [Act.put, List.setIfInBounds_toArray, List.set_cons_zero, List.set_cons_succ]
      refine wpAnyH_take (i := 1) (v := ?_) rfl (by kernel_rfl) (by kernel_rfl) (by kernel_rfl) (fun _ _ _ h => h) (Or.inl ⟨by kernel_rfl, ?_⟩) (by assumption) ?_
      rotate_left
      · intro W hSW; obtain ⟨_, _⟩ := hSW; go_simp; first | done | rfl
      simp only [Act.put, List.setIfInBounds_toArray, List.set_cons_zero, List.set_cons_succ]
      refine wpAnyH_take (i := 2) (v := ?_) rfl (by kernel_rfl) (by kernel_rfl) (by kernel_rfl) (fun _ _ _ h => h) (Or.inl ⟨by kernel_rfl, ?_⟩) (by assumption) ?_
      rotate_left
      · intro W hSW; obtain ⟨_, _⟩ := hSW; go_simp; first | done | rfl
      simp only [Act.put, List.setIfInBounds_toArray, List.set_cons_zero, List.set_cons_succ]
      refine wpAnyH_take (i := 3) (v := ?_) rfl (by kernel_rfl) (by kernel_rfl) (by kernel_rfl) (fun _ _ _ h => h) (Or.inl ⟨by kernel_rfl, ?_⟩) (by assumption) ?_
      rotate_left
      · intro W hSW; obtain ⟨_, _⟩ := hSW; go_simp; first | done | rfl
      simp only [Act.put, List.setIfInBounds_toArray, List.set_cons_zero, List.set_cons_succ]
      refine held_one (i := 4) (by kernel_rfl) rfl (by kernel_rfl) (fun K hK => ?_)
      go_simp
      refine (unhide HIT1).mono ?_
      rintro e w2 ⟨rfl, hb2⟩
      have hp3 := (unhide HP2).kept hb2
      have HWS := hide (writeString_any ⟨(dec n).toArray⟩ hp3 (by
        show (u ++ [32]).length + (⟨(dec n).toArray⟩ : ByteArray).size ≤ 100000000
        have : (⟨(dec n).toArray⟩ : ByteArray).size = (dec n).length := by simp [ByteArray.size]
        rw [this]
        simp
        omega))
      have hB2 : Below b w w2 := ((unhide HB1).trans ((Below.drewN w1 1).mono (Nat.le_of_lt (unhide HP2).lt))).trans (hb2.mono (Nat.le_of_lt (unhide HP2).lt))
      have HB2 := hide hB2
      refine hK.out _ _ ⟨trivial, trivial⟩ ?_
      clear hK K hp3 hb2 hB2
      try simp only [Act.put, List.setIfInBounds_toArray, List.set_cons_zero, List.set_cons_succ]
      refine held_one (i := 5) (by kernel_rfl) rfl (by kernel_rfl) (fun K hK => ?_)
      go_simp
      refine (unhide HWS).mono ?_
      rintro e w3 ⟨⟨m, rfl⟩, hp4, hb4⟩
      refine hK.out _ _ ⟨trivial, trivial⟩ (wpAnyH_done (by kernel_rfl) ?_ _)
      have HP4 : Hid (Pr b (u ++ [32] ++ dec n) w3) := hide (by simpa [lb] using hp4)
      have HB4 := hide ((unhide HB2).trans hb4)
      clear hK K hp4 hb4 HWS hS0
      try simp only [Act.put, List.setIfInBounds_toArray, List.set_cons_zero, List.set_cons_succ]
      go_wp2
      go_roundw
      case rel => exact ⟨k + 1, u ++ [32] ++ dec n, by omega, by go_num, unhide HP4, unhide HB4, by simp; omega, HX1⟩
      case measure => simp [intOf]; omega
    · have hX := HX.out
      rw [List.drop_eq_nil_of_le (by omega)] at hX
      have HX2 : Hid (X = u) := hide (by rw [hX]; simp [numsL])
      have HP := hide hp
      have HB := hide hb
      clear hX HX hp hb
      go_wp2
      first | go_end0 | skip
      exact ⟨rfl, by rw [unhide HX2]; exact unhide HP, unhide HB⟩

set_option maxHeartbeats 1000000 in
theorem prEnd_any {b : Nat} {t : Bytes} {w : World} (h : Pr b t w) (hl : t.length ≤ 10000000) :
    Calls Tryd.prog 19 #[.pointer (some ⟨b, 0, none⟩)] w fun e w' => e = .returned (.tuple #[]) ∧ Pr b (t ++ [59, 10]) w' ∧ Below b w w' := by
  have HW := hide (writeString_any ⟨#[59, 10]⟩ h (by show t.length + 2 ≤ 100000000; omega))
  clear h
  go_enter Tryd.func19, Tryd.ntmps19
  go_wp2_with fail
  refine (unhide HW).mono ?_
  rintro e w1 ⟨⟨n, rfl⟩, hp, hb⟩
  go_wp2
  first | go_end0 | skip
  exact ⟨rfl, hp, hb⟩

end Go.Proofs.YtoiokplgkanepaaDoor
