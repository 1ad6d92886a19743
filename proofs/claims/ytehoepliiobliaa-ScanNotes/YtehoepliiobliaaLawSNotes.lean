/-
  Proved: ScanNotes answers true for every text, and leaves what was handed in as it was. No condition.
-/
import Derived.Test.YtehoepliiobliaaScanShown
import Derived.Test.YtehoepliiobliaaScanLaws
import Derived.Test.YtehoepliiobliaaSFrame
import Derived.Test.YtehoepliiobliaaSBytes
namespace Go.Proofs.Ytehoepliiobliaa.scanNotes
open Go.RowKit Go.ChangeShapes Go.WideShapes Go.ChangeAt
set_option linter.unusedVariables false
set_option linter.unusedSimpArgs false
set_option maxRecDepth 20000

/-- A line end is a space. -/
def flat (c : UInt8) : UInt8 := if c.toNat = 10 then 32 else c
theorem flat_ne (c : UInt8) : (flat c).toNat ≠ 10 := by unfold flat; split <;> simp_all

theorem skip_line (l : Bytes) (h : ∀ c ∈ l, c.toNat ≠ 10) : skipN true l = l.length := by
  induction l with
  | nil => rfl
  | cons c r ih =>
    have hc := h c (by simp)
    have ih := ih (fun x hx => h x (by simp [hx]))
    simp only [skipN, List.length_cons]
    rw [if_neg hc]
    split
    · rw [ih]
    · simp [ih]

theorem note_end (l : Bytes) (h : ∀ c ∈ l, c.toNat ≠ 10) (p : Nat) : scanA p (35 :: l) = .good [⟨4, [], 0, p + (l.length + 1)⟩] := by
  have hs : skipN false (35 :: l) = l.length + 1 := by
    have := skip_line l h
    simp only [skipN]
    rw [if_neg (by decide), if_pos (by decide), this]
  rw [scan_eq, hs, List.drop_eq_nil_of_le (by simp)]
  rfl

theorem head_ab (l : Bytes) (h : ∀ c ∈ l, c.toNat ≠ 10) : scanA 0 (97 :: 98 :: 32 :: 35 :: l) = .good [⟨1, [97, 98], 0, 0⟩, ⟨4, [], 0, l.length + 4⟩] := by
  have h1 : skipN false (97 :: 98 :: 32 :: 35 :: l) = 0 := by simp only [skipN]; rw [if_neg (by decide), if_neg (by decide), if_pos (by decide)]
  have h2 : tokG (97 :: 98 :: 32 :: 35 :: l) = .tok 1 [97, 98] 0 2 := by
    rw [tokG_cons, if_pos (by decide)]
    unfold runN
    have e : ((97 : UInt8) :: 98 :: 32 :: 35 :: l).takeWhile letterB = [97, 98] := by
      rw [List.takeWhile_cons, if_pos (by decide), List.takeWhile_cons, if_pos (by decide), List.takeWhile_cons, if_neg (by decide)]
    rw [e]; rfl
  have h3 : scanA 2 (32 :: 35 :: l) = scanA 3 (35 :: l) := scan_skip 2 1 _ (by
    show skipN false (32 :: 35 :: l) = 1 + skipN false (35 :: l)
    rw [skipN, if_neg (by decide), if_neg (by decide), if_neg (by decide)]; omega)
  rw [scan_eq, h1, List.drop_zero, h2]
  simp only [List.drop_succ_cons, List.drop_zero]
  rw [if_neg (by decide)]
  rw [show 0 + 0 + 2 = 2 from rfl, h3, note_end l h]
  simp only [Scan.pre, List.cons_append, List.nil_append]
  congr 4
  omega

theorem whole (l : Bytes) (h : ∀ c ∈ l, c.toNat ≠ 10) : scanA 0 ([97, 98, 32, 35] ++ l ++ [10, 55]) = .good [⟨1, [97, 98], 0, 0⟩, ⟨2, [], 7, 5 + l.length⟩, ⟨4, [], 0, 6 + l.length⟩] := by
  have e : [97, 98, 32, 35] ++ l ++ [10, 55] = (97 :: 98 :: 32 :: 35 :: l) ++ 10 :: [55] := by simp
  have h7 : scanA 0 [55] = .good [⟨2, [], 7, 0⟩, ⟨4, [], 0, 1⟩] := by decide
  have hu := scan_up (l.length + 5) 2 [55] 0 (by simp)
  rw [h7, Nat.zero_add] at hu
  rw [e, scan_join ((97 :: 98 :: 32 :: 35 :: l).length + 1) _ _ _ (Nat.lt_succ_self _), head_ab l h]
  have el : 0 + (97 :: 98 :: 32 :: 35 :: l : Bytes).length + 1 = l.length + 5 := by simp
  rw [el, hu]
  simp only [Scan.join, Scan.up, Scan.pre, List.dropLast, List.map_cons, List.map_nil, Tok.up, List.cons_append, List.nil_append]
  simp
  omega

theorem flat_step {L : Bytes} {k : Nat} (h : k < L.length) : (L.take (k + 1)).map flat ++ L.drop (k + 1) = ((L.take k).map flat ++ L.drop k).set k (flat L[k]) := by
  rw [List.set_append_right _ _ (by simp; omega), List.length_map, List.length_take, Nat.min_eq_left (by omega), Nat.sub_self, List.drop_eq_getElem_cons h, List.set_cons_zero, List.take_succ_eq_append_getElem h, List.map_append, List.append_assoc]
  rfl

set_option maxHeartbeats 4000000 in
theorem walk {s : ByteArray} {v0 : Value} {w : World} (i0 : v0 = .string s) (m0 : s.size ≤ maxLen) :
    Calls Try.prog 9 #[v0] w fun e w' => e = .returned (.bool true) ∧ Below w.heap.size w w' := by
  subst i0
  unfold maxLen at m0
  have hT : (s.extract 0 (min (s.size : Int) 1000).toNat).size ≤ 1000 := by rw [ByteArray.size_extract]; omega
  have HT := hide hT
  clear hT
  go_enter Try.func9, Try.ntmps9
  go_wp2_with fail
  refine (shown_any _).mono ?_
  rintro e w1 ⟨rfl, hb1⟩
  obtain ⟨n, cap, w2, hn, hcv, hy, hb2, hz2⟩ := bytes_of w1 (s.extract 0 (min (s.size : Int) 1000).toNat)
  have HY := hide hy
  have HB2 := hide hb2
  have HZ2 := hide hz2
  have HN := hide hn
  clear hy hb2 hz2 hn
  go_wp2
  clear hcv
  generalize s.extract 0 (min (s.size : Int) 1000).toNat = T at *
  have hTs := unhide HT
  have hln : (lb T).length = T.size := rfl
  rw [← unhide HN] at hTs hln
  clear HN HT
  generalize lb T = L at *
  go_loopw [5] (fun i wr => ∃ k : Nat, k ≤ n ∧ i = .int .i64 k ∧ BytesAt wr w1.heap.size ((L.take k).map flat ++ L.drop k) ∧ Below w1.heap.size w1 wr) (fun i _ => n - (intOf i).toNat)
  case atStart => exact ⟨0, by omega, rfl, by simpa using unhide HY, unhide HB2⟩
  case round =>
    clear HY HB2 HZ2
    obtain ⟨k, hk, rfl, hy, hb2⟩ := hrel
    have HLN := hide hln
    by_cases hlt : k < n
    · have hkl : k < L.length := by omega
      obtain ⟨hc, hf⟩ := hy k (by simp; omega)
      have hst := flat_step hkl
      have hget : ((L.take k).map flat ++ L.drop k)[k]'(by simp; omega) = L[k] := by
        rw [List.getElem_append_right (by simp; omega)]
        simp [Nat.min_eq_left (by omega : k ≤ L.length)]
      rw [hget] at hc
      have hset := hy.set (k := k) (by simp; omega) (flat L[k])
      rw [← hst] at hset
      have hsame : L[k].toNat ≠ 10 → (L.take (k + 1)).map flat ++ L.drop (k + 1) = (L.take k).map flat ++ L.drop k := by
        intro h
        rw [hst]
        have : flat L[k] = ((L.take k).map flat ++ L.drop k)[k]'(by simp; omega) := by rw [hget]; unfold flat; rw [if_neg h]
        rw [this]; exact List.set_getElem_self _
      have HS := hide hset
      have HB2 := hide hb2
      have HY := hide hy
      have HM := hide hsame
      clear hy hset hb2 hst hget hsame hln
      by_cases h10 : L[k].toNat = 10
      · have h10' : ((L[k].toNat : Int) == 10) = true := by simp [h10]
        have HF : Hid (flat L[k] = 32) := hide (by unfold flat; rw [if_pos h10])
        clear h10
        unfold byV at hc
        generalize (L[k].toNat : Int) = x at *
        go_wp2
        go_roundw
        case rel => exact ⟨k + 1, by omega, by go_num, by have := unhide HS; rw [unhide HF] at this; exact this, (unhide HB2).setCell (Nat.le_refl _) _⟩
        case measure => simp [intOf]; omega
      · have h10' : ((L[k].toNat : Int) == 10) = false := by simp; omega
        have HM2 := hide (unhide HM h10)
        clear h10 HM
        unfold byV at hc
        generalize (L[k].toNat : Int) = x at *
        go_wp2
        go_roundw
        case rel => exact ⟨k + 1, by omega, by go_num, by rw [unhide HM2]; exact unhide HY, unhide HB2⟩
        case measure => simp [intOf]; omega
    · have hkN : k = n := by omega
      subst hkN
      rw [List.drop_eq_nil_of_le (by omega), List.append_nil, List.take_of_length_le (by omega)] at hy
      rename World => wr
      obtain ⟨B, hB⟩ : ∃ B, B = L.map flat := ⟨_, rfl⟩
      have hno : ∀ c ∈ B, c.toNat ≠ 10 := by rw [hB]; intro c hc; obtain ⟨x, _, rfl⟩ := List.mem_map.1 hc; exact flat_ne x
      have hBl : k = B.length := by rw [hB]; simp only [List.length_map]; omega
      rw [← hB] at hy
      have HNO := hide hno
      clear hB hln HLN
      have hw2 := whole B hno
      have hw3 := note_end B hno 0
      have hcv := fun W (hb : Below wr.heap.size wr W) => (hy.below hb).string hBl cap
      have hcv1 := hcv wr (Below.refl _ _)
      have HBL := hide hBl
      have hs1 : (⟨#[97, 98, 32, 35]⟩ ++ ⟨B.toArray⟩ ++ ⟨#[10, 55]⟩ : ByteArray).size ≤ 100000 := by simp [ByteArray.size_append]; simp [ByteArray.size]; omega
      have hs2 : (⟨#[35]⟩ ++ ⟨B.toArray⟩ : ByteArray).size ≤ 100000 := by simp [ByteArray.size_append]; simp [ByteArray.size]; omega
      have HA := hide (fun W => all_good (⟨#[97, 98, 32, 35]⟩ ++ ⟨B.toArray⟩ ++ ⟨#[10, 55]⟩) _ (by rw [lb_append, lb_append]; exact hw2) hs1 W)
      have HC := hide (fun W => all_good (⟨#[35]⟩ ++ ⟨B.toArray⟩) _ (by rw [lb_append]; exact hw3) hs2 W)
      have hz1 : (⟨#[97, 98, 32, 35]⟩ : ByteArray).size + (⟨B.toArray⟩ : ByteArray).size ≤ 9223372036854775807 := by simp [ByteArray.size]; omega
      have hz2 : (⟨#[97, 98, 32, 35]⟩ ++ ⟨B.toArray⟩ : ByteArray).size + (⟨#[10, 55]⟩ : ByteArray).size ≤ 9223372036854775807 := by simp [ByteArray.size_append]; simp [ByteArray.size]; omega
      have hz3 : (⟨#[35]⟩ : ByteArray).size + (⟨B.toArray⟩ : ByteArray).size ≤ 9223372036854775807 := by simp [ByteArray.size]; omega
      have hp1 := fun W => run_string_add_sum (P := Try.prog) W ⟨#[97, 98, 32, 35]⟩ ⟨B.toArray⟩ hz1
      have hp2 := fun W => run_string_add_sum (P := Try.prog) W (⟨#[97, 98, 32, 35]⟩ ++ ⟨B.toArray⟩) ⟨#[10, 55]⟩ hz2
      have hp3 := fun W => run_string_add_sum (P := Try.prog) W ⟨#[35]⟩ ⟨B.toArray⟩ hz3
      have HCV := hide hcv
      rw [← hBl] at HA HC
      have HB2 := hide hb2
      clear hy hno hw2 hw3 hcv hs1 hs2 hz1 hz2 hz3 hBl hb2
      go_wp2_with fail
      refine (unhide HA _).mono ?_
      rintro e w3 ⟨a, c, rfl, ht, hc1, hc2, hb3⟩
      have hcv3 := unhide HCV w3 hb3
      have hT1 := hide ht
      clear ht
      go_wp2_with fail
      refine (unhide HC _).mono ?_
      rintro e w4 ⟨a', c', rfl, ht', hc1', hc2', hb4⟩
      have ht := (unhide hT1).below hb4
      obtain ⟨b, off, rfl, _, c01, _, _⟩ := ht.at (i := 0) (by simp)
      obtain ⟨b2, off2, e1, _, _, c12, c13⟩ := ht.at (i := 1) (by simp)
      cases e1
      obtain ⟨b3, off3, rfl, d00, _, _, _⟩ := ht'.at (i := 0) (by simp)
      simp at c01 c12 c13 d00
      clear ht ht' hT1
      go_wp2
      go_ret
      have hz := (unhide HB2).size
      exact ⟨rfl, ((hb1.trans ((unhide HB2).mono hb1.size)).trans (hb3.mono (Nat.le_trans hb1.size hz))).trans (hb4.mono (Nat.le_trans (Nat.le_trans hb1.size hz) hb3.size))⟩

set_option maxRecDepth 100000 in
theorem lifted (os : Os) (started : os.Started) (H : Type) (enc : TypeId × Value → H) :
    ReturnsInHanded {} Try.checked os 9 .any (Rows.scanNotesSpec.pre6 enc Try.prog Try.f9 Rows.scanNotesRow.domain false) (Rows.scanNotesSpec.post enc Try.prog Try.f9 false true false false) := by
  refine returnsInHanded_of_change (C := Try.checked) own started (by kernel_rfl) Try.func9
    (ChangeSpec.witness6 (enc := enc) (C := Try.checked) false ⟨#[], #[.string ⟨#[]⟩], []⟩ 8 (by kernel_rfl) (by kernel_rfl) (by kernel_rfl) (by kernel_rfl)) ?_
  intro W base args ds gs before hval0 hW hcnd _
  have hval : ∀ (j : Nat) t v, Try.f9.params[j]? = some t → args[j]? = some v → Value.okWide Try.prog W .any base t v := hval0
  have hW' := hW
  obtain ⟨p, q, hA0, hV, rfl, hfz, hnd⟩ := hW
  have hA : DataW.TrodAll enc Try.prog W 0 (fun _ => true) true Try.f9.params.toList args.toList ds p := hA0
  rw [Try.params9] at hA hval
  obtain ⟨v0, vs0, d0, ds0, p0, q0, hargs, rfl, rfl, h0, r0⟩ := trodAll_cons hA
  obtain ⟨rfl, rfl, rfl⟩ := trodAll_nil r0
  obtain rfl : args = #[v0] := by cases args; simp_all
  obtain ⟨rfl, rfl⟩ := trodVars_none hV
  obtain ⟨l0, i0, m0⟩ := read_string h0 (hval 0 9 v0 rfl rfl)
  have lt0 : ∀ x ∈ p0, x.block < W.heap.size := by obtain ⟨m, hm⟩ := h0; exact DataW.trod_lt m _ _ _ hm
  clear hA0 hval0
  refine (walk i0 m0).mono fun e W' ⟨he, bel⟩ => ?_
  subst he
  exact ⟨_, rfl, _, _, _, [], _, [], hW', trodAll_mk1 (shut_bool Try.underlying4 _), (trodAll_cons_mk (Below.trod laidOut (by kernel_rfl) (of_decide_eq_true (by kernel_rfl)) h0 bel lt0) trodAll_mk0), rfl, bel.frame _, fun h => by cases h⟩

theorem over : Rows.scanNotesRow.holds Try.pinned (OpenSpec.ofChange Rows.scanNotesSpec) :=
  OpenClaim.holds_of_wide 9 Try.f9 rfl rfl rfl rfl rfl rfl rfl ⟨rfl, rfl, rfl, rfl, rfl⟩ rfl rfl rfl rfl rfl (by kernel_rfl) Try.func9 (by kernel_rfl)
    (of_decide_eq_true (by kernel_rfl)) (by unfold Func.isWrapper; first | (rw [if_pos (by decide +kernel)]; kernel_rfl) | (rw [if_neg (by decide +kernel)]; exact ⟨rfl, rfl⟩))
    (fun os started H enc _ => lifted os started H enc)

/-- The statement. -/
theorem proved : Rows.ScanNotesSaid := over

#print axioms proved
end Go.Proofs.Ytehoepliiobliaa.scanNotes
