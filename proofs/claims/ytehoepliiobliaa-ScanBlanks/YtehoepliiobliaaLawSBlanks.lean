/-
  Proved: ScanBlanks answers true for every text, and leaves what was handed in as it was. No condition.
-/
import Derived.Test.YtehoepliiobliaaScanShown
import Derived.Test.YtehoepliiobliaaScanLaws
import Derived.Test.YtehoepliiobliaaSFrame
import Derived.Test.YtehoepliiobliaaSBytes
namespace Go.Proofs.Ytehoepliiobliaa.scanBlanks
open Go.RowKit Go.ChangeShapes Go.WideShapes Go.ChangeAt
set_option linter.unusedVariables false
set_option linter.unusedSimpArgs false
set_option maxRecDepth 20000

theorem tail_end (p : Nat) : scanA p [32, 35, 120, 59, 10, 9] = .good [⟨4, [], 0, p + 6⟩] := by
  have h0 : scanA 0 [32, 35, 120, 59, 10, 9] = .good [⟨4, [], 0, 6⟩] := by decide
  have h := scan_up p 7 [32, 35, 120, 59, 10, 9] 0 (by simp)
  rw [h0, Nat.zero_add] at h
  rw [h]
  simp [Scan.up, Tok.up, Nat.add_comm]

theorem front (X : Bytes) : scanA 0 (10 :: X) = (scanA 0 X).up 1 := by
  have h1 : scanA 0 (10 :: X) = scanA 1 X := scan_skip 0 1 _ (by
    show skipN false (10 :: X) = 1 + skipN false X
    rw [skipN, if_pos (by decide)]; omega)
  rw [h1]
  exact scan_up 1 (X.length + 1) X 0 (Nat.lt_succ_self _)

theorem whole (X : Bytes) : scanA 0 ([10] ++ X ++ [10, 32, 35, 120, 59, 10, 9]) = Scan.join (.good [⟨4, [], 0, X.length + 8⟩]) ((scanA 0 X).up 1) := by
  have e : [10] ++ X ++ [10, 32, 35, 120, 59, 10, 9] = (10 :: X) ++ 10 :: [32, 35, 120, 59, 10, 9] := by simp
  rw [e, scan_join ((10 :: X).length + 1) _ _ _ (Nat.lt_succ_self _), front, tail_end]
  simp

theorem whole_bad {X : Bytes} {p : Nat} {e : Int} (h : scanA 0 X = .bad p e) : scanA 0 ([10] ++ X ++ [10, 32, 35, 120, 59, 10, 9]) = .bad (p + 1) e := by
  rw [whole, h]; rfl

theorem whole_good {X : Bytes} {ts : List Tok} (h : scanA 0 X = .good ts) : ∃ us, scanA 0 ([10] ++ X ++ [10, 32, 35, 120, 59, 10, 9]) = .good us ∧ us.length = ts.length ∧ ∀ i (h1 : i + 1 < ts.length) (h2 : i < us.length), us[i] = (ts[i]'(by omega)).up 1 := by
  have hne := scan_ne (X.length + 1) X 0 ts (Nat.lt_succ_self _) h
  have hl : 0 < ts.length := List.length_pos_iff.2 hne
  rw [whole, h]
  refine ⟨(ts.map (Tok.up 1)).dropLast ++ [⟨4, [], 0, X.length + 8⟩], rfl, by simp; omega, fun i h1 h2 => ?_⟩
  rw [List.getElem_append_left (by simp; omega), List.getElem_dropLast, List.getElem_map]

set_option maxHeartbeats 4000000 in
theorem walk {s : ByteArray} {v0 : Value} {w : World} (i0 : v0 = .string s) (m0 : s.size ≤ maxLen) :
    Calls Try.prog 5 #[v0] w fun e w' => e = .returned (.bool true) ∧ Below w.heap.size w w' := by
  subst i0
  unfold maxLen at m0
  obtain ⟨T, hTe⟩ : ∃ T, T = s.extract 0 (min (s.size : Int) 1000).toNat := ⟨_, rfl⟩
  have hT : T.size ≤ 1000 := by rw [hTe, ByteArray.size_extract]; omega
  have e1 : (⟨#[10]⟩ : ByteArray).size = 1 := rfl
  have e7 : (⟨#[10, 32, 35, 120, 59, 10, 9]⟩ : ByteArray).size = 7 := rfl
  have hz1 : (⟨#[10]⟩ : ByteArray).size + T.size ≤ 9223372036854775807 := by rw [e1]; omega
  have hz2 : (⟨#[10]⟩ ++ T : ByteArray).size + (⟨#[10, 32, 35, 120, 59, 10, 9]⟩ : ByteArray).size ≤ 9223372036854775807 := by rw [ByteArray.size_append, e1, e7]; omega
  have hz3 : (⟨#[10]⟩ ++ T ++ ⟨#[10, 32, 35, 120, 59, 10, 9]⟩ : ByteArray).size ≤ 100000 := by rw [ByteArray.size_append, ByteArray.size_append, e1, e7]; omega
  clear e1 e7
  have hp1 := fun W => run_string_add_sum (P := Try.prog) W ⟨#[10]⟩ T hz1
  have hp2 := fun W => run_string_add_sum (P := Try.prog) W (⟨#[10]⟩ ++ T) ⟨#[10, 32, 35, 120, 59, 10, 9]⟩ hz2
  have hlb : lb (⟨#[10]⟩ ++ T ++ ⟨#[10, 32, 35, 120, 59, 10, 9]⟩) = [10] ++ lb T ++ [10, 32, 35, 120, 59, 10, 9] := by rw [lb_append, lb_append]
  have HP1 := hide hp1
  have HP2 := hide hp2
  have HTE := hide hTe
  clear hz1 hz2 hp1 hp2 hTe
  go_enter Try.func5, Try.ntmps5
  go_wp2_with fail
  refine (shown_any _).mono ?_
  rintro e w1 ⟨rfl, hb1⟩
  go_wp2_with fail
  rw [← unhide HTE]
  have hp1 := unhide HP1
  have hp2 := unhide HP2
  clear HTE HP1 HP2
  cases hX : scanA 0 (lb T) with
  | bad p er =>
    refine (all_bad T p er hX (by omega) _).mono ?_
    rintro e w2 ⟨rfl, hb2⟩
    go_wp2_with fail
    refine (all_bad _ _ er (by rw [hlb]; exact whole_bad hX) hz3 _).mono ?_
    rintro e w3 ⟨rfl, hb3⟩
    clear hX hlb hz3
    go_wp2
    go_loop [10] (fun i => i = .int .i64 0) (fun _ => 0)
    case atStart => rfl
    case round =>
      subst hrel
      go_wp2
      go_ret
      exact ⟨rfl, (hb1.trans (hb2.mono hb1.size)).trans (hb3.mono (Nat.le_trans hb1.size hb2.size))⟩
  | good ts =>
    obtain ⟨us, hU, hul, hat⟩ := whole_good hX
    have HAB : Hid (∀ t ∈ ts, t.at_ ≤ 1000) := hide (fun t ht => by have := scan_at hX ht; rw [lb_len] at this; omega)
    have htl : ts.length ≤ 1001 := by have := scan_le hX; rw [lb_len] at this; omega
    refine (all_good T ts hX (by omega) _).mono ?_
    rintro e w2 ⟨a, ca, rfl, ht, hc1, hc2, hb2⟩
    go_wp2_with fail
    refine (all_good _ us (by rw [hlb]; exact hU) hz3 _).mono ?_
    rintro e w3 ⟨a', ca', rfl, ht', hc1', hc2', hb3⟩
    replace ht := ht.below hb3
    rw [hul] at ht' ⊢
    have HUL := hide hul
    have HX := hide ht
    have HX' := hide ht'
    have HAT := hide hat
    have hBB := (hb1.trans (hb2.mono hb1.size)).trans (hb3.mono (Nat.le_trans hb1.size hb2.size))
    have HBB := hide hBB
    clear hX hlb hz3 hU hul ht ht' hat hb1 hb2 hb3 hBB hp1 hp2
    rw [unhide HUL] at hc2'
    go_wp2
    go_loopw [10] (fun i wr => ∃ k m : Nat, k ≤ ts.length ∧ i = .int .i64 k ∧ wr = w3.drewN m) (fun i _ => ts.length - (intOf i).toNat)
    case atStart => exact ⟨0, 0, by omega, rfl, rfl⟩
    case round =>
      obtain ⟨k, m, hk, rfl, rfl⟩ := hrel
      by_cases hlt : k + 1 < ts.length
      · obtain ⟨b, off, rfl, c0, c1, c2, c3⟩ := (unhide HX).at (i := k) (by omega)
        obtain ⟨b', off', rfl, d0, d1, d2, d3⟩ := (unhide HX').at (i := k) (by rw [unhide HUL]; omega)
        rw [unhide HAT k hlt (by rw [unhide HUL]; omega)] at d0 d1 d2 d3
        simp only [Tok.up] at d0 d1 d2 d3
        rw [show ((ts[k].at_ + 1 : Nat) : Int) = (ts[k].at_ : Int) + 1 by omega] at d3
        have hA1 : (ts[k].at_ : Int) ≤ 1000 := by have := unhide HAB ts[k] (List.getElem_mem _); omega
        have hA0 : 0 ≤ (ts[k].at_ : Int) := by omega
        have hlt' : (k : Int) + 1 < (ts.length : Int) := by omega
        generalize ts[k].kind = K at *
        generalize (⟨ts[k].text.toArray⟩ : ByteArray) = X at *
        generalize ts[k].n = N at *
        generalize (ts[k].at_ : Int) = A at *
        go_wp2
        go_quiet (fail)
        go_wp2
        go_roundw
        case rel => exact ⟨k + 1, _, by omega, by go_num, by first | rfl | (simp only [World.drewN_drewN]; rfl)⟩
        case measure => simp [intOf]; omega
      · have hlt' : ¬ (k : Int) + 1 < (ts.length : Int) := by omega
        go_wp2
        go_ret
        exact ⟨rfl, Below.drewN1 (unhide HBB) m⟩

set_option maxRecDepth 100000 in
theorem lifted (os : Os) (started : os.Started) (H : Type) (enc : TypeId × Value → H) :
    ReturnsInHanded {} Try.checked os 5 .any (Rows.scanBlanksSpec.pre6 enc Try.prog Try.f5 Rows.scanBlanksRow.domain false) (Rows.scanBlanksSpec.post enc Try.prog Try.f5 false true false false) := by
  refine returnsInHanded_of_change (C := Try.checked) own started (by kernel_rfl) Try.func5
    (ChangeSpec.witness6 (enc := enc) (C := Try.checked) false ⟨#[], #[.string ⟨#[]⟩], []⟩ 8 (by kernel_rfl) (by kernel_rfl) (by kernel_rfl) (by kernel_rfl)) ?_
  intro W base args ds gs before hval0 hW hcnd _
  have hval : ∀ (j : Nat) t v, Try.f5.params[j]? = some t → args[j]? = some v → Value.okWide Try.prog W .any base t v := hval0
  have hW' := hW
  obtain ⟨p, q, hA0, hV, rfl, hfz, hnd⟩ := hW
  have hA : DataW.TrodAll enc Try.prog W 0 (fun _ => true) true Try.f5.params.toList args.toList ds p := hA0
  rw [Try.params5] at hA hval
  obtain ⟨v0, vs0, d0, ds0, p0, q0, hargs, rfl, rfl, h0, r0⟩ := trodAll_cons hA
  obtain ⟨rfl, rfl, rfl⟩ := trodAll_nil r0
  obtain rfl : args = #[v0] := by cases args; simp_all
  obtain ⟨rfl, rfl⟩ := trodVars_none hV
  obtain ⟨l0, i0, m0⟩ := read_string h0 (hval 0 9 v0 rfl rfl)
  have lt0 : ∀ x ∈ p0, x.block < W.heap.size := by obtain ⟨m, hm⟩ := h0; exact DataW.trod_lt m _ _ _ hm
  clear hA0 hval0
  refine (walk i0 m0).mono fun e W' ⟨he, bel⟩ => ?_
  subst he
  exact ⟨_, rfl, _, _, _, [], _, [], hW', trodAll_mk1 (shut_bool Try.underlying4 _), (trodAll_cons_mk (Below.trod laidOut (by kernel_rfl) (of_decide_eq_true (by kernel_rfl)) h0 bel lt0) trodAll_mk0), rfl, bel.frame _, fun h => by cases h⟩

theorem over : Rows.scanBlanksRow.holds Try.pinned (OpenSpec.ofChange Rows.scanBlanksSpec) :=
  OpenClaim.holds_of_wide 5 Try.f5 rfl rfl rfl rfl rfl rfl rfl ⟨rfl, rfl, rfl, rfl, rfl⟩ rfl rfl rfl rfl rfl (by kernel_rfl) Try.func5 (by kernel_rfl)
    (of_decide_eq_true (by kernel_rfl)) (by unfold Func.isWrapper; first | (rw [if_pos (by decide +kernel)]; kernel_rfl) | (rw [if_neg (by decide +kernel)]; exact ⟨rfl, rfl⟩))
    (fun os started H enc _ => lifted os started H enc)

/-- The statement. -/
theorem proved : Rows.ScanBlanksSaid := over

#print axioms proved
end Go.Proofs.Ytehoepliiobliaa.scanBlanks
