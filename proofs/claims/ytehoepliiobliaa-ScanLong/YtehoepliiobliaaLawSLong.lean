/-
  Proved: ScanLong answers true for every number, and leaves what was handed in as it was. No condition.
-/
import Derived.Test.YtehoepliiobliaaScanShown
import Derived.Test.YtehoepliiobliaaScanLaws
import Derived.Test.YtehoepliiobliaaSFrame
import Derived.Test.YtehoepliiobliaaSBytes
namespace Go.Proofs.Ytehoepliiobliaa.scanLong
open Go.RowKit Go.ChangeShapes Go.WideShapes Go.ChangeAt
set_option linter.unusedVariables false
set_option linter.unusedSimpArgs false
set_option maxRecDepth 20000

theorem skip_spaces (n : Nat) : skipN false (List.replicate n 32) = n := by
  induction n with
  | zero => rfl
  | succ n ih =>
    rw [List.replicate_succ]
    simp only [skipN]
    rw [if_neg (by decide), if_neg (by decide), if_neg (by decide), ih]

theorem scan_spaces (n : Nat) : scanA 0 (List.replicate n 32) = .good [⟨4, [], 0, n⟩] := by
  rw [scan_eq, skip_spaces, List.drop_eq_nil_of_le (by simp)]
  simp [tokG]

theorem spaces_set {N k : Nat} (h : k < N) : (List.replicate k (32 : UInt8) ++ List.replicate (N - k) 0).set k 32 = List.replicate (k + 1) 32 ++ List.replicate (N - (k + 1)) 0 := by
  obtain ⟨d, rfl⟩ : ∃ d, N = k + (d + 1) := ⟨N - k - 1, by omega⟩
  have e1 : k + (d + 1) - k = d + 1 := by omega
  have e2 : k + (d + 1) - (k + 1) = d := by omega
  rw [e1, e2, List.set_append_right _ _ (by simp), List.length_replicate, Nat.sub_self, List.replicate_succ, List.set_cons_zero, List.replicate_succ' (n := k), List.append_assoc]
  rfl

set_option maxHeartbeats 4000000 in
theorem walk {n : Int} {v0 : Value} {w : World} (i0 : v0 = .int .i64 n) (m0 : InI64 n) :
    Calls Try.prog 7 #[v0] w fun e w' => e = .returned (.bool true) ∧ Below w.heap.size w w' := by
  subst i0
  obtain ⟨N, hN, hN1, hN2⟩ : ∃ N : Nat, wrap64 (99990 + (bits BinOp.and IntKind.i64 n 65535).tmod 21) = (N : Int) ∧ 99990 ≤ N ∧ N ≤ 100010 := by
    have h0 : 0 ≤ n % 65536 := Int.emod_nonneg _ (by decide)
    rw [and65535, Int.tmod_eq_emod_of_nonneg h0]
    refine ⟨(99990 + n % 65536 % 21).toNat, ?_, by omega, by omega⟩
    unfold wrap64
    omega
  go_enter Try.func7, Try.ntmps7
  go_wp2_with fail
  refine (shown_any _).mono ?_
  rintro e w1 ⟨rfl, hb1⟩
  go_wp2_with (at_make; refine wp_make_bytes rfl _ _ rfl (congrArg (Value.int .i64) hN) (congrArg (Value.int .i64) hN) (by omega) ?_; intro w2 hy hz hb2)
  clear hN
  have HB2 := hide hb2
  clear hb2
  go_loopw [5] (fun i wr => ∃ k : Nat, k ≤ N ∧ i = .int .i64 k ∧ BytesAt wr w1.heap.size (List.replicate k 32 ++ List.replicate (N - k) 0) ∧ Below w1.heap.size w1 wr) (fun i _ => N - (intOf i).toNat)
  case atStart => exact ⟨0, by omega, rfl, by simpa using hy, unhide HB2⟩
  case round =>
    clear hy hz HB2
    obtain ⟨k, hk, rfl, hy, hb2⟩ := hrel
    by_cases hlt : k < N
    · obtain ⟨hc, hf⟩ := hy k (by simp; omega)
      have hset := hy.set (k := k) (by simp; omega) 32
      rw [spaces_set hlt] at hset
      have HS := hide hset
      have HB2 := hide hb2
      clear hy hset hb2
      go_wp2
      go_roundw
      case rel => exact ⟨k + 1, by omega, by go_num, unhide HS, (unhide HB2).setCell (Nat.le_refl _) _⟩
      case measure => simp [intOf]; omega
    · have hkN : k = N := by omega
      subst hkN
      rw [Nat.sub_self, List.replicate_zero, List.append_nil] at hy
      have hcv := hy.string (n := k) (by simp) k
      rename World => wr
      by_cases hbig : 100000 < k
      · have HA := hide (fun W => all_long ⟨(List.replicate k (32 : UInt8)).toArray⟩ W (by simp [ByteArray.size]; omega))
        go_wp2_with (go_at_call 11; refine (unhide HA _).mono ?_; rintro e w3 ⟨rfl, rfl⟩)
        go_ret
        exact ⟨rfl, hb1.trans (hb2.mono hb1.size)⟩
      · have HA := hide (fun W => all_good ⟨(List.replicate k (32 : UInt8)).toArray⟩ _ (by rw [lb_mk]; exact scan_spaces k) (by simp [ByteArray.size]; omega) W)
        go_wp2_with (go_at_call 11; refine (unhide HA _).mono ?_; rintro e w3 ⟨a, c, rfl, ht, hc1, hc2, hb3⟩; obtain ⟨b, off, rfl, _, _, _, c03⟩ := ht.at (i := 0) (by simp); simp at c03; clear ht)
        go_ret
        exact ⟨rfl, (hb1.trans (hb2.mono hb1.size)).trans (hb3.mono (Nat.le_trans hb1.size hb2.size))⟩

set_option maxRecDepth 100000 in
theorem lifted (os : Os) (started : os.Started) (H : Type) (enc : TypeId × Value → H) :
    ReturnsInHanded {} Try.checked os 7 .any (Rows.scanLongSpec.pre6 enc Try.prog Try.f7 Rows.scanLongRow.domain false) (Rows.scanLongSpec.post enc Try.prog Try.f7 false true false false) := by
  refine returnsInHanded_of_change (C := Try.checked) own started (by kernel_rfl) Try.func7
    (ChangeSpec.witness6 (enc := enc) (C := Try.checked) false ⟨#[], #[.int .i64 0], []⟩ 8 (by kernel_rfl) (by kernel_rfl) (by kernel_rfl) (by kernel_rfl)) ?_
  intro W base args ds gs before hval0 hW hcnd _
  have hval : ∀ (j : Nat) t v, Try.f7.params[j]? = some t → args[j]? = some v → Value.okWide Try.prog W .any base t v := hval0
  have hW' := hW
  obtain ⟨p, q, hA0, hV, rfl, hfz, hnd⟩ := hW
  have hA : DataW.TrodAll enc Try.prog W 0 (fun _ => true) true Try.f7.params.toList args.toList ds p := hA0
  rw [Try.params7] at hA hval
  obtain ⟨v0, vs0, d0, ds0, p0, q0, hargs, rfl, rfl, h0, r0⟩ := trodAll_cons hA
  obtain ⟨rfl, rfl, rfl⟩ := trodAll_nil r0
  obtain rfl : args = #[v0] := by cases args; simp_all
  obtain ⟨rfl, rfl⟩ := trodVars_none hV
  obtain ⟨l0, i0, m0⟩ := read_int h0 (hval 0 3 v0 rfl rfl)
  have lt0 : ∀ x ∈ p0, x.block < W.heap.size := by obtain ⟨m, hm⟩ := h0; exact DataW.trod_lt m _ _ _ hm
  clear hA0 hval0
  refine (walk i0 m0).mono fun e W' ⟨he, bel⟩ => ?_
  subst he
  exact ⟨_, rfl, _, _, _, [], _, [], hW', trodAll_mk1 (shut_bool Try.underlying4 _), (trodAll_cons_mk (Below.trod laidOut (by kernel_rfl) (of_decide_eq_true (by kernel_rfl)) h0 bel lt0) trodAll_mk0), rfl, bel.frame _, fun h => by cases h⟩

theorem over : Rows.scanLongRow.holds Try.pinned (OpenSpec.ofChange Rows.scanLongSpec) :=
  OpenClaim.holds_of_wide 7 Try.f7 rfl rfl rfl rfl rfl rfl rfl ⟨rfl, rfl, rfl, rfl, rfl⟩ rfl rfl rfl rfl rfl (by kernel_rfl) Try.func7 (by kernel_rfl)
    (of_decide_eq_true (by kernel_rfl)) (by unfold Func.isWrapper; first | (rw [if_pos (by decide +kernel)]; kernel_rfl) | (rw [if_neg (by decide +kernel)]; exact ⟨rfl, rfl⟩))
    (fun os started H enc _ => lifted os started H enc)

/-- The statement. -/
theorem proved : Rows.ScanLongSaid := over

#print axioms proved
end Go.Proofs.Ytehoepliiobliaa.scanLong
