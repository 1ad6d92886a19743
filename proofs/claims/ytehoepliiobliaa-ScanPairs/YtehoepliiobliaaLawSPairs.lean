/-
  Proved: ScanPairs answers true for every two texts, and leaves what was handed in as it was. No condition.
-/
import Derived.Test.YtehoepliiobliaaScanShown
import Derived.Test.YtehoepliiobliaaScanLaws
import Derived.Test.YtehoepliiobliaaSFrame
import Derived.Test.YtehoepliiobliaaSBytes
namespace Go.Proofs.Ytehoepliiobliaa.scanPairs
open Go.RowKit Go.ChangeShapes Go.WideShapes Go.ChangeAt
set_option linter.unusedVariables false
set_option linter.unusedSimpArgs false
set_option maxRecDepth 20000

theorem whole (a b : Bytes) : scanA 0 (a ++ [10] ++ b) = Scan.join ((scanA 0 b).up (a.length + 1)) (scanA 0 a) := by
  have e : a ++ [10] ++ b = a ++ 10 :: b := by simp
  rw [e, scan_join (a.length + 1) _ _ _ (Nat.lt_succ_self _)]
  have h := scan_up (a.length + 1) (b.length + 1) b 0 (Nat.lt_succ_self _)
  rw [← h]
  simp only [Nat.zero_add]

theorem one_bad {a b : Bytes} {p : Nat} {e : Int} (h : scanA 0 a = .bad p e) : scanA 0 (a ++ [10] ++ b) = .bad p e := by rw [whole, h]; rfl
theorem two_bad {a b : Bytes} {ts : List Tok} {p : Nat} {e : Int} (h : scanA 0 a = .good ts) (h' : scanA 0 b = .bad p e) : scanA 0 (a ++ [10] ++ b) = .bad (p + (a.length + 1)) e := by rw [whole, h, h']; rfl
theorem both {a b : Bytes} {xs ys : List Tok} (h : scanA 0 a = .good xs) (h' : scanA 0 b = .good ys) : ∃ zs, scanA 0 (a ++ [10] ++ b) = .good zs ∧ zs.length + 1 = xs.length + ys.length ∧ (∀ i (h1 : i + 1 < xs.length) (h2 : i < zs.length), zs[i] = (xs[i]'(by omega))) ∧ ∀ i (h1 : i + 1 < xs.length + ys.length) (h2 : i < zs.length) (h3 : xs.length ≤ i + 1), zs[i] = (ys[i + 1 - xs.length]'(by omega)).up (a.length + 1) := by
  have hne := scan_ne (a.length + 1) a 0 xs (Nat.lt_succ_self _) h
  have hl : 0 < xs.length := List.length_pos_iff.2 hne
  rw [whole, h, h']
  refine ⟨xs.dropLast ++ ys.map (Tok.up (a.length + 1)), rfl, by simp; omega, fun i h1 h2 => ?_, fun i h1 h2 h3 => ?_⟩
  · rw [List.getElem_append_left (by simp; omega), List.getElem_dropLast]
  · rw [List.getElem_append_right (by simp; omega), List.getElem_map]
    congr 2
    simp
    omega

theorem cellA {w : World} {a : Addr} {v : Value} (h : w.cell? a = some v) (o : Obj) : (w.alloc o).cell? a = some v := Below.cell_of ((Below.refl _ _).alloc (Nat.le_refl _) o) h

set_option maxHeartbeats 4000000 in
theorem walk {s t : ByteArray} {v0 v1 : Value} {w : World} (i0 : v0 = .string s) (m0 : s.size ≤ maxLen) (i1 : v1 = .string t) (m1 : t.size ≤ maxLen) :
    Calls Try.prog 8 #[v0, v1] w fun e w' => e = .returned (.bool true) ∧ Below w.heap.size w w' := by
  subst i0 i1
  unfold maxLen at m0 m1
  obtain ⟨a, hae⟩ : ∃ T, T = s.extract 0 (min (s.size : Int) 1000).toNat := ⟨_, rfl⟩
  obtain ⟨b, hbe⟩ : ∃ T, T = t.extract 0 (min (t.size : Int) 1000).toNat := ⟨_, rfl⟩
  have ha : a.size ≤ 1000 := by rw [hae, ByteArray.size_extract]; omega
  have hb : b.size ≤ 1000 := by rw [hbe, ByteArray.size_extract]; omega
  have e1 : (⟨#[10]⟩ : ByteArray).size = 1 := rfl
  have hz1 : a.size + (⟨#[10]⟩ : ByteArray).size ≤ 9223372036854775807 := by rw [e1]; omega
  have hz2 : (a ++ ⟨#[10]⟩ : ByteArray).size + b.size ≤ 9223372036854775807 := by rw [ByteArray.size_append, e1]; omega
  have hz3 : (a ++ ⟨#[10]⟩ ++ b : ByteArray).size ≤ 100000 := by rw [ByteArray.size_append, ByteArray.size_append, e1]; omega
  have hp1 := fun W => run_string_add_sum (P := Try.prog) W a ⟨#[10]⟩ hz1
  have hp2 := fun W => run_string_add_sum (P := Try.prog) W (a ++ ⟨#[10]⟩) b hz2
  have hlb : lb (a ++ ⟨#[10]⟩ ++ b) = lb a ++ [10] ++ lb b := by rw [lb_append, lb_append]
  have HP1 := hide hp1
  have HP2 := hide hp2
  have HAE := hide hae
  have HBE := hide hbe
  clear hz1 hz2 hp1 hp2 hae hbe e1
  go_enter Try.func8, Try.ntmps8
  go_wp2_with fail
  refine (shown_any _).mono ?_
  rintro e w1 ⟨rfl, hb1⟩
  go_wp2_with fail
  rw [← unhide HAE, ← unhide HBE]
  have hp1 := unhide HP1
  have hp2 := unhide HP2
  clear HAE HBE HP1 HP2
  cases hX : scanA 0 (lb a) with
  | bad p er =>
    have hne : (er != 0) = true := by have := (scan_place _ _ _ _ _ (Nat.lt_succ_self _) hX).2.2; simpa using this
    refine (all_bad a p er hX (by omega) _).mono ?_
    rintro e w2 ⟨rfl, hb2⟩
    have HY : Hid (∀ W : World, Calls Try.prog 11 #[.string b] W fun e w' => ∃ u v x, e = .returned (.tuple #[u, v, x]) ∧ Below W.heap.size W w') := hide (fun W => (all_any b W (by omega)).mono fun e w' ⟨he, hbb⟩ => by
      cases hs : scanA 0 (lb b) with
      | bad q e' => rw [hs] at he; exact ⟨_, _, _, he, hbb⟩
      | good l => rw [hs] at he; obtain ⟨v, he, _⟩ := he; exact ⟨_, _, _, he, hbb⟩)
    go_wp2_with fail
    refine (unhide HY _).mono ?_
    rintro e w3 ⟨u, v, x, rfl, hb3⟩
    go_wp2_with fail
    refine (all_bad _ p er (by rw [hlb]; exact one_bad hX) hz3 _).mono ?_
    rintro e w4 ⟨rfl, hb4⟩
    clear hX hlb hz3 HY hp1 hp2
    go_wp2
    go_ret
    exact ⟨rfl, below_then (below_then (below_then hb1 hb2) hb3) hb4⟩
  | good xs =>
    have hxl : xs.length ≤ 1001 := by have := scan_le hX; rw [lb_len] at this; omega
    refine (all_good a xs hX (by omega) _).mono ?_
    rintro e w2 ⟨xa, xc, rfl, hx, hxc1, hxc2, hb2⟩
    go_wp2_with fail
    cases hY : scanA 0 (lb b) with
    | bad q er =>
      obtain ⟨hq1, hq2, hq3⟩ := scan_place _ _ _ _ _ (Nat.lt_succ_self _) hY
      rw [lb_len] at hq2
      have hne : (er != 0) = true := by simpa using hq3
      refine (all_bad b q er hY (by omega) _).mono ?_
      rintro e w3 ⟨rfl, hb3⟩
      go_wp2_with fail
      refine (all_bad _ _ er (by rw [hlb]; exact two_bad hX hY) hz3 _).mono ?_
      rintro e w4 ⟨rfl, hb4⟩
      rw [show ((q + ((lb a).length + 1) : Nat) : Int) = (a.size : Int) + 1 + (q : Int) by rw [lb_len]; omega]
      clear hX hY hlb hz3 hp1 hp2 hx
      go_wp2
      go_ret
      exact ⟨rfl, below_then (below_then (below_then hb1 hb2) hb3) hb4⟩
    | good ys =>
      have hyl : ys.length ≤ 1001 := by have := scan_le hY; rw [lb_len] at this; omega
      have HYA : Hid (∀ t ∈ ys, t.at_ ≤ 1000) := hide (fun t ht => by have := scan_at hY ht; rw [lb_len] at this; omega)
      obtain ⟨zs, hZ, hzl, hz1, hz2⟩ := both hX hY
      have hx0 : 0 < xs.length := List.length_pos_iff.2 (scan_ne _ _ _ _ (Nat.lt_succ_self _) hX)
      have hy0 : 0 < ys.length := List.length_pos_iff.2 (scan_ne _ _ _ _ (Nat.lt_succ_self _) hY)
      rw [lb_len] at hz2
      refine (all_good b ys hY (by omega) _).mono ?_
      rintro e w3 ⟨ya, yc, rfl, hy, hyc1, hyc2, hb3⟩
      go_wp2_with fail
      refine (all_good _ zs (by rw [hlb]; exact hZ) hz3 _).mono ?_
      rintro e w4 ⟨za, zc, rfl, hz, hzc1, hzc2, hb4⟩
      have HX := hide ((hx.below hb3).below hb4)
      have HY := hide (hy.below hb4)
      have HZ := hide hz
      have HBB := hide (below_then (below_then (below_then hb1 hb2) hb3) hb4)
      have H1 := hide hz1
      have H2 := hide hz2
      have hneq : ((zs.length : Int) != (xs.length : Int) + (ys.length : Int) - 1) = false := by simp; omega
      have HZL := hide hzl
      clear hX hY hlb hz3 hp1 hp2 hx hy hz hZ hb1 hb2 hb3 hb4 hz1 hz2 hzl
      go_wp2
      clear hneq
      go_loopw [15] (fun i wr => ∃ k : Nat, k ≤ zs.length ∧ i = .int .i64 k ∧ Below w4.heap.size w4 wr) (fun i _ => zs.length - (intOf i).toNat)
      case atStart => exact ⟨0, by omega, rfl, Below.refl _ _⟩
      case round =>
        obtain ⟨k, hk, rfl, hbr⟩ := hrel
        rename World => wr
        have hzl := unhide HZL
        by_cases hlt : k < zs.length
        · obtain ⟨zb, zo, rfl, c0, c1, c2, c3⟩ := ((unhide HZ).below hbr).at (i := k) hlt
          by_cases hin : k + 1 < xs.length
          · obtain ⟨xb, xo, rfl, d0, d1, d2, d3⟩ := ((unhide HX).below hbr).at (i := k) (by omega)
            rw [unhide H1 k hin hlt] at c0 c1 c2 c3
            have hin' : (k : Int) < (xs.length : Int) - 1 := by omega
            generalize xs[k].kind = K at *
            generalize (⟨xs[k].text.toArray⟩ : ByteArray) = X at *
            generalize xs[k].n = N at *
            generalize (xs[k].at_ : Int) = A at *
            have HBR := hide hbr
            clear hbr hzl
            go_wp2
            go_quiet (fail)
            go_wp2
            go_roundw
            case rel => exact ⟨k + 1, by omega, by go_num, Below.drewN1 (unhide HBR) _⟩
            case measure => simp [intOf]; omega
          · obtain ⟨j, hj⟩ : ∃ j, j = k + 1 - xs.length := ⟨_, rfl⟩
            have hjy : j < ys.length := by omega
            obtain ⟨yb, yo, rfl, d0, d1, d2, d3⟩ := ((unhide HY).below hbr).at (i := j) hjy
            have hzk := unhide H2 k (by omega) hlt (by omega)
            have hjj : ys[k + 1 - xs.length]'(by omega) = ys[j] := by congr 1; exact hj.symm
            rw [hzk, hjj] at c0 c1 c2 c3
            simp only [Tok.up] at c0 c1 c2 c3
            rw [show ((ys[j].at_ + (a.size + 1) : Nat) : Int) = (ys[j].at_ : Int) + (a.size : Int) + 1 by omega] at c3
            have hin' : ¬ (k : Int) < (xs.length : Int) - 1 := by omega
            have hjI : (k : Int) - (xs.length : Int) + 1 = (j : Int) := by omega
            have hA1 : (ys[j].at_ : Int) ≤ 1000 := by have := unhide HYA ys[j] (List.getElem_mem _); omega
            have hA0 : 0 ≤ (ys[j].at_ : Int) := by omega
            generalize ys[j].kind = K at *
            generalize (⟨ys[j].text.toArray⟩ : ByteArray) = X at *
            generalize ys[j].n = N at *
            generalize (ys[j].at_ : Int) = A at *
            have c0' := cellA c0
            have c1' := cellA c1
            have c2' := cellA c2
            have c3' := cellA c3
            have HBR := hide hbr
            have HZR := hide hbr.size
            clear hbr hzl hzk hjj hj
            go_wp2
            go_quiet (fail)
            go_wp2
            go_roundw
            case rel => exact ⟨k + 1, by omega, by go_num, Below.drewN1 ((unhide HBR).alloc (unhide HZR) _) _⟩
            case measure => simp [intOf]; omega
        · go_wp2
          go_ret
          exact ⟨rfl, below_then (unhide HBB) hbr⟩

set_option maxRecDepth 100000 in
theorem lifted (os : Os) (started : os.Started) (H : Type) (enc : TypeId × Value → H) :
    ReturnsInHanded {} Try.checked os 8 .any (Rows.scanPairsSpec.pre6 enc Try.prog Try.f8 Rows.scanPairsRow.domain false) (Rows.scanPairsSpec.post enc Try.prog Try.f8 false true false false) := by
  refine returnsInHanded_of_change (C := Try.checked) own started (by kernel_rfl) Try.func8
    (ChangeSpec.witness6 (enc := enc) (C := Try.checked) false ⟨#[], #[.string ⟨#[]⟩, .string ⟨#[]⟩], []⟩ 8 (by kernel_rfl) (by kernel_rfl) (by kernel_rfl) (by kernel_rfl)) ?_
  intro W base args ds gs before hval0 hW hcnd _
  have hval : ∀ (j : Nat) t v, Try.f8.params[j]? = some t → args[j]? = some v → Value.okWide Try.prog W .any base t v := hval0
  have hW' := hW
  obtain ⟨p, q, hA0, hV, rfl, hfz, hnd⟩ := hW
  have hA : DataW.TrodAll enc Try.prog W 0 (fun _ => true) true Try.f8.params.toList args.toList ds p := hA0
  rw [Try.params8] at hA hval
  obtain ⟨v0, vs0, d0, ds0, p0, q0, hargs, rfl, rfl, h0, r0⟩ := trodAll_cons hA
  obtain ⟨v1, vs1, d1, ds1, p1, q1, rfl, rfl, rfl, h1, r1⟩ := trodAll_cons r0
  obtain ⟨rfl, rfl, rfl⟩ := trodAll_nil r1
  obtain rfl : args = #[v0, v1] := by cases args; simp_all
  obtain ⟨rfl, rfl⟩ := trodVars_none hV
  obtain ⟨l0, i0, m0⟩ := read_string h0 (hval 0 9 v0 rfl rfl)
  have lt0 : ∀ x ∈ p0, x.block < W.heap.size := by obtain ⟨m, hm⟩ := h0; exact DataW.trod_lt m _ _ _ hm
  obtain ⟨l1, i1, m1⟩ := read_string h1 (hval 1 9 v1 rfl rfl)
  have lt1 : ∀ x ∈ p1, x.block < W.heap.size := by obtain ⟨m, hm⟩ := h1; exact DataW.trod_lt m _ _ _ hm
  clear hA0 hval0
  refine (walk i0 m0 i1 m1).mono fun e W' ⟨he, bel⟩ => ?_
  subst he
  exact ⟨_, rfl, _, _, _, [], _, [], hW', trodAll_mk1 (shut_bool Try.underlying4 _), (trodAll_cons_mk (Below.trod laidOut (by kernel_rfl) (of_decide_eq_true (by kernel_rfl)) h0 bel lt0) (trodAll_cons_mk (Below.trod laidOut (by kernel_rfl) (of_decide_eq_true (by kernel_rfl)) h1 bel lt1) trodAll_mk0)), rfl, bel.frame _, fun h => by cases h⟩

theorem over : Rows.scanPairsRow.holds Try.pinned (OpenSpec.ofChange Rows.scanPairsSpec) :=
  OpenClaim.holds_of_wide 8 Try.f8 rfl rfl rfl rfl rfl rfl rfl ⟨rfl, rfl, rfl, rfl, rfl⟩ rfl rfl rfl rfl rfl (by kernel_rfl) Try.func8 (by kernel_rfl)
    (of_decide_eq_true (by kernel_rfl)) (by unfold Func.isWrapper; first | (rw [if_pos (by decide +kernel)]; kernel_rfl) | (rw [if_neg (by decide +kernel)]; exact ⟨rfl, rfl⟩))
    (fun os started H enc _ => lifted os started H enc)

/-- The statement. -/
theorem proved : Rows.ScanPairsSaid := over

#print axioms proved
end Go.Proofs.Ytehoepliiobliaa.scanPairs
