/-
  Proved: BuiltTurned answers true for every number, rows, and values, and leaves them as they were. No condition.
-/
import Derived.Test.YtlbiebnihoekkaaFrame
import Derived.Test.YtlbiebnihoekkaaFrame2
import Derived.Test.YtlbiebnihoekkaaShown7
import Derived.Test.YtlbiebnihoekkaaBRound
import Derived.Test.YtlbiebnihoekkaaSortMath
namespace Go.Proofs.Ytlbiebnihoekkaa.builtTurned
open Go.RowKit Go.ChangeShapes Go.WideShapes Go.ChangeAt
set_option linter.unusedVariables false
set_option linter.unusedSimpArgs false
set_option maxRecDepth 20000

def rng (k : Nat) : List Int := (List.range k).map fun (n : Nat) => (n : Int)
theorem rng_step (k : Nat) : rng (k + 1) = rng k ++ [(k : Int)] := by simp [rng, List.range_succ]
def rndR (rows : List (List Int)) (N k : Nat) : List (List Int) := (rows.take k).map fun t => rndL t N
theorem rndR_step {rows : List (List Int)} {N k : Nat} (h : k < rows.length) : rndR rows N (k + 1) = rndR rows N k ++ [rndL rows[k] N] := by
  unfold rndR; rw [List.take_succ_eq_append_getElem h, List.map_append]; rfl

theorem holds1 {sc v : List Int} {L : List (List Int)} (h : v.length = sc.length) : holdsB ⟨1, sc, L, []⟩ v = decide (v ∈ L) := by simp [holdsB, h]
theorem holds2 {sc v : List Int} {L : List (List Int)} (h : v.length = sc.length) : holdsB ⟨2, sc, L, []⟩ v = !decide (v ∈ L) := by simp [holdsB, h]
theorem saneR {k : Int} {sc : List Int} {L : List (List Int)} (h : sc.length < 1000) (hL : AscL L) (hl : L.length < 100000000) : Sane ⟨k, sc, L, []⟩ := ⟨hL, hl, by simp [Mill], h⟩

set_option maxHeartbeats 4000000 in
theorem walk {l0 : Int} {l1 : List (List Int)} {l2 : List Int} {v0 v1 v2 : Value} {w : World} (i0 : v0 = .int .i64 l0) (m0 : InI64 l0) (i1 : Tups w v1 l1) (m1 : ∀ l ∈ l1, ∀ n ∈ l, InI64 n) (i2 : Ints w v2 l2) (m2 : ∀ n ∈ l2, InI64 n) :
    Calls Try.prog 5 #[v0, v1, v2] w fun e w' => e = .returned (.bool true) ∧ Below w.heap.size w w' := by
  subst i0
  obtain ⟨a, ca, rfl, hla, hca⟩ := i1.form
  obtain ⟨b, cb, rfl, hlb, hcb⟩ := i2.form
  unfold maxLen at hca hcb
  have hr1 : 0 ≤ (bits .and .i64 l0 65535).tmod 4 ∧ (bits .and .i64 l0 65535).tmod 4 < 4 := by
    rw [andW_eq, Int.tmod_eq_emod_of_nonneg (Int.emod_nonneg _ (by decide))]
    omega
  obtain ⟨hr2, hr3⟩ := hr1
  obtain ⟨N, hN⟩ : ∃ N : Nat, 1 + (bits .and .i64 l0 65535).tmod 4 = (N : Int) := ⟨(1 + (bits .and .i64 l0 65535).tmod 4).toNat, by omega⟩
  have hN4 : N ≤ 4 := by omega
  have HN := hide hN
  clear hN m0 m1 m2
  go_enter Try.func5, Try.ntmps5
  go_wp2_with fail
  refine (shown7_any _).mono ?_
  rintro e w1 ⟨rfl, hb1⟩
  have j1 := i1.below hb1
  have j2 := i2.below hb1
  clear i1 i2
  have HB1 := hide hb1
  clear hb1
  go_wp2
  rw [unhide HN]
  clear hr2 hr3
  go_loopw [8, 9] (fun sc i wr => ∃ k : Nat, k ≤ N ∧ i = .int .i64 k ∧ OwnI w1.heap.size wr sc (rng k) ∧ Below w1.heap.size w1 wr) (fun _ i _ => N - (intOf i).toNat)
  case atStart => exact ⟨0, by omega, rfl, own_nilI _ _, Below.refl _ _⟩
  case round =>
    obtain ⟨k, hk, rfl, hos, hbel⟩ := hrel
    rename World => wr
    have hzz := hbel.size
    by_cases hkl : k < N
    · have HR := hide (rng_step k)
      have hls : (rng k).length ≤ 4 := by simp [rng]; omega
      clear j1 j2
      go_wp2_with (at_builtin; refine wp_app_int rfl (.tmp 27) (.tmp 29) rfl hos rfl hzz rfl (by omega) ?_; intro u1 wA hos1 hg1)
      go_roundw
      case rel => exact ⟨k + 1, by omega, by go_num, by rw [unhide HR]; exact hos1, hbel.trans hg1.below⟩
      case measure => simp [intOf]; omega
    · have hke : k = N := by omega
      subst hke
      have hsl : (rng k).length = k := by simp [rng]
      have his := Seq.of_own hos
      generalize rng k = S at *
      obtain ⟨sa, sc, rfl, hsa, hsc⟩ := his.form
      unfold maxLen at hsc
      have j1' := j1.below hbel
      have j2' := j2.below hbel
      have HBL := hide ((unhide HB1).trans (hbel.mono (unhide HB1).size))
      have HIS := hide his
      have HJ2 := hide j2'
      have HSL := hide hsl
      clear hos hbel his j1 j2 j2' HB1 hsl hkl HN hsa
      go_wp2
      go_loopw [10, 11] (fun v i wq => ∃ j : Nat, j ≤ l1.length ∧ j ≤ 20 ∧ i = .int .i64 j ∧ OwnT wr.heap.size wq v (rndR l1 k j) ∧ Below wr.heap.size wr wq) (fun _ i _ => l1.length - (intOf i).toNat)
      case atStart => exact ⟨0, by omega, by omega, rfl, OwnT.lit (Nat.le_refl _), (Below.refl _ _).alloc (Nat.le_refl _) _⟩
      case round =>
        obtain ⟨j, hj, hj20, rfl, hown, hbel⟩ := hrel
        rename World => wq
        have hzq := hbel.size
        by_cases hjj : j < l1.length ∧ j < 20
        · obtain ⟨hjl, hjt⟩ := hjj
          obtain ⟨bl, ol, ul, rfl, hcl, hiL⟩ := (j1'.below hbel).at hjl
          obtain ⟨ia, ic, rfl, _, hic⟩ := hiL.form
          have HRD := hide (round_any (n := k) hiL (by omega))
          have HC := hide (rndR_step (N := k) hjl)
          have hlen : (rndR l1 k j).length ≤ 20 := by simp [rndR]; omega
          generalize rndL l1[j] k = R at *
          generalize rndR l1 k j = LL at *
          clear hiL j1'
          go_wp2_with fail
          refine (unhide HRD).mono ?_
          rintro e w3 ⟨u3, rfl, hu3, hb3⟩
          have hown3 := hown.below hb3
          have hi3 := Seq.of_own hu3
          have hap := hide (show Sep _ _ from (Sep.of_new hown.new (Nat.le_refl _) (New.of_own hu3)).symm)
          have hz3 : wr.heap.size ≤ w3.heap.size := Nat.le_trans hzq hb3.size
          obtain ⟨xa, xc, rfl, _, _⟩ := hi3.form
          have HB3 := hide (hbel.trans (hb3.mono hzq))
          clear hown hu3 hb3 hbel
          go_wp2_with (at_builtin; refine wp_app_tup rfl (.tmp 42) (.tmp 49) rfl hown3 hi3 (fun _ => unhide hap) rfl hz3 rfl (by omega) ?_; intro v4 w4 hown4 hg4)
          go_roundw
          case rel => exact ⟨j + 1, by omega, by omega, by go_num, by rw [unhide HC]; exact hown4, (unhide HB3).trans hg4.below⟩
          case measure => simp [intOf]; omega
        · have hlen : (rndR l1 k j).length ≤ 20 := by simp [rndR]; omega
          have HSRT := hide (refSort_any hown.tups (by omega) (fun t ht => by
            obtain ⟨x, _, rfl⟩ := List.mem_map.1 ht
            rw [rnd_len]; omega))
          have hasc := (sortL_spec (rndR l1 k j)).1
          have hsll := sortL_le (rndR l1 k j)
          have hok : Hid (decide (j < l1.length) = false ∨ (j < l1.length ∧ ¬ j < 20)) := hide (by
            by_cases h1 : j < l1.length
            · exact .inr ⟨h1, fun h2 => hjj ⟨h1, h2⟩⟩
            · exact .inl (by simpa using h1))
          obtain ⟨va, vc, rfl, hva, hvc⟩ := hown.tups.form
          generalize hLL : rndR l1 k j = LL at *
          generalize hSS : sortL LL = L at *
          have HVm : Hid (Mill (rndL l2 k)) := hide (fun x hx => by have := rnd_range hx; omega)
          have HVl := hide (rnd_len l2 k)
          have HRD := hide (fun W hb => round_any (n := k) (w := W) ((unhide HJ2).below hb) (by omega))
          generalize rndL l2 k = V at *
          have HBQ := hide hbel
          have HASC := hide hasc
          clear hLL hSS hown j1' hjj hbel hasc
          rcases unhide hok with h1 | ⟨h1, h2⟩
          all_goals
            clear hok
            go_wp2_with fail
            refine (unhide HSRT).mono ?_
            rintro e w5 ⟨u5, rfl, hu5, hun5, hb5⟩
            have hB5 := (unhide HBQ).trans (hb5.mono hzq)
            clear hb5 hun5
            obtain ⟨ra, rc, rfl, _, _⟩ := hu5.form
            go_wp2_with fail
            refine (unhide HRD _ hB5).mono ?_
            rintro e w6 ⟨u6, rfl, hu6, hb6⟩
            have hi6 := Seq.of_own hu6
            have ht6 := hu5.below hb6
            have hB6 := hB5.trans (hb6.mono hB5.size)
            obtain ⟨xa, xc, rfl, _, _⟩ := hi6.form
            have HFD := hide (refFind_any ht6 hi6)
            rw [isAt_low (unhide HASC)] at HFD
            have H1 := hide (fun W (hb : Below w6.heap.size w6 W) => holds_any (c := ⟨1, S, L, []⟩) (v := .agg #[.int .i64 1, .slice sa S.length sc, .slice ra L.length rc, .slice none 0 0]) (w := W) ⟨_, _, _, rfl, ((unhide HIS).below hB6).below hb, ht6.below hb, Seq.nil _ _⟩ (hi6.below hb) (saneR (by have := unhide HSL; omega) (unhide HASC) (by omega)) (unhide HVm))
            have H2 := hide (fun W (hb : Below w6.heap.size w6 W) => holds_any (c := ⟨2, S, L, []⟩) (v := .agg #[.int .i64 2, .slice sa S.length sc, .slice ra L.length rc, .slice none 0 0]) (w := W) ⟨_, _, _, rfl, ((unhide HIS).below hB6).below hb, ht6.below hb, Seq.nil _ _⟩ (hi6.below hb) (saneR (by have := unhide HSL; omega) (unhide HASC) (by omega)) (unhide HVm))
            rw [holds1 (by rw [unhide HVl, unhide HSL])] at H1
            rw [holds2 (by rw [unhide HVl, unhide HSL])] at H2
            generalize decide (V ∈ L) = D at *
            generalize lowN L V = lo at *
            have HFin := hide ((unhide HBL).trans (hB6.mono (unhide HBL).size))
            clear hu6 hi6 ht6 hb6 hB6 hB5 hu5
            go_wp2_with fail
            refine (unhide HFD).mono ?_
            rintro e w7 ⟨rfl, m7, rfl⟩
            go_wp2_with fail
            refine (unhide H1 _ (Below.drewN _ _)).mono ?_
            rintro e w8 ⟨rfl, hb8⟩
            have hB8 := below_then (Below.drewN w6 m7) hb8
            clear hb8
            go_wp2_with fail
            refine (unhide H2 _ hB8).mono ?_
            rintro e w9 ⟨rfl, hb9⟩
            have hB9 := below_then hB8 hb9
            clear hb9 hB8
            go_wp2
            go_ret
            exact ⟨by cases D <;> rfl, below_then (unhide HFin) hB9⟩

set_option maxRecDepth 100000 in
theorem lifted (os : Os) (started : os.Started) (H : Type) (enc : TypeId × Value → H) :
    ReturnsInHanded {} Try.checked os 5 .any (Rows.builtTurnedSpec.pre6 enc Try.prog Try.f5 Rows.builtTurnedRow.domain false) (Rows.builtTurnedSpec.post enc Try.prog Try.f5 false true false false) := by
  refine returnsInHanded_of_change (C := Try.checked) own started (by kernel_rfl) Try.func5
    (ChangeSpec.witness6 (enc := enc) (C := Try.checked) false ⟨#[], #[.int .i64 0, .slice none 0 0, .slice none 0 0], []⟩ 8 (by kernel_rfl) (by kernel_rfl) (by kernel_rfl) (by kernel_rfl)) ?_
  intro W base args ds gs before hval0 hW hcnd _
  have hval : ∀ (j : Nat) t v, Try.f5.params[j]? = some t → args[j]? = some v → Value.okWide Try.prog W .any base t v := hval0
  have hW' := hW
  obtain ⟨p, q, hA0, hV, rfl, hfz, hnd⟩ := hW
  have hA : DataW.TrodAll enc Try.prog W 0 (fun _ => true) true Try.f5.params.toList args.toList ds p := hA0
  rw [Try.params5] at hA hval
  obtain ⟨v0, vs0, d0, ds0, p0, q0, hargs, rfl, rfl, h0, r0⟩ := trodAll_cons hA
  obtain ⟨v1, vs1, d1, ds1, p1, q1, rfl, rfl, rfl, h1, r1⟩ := trodAll_cons r0
  obtain ⟨v2, vs2, d2, ds2, p2, q2, rfl, rfl, rfl, h2, r2⟩ := trodAll_cons r1
  obtain ⟨rfl, rfl, rfl⟩ := trodAll_nil r2
  obtain rfl : args = #[v0, v1, v2] := by cases args; simp_all
  obtain ⟨rfl, rfl⟩ := trodVars_none hV
  obtain ⟨l0, i0, m0⟩ := read_int h0 (hval 0 3 v0 rfl rfl)
  have lt0 : ∀ x ∈ p0, x.block < W.heap.size := by obtain ⟨m, hm⟩ := h0; exact DataW.trod_lt m _ _ _ hm
  obtain ⟨l1, i1, m1⟩ := read_tups h1 (okWide_slice Try.underlying22 (hval 1 22 v1 rfl rfl))
  have lt1 : ∀ x ∈ p1, x.block < W.heap.size := by obtain ⟨m, hm⟩ := h1; exact DataW.trod_lt m _ _ _ hm
  obtain ⟨l2, i2, m2⟩ := read_ints h2 (okWide_slice Try.underlying29 (hval 2 29 v2 rfl rfl))
  have lt2 : ∀ x ∈ p2, x.block < W.heap.size := by obtain ⟨m, hm⟩ := h2; exact DataW.trod_lt m _ _ _ hm
  clear hA0 hval0
  refine (walk i0 m0 i1 m1 i2 m2).mono fun e W' ⟨he, bel⟩ => ?_
  subst he
  exact ⟨_, rfl, _, _, _, [], _, [], hW', trodAll_mk1 (shut_bool Try.underlying4 _), (trodAll_cons_mk (Below.trod laidOut (by kernel_rfl) (of_decide_eq_true (by kernel_rfl)) h0 bel lt0) (trodAll_cons_mk (Below.trod laidOut (by kernel_rfl) (of_decide_eq_true (by kernel_rfl)) h1 bel lt1) (trodAll_cons_mk (Below.trod laidOut (by kernel_rfl) (of_decide_eq_true (by kernel_rfl)) h2 bel lt2) trodAll_mk0))), rfl, bel.frame _, fun h => by cases h⟩

theorem over : Rows.builtTurnedRow.holds Try.pinned (OpenSpec.ofChange Rows.builtTurnedSpec) :=
  OpenClaim.holds_of_wide 5 Try.f5 rfl rfl rfl rfl rfl rfl rfl ⟨rfl, rfl, rfl, rfl, rfl⟩ rfl rfl rfl rfl rfl (by kernel_rfl) Try.func5 (by kernel_rfl)
    (of_decide_eq_true (by kernel_rfl)) (by unfold Func.isWrapper; first | (rw [if_pos (by decide +kernel)]; kernel_rfl) | (rw [if_neg (by decide +kernel)]; exact ⟨rfl, rfl⟩))
    (fun os started H enc _ => lifted os started H enc)

/-- The statement. -/
theorem proved : Rows.BuiltTurnedSaid := over
#print axioms proved
end Go.Proofs.Ytlbiebnihoekkaa.builtTurned
