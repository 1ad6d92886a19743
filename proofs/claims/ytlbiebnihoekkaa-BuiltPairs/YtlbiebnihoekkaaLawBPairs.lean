/-
  Proved: BuiltPairs answers true for every row of values, and leaves it as it was. No condition.
-/
import Derived.Test.YtlbiebnihoekkaaFrame
import Derived.Test.YtlbiebnihoekkaaShown7
namespace Go.Proofs.Ytlbiebnihoekkaa.builtPairs
open Go.RowKit Go.ChangeShapes Go.WideShapes Go.ChangeAt
set_option linter.unusedVariables false
set_option linter.unusedSimpArgs false
set_option maxRecDepth 20000

def inB (f : Int → Int → Bool) (v : List Int) (i k : Nat) : Bool := (List.range k).all fun j => f (v.getD i 0) (v.getD j 0)
def outB (f : Int → Int → Bool) (v : List Int) (i : Nat) : Bool := (List.range i).all fun a => inB f v a a

theorem in_step (f : Int → Int → Bool) (v : List Int) (i k : Nat) : inB f v i (k + 1) = (inB f v i k && f (v.getD i 0) (v.getD k 0)) := by simp [inB, List.range_succ, List.all_append]
theorem out_step (f : Int → Int → Bool) (v : List Int) (i : Nat) : outB f v (i + 1) = (outB f v i && inB f v i i) := by simp [outB, List.range_succ, List.all_append]
theorem in_zero (f : Int → Int → Bool) (v : List Int) (i : Nat) : inB f v i 0 = true := rfl
theorem out_zero (f : Int → Int → Bool) (v : List Int) : outB f v 0 = true := rfl

theorem out_iff (f : Int → Int → Bool) (v : List Int) (n : Nat) : outB f v n = true ↔ ∀ a, a < n → ∀ j, j < a → f (v.getD a 0) (v.getD j 0) = true := by
  simp [outB, inB, List.all_eq_true]

def fD (x y : Int) : Bool := x != y
def fE (x y : Int) : Bool := x == y
def fR (x y : Int) : Bool := decide (y < x)

theorem getD_at {v : List Int} {i : Nat} (h : i < v.length) : v.getD i 0 = v[i] := by simp [List.getD_eq_getElem?_getD, h]

theorem end_diff (v : List Int) : outB fD v v.length = unlikeB v := by
  rw [Bool.eq_iff_iff, out_iff, unlikeB, decide_eq_true_eq]
  constructor
  · intro h j hj hm
    obtain ⟨i, hi, e⟩ := List.mem_iff_getElem.1 hm
    simp only [List.length_take] at hi
    rw [List.getElem_take] at e
    have := h j hj i (by omega)
    rw [getD_at hj, getD_at (by omega)] at this
    simp [fD] at this
    exact this e.symm
  · intro h a ha j hj
    rw [getD_at ha, getD_at (by omega)]
    simp only [fD, bne_iff_ne, ne_eq]
    intro e
    refine h a ha ?_
    rw [e]
    exact List.mem_iff_getElem.2 ⟨j, by simp; omega, by simp⟩

theorem end_equal (v : List Int) : outB fE v v.length = alikeB v := by
  rw [Bool.eq_iff_iff, out_iff, alikeB, decide_eq_true_eq]
  constructor
  · intro h j hj
    cases j with
    | zero => rw [getD_at hj]
    | succ j =>
      have := h (j + 1) hj 0 (by omega)
      rw [getD_at hj] at this
      simpa [fE] using this
  · intro h a ha j hj
    rw [getD_at ha, getD_at (by omega), h a ha, h j (by omega)]
    simp [fE]

theorem end_rising (v : List Int) : outB fR v v.length = risB v := by
  rw [Bool.eq_iff_iff, out_iff, risB_iff, Asc, List.pairwise_iff_getElem]
  constructor
  · intro h i j hi hj hij
    have := h j hj i hij
    rw [getD_at hj, getD_at hi] at this
    simpa [fR] using this
  · intro h a ha j hj
    rw [getD_at ha, getD_at (by omega)]
    simpa [fR] using h j a (by omega) ha hj

theorem holds3 {sc v : List Int} (h : v.length = sc.length) : holdsB ⟨3, sc, [], []⟩ v = unlikeB v := by simp [holdsB, h]
theorem holds4 {sc v : List Int} (h : v.length = sc.length) : holdsB ⟨4, sc, [], []⟩ v = alikeB v := by simp [holdsB, h]
theorem holds5 {sc v : List Int} (h : v.length = sc.length) : holdsB ⟨5, sc, [], []⟩ v = risB v := by simp [holdsB, h]

def cutV (l : List Int) (k : Nat) : List Int := (l.take k).map fun x => x.tmod 1000000
def rng (k : Nat) : List Int := (List.range k).map fun (n : Nat) => (n : Int)
theorem rng_step (k : Nat) : rng (k + 1) = rng k ++ [(k : Int)] := by simp [rng, List.range_succ]
theorem cutV_step {l : List Int} {k : Nat} (h : k < l.length) : cutV l (k + 1) = cutV l k ++ [l[k].tmod 1000000] := by
  unfold cutV; rw [List.take_succ_eq_append_getElem h, List.map_append]; rfl
theorem tmod_mill (x : Int) : -1000000 ≤ x.tmod 1000000 ∧ x.tmod 1000000 ≤ 1000000 := by
  have h := Int.natAbs_tmod x 1000000
  have : x.natAbs % (1000000 : Int).natAbs < 1000000 := Nat.mod_lt _ (by decide)
  omega

theorem saneE {k : Int} {sc : List Int} (h : sc.length < 1000) : Sane ⟨k, sc, [], []⟩ := ⟨List.Pairwise.nil, by simp, by simp [Mill], h⟩

set_option maxHeartbeats 8000000 in
theorem walk {l0 : List Int} {v0 : Value} {w : World} (i0 : Ints w v0 l0) (m0 : ∀ n ∈ l0, InI64 n) :
    Calls Try.prog 7 #[v0] w fun e w' => e = .returned (.bool true) ∧ Below w.heap.size w w' := by
  obtain ⟨a, ca, rfl, hla, hca⟩ := i0.form
  unfold maxLen at hca
  obtain ⟨N, hN⟩ : ∃ N : Nat, min (l0.length : Int) 6 = (N : Int) := ⟨min l0.length 6, by omega⟩
  have hN6 : N ≤ 6 := by omega
  have hNl : N ≤ l0.length := by omega
  have hmin : ∀ W ts t, (Builtin.min_ ts t #[.int .i64 (l0.length : Int), .int .i64 6]).run Try.prog W = .ok (.int .i64 (N : Int)) W := fun W ts t => by rw [run_min_int2]; split <;> (congr 2; omega)
  go_enter Try.func7, Try.ntmps7
  go_wp2_with fail
  refine (shown7_any _).mono ?_
  rintro e w1 ⟨rfl, hb1⟩
  have j0 := i0.below hb1
  clear i0
  by_cases hz : N = 0
  · subst hz
    go_wp2
    go_ret
    exact ⟨rfl, hb1⟩
  · have hz' : ((N : Int) == 0) = false := by rw [beq_eq_false_iff_ne]; omega
    clear hz
    have HB1 := hide hb1
    have hs1 := hb1.size
    clear hb1
    go_wp2
    go_loopw [5, 6, 7] (fun v sc i wr => ∃ k : Nat, k ≤ N ∧ i = .int .i64 k ∧ OwnI w1.heap.size wr v (cutV l0 k) ∧ OwnI w1.heap.size wr sc (rng k) ∧ Sep v sc ∧ Below w1.heap.size w1 wr) (fun _ _ i _ => N - (intOf i).toNat)
    case atStart => exact ⟨0, by omega, rfl, own_nilI _ _, own_nilI _ _, Sep.nil _, Below.refl _ _⟩
    case round =>
      obtain ⟨k, hk, rfl, hov, hos, hsep, hbel⟩ := hrel
      rename World => wr
      have hzz := hbel.size
      by_cases hkl : k < N
      · have hkl0 : k < l0.length := by omega
        obtain ⟨b1, o1, rfl, hc1⟩ := (j0.below hbel).at hkl0
        have hm0 := m0 _ (List.getElem_mem hkl0)
        unfold InI64 at hm0
        have HC := hide (cutV_step hkl0)
        have HR := hide (rng_step k)
        have hlv : (cutV l0 k).length ≤ 6 := by simp [cutV]; omega
        have hls : (rng k).length ≤ 6 := by simp [rng]; omega
        generalize hx : l0[k] = x at *
        clear hx m0 hN hmin
        have hown1 := hov
        go_wp2_with (at_builtin; first
          | (refine wp_app_int rfl (.tmp 25) (.tmp 31) rfl hov rfl hzz rfl (by omega) ?_; intro v1 wA hov1 hg1; have hos1 := own_grew hos hg1 hsep.symm.or; have hsep1 := Sep.grewN hsep.symm (New.of_own hos) hg1; have hzA : w1.heap.size ≤ wA.heap.size := Nat.le_trans hzz hg1.by_.size)
          | (refine wp_app_int rfl (.tmp 33) (.tmp 35) rfl hos1 rfl hzA rfl (by omega) ?_; intro v2 wB hos2 hg2; have hov2 := own_grew hov1 hg2 hsep1.symm.or; have hsep2 := Sep.grewN hsep1.symm (New.of_own hov1) hg2))
        go_roundw
        case rel => exact ⟨k + 1, by omega, by go_num, by rw [unhide HC]; exact hov2, by rw [unhide HR]; exact hos2, hsep2, (hbel.trans hg1.below).trans hg2.below⟩
        case measure => simp [intOf]; omega
      · have hke : k = N := by omega
        subst hke
        have hvl : (cutV l0 k).length = k := by simp [cutV]; omega
        have hsl : (rng k).length = k := by simp [rng]
        have hvm : Mill (cutV l0 k) := fun x hx => by
          obtain ⟨y, _, rfl⟩ := List.mem_map.1 hx
          exact tmod_mill y
        have e3 := holds3 (sc := rng k) (v := cutV l0 k) (by omega)
        have e4 := holds4 (sc := rng k) (v := cutV l0 k) (by omega)
        have e5 := holds5 (sc := rng k) (v := cutV l0 k) (by omega)
        have d3 := end_diff (cutV l0 k)
        have d4 := end_equal (cutV l0 k)
        have d5 := end_rising (cutV l0 k)
        have hiv := Seq.of_own hov
        have his := Seq.of_own hos
        rw [hvl] at d3 d4 d5
        generalize cutV l0 k = V at *
        generalize rng k = S at *
        obtain ⟨va, vc, rfl, hva, hvc⟩ := hiv.form
        obtain ⟨sa, sc, rfl, hsa, hsc⟩ := his.form
        unfold maxLen at hvc hsc
        rw [hvl] at hiv hva ⊢
        rw [hsl] at his hsa ⊢
        have H3 := hide (fun W hb => holds_any (c := ⟨3, S, [], []⟩) (v := .agg #[.int .i64 3, .slice sa k sc, .slice none 0 0, .slice none 0 0]) (w := W) ⟨_, _, _, rfl, his.below hb, tups_nilW _, Seq.nil _ _⟩ (hiv.below hb) (saneE (by omega)) hvm)
        have H4 := hide (fun W hb => holds_any (c := ⟨4, S, [], []⟩) (v := .agg #[.int .i64 4, .slice sa k sc, .slice none 0 0, .slice none 0 0]) (w := W) ⟨_, _, _, rfl, his.below hb, tups_nilW _, Seq.nil _ _⟩ (hiv.below hb) (saneE (by omega)) hvm)
        have H5 := hide (fun W hb => holds_any (c := ⟨5, S, [], []⟩) (v := .agg #[.int .i64 5, .slice sa k sc, .slice none 0 0, .slice none 0 0]) (w := W) ⟨_, _, _, rfl, his.below hb, tups_nilW _, Seq.nil _ _⟩ (hiv.below hb) (saneE (by omega)) hvm)
        rw [e3, ← d3] at H3
        rw [e4, ← d4] at H4
        rw [e5, ← d5] at H5
        clear e3 e4 e5 d3 d4 d5 hvm hsep hov hos hN hmin hkl m0 j0
        have HIV := hide hiv
        have HVL := hide hvl
        have HBL := hide hbel
        clear his hiv hvl hsl hbel
        go_wp2
        go_loopw [8, 9, 10, 11, 12] (fun d e r i _ wx => ∃ (p m : Nat) (D E R : Bool), p ≤ k ∧ i = .int .i64 p ∧ d = .bool D ∧ e = .bool E ∧ r = .bool R ∧ wx = wr.drewN m ∧ Hid (D = outB fD V p ∧ E = outB fE V p ∧ R = outB fR V p)) (fun _ _ _ i _ _ => k - (intOf i).toNat)
        case atStart => exact ⟨0, 0, true, true, true, by omega, rfl, rfl, rfl, rfl, rfl, hide ⟨rfl, rfl, rfl⟩⟩
        case round =>
          obtain ⟨p, m, D, E, R, hp, rfl, rfl, rfl, rfl, rfl, HQ⟩ := hrel
          by_cases hpk : p < k
          · go_wp2
            go_loopw [8, 9, 10, 12] (fun d e r i wx => ∃ (q m : Nat) (D E R : Bool), q ≤ p ∧ i = .int .i64 q ∧ d = .bool D ∧ e = .bool E ∧ r = .bool R ∧ wx = wr.drewN m ∧ Hid (D = (outB fD V p && inB fD V p q) ∧ E = (outB fE V p && inB fE V p q) ∧ R = (outB fR V p && inB fR V p q))) (fun _ _ _ i _ => p - (intOf i).toNat)
            case atStart => exact ⟨0, m, D, E, R, by omega, rfl, rfl, rfl, rfl, rfl, hide (by simpa [in_zero] using unhide HQ)⟩
            case round =>
              clear HQ
              obtain ⟨q, m, D, E, R, hq, rfl, rfl, rfl, rfl, rfl, HQ⟩ := hrel
              by_cases hqp : q < p
              · have hvl := unhide HVL
                have hpv : p < V.length := by omega
                have hqv : q < V.length := by omega
                obtain ⟨bb, oo, e1, hcp⟩ := (unhide HIV).at hpv
                obtain ⟨bb2, oo2, e2, hcq⟩ := (unhide HIV).at hqv
                rw [e1] at e2
                cases e2
                subst e1
                have HQ2 : Hid ((D && (V[p] != V[q])) = (outB fD V p && inB fD V p (q + 1)) ∧ (E && (V[p] == V[q])) = (outB fE V p && inB fE V p (q + 1)) ∧ (R && decide (V[q] < V[p])) = (outB fR V p && inB fR V p (q + 1))) := hide (by
                  obtain ⟨h1, h2, h3⟩ := unhide HQ
                  rw [in_step, in_step, in_step, h1, h2, h3, getD_at hpv, getD_at hqv, Bool.and_assoc, Bool.and_assoc, Bool.and_assoc]
                  exact ⟨rfl, rfl, rfl⟩)
                generalize V[p] = x at *
                generalize V[q] = y at *
                clear hpv hqv hvl HQ HIV HVL H3 H4 H5
                cases D <;> cases E <;> cases R
                all_goals
                  go_wp2
                  go_quiet (fail)
                  go_wp2
                  go_quiet (fail)
                  go_wp2
                  go_quiet (fail)
                  go_wp2
                  go_roundw
                  case rel => exact ⟨q + 1, _, _, _, _, by omega, by go_num, rfl, rfl, rfl, by first | rfl | (simp only [World.drewN_drewN]; rfl), by simpa using HQ2⟩
                  case measure => simp [intOf]; omega
              · have hqe : q = p := by omega
                subst hqe
                have HQ2 : Hid (D = outB fD V (q + 1) ∧ E = outB fE V (q + 1) ∧ R = outB fR V (q + 1)) := hide (by rw [out_step, out_step, out_step]; exact unhide HQ)
                clear HQ
                go_wp2
                go_roundw
                case rel => exact ⟨q + 1, m, D, E, R, by omega, by go_num, rfl, rfl, rfl, rfl, HQ2⟩
                case measure => simp [intOf]; omega
          · have hpe : p = k := by omega
            subst hpe
            obtain ⟨rfl, rfl, rfl⟩ := unhide HQ
            clear HQ
            generalize outB fD V p = D at *
            generalize outB fE V p = E at *
            generalize outB fR V p = R at *
            go_wp2_with fail
            refine (unhide H3 _ (Below.drewN _ _)).mono ?_
            rintro e w2 ⟨rfl, hb2⟩
            have hb2' := below_then (Below.drewN wr m) hb2
            clear hb2
            go_wp2_with fail
            refine (unhide H4 _ hb2').mono ?_
            rintro e w3 ⟨rfl, hb3⟩
            have hb3' := below_then hb2' hb3
            clear hb3 hb2'
            go_wp2_with fail
            refine (unhide H5 _ hb3').mono ?_
            rintro e w4 ⟨rfl, hb4⟩
            have hb4' := below_then hb3' hb4
            clear hb4 hb3'
            go_wp2
            go_ret
            exact ⟨by simp, (unhide HB1).trans (((unhide HBL).trans (hb4'.mono hzz)).mono hs1)⟩

set_option maxRecDepth 100000 in
theorem lifted (os : Os) (started : os.Started) (H : Type) (enc : TypeId × Value → H) :
    ReturnsInHanded {} Try.checked os 7 .any (Rows.builtPairsSpec.pre6 enc Try.prog Try.f7 Rows.builtPairsRow.domain false) (Rows.builtPairsSpec.post enc Try.prog Try.f7 false true false false) := by
  refine returnsInHanded_of_change (C := Try.checked) own started (by kernel_rfl) Try.func7
    (ChangeSpec.witness6 (enc := enc) (C := Try.checked) false ⟨#[], #[.slice none 0 0], []⟩ 8 (by kernel_rfl) (by kernel_rfl) (by kernel_rfl) (by kernel_rfl)) ?_
  intro W base args ds gs before hval0 hW hcnd _
  have hval : ∀ (j : Nat) t v, Try.f7.params[j]? = some t → args[j]? = some v → Value.okWide Try.prog W .any base t v := hval0
  have hW' := hW
  obtain ⟨p, q, hA0, hV, rfl, hfz, hnd⟩ := hW
  have hA : DataW.TrodAll enc Try.prog W 0 (fun _ => true) true Try.f7.params.toList args.toList ds p := hA0
  rw [Try.params7] at hA hval
  obtain ⟨v0, vs0, d0, ds0, p0, q0, hargs, rfl, rfl, h0, r0⟩ := trodAll_cons hA
  obtain ⟨rfl, rfl, rfl⟩ := trodAll_nil r0
  obtain rfl : args = #[v0] := by cases args; simp_all
  obtain ⟨rfl, rfl⟩ := trodVars_none hV
  obtain ⟨l0, i0, m0⟩ := read_ints h0 (okWide_slice Try.underlying29 (hval 0 29 v0 rfl rfl))
  have lt0 : ∀ x ∈ p0, x.block < W.heap.size := by obtain ⟨m, hm⟩ := h0; exact DataW.trod_lt m _ _ _ hm
  clear hA0 hval0
  refine (walk i0 m0).mono fun e W' ⟨he, bel⟩ => ?_
  subst he
  exact ⟨_, rfl, _, _, _, [], _, [], hW', trodAll_mk1 (shut_bool Try.underlying4 _), (trodAll_cons_mk (Below.trod laidOut (by kernel_rfl) (of_decide_eq_true (by kernel_rfl)) h0 bel lt0) trodAll_mk0), rfl, bel.frame _, fun h => by cases h⟩

theorem over : Rows.builtPairsRow.holds Try.pinned (OpenSpec.ofChange Rows.builtPairsSpec) :=
  OpenClaim.holds_of_wide 7 Try.f7 rfl rfl rfl rfl rfl rfl rfl ⟨rfl, rfl, rfl, rfl, rfl⟩ rfl rfl rfl rfl rfl (by kernel_rfl) Try.func7 (by kernel_rfl)
    (of_decide_eq_true (by kernel_rfl)) (by unfold Func.isWrapper; first | (rw [if_pos (by decide +kernel)]; kernel_rfl) | (rw [if_neg (by decide +kernel)]; exact ⟨rfl, rfl⟩))
    (fun os started H enc _ => lifted os started H enc)

/-- The statement. -/
theorem proved : Rows.BuiltPairsSaid := over
#print axioms proved
end Go.Proofs.Ytlbiebnihoekkaa.builtPairs
