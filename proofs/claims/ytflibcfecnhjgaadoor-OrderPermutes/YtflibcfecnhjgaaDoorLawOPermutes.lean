/-
  OrderPermutes: an order is one from the other end, too; one that has a point twice, or less, or more, is none.
-/
import Derived.Test.YtflibcfecnhjgaaDoorFrameT
import Derived.Test.YtflibcfecnhjgaaDoorFrameN
import Derived.Test.YtflibcfecnhjgaaDoorOShown
import Derived.Test.YtflibcfecnhjgaaDoorOGiven
namespace Go.Proofs.YtflibcfecnhjgaaDoor.orderPermutes
open Go.RowKit Go.ChangeShapes Go.WideShapes Go.ChangeAt
set_option linter.unusedVariables false
set_option linter.unusedSimpArgs false
set_option maxRecDepth 20000

theorem ord_rev {n : Int} {o : List Int} (h : ordB n o = true) : ordB n o.reverse = true := by
  obtain ⟨h1, h2, h3⟩ := ordB_iff.1 h
  exact ordB_iff.2 ⟨by simpa using h1, fun x hx => h2 x (List.mem_reverse.1 hx), (List.reverse_perm o).nodup_iff.2 h3⟩
theorem ord_other {n m : Int} {o : List Int} (h : ordB n o = true) (hne : m ≠ n) : ordB m o = false := by
  rw [Bool.eq_false_iff]
  intro h'
  have h1 := (ordB_iff.1 h).1
  have h2 := (ordB_iff.1 h').1
  omega
theorem ord_tail {n : Int} {o : List Int} (h : ordB n o = true) (hn : 0 < n) : ordB n (o.drop 1) = false := by
  rw [Bool.eq_false_iff]
  intro h'
  have h1 := (ordB_iff.1 h).1
  have h2 := (ordB_iff.1 h').1
  rw [List.length_drop] at h2
  omega
theorem ord_twice {n a b : Nat} {o : List Int} (h : ordB (n : Int) o = true) (ha : a < o.length) (hb : b < o.length) (hab : a ≠ b) : ordB (n : Int) (o.set a o[b]) = false := by
  rw [Bool.eq_false_iff]
  intro h'
  have h3 := (ordB_iff.1 h').2.2
  have hp := List.pairwise_iff_getElem.1 h3
  have ha' : a < (o.set a o[b]).length := by simpa using ha
  have hb' : b < (o.set a o[b]).length := by simpa using hb
  have e1 : (o.set a o[b])[a] = o[b] := by simp
  have e2 : (o.set a o[b])[b] = o[b] := by rw [List.getElem_set_ne hab]
  rcases Nat.lt_or_gt_of_ne hab with h4 | h4
  · exact hp a b ha' hb' h4 (e1.trans e2.symm)
  · exact hp b a hb' ha' h4 (e2.trans e1.symm)
theorem rev_take {o : List Int} {k : Nat} (hk : k < o.length) : (o.drop (k + 1)).reverse ++ [o[k]] = (o.drop k).reverse := by
  have : o.drop k = o[k] :: o.drop (k + 1) := (List.getElem_cons_drop hk).symm
  rw [this, List.reverse_cons]
theorem next_eq (a n : Nat) : ((a : Int) + 1) % (n : Int) = (((a + 1) % n : Nat) : Int) := by
  have : ((a : Int) + 1) = ((a + 1 : Nat) : Int) := by omega
  rw [this]
  exact (Int.natCast_emod (a + 1) n).symm
theorem next_ne {a n : Nat} (ha : a < n) (hn : n ≠ 1) : a ≠ (a + 1) % n := by
  rcases Nat.lt_or_ge (a + 1) n with h | h
  · rw [Nat.mod_eq_of_lt h]; omega
  · have : a + 1 = n := by omega
    rw [this, Nat.mod_self]; omega

set_option maxHeartbeats 2000000 in
theorem walk {l0 : Int} {v0 : Value} {l1 : List Int} {v1 : Value} {l2 : Int} {v2 : Value} {w : World} (hT : TabD w) (i0 : v0 = .int .i64 l0) (m0 : InI64 l0) (i1 : Ints w v1 l1) (m1 : ∀ n ∈ l1, InI64 n) (i2 : v2 = .int .i64 l2) (m2 : InI64 l2) :
    Calls Tryd.prog 9 #[v0, v1, v2] w fun e w' => e = .returned (.bool true) ∧ Below w.heap.size w w' := by
  subst i0 i2
  clear m1 m0 m2
  have HSH := hide (shown9_any hT)
  obtain ⟨a1, c1, rfl, hl1, hc1⟩ := i1.form
  have HI := hide (fun W (hb : Below w.heap.size w W) => i1.below hb)
  have hk := rndN_lt (x := l0) (n := 40) (by decide)
  have hke := rndN_eq (x := l0) (n := 40) (by decide)
  generalize rndN l0 40 = n0 at *
  have hq : (bits .and .i64 l0 65535).tmod 40 = (n0 : Int) := hke
  obtain ⟨n, hn⟩ : ∃ n, n = n0 + 1 := ⟨_, rfl⟩
  have hq1 : (n0 : Int) + 1 = (n : Int) := by omega
  have hq2 : (1 : Int) + (n0 : Int) = (n : Int) := by omega
  have hn0 : 0 < n := by omega
  have hn40 : n ≤ 40 := by omega
  have HGV := hide (fun W (hb : Below w.heap.size w W) => given_any (n := n) (by omega) (i1.below hb))
  clear hT i1 hke hc1 hn
  go_enter Tryd.func9, Tryd.ntmps9
  go_wp2_with fail
  refine (unhide HSH).mono ?_
  rintro e w1 ⟨rfl, hb1⟩
  have HB1 := hide hb1
  have HGV1 := hide (unhide HGV w1 hb1)
  have hz1 := hb1.size
  clear hb1 HSH HGV HI
  go_wp2_with fail
  refine (unhide HGV1).mono ?_
  rintro e w2 ⟨u, o, rfl, ho, hor, hb2⟩
  have hol : o.length = n := by have := (ordB_iff.1 hor).1; omega
  obtain ⟨ao, co, rfl, hoc, hom⟩ := (Seq.of_own ho).form
  unfold maxLen at hom
  have HO2 := hide (fun W (hb : Below w2.heap.size w2 W) => (Seq.of_own ho).below hb)
  rw [hol] at HO2 hoc ⊢
  have HOR := hide hor
  have HOL := hide hol
  have HB2 := hide ((unhide HB1).trans (hb2.mono hz1))
  have hz2 := (unhide HB2).size
  clear ho hor hb2 HGV1 HB1 hq hq1 hq2 hk hol
  go_wp2
  go_loopw [9, 10] (fun v i wr => ∃ k : Nat, k ≤ n ∧ i = .int .i64 k ∧ OwnI w2.heap.size wr v (o.drop k).reverse ∧ Below w2.heap.size w2 wr) (fun _ i _ => (intOf i).toNat)
  case atStart => exact ⟨n, by omega, rfl, by rw [List.drop_of_length_le (by rw [unhide HOL]; exact Nat.le_refl _)]; exact own_nilI _ _, Below.refl _ _⟩
  case round =>
    obtain ⟨k, hk, rfl, hown, hbel⟩ := hrel
    rename World => wr
    have hzr := hbel.size
    by_cases hk0 : 0 < k
    · obtain ⟨j, rfl⟩ : ∃ j, k = j + 1 := ⟨k - 1, by omega⟩
      have hjo : j < o.length := by rw [unhide HOL]; omega
      obtain ⟨b1, o1, e1, q1⟩ := (unhide HO2 wr hbel).at hjo
      subst e1
      have hrt := rev_take hjo
      have hlen : (o.drop (j + 1)).reverse.length < 100000000000 := by rw [List.length_reverse, List.length_drop]; have := unhide HOL; omega
      obtain ⟨R, hR⟩ : ∃ R, R = (o.drop (j + 1)).reverse := ⟨_, rfl⟩
      obtain ⟨R2, hR2⟩ : ∃ R, R = (o.drop j).reverse := ⟨_, rfl⟩
      rw [← hR, ← hR2] at hrt
      rw [← hR] at hown hlen
      generalize o[j] = x at *
      have HRT := hide hrt
      have HR2 := hide hR2
      have HO := hide hown
      have HBE := hide hbel
      clear hR hR2 hrt hown hbel
      have hk1 : (0 : Int) < ((j + 1 : Nat) : Int) := by omega
      have hsub : ((j + 1 : Nat) : Int) - 1 = (j : Int) := by omega
      go_wp2_with (at_builtin; refine wp_app_int rfl (.tmp 25) (.tmp 31) rfl (B := w2.heap.size) (unhide HO) rfl (by omega) rfl hlen ?_; intro v5 w5 ho5 hg5)
      go_roundw
      case rel => exact ⟨j, by omega, by first | rfl | go_num | (simp; omega), by rw [← unhide HR2, ← unhide HRT]; exact ho5, (unhide HBE).trans hg5.below⟩
      case measure => simp [intOf]
    · obtain rfl : k = 0 := by omega
      rw [List.drop_zero] at hown
      obtain ⟨a3, c3, rfl, hrc, hrm⟩ := (Seq.of_own hown).form
      unfold maxLen at hrm
      have HR3 := hide (fun W (hb : Below wr.heap.size wr W) => (Seq.of_own hown).below hb)
      have hrl : o.reverse.length = n := by rw [List.length_reverse, unhide HOL]
      rw [hrl] at HR3 hrc ⊢
      have hO3 : ∀ W, Below wr.heap.size wr W → Ints W (.slice ao n co) o := fun W hb => unhide HO2 W (hbel.trans (hb.mono hzr))
      have hol3 := unhide HOL
      have e1 := unhide HOR
      have e2 := ord_rev e1
      have e3 := ord_other e1 (m := (n : Int) - 1) (by omega)
      have e4 := ord_other e1 (m := (n : Int) + 1) (by omega)
      have e5 := ord_tail e1 (by omega)
      have V1 := hide (fun W (hb : Below wr.heap.size wr W) => valid_any (n := (n : Int)) (hO3 W hb) (by omega))
      have V2 := hide (fun W (hb : Below wr.heap.size wr W) => valid_any (n := (n : Int)) (unhide HR3 W hb) (by omega))
      have V3 := hide (fun W (hb : Below wr.heap.size wr W) => valid_any (n := (n : Int) - 1) (hO3 W hb) (by omega))
      have V4 := hide (fun W (hb : Below wr.heap.size wr W) => valid_any (n := (n : Int) + 1) (hO3 W hb) (by omega))
      have V5 := hide (fun W (hb : Below wr.heap.size wr W) => valid_any (n := (n : Int)) ((hO3 W hb).drop (k := 1) (by omega)) (by rw [List.length_drop]; omega))
      rw [e1] at V1
      rw [e2] at V2
      rw [e3] at V3
      rw [e4] at V4
      rw [e5] at V5
      have hdrop := fun W => run_dropI ao n co 1 1 rfl (by omega) (by omega) W
      have HO3 := hide hO3
      have HBE := hide ((unhide HB2).trans (hbel.mono hz2))
      have hn1 : (1 : Int) ≤ (n : Int) := by omega
      have HB10 := hide (Below.refl wr.heap.size wr)
      clear hown hbel HR3 e1 e2 e3 e4 e5 hO3 hol3 HO2 HB2 hk0 hrl
      go_wp2_with fail
      refine (unhide V1 _ (unhide HB10)).mono ?_
      rintro e w11 ⟨rfl, hb11⟩
      have HB11 := hide ((unhide HB10).trans (hb11.mono (unhide HB10).size))
      clear hb11 V1
      go_wp2_with fail
      refine (unhide V2 _ (unhide HB11)).mono ?_
      rintro e w12 ⟨rfl, hb12⟩
      have HB12 := hide ((unhide HB11).trans (hb12.mono (unhide HB11).size))
      clear hb12 V2
      go_wp2_with fail
      refine (unhide V3 _ (unhide HB12)).mono ?_
      rintro e w13 ⟨rfl, hb13⟩
      have HB13 := hide ((unhide HB12).trans (hb13.mono (unhide HB12).size))
      clear hb13 V3
      go_wp2_with fail
      refine (unhide V4 _ (unhide HB13)).mono ?_
      rintro e w14 ⟨rfl, hb14⟩
      have HB14 := hide ((unhide HB13).trans (hb14.mono (unhide HB13).size))
      clear hb14 V4
      go_wp2_with fail
      refine (unhide V5 _ (unhide HB14)).mono ?_
      rintro e w15 ⟨rfl, hb15⟩
      have HB15 := hide ((unhide HB14).trans (hb15.mono (unhide HB14).size))
      clear hb15 V5
      have hA := rndN_lt (x := l2) (n := n) hn0
      have hAe := rndN_eq (x := l2) (n := n) hn0
      generalize rndN l2 n = A at *
      have hbl := own_litI (w := w15) (Nat.le_refl _)
      have hba := (Below.refl w15.heap.size w15).alloc (Nat.le_refl _) (.cells #[] 3)
      have hO15 := unhide HO3 _ ((unhide HB15).trans (hba.mono (unhide HB15).size))
      have hol3 := unhide HOL
      have hAlt : A < o.length := by omega
      have hNlt : (A + 1) % n < n := Nat.mod_lt _ hn0
      have hnx := next_eq A n
      have hne := next_ne hA
      have hone : n = 1 → (A + 1) % n = A := fun h => by subst h; omega
      generalize (A + 1) % n = N2 at *
      have hN2o : N2 < o.length := by omega
      have HV16 := hide (show ordB (n : Int) (o.set A o[N2]) = decide (n = 1) from by
        by_cases h1 : n = 1
        · obtain rfl := hone h1
          rw [List.set_getElem_self, unhide HOR, decide_eq_true h1]
        · rw [ord_twice (unhide HOR) hAlt hN2o (hne h1), decide_eq_false h1])
      obtain ⟨bo, oo, e9, q8⟩ := (unhide HO3 _ (unhide HB15)).at hN2o
      subst e9
      have q9 := Below.cell_of hba q8
      have hbo : bo < w15.heap.size := cell_lt q8
      clear q8
      have hAI : (A : Int) < (n : Int) := by omega
      have hAI2 : A < n := by omega
      have hNI : (N2 : Int) < (n : Int) := by omega
      have HQ := hide (And.intro hAlt (And.intro hN2o hol3))
      have hq' : (bits .and .i64 l2 65535).tmod (n : Int) = (A : Int) := hAe
      generalize o[N2] = y at *
      clear hone hne hol3 hAe
      go_wp2_with (at_builtin; refine wp_app_ints rfl (.tmp 65) (.tmp 66) rfl (B := w15.heap.size) hbl rfl (by simp) hO15 rfl (by have := (unhide HQ).2.2; simp; omega) ?_; intro v16 w16 ho16 hg16; rw [List.nil_append] at ho16; obtain ⟨a16, c16, rfl, hc16, hd16⟩ := (Seq.of_own ho16).form; rw [(unhide HQ).2.2] at ho16 hc16 ⊢; unfold maxLen at hd16; obtain ⟨b16, o16, e16, q16⟩ := (Seq.of_own ho16).at (unhide HQ).1; subst e16; have ho0 := own_off ho16; simp only at ho0; subst ho0; have q9' := (hg16.below.cell hbo).trans q9; obtain ⟨⟨u16, hu16⟩, hf16, hs16, hb16⟩ := own_setI ho16 (unhide HQ).2.2.symm hAI2 y; have HS3 := hide hs16; have HS4 := hide hb16; clear hs16 hb16 q16)
      obtain ⟨W17, hW17⟩ : ∃ W, W = w16.setCell ⟨b16, A, none⟩ (.int .i64 y) := ⟨_, rfl⟩
      have hB17 : Below w15.heap.size w15 W17 := by rw [hW17]; exact hba.trans (hg16.below.trans (unhide HS4))
      have hO17 : Ints W17 (.slice (some ⟨b16, 0, none⟩) n c16) (o.set A y) := by rw [hW17]; have := Seq.of_own (unhide HS3); simpa [(unhide HQ).2.2] using this
      have V6 := hide (valid_any (n := (n : Int)) hO17 (by rw [List.length_set]; have := (unhide HQ).2.2; omega))
      rw [unhide HV16] at V6
      have V7 := hide (fun W => valid_any (n := 0) (Seq.nil _ W) (by decide))
      have V8 := hide (fun W => valid_any (n := 1) (Seq.nil _ W) (by decide))
      rw [show ordB 0 [] = true from by decide] at V7
      rw [show ordB 1 [] = false from by decide] at V8
      have HB17 := hide ((unhide HB15).trans (hB17.mono (unhide HB15).size))
      rw [← hW17]
      clear hW17 hB17 hO17 HS3 HS4 ho16 hg16
      refine (unhide V6).mono ?_
      rintro e w18 ⟨rfl, hb18⟩
      have HB18 := hide ((unhide HB17).trans (hb18.mono (unhide HB17).size))
      clear hb18
      by_cases hn1' : n = 1
      · have hd : decide (n = 1) = true := decide_eq_true hn1'
        rw [hd]
        subst hn1'
        clear hd
        go_wp2_with fail
        refine (unhide V7 _).mono ?_
        rintro e w19 ⟨rfl, hb19⟩
        have HB19 := hide ((unhide HB18).trans (hb19.mono (unhide HB18).size))
        clear hb19
        go_wp2_with fail
        refine (unhide V8 _).mono ?_
        rintro e w20 ⟨rfl, hb20⟩
        have HB20 := hide ((unhide HB19).trans (hb20.mono (unhide HB19).size))
        clear hb20
        go_wp2
        go_ret
        exact ⟨rfl, (unhide HBE).trans ((unhide HB20).mono (unhide HBE).size)⟩
      · have hd : decide (n = 1) = false := decide_eq_false hn1'
        have hne1 : ((n : Int) == 1) = false := by simp; omega
        rw [hd]
        clear hd
        go_wp2_with fail
        refine (unhide V7 _).mono ?_
        rintro e w19 ⟨rfl, hb19⟩
        have HB19 := hide ((unhide HB18).trans (hb19.mono (unhide HB18).size))
        clear hb19
        go_wp2_with fail
        refine (unhide V8 _).mono ?_
        rintro e w20 ⟨rfl, hb20⟩
        have HB20 := hide ((unhide HB19).trans (hb20.mono (unhide HB19).size))
        clear hb20
        go_wp2
        go_ret
        exact ⟨rfl, (unhide HBE).trans ((unhide HB20).mono (unhide HBE).size)⟩

set_option maxRecDepth 100000 in
theorem lifted (os : Os) (started : os.Started) (H : Type) (enc : TypeId × Value → H) :
    ReturnsInHanded {} Tryd.checked os 9 .any (fun w args => (Rows.orderPermutesSpec.pre enc Tryd.prog Tryd.f9 [] false w args ∧ laidMetH Tryd.prog laidIn w) ∧ sizedMet enc Tryd.prog Tryd.f9 (OpenSpec.ofChange Rows.orderPermutesSpec) false w args)
      (Rows.orderPermutesSpec.post enc Tryd.prog Tryd.f9 false true false false) := by
  refine returnsInHanded_of_change_and (C := Tryd.checked) (X := fun w _ => laidMetH Tryd.prog laidIn w) (fun _ _ _ hh h => h.of_heap hh) own started (by kernel_rfl) Tryd.func9
    (ChangeSpec.witness_shaped (enc := enc) (C := Tryd.checked) (os := os) (X := fun w _ => laidMetH Tryd.prog laidIn w) false (World.doorLaid Tryd.prog doorN os) #[.int .i64 0, .slice none 0 0, .int .i64 0] 8 rfl (World.shaped_of_RefB (by kernel_rfl) (by kernel_rfl)) (by kernel_rfl) (by kernel_rfl) (by kernel_rfl) (door_met os _)) ?_
  intro W base args ds gs before hval0 hW _ _ hL _
  have hval : ∀ (j : Nat) t v, Tryd.f9.params[j]? = some t → args[j]? = some v → Value.okWide Tryd.prog W .any base t v := hval0
  have hW' := hW
  obtain ⟨p, q, hA0, hV, rfl, hfz, hnd⟩ := hW
  have hA : DataW.TrodAll enc Tryd.prog W 0 (fun _ => true) true Tryd.f9.params.toList args.toList ds p := hA0
  rw [Tryd.params9] at hA hval
  obtain ⟨v0, vs0, d0, ds0, p0, q0, hargs, rfl, rfl, h0, r0⟩ := trodAll_cons hA
  obtain ⟨v1, vs1, d1, ds1, p1, q1, rfl, rfl, rfl, h1, r1⟩ := trodAll_cons r0
  obtain ⟨v2, vs2, d2, ds2, p2, q2, rfl, rfl, rfl, h2, r2⟩ := trodAll_cons r1
  obtain ⟨rfl, rfl, rfl⟩ := trodAll_nil r2
  obtain rfl : args = #[v0, v1, v2] := by cases args; simp_all
  obtain ⟨rfl, rfl⟩ := trodVars_none hV
  obtain ⟨l0, i0, m0⟩ := read_int h0 (hval 0 3 v0 rfl rfl)
  have lt0 : ∀ x ∈ p0, x.block < W.heap.size := by obtain ⟨m, hm⟩ := h0; exact DataW.trod_lt m _ _ _ hm
  obtain ⟨l1, i1, m1⟩ := read_ints h1 (okWide_slice Tryd.underlying39 (hval 1 39 v1 rfl rfl))
  have lt1 : ∀ x ∈ p1, x.block < W.heap.size := by obtain ⟨m, hm⟩ := h1; exact DataW.trod_lt m _ _ _ hm
  obtain ⟨l2, i2, m2⟩ := read_int h2 (hval 2 3 v2 rfl rfl)
  have lt2 : ∀ x ∈ p2, x.block < W.heap.size := by obtain ⟨m, hm⟩ := h2; exact DataW.trod_lt m _ _ _ hm
  clear hA0 hval0
  refine (walk (tabs_of hL) i0 m0 i1 m1 i2 m2).mono fun e W' ⟨he, bel⟩ => ?_
  subst he
  exact ⟨_, rfl, _, _, _, [], _, [], hW', trodAll_mk1 (shut_bool Tryd.underlying4 _), (trodAll_cons_mk (Below.trod laidOut (by kernel_rfl) (of_decide_eq_true (by kernel_rfl)) h0 bel lt0) (trodAll_cons_mk (Below.trod laidOut (by kernel_rfl) (of_decide_eq_true (by kernel_rfl)) h1 bel lt1) (trodAll_cons_mk (Below.trod laidOut (by kernel_rfl) (of_decide_eq_true (by kernel_rfl)) h2 bel lt2) trodAll_mk0))), rfl, bel.frame _, fun h => by cases h⟩

theorem over : Rows.orderPermutesRow.holds Tryd.pinned (OpenSpec.ofChange Rows.orderPermutesSpec) :=
  OpenClaim.holds_of_wide 9 Tryd.f9 rfl rfl rfl rfl rfl rfl rfl ⟨rfl, rfl, rfl, rfl, rfl⟩ rfl rfl rfl rfl rfl (by kernel_rfl) Tryd.func9 (by kernel_rfl)
    (of_decide_eq_true (by kernel_rfl)) (by unfold Func.isWrapper; first | (rw [if_pos (by decide +kernel)]; kernel_rfl) | (rw [if_neg (by decide +kernel)]; exact ⟨rfl, rfl⟩))
    (fun os started H enc _ => lifted os started H enc)

/-- The statement: the tied card. -/
theorem proved : Rows.OrderPermutesCardSaid :=
  Claim7.holds_tied_plain_at .later [] [.data] true (true, "8f2d994e21dbfdcf108bf958dff57fcf320e77d1f440c1e17c51dcce542cbe3a") false
    over (fun _ h => by cases h) (by kernel_rfl) (fun _ h => by cases h) orderPermutes_row_tie rfl ⟨rfl, rfl⟩ (by kernel_rfl) rfl
    (fun f fn hf hfn => by
      obtain rfl : f = 9 := Option.some.inj ((show Tryd.prog.funcNamed "arborist/arboristlaw09.OrderPermutes" = some 9 by kernel_rfl).symm.trans hf) |>.symm
      obtain rfl : fn = Tryd.f9 := (Option.some.inj (Tryd.func9.symm.trans hfn)).symm
      exact ⟨by kernel_rfl, fun j t ht => by
        rw [Tryd.params9] at ht
        have hm : t ∈ [3, 39, 3] := by simpa using Array.mem_of_getElem? ht
        have hall : ([3, 39, 3].all fun u => !Tryd.prog.wantsStandIn u) = true := by kernel_rfl
        exact (show Tryd.prog.wantsStandIn t = false by simpa using List.all_eq_true.1 hall t hm)⟩)
    (by kernel_rfl)

#print axioms proved

end Go.Proofs.YtflibcfecnhjgaaDoor.orderPermutes
