/-
  The contract of eliminate, of an order.
-/
import Derived.Test.YtcglbopmfdilfaaDoorFElim
namespace Go.Proofs.YtcglbopmfdilfaaDoor
open Go.RowKit
set_option linter.unusedVariables false
set_option linter.unusedSimpArgs false
set_option maxRecDepth 20000

set_option maxHeartbeats 4000000 in
theorem elim_yes {g : List Nat} {o : List Int} {x vo : Value} {w : World} (hg : Words w x g) (hr : RightG g) (hT : TabD w) (ho : Ints w vo o) (hv : ordB (g.length : Int) o = true) :
    Calls Tryd.prog 32 #[.agg #[x], vo] w fun e w' => ∃ y z, e = .returned (.tuple #[.agg #[y], z, .int .i64 0]) ∧ OwnW w.heap.size w' y (fillG g o) ∧ OwnT w.heap.size w' z (bagsU g o g.length) ∧ Below w.heap.size w w' := by
  have hol := ord_len hv
  have h40 := hr.few
  obtain ⟨ax, cx, rfl, hxl, hxc⟩ := hg.form
  obtain ⟨an, cn, rfl, hnl', hnc⟩ := ho.form
  unfold maxLen at hnc hxc
  obtain ⟨W0, hW0⟩ : ∃ W, W = w.alloc (.cells #[.slice ax g.length cx] 29) := ⟨_, rfl⟩
  have hbA : Below w.heap.size w W0 := by rw [hW0]; exact (Below.refl _ _).alloc (Nat.le_refl _) _
  have hzA : W0.heap.size = w.heap.size + 1 := by rw [hW0]; simp
  have hxA : BoxG W0 w.heap.size (.slice ax g.length cx) := by rw [hW0]; exact BoxG.new w _
  obtain ⟨W1, hW1⟩ : ∃ W, W = W0.alloc (.cells #[.slice none 0 0] 29) := ⟨_, rfl⟩
  have hbB : Below W0.heap.size W0 W1 := by rw [hW1]; exact (Below.refl _ _).alloc (Nat.le_refl _) _
  have hz1 : W1.heap.size = w.heap.size + 2 := by rw [hW1]; simp [hzA]
  have hb0 : Below w.heap.size w W1 := hbA.trans (hbB.mono (by omega))
  have hx2 : BoxG W1 (w.heap.size + 1) (.slice none 0 0) := by rw [hW1, ← hzA]; exact BoxG.new W0 _
  have hx1 := hxA.below hbB (by omega)
  have HV := hide (valid_any (n := (g.length : Int)) (ho.below hb0) (by omega))
  rw [hv] at HV
  have HB0 := hide hb0
  have HX2 := hide (fun W (hb : Below W1.heap.size W1 W) => hx2.below hb (by omega))
  have HX1 := hide (fun W (hb : Below W1.heap.size W1 W) => hx1.below hb (by omega))
  have HG := hide (fun W (hb : Below w.heap.size w W) => hg.below hb)
  have HO := hide (fun W (hb : Below w.heap.size w W) => ho.below hb)
  have HT := hide (fun W (hb : Below w.heap.size w W) => hT.below hb)
  have HR := hide hr
  have HW1 := hide (show W1 = (w.alloc (.cells #[.slice ax g.length cx] 29)).alloc (.cells #[.slice none 0 0] 29) by rw [hW1, hW0])
  have HEL := hide (fun (k : Nat) (hk : k ≤ g.length) => elim_ok hr hv hk)
  have HAT := hide (fun (k : Nat) (hk : k < g.length) => ord_at hv hk)
  have hfe : (elimU g o g.length).g = fillG g o := by unfold fillG; rw [hol]
  have HFE := hide hfe
  have y0 := hx1.cell
  rw [hW1, hW0] at y0
  rw [hol] at hnl'
  have HOL := hide hol
  clear hg ho hbA hzA hxA hW1 hbB hb0 hx2 hW0 hx1 hv hr hT hfe
  clear W0
  rw [hol] at HO HV ⊢
  clear hol
  go_enter Tryd.func32, Tryd.ntmps32
  go_wp2_with fail
  rw [← unhide HW1]
  refine (unhide HV).mono ?_
  rintro e w2 ⟨rfl, hb2⟩
  have HB2 := hide hb2
  have hz2 := hb2.size
  have hb02 := (unhide HB0).trans (hb2.mono (by omega))
  have y2 := (unhide HX1 w2 hb2).cell
  have HCL := hide (cloneW_any (unhide HG w2 hb02) (by omega))
  clear hb2 hb02 HV y0 HW1 HG
  go_wp2_with fail
  refine (unhide HCL).mono ?_
  rintro e w3 ⟨v3, rfl, ho3, hb3⟩
  obtain ⟨a3, c3, rfl, hl3, hc3⟩ := (Seq.of_own ho3).form
  have hz3 := hb3.size
  have hb13 := (unhide HB2).trans (hb3.mono hz2)
  obtain ⟨W4, hW4⟩ : ∃ W, W = w3.alloc (.cells #[.slice a3 g.length c3] 29) := ⟨_, rfl⟩
  have hb4 : Below w3.heap.size w3 W4 := by rw [hW4]; exact (Below.refl _ _).alloc (Nat.le_refl _) _
  have hz4 : W4.heap.size = w3.heap.size + 1 := by rw [hW4]; simp
  have hx4 : BoxG W4 w3.heap.size (.slice a3 g.length c3) := by rw [hW4]; exact BoxG.new w3 _
  have ho4 := own_below ho3 hb4
  have hb14 := hb13.trans (hb4.mono (show W1.heap.size ≤ w3.heap.size by omega))
  have hv4 : VarG W1.heap.size (fun k => k = w3.heap.size ∨ k = w3.heap.size + 1) w3.heap.size W4 (.slice a3 g.length c3) g :=
    ⟨hx4, own_mono ho4 (by omega), fun k hk hx => by have := (ho3.lt k hk).2; omega⟩
  have HV4 := hide hv4
  have HB14 := hide hb14
  have HW4 := hide hW4
  clear ho3 hb3 hb13 hb4 hx4 ho4 hb14 hv4 HCL y2 HB2 hW4
  go_wp2_with (at_make; (first | rw [← unhide HW4] | rw [show (w3.alloc (.cells #[.slice none 0 0] 29)).setCell ⟨w3.heap.size, 0, none⟩ (.slice a3 g.length c3) = W4 from by rw [unhide HW4]; rfl]); refine wp_make_bools rfl _ _ rfl (B := W4.heap.size) (Nat.le_refl _) rfl rfl (by omega) ?_; intro w5 hown5 hb5; rw [hz4] at hown5)
  have hlt5 : w3.heap.size + 1 < w5.heap.size := (hown5.lt _ rfl).2
  have hv5 := (unhide HV4).below hb5
  have hb15 := (unhide HB14).trans (hb5.mono (show W1.heap.size ≤ W4.heap.size by omega))
  obtain ⟨B, hB⟩ : ∃ B, B = w3.heap.size + 2 := ⟨_, rfl⟩
  have HB := hide hB
  have hBl : B ≤ w5.heap.size := by omega
  have HV5 := hide hv5
  have HO5 := hide hown5
  have HB15 := hide hb15
  clear hown5 hb5 hv5 hb15 HV4 HB14 hB
  go_wp2
  go_loopw [9, 29] (fun v i wr => ∃ (k : Nat) (vf : Value), i = .int .i64 k ∧ k ≤ g.length ∧ VarG W1.heap.size (fun k => k = w3.heap.size ∨ k = w3.heap.size + 1) w3.heap.size wr vf (elimU g o k).g ∧ OwnB (w3.heap.size + 1) wr (.slice (some ⟨w3.heap.size + 1, 0, none⟩) g.length g.length) (elimU g o k).t ∧ OwnTG B B wr v (bagsU g o k) ∧ Below W1.heap.size W1 wr) (fun _ i _ => g.length - (intOf i).toNat)
  case atStart => exact ⟨0, _, rfl, by omega, unhide HV5, unhide HO5, OwnTG.nil _ _ _, unhide HB15⟩
  case round =>
    clear HV5 HO5 HB15
    obtain ⟨k, vf, rfl, hk, hv, hb, ht, hbel⟩ := hrel
    rename World => wr
    have hzr := hbel.size
    have hlt6 : w3.heap.size + 1 < wr.heap.size := (hb.lt _ rfl).2
    obtain ⟨pa, pc, rfl, hpl, hpc⟩ := ht.ownT.tups.form
    rw [bagsU_len] at hpl ht ⊢
    unfold maxLen at hpc
    by_cases hkl : k < g.length
    · obtain ⟨hoA, hoL⟩ := unhide HAT k hkl
      have hok := unhide HEL k hk
      have hnx : elimU g o (k + 1) = goS (elimU g o k) (ptO o k : Int) := by rw [← hoA]; rfl
      have hbn : bagsU g o (k + 1) = bagsU g o k ++ [bagS (elimU g o k) (ptO o k : Int)] := by rw [bagsU_succ, hoA]
      have hb0 := (unhide HB0).trans (hbel.mono (by omega))
      obtain ⟨bo, oo, e1, q1⟩ := (unhide HO wr hb0).at (k := k) (by rw [unhide HOL]; exact hkl)
      subst e1
      have eo : o[k]'(by rw [unhide HOL]; exact hkl) = (ptO o k : Int) := by rw [← hoA, List.getD_eq_getElem?_getD, List.getElem?_eq_getElem (by rw [unhide HOL]; exact hkl)]; rfl
      rw [eo] at q1
      have hgt := goS_t (elimU g o k) (ptO o k : Int)
      have hgg := goS_g (s := elimU g o k) hok.right (ptO o k)
      rw [← hnx] at hgt hgg
      rw [Int.toNat_natCast] at hgt
      have hsb := sort_bag (s := elimU g o k) (a := ptO o k) hok.right (by rw [hok.glen]; exact hoL)
      have hbt := besT_gone hok.right (elimU g o k).t (ptO o k) true false
      obtain ⟨S', hS'⟩ : ∃ S, S = elimU g o (k + 1) := ⟨_, rfl⟩
      obtain ⟨S, hS⟩ : ∃ S, S = elimU g o k := ⟨_, rfl⟩
      obtain ⟨T, hTT⟩ : ∃ T, T = bagsU g o k := ⟨_, rfl⟩
      obtain ⟨a, ha⟩ : ∃ a, a = ptO o k := ⟨_, rfl⟩
      rw [← hS'] at hgt hgg
      rw [← hS] at hgt hgg hok hsb hbt hv hb hbn
      rw [← ha] at hgt hgg hsb hbt hoL q1 hbn
      rw [← hTT] at hbn ht
      have htl : T.length = k := by rw [hTT, bagsU_len]
      clear hnx hoA eo hTT
      have HS' := hide hS'
      have HBN := hide hbn
      have HGT := hide hgt
      have HGG := hide hgg
      have HSB := hide hsb
      have HTL := hide htl
      clear hS' hS ha hbn hgt hgg hsb htl
      obtain ⟨⟨u6, hc6⟩, hf6, hb6, hbl6⟩ := own_setB hb hok.tlen.symm hoL true
      have hv6 := hv.setO (c := w3.heap.size + 1) (i := a) (y := .bool true) (.inr rfl) (by omega)
      have ht6 := ht.keeps (Keeps.grown (X := fun b => b = w3.heap.size + 1) (grown_setG wr (w3.heap.size + 1) a (.bool true)) (fun b e => by injection e with e; exact e.symm)) (by have := unhide HB; omega) (by intro e; have := (ht.lt _ e).1; have := unhide HB; omega)
      obtain ⟨W6, hW6⟩ : ∃ W, W = wr.setCell ⟨w3.heap.size + 1, a, none⟩ (.bool true) := ⟨_, rfl⟩
      rw [← hW6] at hb6 hbl6 hv6 ht6
      have hz6 : W6.heap.size = wr.heap.size := by rw [hW6]; simp
      have hb16 := hbel.trans (hbl6.mono (show W1.heap.size ≤ w3.heap.size + 1 by omega))
      have hc6' := hv6.box.cell
      have h64 : S.g.length ≤ 64 := by have := hok.right.few; omega
      have HN := hide (neighbors_any (a := (a : Int)) hv6.wd h64 hok.right.w64 (unhide HT W6 ((unhide HB0).trans (hb16.mono (by omega)))))
      have HNL := hide (nbL_len S.g (a : Int))
      have HNM := hide (fun (i : Nat) (hi : i < (nbL S.g (a : Int)).length) => (show ∃ j : Nat, j < (S.t.set a true).length ∧ (nbL S.g (a : Int))[i] = (j : Int) from by
        obtain ⟨_, j, h1, _, h2⟩ := mem_nbL.1 (List.getElem_mem hi)
        exact ⟨j, by rw [List.length_set, hok.tlen, ← hok.glen]; exact h1, h2⟩))
      have HNS := hide (fun (i : Nat) (hi : i < (besT S.g S.t (a : Int) false).length) => (show ∃ j : Nat, j < S.g.length ∧ (besT S.g S.t (a : Int) false)[i] = (j : Int) from by
        obtain ⟨⟨_, h1, _⟩, _⟩ := mem_besT.1 (List.getElem_mem hi)
        obtain ⟨h2, h3⟩ := ptB_iff.1 h1
        exact ⟨((besT S.g S.t (a : Int) false)[i]).toNat, by omega, by omega⟩))
      have HBL := hide (show (besT S.g S.t (a : Int) false).length ≤ 1000 by have := besT_len S.g S.t (a : Int) false; omega)
      have HSR := hide hok.right
      rw [show besT S.g (S.t.set a true) (a : Int) false = (nbL S.g (a : Int)).filter (fun b => (S.t.set a true).getD b.toNat false == false) from rfl] at hbt
      have HBT := hide hbt
      have HSL := hide (show S.g.length = g.length from hok.glen)
      have hS40 : S.g.length ≤ 40 := hok.right.few
      have HV6 := hide hv6
      have HB6 := hide hb6
      have HT6 := hide ht6
      have HB16 := hide hb16
      have HW6 := hide hW6
      obtain ⟨af, cf, rfl, hfl, hfc⟩ := hv6.wd.form
      rw [hW6] at hc6'
      have HST := hide (show S.t.length = g.length from hok.tlen)
      clear hok hv hb ht hbel hb6 hv6 ht6 hbl6 hb16 hbt hb0 hW6
      go_wp2_with fail
      rw [← unhide HW6]
      clear q1 hc6 hf6 hc6'
      refine (unhide HN).mono ?_
      rintro e w7 ⟨vn, rfl, hn7, hb7⟩
      obtain ⟨an7, cn7, rfl, _, _⟩ := (Seq.of_own hn7).form
      have HN7 := hide (Seq.of_own hn7)
      have HB7 := hide hb7
      have hz7 := hb7.size
      have HL7 := hide (left_any (Seq.of_own hn7) (by have := unhide HNL; omega) ((Seq.of_own (unhide HB6)).below hb7) (unhide HNM))
      rw [unhide HBT] at HL7
      clear hn7 hb7 HN HNM
      generalize nbL S.g (a : Int) = N at *
      go_wp2_with fail
      refine (unhide HL7).mono ?_
      rintro e w8 ⟨vl, rfl, hl8, hb8⟩
      obtain ⟨al8, cl8, rfl, hll8, hlc8⟩ := (Seq.of_own hl8).form
      have hb68 := (unhide HB7).trans (hb8.mono hz7)
      have hv8 := (unhide HV6).below hb68
      have hc8 := hv8.box.cell
      have hz8 := hb68.size
      have HJ8 := hide (joined_any hv8.own (by omega) (unhide HSR) (Seq.of_own hl8) (unhide HBL) (unhide HNS) hv8.off (fun k (hk : k = w3.heap.size ∨ k = w3.heap.size + 1) => by omega))
      have HV8 := hide (fun W (hb : Below w8.heap.size w8 W) => hv8.below hb)
      have HL8 := hide (fun W (hb : Below w8.heap.size w8 W) => (Seq.of_own hl8).below hb)
      have HLO := hide (fun (k : Nat) (e : (Value.slice al8 (besT S.g S.t (a : Int) false).length cl8).ownBlock = some k) => (hl8.lt k e).1)
      have HB68 := hide hb68
      clear hl8 hb8 hb68 hv8 HL7 HB7 HN7 HNS
      obtain ⟨J, hJ⟩ : ∃ J, J = joinN S.g (besT S.g S.t (a : Int) false) := ⟨_, rfl⟩
      rw [← hJ] at HJ8 HGG
      obtain ⟨L, hL⟩ : ∃ L, L = besT S.g S.t (a : Int) false := ⟨_, rfl⟩
      rw [← hL] at HJ8 HSB HBL HL8 hll8 HLO ⊢
      clear hJ hL HBT
      go_wp2_with fail
      refine (unhide HJ8).mono ?_
      rintro e w9 ⟨y9, rfl, ho9, hf9, hb9⟩
      obtain ⟨ay9, cy9, rfl, hyl9, hyc9⟩ := (Seq.of_own ho9).form
      have hv9 := unhide HV8 w9 hb9
      have hc9 := hv9.box.cell
      have hr9 := hv9.box.frozen
      have hvs := hv9.set' ho9 hf9 (.inl rfl)
      have hb69 := (unhide HB68).trans (hb9.mono hz8)
      have hg6 := own_below (unhide HB6) hb69
      have hgs := own_same (w' := w9.setCell ⟨w3.heap.size, 0, none⟩ (.slice ay9 J.length cy9)) hg6 (fun k hk => heap_setCell_other _ _ _ _ (show k ≠ w3.heap.size by simp [Value.ownBlock] at hk; omega))
      have ht9 := ((unhide HT6).keeps (Keeps.belowW (X := fun b => b = w3.heap.size) hb69) (by have := unhide HB; omega) (by intro e; have := ((unhide HT6).lt _ e).1; have := unhide HB; omega))
      have hts := ht9.keeps (Keeps.grown (X := fun b => b = w3.heap.size) (grown_setG w9 w3.heap.size 0 (.slice ay9 J.length cy9)) (fun b e => by injection e with e; exact e.symm)) (by have := unhide HB; omega) (by intro e; have := (ht9.lt _ e).1; have := unhide HB; omega)
      have hls := (unhide HL8 w9 hb9).setCell (g := w3.heap.size) (i := 0) (fun _ e => by have := unhide HLO _ e; omega) (.slice ay9 J.length cy9)
      have hbs := Below.setCell (p := ⟨w3.heap.size, 0, none⟩) ((unhide HB16).trans (hb69.mono (show W1.heap.size ≤ W6.heap.size by omega))) (show W1.heap.size ≤ w3.heap.size by omega) (.slice ay9 J.length cy9)
      obtain ⟨W10, hW10⟩ : ∃ W, W = w9.setCell ⟨w3.heap.size, 0, none⟩ (.slice ay9 J.length cy9) := ⟨_, rfl⟩
      rw [← hW10] at hvs hgs hts hls hbs
      have hz10 : W10.heap.size = w9.heap.size := by rw [hW10]; simp
      have hz9 := hb9.size
      have HWP := hide (withPoint_any (a := (a : Int)) hls (unhide HBL))
      rw [unhide HSB] at HWP
      have HF := hide (And.intro hvs (And.intro hgs hbs))
      have HTS := hide hts
      have HW10 := hide hW10
      clear hv9 hvs hb69 hg6 hgs ht9 hts hls hbs ho9 hf9 hb9 HJ8 HV8 HL8 HB68 HV6 HT6 HB6 HB16 hc8 hW10
      go_wp2_with fail
      rw [← unhide HW10]
      refine (unhide HWP).mono ?_
      rintro e w11 ⟨u11, rfl, hh11, hb11⟩
      have HHN := hide (fun b hb => (hh11.new b hb).1)
      have hi11 := hh11.ints
      have ht11 := ((unhide HTS).keeps (Keeps.belowW (X := fun b => b = w3.heap.size) hb11) (by have := unhide HB; omega) (by intro e; have := ((unhide HTS).lt _ e).1; have := unhide HB; omega))
      have hz11 := hb11.size
      have hap : Apart u11 (bagS S (a : Int)) (.slice pa k pc) := fun _ b h1 h2 => by
        have := unhide HHN b h1
        have := ((unhide HTS).lt b h2).2
        omega
      have hlen11 := bagS_len S (a : Int)
      have hF := unhide HF
      have hv11 := hF.1.below hb11
      have hg11 := own_below hF.2.1 hb11
      have hB11 := hF.2.2.trans (hb11.mono (show W1.heap.size ≤ W10.heap.size by omega))
      have hBB := unhide HB
      have hBz : B ≤ w11.heap.size := by omega
      obtain ⟨au, cu, rfl, _, _⟩ := hi11.form
      have HI11 := hide hi11
      have HT11 := hide ht11
      have HAP := hide hap
      have HF2 := hide (And.intro hv11 (And.intro hg11 hB11))
      clear hh11 hb11 hi11 ht11 hap hF hv11 hg11 hB11 HF HTS HWP hBB
      go_wp2_with (at_builtin; refine wp_app_tupG rfl (.tmp 44) (.tmp 48) rfl (B := B) (N := B) (unhide HT11) (unhide HI11) (unhide HAP) (fun b hb => by have := unhide HHN b hb; have := unhide HB; omega) rfl hBz rfl (by have := unhide HTL; omega) ?_; intro v12 w12 hown12 hg12)
      have hk12 := Keeps.grown (X := fun b => (Value.slice pa k pc).ownBlock = some b) hg12.by_ (fun b e => e)
      have hFF := unhide HF2
      have hoff : ∀ b, (Value.slice pa k pc).ownBlock = some b → B ≤ b := fun b e => ((unhide HT11).lt b e).1
      have hbx : w3.heap.size < B := by have := unhide HB; omega
      have hbox12 : BoxG w12 w3.heap.size (.slice ay9 J.length cy9) := (hk12.block _ hFF.1.box.lt (fun e => by have := hoff _ e; omega)).trans hFF.1.box
      have hown : OwnW W1.heap.size w12 (.slice ay9 J.length cy9) J := own_keepsF hFF.1.own hk12 (fun b e1 e2 => by
        obtain ⟨vs, h1, _⟩ := (unhide HT11)
        exact sep_typesF hFF.1.own h1 (by decide) b e1 e2)
      have hgon := own_keepsF hFF.2.1 hk12 (fun b e1 e2 => by have := hoff _ e2; simp [Value.ownBlock] at e1; have := unhide HB; omega)
      have hb12 := hFF.2.2.trans (hg12.below.mono (show W1.heap.size ≤ B by have := unhide HB; omega))
      have hvf : VarG W1.heap.size (fun k => k = w3.heap.size ∨ k = w3.heap.size + 1) w3.heap.size w12 (.slice ay9 J.length cy9) J := ⟨hbox12, hown, hFF.1.off⟩
      have HFF := hide (And.intro hvf (And.intro hgon (And.intro hown12 hb12)))
      clear hk12 hFF hoff hbx hbox12 hown hgon hb12 hvf hg12 hown12 HF2 HI11 HT11 HAP HHN hc9 hr9
      go_roundw
      case rel => exact ⟨k + 1, _, by go_num, by omega, by rw [← unhide HS', unhide HGG]; exact (unhide HFF).1, by rw [← unhide HS', unhide HGT]; exact (unhide HFF).2.1, by rw [unhide HBN]; exact (unhide HFF).2.2.1, (unhide HFF).2.2.2⟩
      case measure => simp [intOf]; omega
    · obtain rfl : k = g.length := by omega
      have hx3 := unhide HX2 wr hbel
      have c2 := hx3.cell
      have f2 := hx3.frozen
      have c7 := hv.box.cell
      obtain ⟨af, cf, rfl, hfl, hfc⟩ := hv.wd.form
      rw [unhide HFE] at hv c7
      have hbw := (unhide HB0).trans (hbel.mono (by omega))
      have hw := own_same (w' := wr.setCell ⟨w.heap.size + 1, 0, none⟩ (.slice af (fillG g o).length cf)) hv.own (fun k hk => heap_setCell_other _ _ _ _ (show k ≠ w.heap.size + 1 from fun e => by have := (hv.own.lt k hk).1; omega))
      have htt := ht.keeps (Keeps.grown (X := fun b => b = w.heap.size + 1) (grown_setG wr (w.heap.size + 1) 0 (.slice af (fillG g o).length cf)) (fun b e => by injection e with e; exact e.symm)) (by have := unhide HB; omega) (by intro e; have := (ht.lt _ e).1; have := unhide HB; omega)
      have hbs := Below.setCell (p := ⟨w.heap.size + 1, 0, none⟩) hbw (show w.heap.size ≤ w.heap.size + 1 by omega) (.slice af (fillG g o).length cf)
      have hTT : OwnT w.heap.size (wr.setCell ⟨w.heap.size + 1, 0, none⟩ (.slice af (fillG g o).length cf)) (.slice pa g.length pc) (bagsU g o g.length) := by
        obtain ⟨vs, h1, h2⟩ := htt.ownT
        exact ⟨vs, own_mono h1 (by have := unhide HB; omega), h2⟩
      have HF := hide (And.intro (own_mono hw (show w.heap.size ≤ W1.heap.size by omega)) (And.intro hTT hbs))
      clear hw htt hbs hTT hv hb ht hbel hx3 hbw
      go_wp2
      refine bodyPost_ret (v := .tuple #[.agg #[.slice af (fillG g o).length cf], .slice pa g.length pc, .int .i64 0]) (by simp [results, Tryd.results32, go_sem, c2]) rfl ⟨_, _, rfl, (unhide HF).1, (unhide HF).2.1, (unhide HF).2.2⟩

end Go.Proofs.YtcglbopmfdilfaaDoor
