/-
  The contract of Join.
-/
import Derived.Test.YtcndapakkkaojaaGreatDoorJoinAgree
import Derived.Test.YtcndapakkkaojaaGreatDoorJoinMake
namespace Go.Proofs.YtcndapakkkaojaaGreatDoor
open Go.RowKit Go.Maps Go.WideMaps
set_option linter.unusedVariables false
set_option linter.unusedSimpArgs false
set_option maxRecDepth 20000

theorem prog_snoc {s u : List Int} {la lb : List (List Int)} {k : Nat} (hk : k < la.length) : progR s (la.take (k + 1)) u lb = progR s (la.take k) u lb ++ progT s u lb la[k] := by
  unfold progR
  rw [List.take_succ_eq_append_getElem hk, List.flatMap_append]; simp

theorem prog_more {s u : List Int} {la lb : List (List Int)} {k : Nat} (hk : k < la.length) : (progR s (la.take k) u lb).length + (progT s u lb la[k]).length ≤ (progR s la u lb).length := by
  have e : la = la.take (k + 1) ++ la.drop (k + 1) := (List.take_append_drop _ _).symm
  have e2 : progR s la u lb = progR s (la.take (k + 1)) u lb ++ progR s (la.drop (k + 1)) u lb := by
    have : progR s (la.take (k + 1) ++ la.drop (k + 1)) u lb = progR s (la.take (k + 1)) u lb ++ progR s (la.drop (k + 1)) u lb := by unfold progR; rw [List.flatMap_append]
    rwa [← e] at this
  rw [e2, prog_snoc hk]
  simp only [List.length_append]
  omega

theorem pairs_le (s u : List Int) (la lb : List (List Int)) : (progR s la u lb).length ≤ la.length * lb.length := by rw [prog_len]; exact pair_le s u lb la

/-- What Join answers. -/
def JoinEnds (w' : World) (e : Ending) (S : List Int) (J : List (List Int)) (c : Nat) (most : Int) : Prop :=
  (∃ x, e = .returned (.tuple #[x, .int .i64 0]) ∧ RelV w' x S J ∧ (c : Int) ≤ most) ∨ (e = .returned (.tuple #[.agg #[.slice none 0 0, .slice none 0 0], .int .i64 9]) ∧ most < (c : Int))

set_option maxHeartbeats 40000000 in
theorem join_any {s u : List Int} {la lb : List (List Int)} {n m : Nat} {v v' : Value} {most : Int} {w : World} (h : RelV w v s la) (h' : RelV w v' u lb) (g : Fine s la n) (g' : Fine u lb m) (hn : n < 100000) (hm : m < 100000) (hnm : n * m < 100000) :
    Calls Tryz.prog 14 #[v, v', .int .i64 most] w fun e w' => JoinEnds w' e (joinL s u) (joinR s la u lb) (pairR s la u lb).length most ∧ Below w.heap.size w w' := by
  obtain ⟨a, ca, b, cb, rfl, k1, k2, k3, k4, hs1, ht1⟩ := h.form
  obtain ⟨a', ca', b', cb', rfl, k1', k2', k3', k4', hs2, ht2⟩ := h'.form
  unfold maxLen at k2 k4 k2' k4'
  obtain ⟨W0, hW0⟩ : ∃ W, W = ((w.alloc (.cells #[.slice a s.length ca, .slice b la.length cb] 27)).alloc (.cells #[.slice a' u.length ca', .slice b' lb.length cb'] 27)).alloc (.cells #[.slice none 0 0, .slice none 0 0] 27) := ⟨_, rfl⟩
  have hb0 : Below w.heap.size w W0 := by rw [hW0]; exact (b2x w _ _).alloc (by simp; omega) _
  have hbx0 : Box W0 w.heap.size (.slice a s.length ca) (.slice b la.length cb) := by rw [hW0]; exact ((Box.new w _ _).push _).push _
  have hbx1 : Box W0 (w.heap.size + 1) (.slice a' u.length ca') (.slice b' lb.length cb') := by
    rw [hW0]; have := (Box.new (w.alloc (.cells #[.slice a s.length ca, .slice b la.length cb] 27)) (.slice a' u.length ca') (.slice b' lb.length cb')).push (.cells #[.slice none 0 0, .slice none 0 0] 27); simpa using this
  have hbx2 : Box W0 (w.heap.size + 1 + 1) (.slice none 0 0) (.slice none 0 0) := by
    rw [hW0]; have := Box.new ((w.alloc (.cells #[.slice a s.length ca, .slice b la.length cb] 27)).alloc (.cells #[.slice a' u.length ca', .slice b' lb.length cb'] 27)) (.slice none 0 0) (.slice none 0 0); simpa using this
  have hsl := g.slen
  have hul := g'.slen
  have hll := Nat.lt_of_le_of_lt g.llen hn
  have hml := Nat.lt_of_le_of_lt g'.llen hm
  have hrows : (progR s la u lb).length < 100000 := Nat.lt_of_le_of_lt (Nat.le_trans (pairs_le s u la lb) (Nat.mul_le_mul g.llen g'.llen)) hnm
  have HMK := hide (prog_make g g')
  have HPL := hide (prog_len s u lb la)
  have HW0 := hide hW0
  have hzw := hb0.size
  have HA := hide (fun W (hb : Below w.heap.size w W) => hs1.below hb)
  have HB := hide (fun W (hb : Below w.heap.size w W) => hs2.below hb)
  have HT := hide (fun W (hb : Below w.heap.size w W) => ht1.below hb)
  have HR2 := hide (fun W (hb : Below w.heap.size w W) => h'.below hb)
  have HG := hide g
  have HG' := hide g'
  have hblen : (meetL s u).length ≤ s.length := meetL_le s u
  have hrlen : (lessL u s).length ≤ u.length := List.length_filter_le _ _
  generalize joinR s la u lb = JR at HMK ⊢
  rw [← unhide HPL]
  clear h h' hW0 hs1 hs2 ht1 ht2 g g' HPL
  by_cases hneg : most < 0
  · clear HMK HA HB HT HR2
    have hd0 := hbx2.cell0
    have hd1 := hbx2.cell1
    have hg0 := hbx2.frozen 0
    have hg1 := hbx2.frozen 1
    go_enter Tryz.func14, Tryz.ntmps14
    go_wp2
    try rw [← unhide HW0]
    refine bodyPost_ret (v := .tuple #[.agg #[.slice none 0 0, .slice none 0 0], .int .i64 9]) (by simp [results, Tryz.results14, go_sem, hd0, hd1]) rfl ⟨.inr ⟨rfl, by omega⟩, ?_⟩
    first | exact hb0 | exact below_store hb0 (by omega) _ _
  have HMT := hide (fun W (hb : Below W0.heap.size W0 W) => meet_any (unhide HA _ (hb0.trans (hb.mono hzw))) (unhide HB _ (hb0.trans (hb.mono hzw))) (by omega))
  have HWO := hide (fun W (hb : Below W0.heap.size W0 W) => without_any (unhide HB _ (hb0.trans (hb.mono hzw))) (unhide HA _ (hb0.trans (hb.mono hzw))) (by omega))
  rw [mrg_and (unhide HG).asc (unhide HG').asc] at HMT
  rw [mrg_not (unhide HG').asc (unhide HG).asc] at HWO
  have HK := hide (fun W (hb : Below W0.heap.size W0 W) => And.intro (hbx0.belowH hb).cell0 (hbx1.belowH hb).cell0)
  have hbR := Below.refl W0.heap.size W0
  go_enter Tryz.func14, Tryz.ntmps14
  go_wp2
  rw [← unhide HW0]
  go_region_held3 (fun W => W.cell? ⟨w.heap.size, 0, none⟩ = some (.slice a s.length ca) ∧ W.cell? ⟨w.heap.size + 1, 0, none⟩ = some (.slice a' u.length ca'))
    (first | exact unhide HK _ (by first | exact hB2 | exact hB1 | exact hbR | exact below_same rfl rfl rfl rfl))
    (first
      | (go_at_call 35; refine (unhide HWO _ hB1).mono ?_; rintro e w2 ⟨v2, rfl, hm2, _, hb2⟩; obtain ⟨ra, rc, re, _, _⟩ := hm2.form; rw [re] at hm2 ⊢; clear re; have hB2 : Below W0.heap.size W0 w2 := below_then hB1 hb2)
      | (go_at_call 34; refine (unhide HMT _ (by first | exact hbR | exact below_same rfl rfl rfl rfl)).mono ?_; rintro e w1 ⟨v1, rfl, hm1, _, hb1⟩; obtain ⟨ma, mc, me, _, _⟩ := hm1.form; rw [me] at hm1 ⊢; clear me; have hB1 : Below W0.heap.size W0 w1 := below_then (by first | exact hbR | exact below_same rfl rfl rfl rfl) hb1))
  replace hm1 := hm1.below hb2
  replace hbx0 := hbx0.belowH hB2
  replace hbx1 := hbx1.belowH hB2
  replace hbx2 := hbx2.belowH hB2
  have hbel2 := hb0.trans (hB2.mono hzw)
  have hz2 := hbel2.size
  have HP1 := hide (fun W (hb : Below w2.heap.size w2 W) => placesOf_any (unhide HA _ (hbel2.trans (hb.mono hz2))) (hm1.below hb) (asc_le (asc_meetL (unhide HG).asc)) (by omega) (by omega))
  have HP2 := hide (fun W (hb : Below w2.heap.size w2 W) => placesOf_any (unhide HB _ (hbel2.trans (hb.mono hz2))) (hm2.below hb) (asc_le (asc_lessL (unhide HG').asc)) (by omega) (by omega))
  have HK2 := hide (fun W (hb : Below w2.heap.size w2 W) => And.intro (hbx0.belowH hb).cell0 (hbx1.belowH hb).cell0)
  have hbR2 := Below.refl w2.heap.size w2
  clear HMT HWO HK hbR hB1 hB2 hb1 hb2 hb0 hzw
  have hm1' := hide hm1
  have hm2' := hide hm2
  clear hm1 hm2
  go_wp2
  go_region_held3 (fun W => W.cell? ⟨w.heap.size, 0, none⟩ = some (.slice a s.length ca) ∧ W.cell? ⟨w.heap.size + 1, 0, none⟩ = some (.slice a' u.length ca'))
    (first | exact unhide HK2 _ (by first | exact hB4 | exact hB3 | exact hbR2 | exact below_same rfl rfl rfl rfl))
    (first
      | (go_at_call 36; refine (unhide HP2 _ hB3).mono ?_; rintro e w4 ⟨v4, rfl, hp2, _, hb4⟩; obtain ⟨qa, qc, qe, _, _⟩ := hp2.form; rw [qe] at hp2 ⊢; clear qe; have hB4 : Below w2.heap.size w2 w4 := below_then hB3 hb4)
      | (go_at_call 36; refine (unhide HP1 _ (by first | exact hbR2 | exact below_same rfl rfl rfl rfl)).mono ?_; rintro e w3 ⟨v3, rfl, hp1, _, hb3⟩; obtain ⟨pa, pc, pe, _, _⟩ := hp1.form; rw [pe] at hp1 ⊢; clear pe; have hB3 : Below w2.heap.size w2 w3 := below_then (by first | exact hbR2 | exact below_same rfl rfl rfl rfl) hb3))
  replace hp1 := hp1.below hb4
  replace hbx0 := hbx0.belowH hB4
  replace hbx1 := hbx1.belowH hB4
  replace hbx2 := hbx2.belowH hB4
  have hbel4 := hbel2.trans (hB4.mono hz2)
  have hm1 := (unhide hm1').below hB4
  have hm2 := (unhide hm2').below hB4
  have HS := hide (shelve_any (unhide HR2 _ hbel4) hm1 (asc_le (asc_meetL (unhide HG).asc)) (unhide HG').dig (by omega) (by omega) (by omega))
  have hc10 := hbx1.cell0
  have hc11 := hbx1.cell1
  have HP1' := hide hp1
  have HP2' := hide hp2
  have HM2 := hide hm2
  clear HP1 HP2 HK2 hbR2 hB3 hB4 hb3 hb4 hm1 hm2 hm1' hm2' hp1 hp2
  go_wp2_with fail
  refine (unhide HS).mono ?_
  rintro e w5 ⟨us, rfl, hsh, hb5⟩
  obtain ⟨mb, xa, xn, xc, rfl⟩ := hsh.form
  replace hbx0 := hbx0.belowH hb5
  replace hbx2 := hbx2.belowH hb5
  have hbel5 := hbel4.trans (hb5.mono hbel4.size)
  have hb6 := (Below.refl w5.heap.size w5).alloc (Nat.le_refl _) (.cells #[.map (some mb), .slice xa xn xc] 57)
  have hbm := BoxM.new w5 (.map (some mb)) (.slice xa xn xc)
  have hsz6 : (w5.alloc (.cells #[.map (some mb), .slice xa xn xc] 57)).heap.size = w5.heap.size + 1 := by simp
  obtain ⟨W6, hW6⟩ : ∃ W, W = w5.alloc (.cells #[.map (some mb), .slice xa xn xc] 57) := ⟨_, rfl⟩
  rw [← hW6] at hb6 hbm hsz6
  have HW6 := hide hW6
  have HSZ6 := hide hsz6
  replace hbx0 := hbx0.belowH hb6
  replace hbx2 := hbx2.belowH hb6
  have hc01 := hbx0.cell1
  have hc01' : (w5.alloc (.cells #[.map (some mb), .slice xa xn xc] 57)).cell? ⟨w.heap.size, 1, none⟩ = some (.slice b la.length cb) := by rw [← hW6]; exact hc01
  have hc02 := cell_push hc01' (.cells #[] 22)
  have hbel6 := hbel5.trans (hb6.mono hbel5.size)
  have hb46 := below_then hb5 hb6
  have HI1 := hide ((unhide HP1').below hb46)
  have HI2 := hide ((unhide HP2').below hb46)
  rw [rest_right (unhide HG').asc] at HI2
  have HRS := hide ((unhide HM2).below hb46)
  have HSH := hide hsh
  have HB56 := hide hb6
  have HOW := hide (OwnT.lit (w := W6) (Nat.le_refl W6.heap.size))
  have hzz6 : w.heap.size + 1 + 1 < W6.heap.size := hbx2.lt
  have hz6 := hbel6.size
  have hprl : ((lessL u s).map (placeL u)).length ≤ u.length := by rw [List.length_map]; exact hrlen
  have HPT := hide (fun t => show progT s u lb t = (lb.filter (fitB s u t)).map fun v => t ++ pickL v ((lessL u s).map (placeL u)) from rfl)
  have eix := idxL_le u (lessL u s) u.length
  rw [rest_right (unhide HG').asc] at eix
  have eqI : Hid ((idxL u (lessL u s) u.length).length = ((lessL u s).map (placeL u)).length) := hide (by rw [rest_right (unhide HG').asc])
  rw [unhide eqI]
  generalize (lessL u s).map (placeL u) = pr at *
  clear HS hc10 hc11 hsh hW6 hsz6 hc01 hc01' hb5 hb6 hb46 HP1' HP2' HM2 eix eqI
  go_wp2
  rw [← unhide HW6]
  go_loopw [13, 15, 17, 46] (fun v _ _ i wr => ∃ k : Nat, k ≤ la.length ∧ i = .int .i64 k ∧ OwnT W6.heap.size wr v (progR s (la.take k) u lb) ∧ Below W6.heap.size W6 wr ∧ ((progR s (la.take k) u lb).length : Int) ≤ most) (fun _ _ _ i _ => la.length - (intOf i).toNat)
  case atStart => exact ⟨0, by omega, rfl, by have := unhide HOW; rw [unhide HSZ6] at this ⊢; simpa [progR] using this, (Below.refl _ _).alloc (Nat.le_refl _) _, by simp [progR]; omega⟩
  case round =>
    clear hc02 HOW
    obtain ⟨k, hk, rfl, hown, hbel, hmost⟩ := hrel
    have hz := hbel.size
    by_cases hkl : k < la.length
    · obtain ⟨bl, ol, ul0, hble, hcl0, hiL0⟩ := (unhide HT _ hbel6).at hkl
      subst hble
      have hcl := Below.cell_of hbel hcl0
      obtain ⟨ia, ic, rfl, _, _⟩ := hiL0.form
      have htw := (unhide HG).wide _ (List.getElem_mem hkl)
      have HN := hide (prog_snoc (s := s) (u := u) (lb := lb) hkl)
      have HMR := hide (prog_more (s := s) (u := u) (lb := lb) hkl)
      have HL := hide (like_any (unhide HSH) (below_then (unhide HB56) hbel) (hiL0.below hbel) ((unhide HI1).below hbel) ((unhide HG).dig _ (List.getElem_mem hkl)) (by have := idxL_le s (meetL s u) s.length; omega))
      rw [like_fit (unhide HG).asc (unhide HG').asc htw (unhide HG').wide] at HL
      have hbm' := hbm.belowH hbel
      have hd0 := hbm'.cell0
      have hd1 := hbm'.cell1
      have HIL := hide (fun W (hb : Below W6.heap.size W6 W) => hiL0.below hb)
      rw [unhide HPT la[k]] at HN HMR
      have hfl := List.length_filter_le (fitB s u la[k]) lb
      generalize lb.filter (fitB s u la[k]) = F at HL HN HMR hfl
      generalize progR s (la.take k) u lb = L at hown HN HMR hmost
      obtain ⟨t, hte⟩ : ∃ t, t = la[k] := ⟨_, rfl⟩
      rw [← hte] at HN HMR HIL HL hcl
      have htl : t.length ≤ 200 := by rw [hte, htw]; exact hsl
      try rw [← hte]
      clear hiL0 hcl0 htw hbm' hte
      go_wp2_with fail
      refine (unhide HL).mono ?_
      rintro e w7 ⟨uF, rfl, hF, hb7⟩
      obtain ⟨fa, fc, rfl, hf1, hf2⟩ := hF.form
      unfold maxLen at hf2
      have hown7 := hown.below hb7
      have hbel7 := below_then hbel hb7
      have HF := hide (hF.below (unhide HB56))
      clear HL hown hF hd0 hd1 hcl hb7 hbel
      have hwq : W6.heap.size ≤ w7.heap.size := hbel7.size
      go_wp2
      go_loopw [13, 17, 55] (fun v _ i wq => ∃ j : Nat, j ≤ F.length ∧ i = .int .i64 j ∧ OwnT W6.heap.size wq v (L ++ (F.take j).map fun v => t ++ pickL v pr) ∧ Below W6.heap.size W6 wq ∧ ((L ++ (F.take j).map fun v => t ++ pickL v pr).length : Int) ≤ most) (fun _ _ i _ => F.length - (intOf i).toNat)
      case atStart => exact ⟨0, by omega, rfl, by simpa using hown7, hbel7, by simpa using hmost⟩
      case round =>
        clear hown7 hbel7 hmost hwq
        obtain ⟨j, hj, rfl, howq, hbq, hmq⟩ := hrel
        have hzq := hbq.size
        by_cases hjl : j < F.length
        · obtain ⟨bq, oq, uq, hbqe, hcq0, hiQ0⟩ := (unhide HF).at hjl
          subst hbqe
          have hcq := Below.cell_of hbq hcq0
          obtain ⟨ja, jc, rfl, _, _⟩ := hiQ0.form
          have HNJ := hide (show (F.take (j + 1)).map (fun v => t ++ pickL v pr) = (F.take j).map (fun v => t ++ pickL v pr) ++ [t ++ pickL F[j] pr] by rw [List.take_succ_eq_append_getElem hjl, List.map_append]; rfl)
          have hlen : (L ++ (F.take j).map fun v => t ++ pickL v pr).length = L.length + j := by simp; omega
          have hmr := unhide HMR
          rw [List.length_map] at hmr
          have hle9 : (L ++ (F.take j).map fun v => t ++ pickL v pr).length < (progR s la u lb).length := by omega
          have HPK := hide (pick_any (hiQ0.below hbq) ((unhide HI2).below hbq) (by omega))
          have hpk := pick_len F[j] pr
          have HNJ2 := hide (show L ++ (F.take (j + 1)).map (fun v => t ++ pickL v pr) = (L ++ (F.take j).map fun v => t ++ pickL v pr) ++ [t ++ pickL F[j] pr] by rw [unhide HNJ, List.append_assoc])
          have hiT := unhide HIL _ hbq
          generalize pickL F[j] pr = P at *
          obtain ⟨Q, hQe⟩ : ∃ Q, Q = (L ++ (F.take j).map fun v => t ++ pickL v pr) := ⟨_, rfl⟩
          rw [← hQe] at howq hmq hle9 HNJ2
          obtain ⟨ya, yc, hye, _, _⟩ := howq.tups.form
          subst hye
          clear hQe hlen hmr HNJ hiQ0 hcq0
          by_cases heq : (Q.length : Int) = most
          · have heq1 : ((Q.length : Int) == most) = true := by simpa using heq
            have hbq2 := hbx2.belowH hbq
            have hd0 := hbq2.cell0
            have hd1 := hbq2.cell1
            have hg0 := hbq2.frozen 0
            have hg1 := hbq2.frozen 1
            have HEQ := hide heq
            clear howq hiT HPK heq hmq
            go_wp2
            refine bodyPost_ret (v := .tuple #[.agg #[.slice none 0 0, .slice none 0 0], .int .i64 9]) (by simp [results, Tryz.results14, go_sem, hd0, hd1]) rfl ⟨.inr ⟨rfl, by have := unhide HEQ; omega⟩, below_store (hbel6.trans (hbq.mono hz6)) (by omega) _ _⟩
          · have heq1 : ((Q.length : Int) == most) = false := by simpa using heq
            have HEQ := hide heq
            have HOQ := hide howq
            have HTT := hide hiT
            clear howq hiT heq
            go_wp2_with fail
            refine (unhide HPK).mono ?_
            rintro e w8 ⟨vp, rfl, hvp, hnp, hb8⟩
            obtain ⟨za, zc, rfl, _, _⟩ := hvp.form
            have hb9 := (Below.refl w8.heap.size w8).alloc (Nat.le_refl _) (.cells #[.slice ia t.length ic, .slice za P.length zc] 22)
            have HC := hide (concatI_any ((((unhide HTT).below hb8)).below hb9) (hvp.below hb9) (heap_alloc_new w8 _) (by omega) (by omega))
            generalize t ++ P = R at HC HNJ2
            clear HPK hvp hnp hcq
            go_wp2_with fail
            refine (unhide HC).mono ?_
            rintro e w9 ⟨vc, rfl, hvc, hnc, hb10⟩
            obtain ⟨ea, ec, rfl, _, _⟩ := hvc.form
            have hB9 : Below _ _ w9 := below_then hb8 (below_then hb9 hb10)
            have howq9 := (unhide HOQ).below hB9
            have hsep := hide (show Sep _ _ from (Sep.of_new (unhide HOQ).new (show _ ≤ (w8.alloc (.cells #[.slice ia t.length ic, .slice za P.length zc] 22)).heap.size from Nat.le_trans hb8.size (by simp)) hnc).symm)
            have hz9 := hB9.size
            clear HC hnc hb9 hb10 hb8
            go_wp2_with (at_builtin; refine wp_app_tup rfl (.tmp 64) (.tmp 71) rfl howq9 hvc (fun _ => unhide hsep) rfl (by omega) rfl (by omega) ?_; intro v' w10 hown10 hgrew)
            go_roundw
            case rel => exact ⟨j + 1, by omega, by go_num, by rw [unhide HNJ2]; exact hown10, (below_then hbq hB9).trans hgrew.below, by rw [unhide HNJ2, List.length_append]; have := unhide HEQ; simp; omega⟩
            case measure => simp [intOf]; omega
        · have hjj : j = F.length := by omega
          subst hjj
          rw [List.take_length, ← unhide HN] at howq hmq
          go_wp2
          go_roundw
          case rel => exact ⟨k + 1, by omega, by go_num, howq, hbq, hmq⟩
          case measure => simp [intOf]; omega
    · have hkk : k = la.length := by omega
      subst hkk
      rw [List.take_length] at hown hmost
      have hbelr := hbel6.trans (hbel.mono hz6)
      have hbr2 := hbx2.belowH hbel
      have hc0r := (hbx0.belowH hbel).cell0
      have hbl := (Below.refl wr.heap.size wr).alloc (Nat.le_refl _) (.cells #[.slice a s.length ca, .slice ra (lessL u s).length rc] 22)
      have HC := hide (concatI_any ((unhide HA _ hbelr).below hbl) (((unhide HRS).below hbel).below hbl) (heap_alloc_new wr _) (by omega) (by omega))
      obtain ⟨ya, yc, hye, _, _⟩ := hown.tups.form
      have HTU := hide hown.tups
      rw [hye] at HTU ⊢
      have hS2 : (s ++ lessL u s).length ≤ 400 := by rw [List.length_append]; omega
      generalize s ++ lessL u s = S2 at HC HMK hS2
      clear hown hye
      go_wp2_with fail
      refine (unhide HC).mono ?_
      rintro e w7 ⟨vc, rfl, hvc, hnc, hb7⟩
      obtain ⟨ea, ec, rfl, _, _⟩ := hvc.form
      have hB7 : Below wr.heap.size wr w7 := hbl.trans (hb7.mono (by simp))
      obtain ⟨hok, hrise, hmake⟩ := unhide HMK
      have HMA := hide (make_okN hvc ((unhide HTU).below hB7) hrows (by omega) hok)
      rw [hrise, hmake] at HMA
      clear HC hvc hnc hb7 hok hrise hmake HMK hc0r
      go_wp2_with fail
      refine (unhide HMA).mono ?_
      rintro e w8 ⟨x8, y8, rfl, hx8, hx8n, hb8⟩
      obtain ⟨fa, fc, fb, fd, hxe, _, _, _, _, hxi, hxt⟩ := hx8.form
      cases hxe
      have hB8 := below_then hB7 hb8
      have hbr8 := hbr2.belowH hB8
      have hd0 := hbr8.cell0
      have hd1 := hbr8.cell1
      have hg0 := hbr8.frozen 0
      have hg1 := hbr8.frozen 1
      have hblw := hbelr.trans (hB8.mono hbelr.size)
      clear HMA
      go_wp2
      have hfin := rel_store hbr8.boxS hd0 hxi hxt (hx8n _ (by have := hB7.size; omega))
      refine bodyPost_ret (v := .tuple #[.agg #[.slice fa (joinL s u).length fc, .slice fb JR.length fd], .int .i64 0]) (by simp [results, Tryz.results14, go_sem, hd0, hd1]) rfl ⟨.inl ⟨_, rfl, hfin, hmost⟩, below_store hblw (by omega) _ _⟩

end Go.Proofs.YtcndapakkkaojaaGreatDoor
