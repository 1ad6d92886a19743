/-
  The contracts of small and of shown; contracts as the laws of layer 3 want them.
-/
import Derived.Test.YtoiokplgkanepaaGreatDoorLawSmall
import Derived.Test.YtoiokplgkanepaaGreatDoorSmall3
import Derived.Test.YtoiokplgkanepaaGreatDoorJoinMath
import Derived.Test.YtoiokplgkanepaaGreatDoorJoinJoin
import Derived.Test.YtoiokplgkanepaaGreatDoorFrame3
import Derived.Test.YtoiokplgkanepaaGreatDoorRelUnit
namespace Go.Proofs.YtoiokplgkanepaaGreatDoor
open Go.RowKit
set_option linter.unusedVariables false
set_option linter.unusedSimpArgs false
set_option maxRecDepth 20000

set_option maxHeartbeats 8000000 in
theorem small3_any {sc : List Int} {rows : List (List Int)} {vs v : Value} {w : World} (hs : Ints w vs sc) (h : Tups w v rows) :
    Calls Tryz.prog 6 #[vs, v] w fun e w' => ∃ u, e = .returned u ∧ RelV w' u (smallS3 sc) (smallR3 sc rows) ∧ Below w.heap.size w w' := by
  obtain ⟨a, ca, rfl, hla, hca⟩ := hs.form
  obtain ⟨b, cb, rfl, hlb, hcb⟩ := h.form
  unfold maxLen at hca hcb
  have hb0 := (Below.refl w.heap.size w).alloc (Nat.le_refl _) (.cells #[.slice none 0 0, .slice none 0 0] 27)
  have hbx := Box.new w (.slice none 0 0) (.slice none 0 0)
  have hz0 : w.heap.size + 1 = (w.alloc (.cells #[.slice none 0 0, .slice none 0 0] 27)).heap.size := by simp
  have HS := hide (hs.below hb0)
  have HT := hide (h.below hb0)
  have HZ := hide hz0
  obtain ⟨W0, hW0⟩ : ∃ W, W = w.alloc (.cells #[.slice none 0 0, .slice none 0 0] 27) := ⟨_, rfl⟩
  rw [← hW0] at hbx HS HT HZ hb0
  have HW0 := hide hW0
  clear hs h hW0 hz0
  go_enter Tryz.func6, Tryz.ntmps6
  go_wp2
  rw [← unhide HW0]
  go_loopw [5, 6] (fun v i wr => ∃ k : Nat, k ≤ sc.length ∧ k ≤ 3 ∧ i = .int .i64 k ∧ Ints wr v (riseL ((sc.take k).map (modL 5))) ∧ Below W0.heap.size W0 wr) (fun _ i _ => sc.length - (intOf i).toNat)
  case atStart => exact ⟨0, by omega, by omega, rfl, Seq.nil _ _, Below.refl _ _⟩
  case round =>
    obtain ⟨k, hk, hk4, rfl, hout, hbel⟩ := hrel
    by_cases hkk : k < sc.length ∧ k < 3
    · obtain ⟨hkl, hk4'⟩ := hkk
      obtain ⟨bl, ol, rfl, hcl⟩ := ((unhide HS).below hbel).at hkl
      have HN := hide (show riseL ((sc.take (k + 1)).map (modL 5)) = joinL (riseL ((sc.take k).map (modL 5))) [modL 5 sc[k]] by rw [List.take_succ_eq_append_getElem hkl, List.map_append]; exact riseL_app _ _)
      have hb1 := (Below.refl wr.heap.size wr).alloc (Nat.le_refl _) (.cells #[.int .i64 (modL 5 sc[k])] 3)
      have hrl := riseL_le ((sc.take k).map (modL 5))
      have hrl2 : ((sc.take k).map (modL 5)).length ≤ 3 := by rw [List.length_map]; exact Nat.le_trans (List.length_take_le _ _) hk4
      generalize riseL ((sc.take k).map (modL 5)) = sk at hout HN hrl
      have HJ := hide (refJoin_any (hout.below hb1) (lit_one (W := wr) (modL 5 sc[k])) (by simp; omega))
      obtain ⟨oa, oc, hoe, _, _⟩ := hout.form
      rw [hoe] at HJ ⊢
      rw [show modL 5 sc[k] = (bits .and .i64 sc[k] 65535).tmod 5 from rfl] at HJ HN hb1
      have hz := hbel.size
      clear hout hoe
      go_wp2_with fail
      refine (unhide HJ).mono ?_
      rintro e w2 ⟨u, rfl, hu, hun, hb2⟩
      go_wp2
      go_roundw
      case rel => exact ⟨k + 1, by omega, by omega, by go_num, by rw [unhide HN]; exact hu, hbel.trans ((hb1.trans (hb2.mono (by simp))).mono hz)⟩
      case measure => simp [intOf]; omega
    · have hkd : Hid (riseL ((sc.take k).map (modL 5)) = smallS3 sc) := hide (by
        unfold smallS3
        rw [show sc.take k = sc.take 3 by rw [List.take_eq_take_iff]; omega])
      rw [unhide hkd] at hout
      have hS4 := smallS3_len sc
      have HR := hide (show smallR3 sc rows = sortL ((rows.take 12).map (smallT (smallS3 sc).length)) from rfl)
      obtain ⟨R, hRe⟩ : ∃ R, R = smallR3 sc rows := ⟨_, rfl⟩
      obtain ⟨s, hse⟩ : ∃ s, s = smallS3 sc := ⟨_, rfl⟩
      rw [← hRe, ← hse] at HR
      rw [← hse] at hout hS4 hkd
      have HRE := hide hRe
      have HSE := hide hse
      clear hRe hse
      obtain ⟨oa, oc, hoe, _, hoc⟩ := hout.form
      unfold maxLen at hoc
      rw [hoe] at hout ⊢
      have hbx1 := hbx.belowH hbel
      have ht1 := (unhide HT).below hbel
      clear hoe hkd hbx
      rename World => wA
      have hz1 := hbel.size
      have hbw := hb0.trans (hbel.mono (by have := unhide HZ; omega))
      have hwz : w.heap.size < wA.heap.size := hbx1.lt
      by_cases hkl : k < sc.length
      case' pos =>
        have hk4' : ¬ k < 3 := fun h => hkk ⟨hkl, h⟩
      all_goals
        clear hkk
        go_wp2
        go_loopw [7, 8, 9, 10] (fun v i _ _ wq => ∃ k : Nat, k ≤ rows.length ∧ k ≤ 12 ∧ i = .int .i64 k ∧ OwnT wA.heap.size wq v ((rows.take k).map (smallT s.length)) ∧ Below wA.heap.size wA wq) (fun _ i _ _ _ => rows.length - (intOf i).toNat)
        case atStart => exact ⟨0, by omega, by omega, rfl, OwnT.nil _ _, Below.refl _ _⟩
        case round =>
          obtain ⟨j, hj, hj20, rfl, hown, hbel2⟩ := hrel
          have hz2 := hbel2.size
          by_cases hjj : j < rows.length ∧ j < 12
          · obtain ⟨hjl, hj20'⟩ := hjj
            obtain ⟨bl, ol, ul, rfl, hcl, hiL⟩ := (ht1.below hbel2).at hjl
            obtain ⟨ia, ic, rfl, _, hic⟩ := hiL.form
            unfold maxLen at hic
            have HN := hide (show (rows.take (j + 1)).map (smallT s.length) = (rows.take j).map (smallT s.length) ++ [smallT s.length rows[j]] by rw [List.take_succ_eq_append_getElem hjl, List.map_append]; rfl)
            have hll : ((rows.take j).map (smallT s.length)).length ≤ 12 := by rw [List.length_map]; exact Nat.le_trans (List.length_take_le _ _) hj20
            generalize (rows.take j).map (smallT s.length) = L at hown HN hll
            have HRJ := hide (fun k2 (h1 : k2 ≤ s.length) (h2 : k2 ≤ rows[j].length) (h : ¬ (k2 < s.length ∧ k2 < rows[j].length)) => small_end (n := s.length) (r := rows[j]) h1 h2 h)
            have HST := hide (fun k2 (h1 : k2 < s.length) (h2 : k2 < rows[j].length) => small_set (n := s.length) (r := rows[j]) h1 h2)
            rename World => wB
            go_wp2_with (at_make; refine wp_make_ints rfl _ _ rfl (Nat.le_refl _) rfl rfl (by omega) ?_; intro w3 hown3 hb3)
            go_loopw [10] (fun i wi => ∃ k2 : Nat, k2 ≤ s.length ∧ k2 ≤ rows[j].length ∧ i = .int .i64 k2 ∧ OwnI wB.heap.size wi (.slice (some ⟨wB.heap.size, 0, none⟩) s.length s.length) ((rows[j].take k2).map (modL 3) ++ List.replicate (s.length - k2) 0) ∧ Below wB.heap.size wB wi) (fun i _ => s.length - (intOf i).toNat)
            case atStart => exact ⟨0, by omega, by omega, rfl, by simpa using hown3, hb3⟩
            case round =>
              clear hown3 hb3
              obtain ⟨k2, hk2, hk2r, rfl, howni, hbel3⟩ := hrel
              have hz3 := hbel3.size
              by_cases hkk : k2 < s.length ∧ k2 < rows[j].length
              · obtain ⟨hka, hkb⟩ := hkk
                obtain ⟨bi, oi, e1, hci⟩ := (hiL.below hbel3).at hkb
                subst e1
                have hclw := Below.cell_of hbel3 hcl
                obtain ⟨⟨old, hcell⟩, hfr, hset, hbs⟩ := own_setI howni (by simp; omega) (i := k2) hka (modL 3 rows[j][k2])
                rw [unhide HST k2 hka hkb] at hset
                rw [show modL 3 rows[j][k2] = (bits .and .i64 rows[j][k2] 65535).tmod 3 from rfl] at hset hbs
                clear howni hiL hcl ht1 hout HST HRJ
                go_wp2
                go_roundw
                case rel => exact ⟨k2 + 1, by omega, by omega, by go_num, hset, hbel3.trans hbs⟩
                case measure => simp [intOf]; omega
              · have he := unhide HRJ k2 hk2 hk2r hkk
                have hclw := Below.cell_of hbel3 hcl
                have hok : Hid (decide (k2 < s.length) = false ∨ (k2 < s.length ∧ ¬ k2 < rows[j].length)) := hide (by
                  by_cases h1 : k2 < s.length
                  · exact .inr ⟨h1, fun h2 => hkk ⟨h1, h2⟩⟩
                  · exact .inl (by simpa using h1))
                rw [he] at howni
                clear he HST HRJ hiL hkk hcl
                have hti := Seq.of_own howni
                have hnt := New.of_own howni
                have hownL := hown.below hbel3
                have hap := hide (show Sep _ _ from (Sep.of_new hown.new (Nat.le_refl _) hnt).symm)
                have hzz := Nat.le_trans hz2 hz3
                generalize smallT s.length rows[j] = T at howni hti HN
                rcases unhide hok with h1 | ⟨h1, h2⟩
                all_goals
                  clear hok hown howni ht1 hout
                  go_wp2_with (at_builtin; refine wp_app_tup rfl (.tmp 70) (.tmp 72) rfl hownL hti (fun _ => unhide hap) rfl hzz rfl (by omega) ?_; intro v' w4 hown4 hgrew)
                  go_roundw
                  case rel => exact ⟨j + 1, by omega, by omega, by go_num, by rw [unhide HN]; exact hown4, (hbel2.trans (hbel3.mono hz2)).trans hgrew.below⟩
                  case measure => simp [intOf]; omega
          · have hF : (rows.take j).map (smallT s.length) = (rows.take 12).map (smallT s.length) := by
              rw [show rows.take j = rows.take 12 by rw [List.take_eq_take_iff]; omega]
            rw [hF] at hown
            have hlen20 : ((rows.take 12).map (smallT s.length)).length ≤ 12 := by rw [List.length_map]; exact List.length_take_le _ _
            have HSRT := hide (refSort_any hown.tups (by omega) (fun t ht => by
              obtain ⟨x, _, rfl⟩ := List.mem_map.1 ht
              rw [smallT_len]; omega))
            rw [← unhide HR] at HSRT
            have hok : Hid (decide (j < rows.length) = false ∨ (j < rows.length ∧ ¬ j < 12)) := hide (by
              by_cases h1 : j < rows.length
              · exact .inr ⟨h1, fun h2 => hjj ⟨h1, h2⟩⟩
              · exact .inl (by simpa using h1))
            have hbx2 := hbx1.belowH hbel2
            have hout2 := hout.below hbel2
            obtain ⟨va, vn, vc, hve⟩ := hown.sl
            rw [hve] at HSRT ⊢
            clear hF hlen20 hown hve hjj ht1 hout hbx1
            rcases unhide hok with h1 | ⟨h1, h2⟩
            all_goals
              clear hok
              go_wp2_with fail
              refine (unhide HSRT).mono ?_
              rintro e w5 ⟨u5, rfl, hu5, hun5, hb5⟩
              obtain ⟨ra, rc, hre, _, _⟩ := hu5.form
              rw [hre] at hu5 hun5 ⊢
              have hbx3 := hbx2.belowH hb5
              have hd0 := hbx3.cell0
              have hd1 := hbx3.cell1
              have hg0 := hbx3.frozen 0
              have hg1 := hbx3.frozen 1
              have hout3 := hout2.below hb5
              have hbl := (hbw.trans (hbel2.mono (by omega))).trans (hb5.mono (by omega))
              clear hre
              go_wp2
              have hfin := rel_store hbx3.boxS hd0 hout3 hu5 (hun5.ne (by omega))
              refine bodyPost_ret (v := .agg #[.slice oa s.length oc, .slice ra R.length rc]) (by simp [results, Tryz.results6, go_sem, hd0, hd1]) rfl ⟨_, rfl, by rw [← unhide HSE, ← unhide HRE]; exact hfin, below_store hbl (by omega) _ _⟩

end Go.Proofs.YtoiokplgkanepaaGreatDoor

namespace Go.Proofs.YtoiokplgkanepaaGreatDoor
open Go.RowKit
set_option linter.unusedVariables false
set_option linter.unusedSimpArgs false
set_option maxRecDepth 20000

theorem join_ok {s u : List Int} {la lb : List (List Int)} {n m : Nat} {v v' : Value} {most : Int} {w : World} (h : RelV w v s la) (h' : RelV w v' u lb) (g : Fine s la n) (g' : Fine u lb m) (hn : n < 100000) (hm : m < 100000) (hnm : n * m < 100000) (hmost : ((pairR s la u lb).length : Int) ≤ most) :
    Calls Tryz.prog 7 #[v, v', .int .i64 most] w fun e w' => ∃ x, e = .returned (.tuple #[x, .int .i64 0]) ∧ RelV w' x (joinL s u) (joinR s la u lb) ∧ Below w.heap.size w w' :=
  (join_any h h' g g' hn hm hnm).mono fun e w' ⟨h1, h2⟩ => by
    rcases h1 with ⟨x, y, e1, h3, _, _⟩ | ⟨_, h3⟩
    · exact ⟨_, e1, h3, h2⟩
    · omega

theorem join_no {s u : List Int} {la lb : List (List Int)} {n m : Nat} {v v' : Value} {most : Int} {w : World} (h : RelV w v s la) (h' : RelV w v' u lb) (g : Fine s la n) (g' : Fine u lb m) (hn : n < 100000) (hm : m < 100000) (hnm : n * m < 100000) (hmost : most < ((pairR s la u lb).length : Int)) :
    Calls Tryz.prog 7 #[v, v', .int .i64 most] w fun e w' => e = .returned (.tuple #[.agg #[.slice none 0 0, .slice none 0 0], .int .i64 9]) ∧ Below w.heap.size w w' :=
  (join_any h h' g g' hn hm hnm).mono fun e w' ⟨h1, h2⟩ => by
    rcases h1 with ⟨x, y, e1, h3, h4, _⟩ | ⟨e1, h3⟩
    · omega
    · exact ⟨e1, h2⟩

theorem agree_q {s u : List Int} {la lb : List (List Int)} {n m : Nat} {v v' : Value} {w : World} {q : Bool} (h : RelV w v s la) (h' : RelV w v' u lb) (g : Fine s la n) (g' : Fine u lb m) (hn : n ≤ 5000) (hm : m ≤ 5000) (hq : agreeB s la u lb = q) :
    Calls Tryz.prog 12 #[v, v'] w fun e w' => e = .returned (.bool q) ∧ Below w.heap.size w w' := by rw [← hq]; exact agree_any h h' g g' hn hm

theorem semi_eq {s u : List Int} {la lb R : List (List Int)} {n m : Nat} {v v' : Value} {w : World} (h : RelV w v s la) (h' : RelV w v' u lb) (g : Fine s la n) (g' : Fine u lb m) (hn : n < 100000) (hm : m < 100000) (e : semiR s la u lb = R) :
    Calls Tryz.prog 10 #[v, v'] w fun e w' => ∃ x, e = .returned x ∧ RelV w' x s R ∧ Below w.heap.size w w' := by rw [← e]; exact semijoin_any h h' g g' hn hm

theorem same_q {s s' : List Int} {ll ll' : List (List Int)} {v v' : Value} {w : World} {q : Bool} (h : RelV w v s ll) (h' : RelV w v' s' ll') (e : sameR s ll s' ll' = q) :
    Calls Tryz.prog 34 #[v, v'] w fun e w' => e = .returned (.bool q) ∧ Below w.heap.size w w' := by rw [← e]; exact same_rel h h'

theorem small3_eq {sc S : List Int} {rows : List (List Int)} {vs v : Value} {w : World} (hs : Ints w vs sc) (h : Tups w v rows) (e : smallS3 sc = S) :
    Calls Tryz.prog 6 #[vs, v] w fun e w' => ∃ u, e = .returned u ∧ RelV w' u S (smallR3 sc rows) ∧ Below w.heap.size w w' := by rw [← e]; exact small3_any hs h

/-- Join, its answer under letters. -/
theorem join_eq {s u S : List Int} {la lb J : List (List Int)} {n m : Nat} {v v' : Value} {most : Int} {w : World} (h : RelV w v s la) (h' : RelV w v' u lb) (g : Fine s la n) (g' : Fine u lb m) (hn : n < 100000) (hm : m < 100000) (hnm : n * m < 100000) (hmost : ((pairR s la u lb).length : Int) ≤ most) (e1 : joinL s u = S) (e2 : joinR s la u lb = J) :
    Calls Tryz.prog 7 #[v, v', .int .i64 most] w fun e w' => ∃ x, e = .returned (.tuple #[x, .int .i64 0]) ∧ RelV w' x S J ∧ Below w.heap.size w w' := by rw [← e1, ← e2]; exact join_ok h h' g g' hn hm hnm hmost

theorem fine_a : Fine [0] [[1], [2]] 2 := ⟨by simp, by simp, by simp [AscL, cmpL, cmpI], by simp, by simp, by simp, by simp⟩
theorem fine_b : Fine [1] [[5]] 1 := ⟨by simp, by simp, by simp [AscL], by simp, by simp, by simp, by simp⟩
theorem fine_c : Fine [0] [[2]] 1 := ⟨by simp, by simp, by simp [AscL], by simp, by simp, by simp, by simp⟩
theorem ab_meet : meetL [0] [1] = [] := by decide
theorem ab_join : joinL [0] [1] = [0, 1] := Asc.ext (asc_joinL fine_a.asc fine_b.asc) (by simp) fun x => by rw [mem_joinL]; simp
theorem ab_pairs : (pairR [0] [[1], [2]] [1] [[5]]).length = 2 := pair_all ab_meet [[5]] [[1], [2]]
theorem ab_len : (joinR [0] [[1], [2]] [1] [[5]]).length = 2 := (join_len fine_a fine_b).trans ab_pairs
theorem ac_semi : semiR [0] [[1], [2]] [0] [[2]] = [[2]] := by decide
theorem ac_agree : agreeB [0] [[1], [2]] [0] [[2]] = false := by
  cases h : agreeB [0] [[1], [2]] [0] [[2]] with
  | false => rfl
  | true => exact absurd ((agree_iff fine_a fine_c).1 h).1 (by decide)
theorem ab_agree : agreeB [0] [[1], [2]] [1] [[5]] = true := (agree_iff fine_a fine_b).2 (by decide)

theorem lit_rel {W : World} {h1 h2 : Nat} {s : List Int} {ll : List (List Int)} {vs : List Value} (hs : Ints W (.slice (some ⟨h1, 0, none⟩) s.length s.length) s) (hr : W.heap[h2]? = some (.cells vs.toArray 22 (0, 0))) (hl : vs.length = ll.length) (h10 : vs.length ≤ 10) (hi : ∀ i (h : i < vs.length) (h' : i < ll.length), Ints W vs[i] ll[i]) :
    RelV W (.agg #[.slice (some ⟨h1, 0, none⟩) s.length s.length, .slice (some ⟨h2, 0, none⟩) vs.length vs.length]) s ll :=
  ⟨_, _, rfl, hs, vs, litT_at hr (by simp) rfl (by omega), hl, hi⟩

set_option maxHeartbeats 16000000 in
theorem shown3_any (w : World) : Calls Tryz.prog 5 #[] w fun e w' => e = .returned (.bool true) ∧ Below w.heap.size w w' := by
  obtain ⟨W1, hW1⟩ : ∃ W, W = ((((((((w.alloc (.cells #[.int .i64 0] 3)).alloc (.cells #[.int .i64 1] 3)).alloc (.cells #[.int .i64 2] 3)).alloc (.cells #[.slice (some ⟨w.heap.size + 1, 0, none⟩) 1 1, .slice (some ⟨w.heap.size + 1 + 1, 0, none⟩) 1 1] 22)).alloc (.cells #[.slice (some ⟨w.heap.size, 0, none⟩) 1 1, .slice (some ⟨w.heap.size + 1 + 1 + 1, 0, none⟩) 2 2] 27)).alloc (.cells #[.int .i64 1] 3)).alloc (.cells #[.int .i64 5] 3)).alloc (.cells #[.slice (some ⟨w.heap.size + 1 + 1 + 1 + 1 + 1 + 1, 0, none⟩) 1 1] 22)).alloc (.cells #[.slice (some ⟨w.heap.size + 1 + 1 + 1 + 1 + 1, 0, none⟩) 1 1, .slice (some ⟨w.heap.size + 1 + 1 + 1 + 1 + 1 + 1 + 1, 0, none⟩) 1 1] 27) := ⟨_, rfl⟩
  have hB : Below w.heap.size w W1 := by
    rw [hW1]
    exact (((((((((Below.refl _ w).alloc (Nat.le_refl _) _).alloc (by simp) _).alloc (by simp; omega) _).alloc (by simp; omega) _).alloc (by simp; omega) _).alloc (by simp; omega) _).alloc (by simp; omega) _).alloc (by simp; omega) _).alloc (by simp; omega) _
  have key : ∀ k o, (if k = w.heap.size + 1 + 1 + 1 + 1 + 1 + 1 + 1 + 1 then some o else none) = (if k = w.heap.size + 8 then some o else (none : Option Obj)) := fun k o => by rfl
  have at0 : W1.heap[w.heap.size]? = some (.cells #[.int .i64 0] 3 (0, 0)) := by rw [hW1]; simp only [alloc_at, World.size_alloc]; repeat (first | rw [if_pos True.intro] | rw [if_pos rfl] | rw [if_neg (by omega)])
  have at1 : W1.heap[w.heap.size + 1]? = some (.cells #[.int .i64 1] 3 (0, 0)) := by rw [hW1]; simp only [alloc_at, World.size_alloc]; repeat (first | rw [if_pos True.intro] | rw [if_pos rfl] | rw [if_neg (by omega)])
  have at2 : W1.heap[w.heap.size + 1 + 1]? = some (.cells #[.int .i64 2] 3 (0, 0)) := by rw [hW1]; simp only [alloc_at, World.size_alloc]; repeat (first | rw [if_pos True.intro] | rw [if_pos rfl] | rw [if_neg (by omega)])
  have at3 : W1.heap[w.heap.size + 1 + 1 + 1]? = some (.cells #[.slice (some ⟨w.heap.size + 1, 0, none⟩) 1 1, .slice (some ⟨w.heap.size + 1 + 1, 0, none⟩) 1 1] 22 (0, 0)) := by rw [hW1]; simp only [alloc_at, World.size_alloc]; repeat (first | rw [if_pos True.intro] | rw [if_pos rfl] | rw [if_neg (by omega)])
  have at5 : W1.heap[w.heap.size + 1 + 1 + 1 + 1 + 1]? = some (.cells #[.int .i64 1] 3 (0, 0)) := by rw [hW1]; simp only [alloc_at, World.size_alloc]; repeat (first | rw [if_pos True.intro] | rw [if_pos rfl] | rw [if_neg (by omega)])
  have at6 : W1.heap[w.heap.size + 1 + 1 + 1 + 1 + 1 + 1]? = some (.cells #[.int .i64 5] 3 (0, 0)) := by rw [hW1]; simp only [alloc_at, World.size_alloc]; repeat (first | rw [if_pos True.intro] | rw [if_pos rfl] | rw [if_neg (by omega)])
  have at7 : W1.heap[w.heap.size + 1 + 1 + 1 + 1 + 1 + 1 + 1]? = some (.cells #[.slice (some ⟨w.heap.size + 1 + 1 + 1 + 1 + 1 + 1, 0, none⟩) 1 1] 22 (0, 0)) := by rw [hW1]; simp only [alloc_at, World.size_alloc]; repeat (first | rw [if_pos True.intro] | rw [if_pos rfl] | rw [if_neg (by omega)])
  have xa : Box W1 (w.heap.size + 1 + 1 + 1 + 1) (.slice (some ⟨w.heap.size, 0, none⟩) 1 1) (.slice (some ⟨w.heap.size + 1 + 1 + 1, 0, none⟩) 2 2) := by unfold Box; rw [hW1]; simp only [alloc_at, World.size_alloc]; repeat (first | rw [if_pos True.intro] | rw [if_pos rfl] | rw [if_neg (by omega)])
  have xb : Box W1 (w.heap.size + 1 + 1 + 1 + 1 + 1 + 1 + 1 + 1) (.slice (some ⟨w.heap.size + 1 + 1 + 1 + 1 + 1, 0, none⟩) 1 1) (.slice (some ⟨w.heap.size + 1 + 1 + 1 + 1 + 1 + 1 + 1, 0, none⟩) 1 1) := by unfold Box; rw [hW1]; simp only [alloc_at, World.size_alloc]; repeat (first | rw [if_pos True.intro] | rw [if_pos rfl] | rw [if_neg (by omega)])
  have RA : RelV W1 (.agg #[.slice (some ⟨w.heap.size, 0, none⟩) 1 1, .slice (some ⟨w.heap.size + 1 + 1 + 1, 0, none⟩) 2 2]) [0] [[1], [2]] :=
    lit_rel (s := [0]) (vs := [.slice (some ⟨w.heap.size + 1, 0, none⟩) 1 1, .slice (some ⟨w.heap.size + 1 + 1, 0, none⟩) 1 1]) (litI_at at0 rfl rfl (by simp)) at3 rfl (by simp) (fun i hi hi' => by
      match i, hi, hi' with
      | 0, _, _ => exact litI_at (l := [1]) at1 rfl rfl (by simp)
      | 1, _, _ => exact litI_at (l := [2]) at2 rfl rfl (by simp))
  have RB : RelV W1 (.agg #[.slice (some ⟨w.heap.size + 1 + 1 + 1 + 1 + 1, 0, none⟩) 1 1, .slice (some ⟨w.heap.size + 1 + 1 + 1 + 1 + 1 + 1 + 1, 0, none⟩) 1 1]) [1] [[5]] :=
    lit_rel (s := [1]) (vs := [.slice (some ⟨w.heap.size + 1 + 1 + 1 + 1 + 1 + 1, 0, none⟩) 1 1]) (litI_at at5 rfl rfl (by simp)) at7 rfl (by simp) (fun i hi hi' => by
      match i, hi, hi' with
      | 0, _, _ => exact litI_at (l := [5]) at6 rfl rfl (by simp))
  have HW1 := hide hW1
  have HJ := hide (join_ok (most := 2) RA RB fine_a fine_b (by omega) (by omega) (by omega) (by rw [ab_pairs]; decide))
  clear hW1 at0 at1 at2 at3 at5 at6 at7 key
  go_enter Tryz.func5, Tryz.ntmps5
  go_wp2_with fail
  rw [← unhide HW1]
  refine (unhide HJ).mono ?_
  rintro e w1 ⟨u1, rfl, hr1, hb⟩
  obtain ⟨a1, c1, b1, d1, e1, _, _, _, _, _, _⟩ := hr1.form
  rw [ab_join, ab_len] at e1
  have e1' : u1 = .agg #[.slice a1 2 c1, .slice b1 2 d1] := e1
  subst e1'
  replace RA := RA.below hb
  replace RB := RB.below hb
  replace xa := xa.belowH hb
  replace xb := xb.belowH hb
  replace hB := hB.trans (hb.mono hB.size)
  clear hb e1 hr1 HJ
  have pb := (Below.refl _ w1).alloc (Nat.le_refl _) (.cells #[.slice a1 2 c1, .slice b1 2 d1] 27)
  replace RA := RA.below pb
  replace RB := RB.below pb
  replace xa := xa.push (.cells #[.slice a1 2 c1, .slice b1 2 d1] 27)
  replace xb := xb.push (.cells #[.slice a1 2 c1, .slice b1 2 d1] 27)
  have xr := Box.new w1 (.slice a1 2 c1) (.slice b1 2 d1)
  replace hB := below_then hB pb
  clear pb
  have c0_xa := xa.cell0
  have c1_xa := xa.cell1
  have c0_xb := xb.cell0
  have c1_xb := xb.cell1
  have c0_xr := xr.cell0
  have c1_xr := xr.cell1
  go_wp2_with fail
  refine (join_no (most := 1) RA RB fine_a fine_b (by omega) (by omega) (by omega) (by rw [ab_pairs]; decide)).mono ?_
  rintro e w101 ⟨rfl, hb⟩
  replace RA := RA.below hb
  replace RB := RB.below hb
  replace xa := xa.belowH hb
  replace xb := xb.belowH hb
  replace xr := xr.belowH hb
  replace hB := below_then hB hb
  clear hb c0_xa c1_xa c0_xb c1_xb c0_xr c1_xr
  obtain ⟨W4, hW4⟩ : ∃ W, W = (((w101.alloc (.cells #[.slice none 0 0, .slice none 0 0] 27)).alloc (.cells #[.int .i64 0] 3)).alloc (.cells #[.int .i64 2] 3)).alloc (.cells #[.slice (some ⟨w101.heap.size + 1 + 1, 0, none⟩) 1 1] 22) := ⟨_, rfl⟩
  have hb4 : Below w101.heap.size w101 W4 := by rw [hW4]; exact ((((Below.refl _ w101).alloc (Nat.le_refl _) _).alloc (by simp) _).alloc (by simp; omega) _).alloc (by simp; omega) _
  have q0 : W4.heap[w101.heap.size + 1]? = some (.cells #[.int .i64 0] 3 (0, 0)) := by rw [hW4]; simp only [alloc_at, World.size_alloc]; repeat (first | rw [if_pos True.intro] | rw [if_pos rfl] | rw [if_neg (by omega)])
  have q1 : W4.heap[w101.heap.size + 1 + 1]? = some (.cells #[.int .i64 2] 3 (0, 0)) := by rw [hW4]; simp only [alloc_at, World.size_alloc]; repeat (first | rw [if_pos True.intro] | rw [if_pos rfl] | rw [if_neg (by omega)])
  have q2 : W4.heap[w101.heap.size + 1 + 1 + 1]? = some (.cells #[.slice (some ⟨w101.heap.size + 1 + 1, 0, none⟩) 1 1] 22 (0, 0)) := by rw [hW4]; simp only [alloc_at, World.size_alloc]; repeat (first | rw [if_pos True.intro] | rw [if_pos rfl] | rw [if_neg (by omega)])
  have RC : RelV W4 (.agg #[.slice (some ⟨w101.heap.size + 1, 0, none⟩) 1 1, .slice (some ⟨w101.heap.size + 1 + 1 + 1, 0, none⟩) 1 1]) [0] [[2]] :=
    lit_rel (s := [0]) (vs := [.slice (some ⟨w101.heap.size + 1 + 1, 0, none⟩) 1 1]) (litI_at q0 rfl rfl (by simp)) q2 rfl (by simp) (fun i hi hi' => by
      match i, hi, hi' with
      | 0, _, _ => exact litI_at (l := [2]) q1 rfl rfl (by simp))
  have c0a := cell_push (cell_push (cell_push (cell_push xa.cell0 (.cells #[.slice none 0 0, .slice none 0 0] 27)) (.cells #[.int .i64 0] 3)) (.cells #[.int .i64 2] 3)) (.cells #[.slice (some ⟨w101.heap.size + 1 + 1, 0, none⟩) 1 1] 22)
  have c0 := cell_push xa.cell0 (.cells #[.slice none 0 0, .slice none 0 0] 27)
  have c1' := cell_push xa.cell1 (.cells #[.slice none 0 0, .slice none 0 0] 27)
  have HW4 := hide hW4
  replace RA := RA.below hb4
  replace RB := RB.below hb4
  replace xa := xa.belowH hb4
  replace xb := xb.belowH hb4
  replace xr := xr.belowH hb4
  replace hB := below_then hB hb4
  have HS := hide (semi_eq RA RC fine_a fine_c (by omega) (by omega) ac_semi)
  clear hW4 q0 q1 q2 hb4 RC c0a
  go_wp2_with fail
  rw [← unhide HW4]
  refine (unhide HS).mono ?_
  rintro e w5 ⟨u5, rfl, hr5, hb⟩
  obtain ⟨a5, c5, b5, d5, e5, _, _, _, _, _, _⟩ := hr5.form
  have e5' : u5 = .agg #[.slice a5 1 c5, .slice b5 1 d5] := e5
  subst e5'
  replace RA := RA.below hb
  replace RB := RB.below hb
  replace xa := xa.belowH hb
  replace xb := xb.belowH hb
  replace xr := xr.belowH hb
  replace hB := below_then hB hb
  clear hb e5 HS c0 c1' HW4
  have pb := (Below.refl _ w5).alloc (Nat.le_refl _) (.cells #[.slice a5 1 c5, .slice b5 1 d5] 27)
  replace RA := RA.below pb
  replace RB := RB.below pb
  replace hr5 := hr5.below pb
  replace xa := xa.push (.cells #[.slice a5 1 c5, .slice b5 1 d5] 27)
  replace xb := xb.push (.cells #[.slice a5 1 c5, .slice b5 1 d5] 27)
  replace xr := xr.push (.cells #[.slice a5 1 c5, .slice b5 1 d5] 27)
  have xs := Box.new w5 (.slice a5 1 c5) (.slice b5 1 d5)
  replace hB := below_then hB pb
  clear pb
  have c0_xa := xa.cell0
  have c1_xa := xa.cell1
  have c0_xb := xb.cell0
  have c1_xb := xb.cell1
  have c0_xr := xr.cell0
  have c1_xr := xr.cell1
  have c0_xs := xs.cell0
  have c1_xs := xs.cell1
  go_wp2_with fail
  refine (agree_q RA hr5 fine_a fine_c (by omega) (by omega) ac_agree).mono ?_
  rintro e w102 ⟨rfl, hb⟩
  replace RA := RA.below hb
  replace RB := RB.below hb
  replace xa := xa.belowH hb
  replace xb := xb.belowH hb
  replace xr := xr.belowH hb
  replace xs := xs.belowH hb
  replace hB := below_then hB hb
  clear hb c0_xa c1_xa c0_xb c1_xb c0_xr c1_xr c0_xs c1_xs
  have c0_xa := xa.cell0
  have c1_xa := xa.cell1
  have c0_xb := xb.cell0
  have c1_xb := xb.cell1
  have c0_xr := xr.cell0
  have c1_xr := xr.cell1
  have c0_xs := xs.cell0
  have c1_xs := xs.cell1
  go_wp2_with fail
  refine (agree_q RA RB fine_a fine_b (by omega) (by omega) ab_agree).mono ?_
  rintro e w103 ⟨rfl, hb⟩
  replace xa := xa.belowH hb
  replace xb := xb.belowH hb
  replace xr := xr.belowH hb
  replace xs := xs.belowH hb
  replace hB := below_then hB hb
  clear hb c0_xa c1_xa c0_xb c1_xb c0_xr c1_xr c0_xs c1_xs
  go_wp2
  go_ret
  exact ⟨rfl, hB⟩

end Go.Proofs.YtoiokplgkanepaaGreatDoor
