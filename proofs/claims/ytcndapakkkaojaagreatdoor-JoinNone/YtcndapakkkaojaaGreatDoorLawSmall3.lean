/-
  The contract of small.
-/
import Derived.Test.YtcndapakkkaojaaGreatDoorLawSmall
import Derived.Test.YtcndapakkkaojaaGreatDoorJoinMath
namespace Go.Proofs.YtcndapakkkaojaaGreatDoor
open Go.RowKit
set_option linter.unusedVariables false
set_option linter.unusedSimpArgs false
set_option maxRecDepth 20000

def smallS3 (sc : List Int) : List Int := riseL ((sc.take 3).map (modL 5))
def smallR3 (sc : List Int) (rows : List (List Int)) : List (List Int) := sortL ((rows.take 12).map (smallT (smallS3 sc).length))

theorem smallS3_asc (sc : List Int) : Asc (smallS3 sc) := (riseL_spec _).1
theorem smallS3_len (sc : List Int) : (smallS3 sc).length ≤ 3 := by
  have := riseL_le ((sc.take 3).map (modL 5))
  have h2 : ((sc.take 3).map (modL 5)).length ≤ 3 := by simp; omega
  exact Nat.le_trans this h2
theorem smallS3_mem {sc : List Int} {x : Int} (h : x ∈ smallS3 sc) : 0 ≤ x ∧ x < 5 := by
  rw [smallS3, (riseL_spec _).2] at h
  obtain ⟨y, _, rfl⟩ := List.mem_map.1 h
  exact modL_range (by decide) y
theorem smallR3_asc (sc : List Int) (rows : List (List Int)) : AscL (smallR3 sc rows) := (sortL_spec _).1
theorem smallR3_len (sc : List Int) (rows : List (List Int)) : (smallR3 sc rows).length ≤ 12 := by
  have := sortL_le ((rows.take 12).map (smallT (smallS3 sc).length))
  have h2 : ((rows.take 12).map (smallT (smallS3 sc).length)).length ≤ 12 := by simp; omega
  exact Nat.le_trans this h2
theorem smallR3_wide {sc : List Int} {rows : List (List Int)} {t : List Int} (h : t ∈ smallR3 sc rows) : t.length = (smallS3 sc).length := by
  rw [smallR3, (sortL_spec _).2] at h
  obtain ⟨y, _, rfl⟩ := List.mem_map.1 h
  exact smallT_len _ y



set_option maxHeartbeats 8000000 in
theorem small3_any {sc : List Int} {rows : List (List Int)} {vs v : Value} {w : World} (hs : Ints w vs sc) (h : Tups w v rows) :
    Calls Tryz.prog 13 #[vs, v] w fun e w' => ∃ u, e = .returned u ∧ RelV w' u (smallS3 sc) (smallR3 sc rows) ∧ Below w.heap.size w w' := by
  obtain ⟨a, ca, rfl, hla, hca⟩ := hs.form
  obtain ⟨b, cb, rfl, hlb, hcb⟩ := h.form
  unfold maxLen at hca hcb
  have hb0 := (Below.refl w.heap.size w).alloc (Nat.le_refl _) (.cells #[.slice none 0 0, .slice none 0 0] 27)
  have hbx := Box.new w (.slice none 0 0) (.slice none 0 0)
  have hz0 : w.heap.size + 1 = (w.alloc (.cells #[.slice none 0 0, .slice none 0 0] 27)).heap.size := by simp
  have HS := hide (hs.below hb0)
  have HT := hide (h.below hb0)
  have HZ := hide hz0
  obtain ⟨W0, hW0⟩ : ∃ W, W = w.alloc (.cells #[.slice none 0 0, .slice none 0 0] 27) := ⟨_, rfl⟩
  rw [← hW0] at hbx HS HT HZ hb0
  have HW0 := hide hW0
  clear hs h hW0 hz0
  go_enter Tryz.func13, Tryz.ntmps13
  go_wp2
  rw [← unhide HW0]
  go_loopw [5, 6] (fun v i wr => ∃ k : Nat, k ≤ sc.length ∧ k ≤ 3 ∧ i = .int .i64 k ∧ Ints wr v (riseL ((sc.take k).map (modL 5))) ∧ Below W0.heap.size W0 wr) (fun _ i _ => sc.length - (intOf i).toNat)
  case atStart => exact ⟨0, by omega, by omega, rfl, Seq.nil _ _, Below.refl _ _⟩
  case round =>
    obtain ⟨k, hk, hk4, rfl, hout, hbel⟩ := hrel
    by_cases hkk : k < sc.length ∧ k < 3
    · obtain ⟨hkl, hk4'⟩ := hkk
      obtain ⟨bl, ol, rfl, hcl⟩ := ((unhide HS).below hbel).at hkl
      have HN := hide (show riseL ((sc.take (k + 1)).map (modL 5)) = joinL (riseL ((sc.take k).map (modL 5))) [modL 5 sc[k]] by rw [List.take_succ_eq_append_getElem hkl, List.map_append]; exact riseL_app _ _)
      have hb1 := (Below.refl wr.heap.size wr).alloc (Nat.le_refl _) (.cells #[.int .i64 (modL 5 sc[k])] 3)
      have hrl := riseL_le ((sc.take k).map (modL 5))
      have hrl2 : ((sc.take k).map (modL 5)).length ≤ 3 := by rw [List.length_map]; exact Nat.le_trans (List.length_take_le _ _) hk4
      generalize riseL ((sc.take k).map (modL 5)) = sk at hout HN hrl
      have HJ := hide (refJoin_any (hout.below hb1) (lit_one (W := wr) (modL 5 sc[k])) (by simp; omega))
      obtain ⟨oa, oc, hoe, _, _⟩ := hout.form
      rw [hoe] at HJ ⊢
      rw [show modL 5 sc[k] = (bits .and .i64 sc[k] 65535).tmod 5 from rfl] at HJ HN hb1
      have hz := hbel.size
      clear hout hoe
      go_wp2_with fail
      refine (unhide HJ).mono ?_
      rintro e w2 ⟨u, rfl, hu, hun, hb2⟩
      go_wp2
      go_roundw
      case rel => exact ⟨k + 1, by omega, by omega, by go_num, by rw [unhide HN]; exact hu, hbel.trans ((hb1.trans (hb2.mono (by simp))).mono hz)⟩
      case measure => simp [intOf]; omega
    · have hkd : Hid (riseL ((sc.take k).map (modL 5)) = smallS3 sc) := hide (by
        unfold smallS3
        rw [show sc.take k = sc.take 3 by rw [List.take_eq_take_iff]; omega])
      rw [unhide hkd] at hout
      have hS4 := smallS3_len sc
      have HR := hide (show smallR3 sc rows = sortL ((rows.take 12).map (smallT (smallS3 sc).length)) from rfl)
      obtain ⟨R, hRe⟩ : ∃ R, R = smallR3 sc rows := ⟨_, rfl⟩
      obtain ⟨s, hse⟩ : ∃ s, s = smallS3 sc := ⟨_, rfl⟩
      rw [← hRe, ← hse] at HR
      rw [← hse] at hout hS4 hkd
      have HRE := hide hRe
      have HSE := hide hse
      clear hRe hse
      obtain ⟨oa, oc, hoe, _, hoc⟩ := hout.form
      unfold maxLen at hoc
      rw [hoe] at hout ⊢
      have hbx1 := hbx.belowH hbel
      have ht1 := (unhide HT).below hbel
      clear hoe hkd hbx
      rename World => wA
      have hz1 := hbel.size
      have hbw := hb0.trans (hbel.mono (by have := unhide HZ; omega))
      have hwz : w.heap.size < wA.heap.size := hbx1.lt
      by_cases hkl : k < sc.length
      case' pos =>
        have hk4' : ¬ k < 3 := fun h => hkk ⟨hkl, h⟩
      all_goals
        clear hkk
        go_wp2
        go_loopw [7, 8, 9, 10] (fun v i _ _ wq => ∃ k : Nat, k ≤ rows.length ∧ k ≤ 12 ∧ i = .int .i64 k ∧ OwnT wA.heap.size wq v ((rows.take k).map (smallT s.length)) ∧ Below wA.heap.size wA wq) (fun _ i _ _ _ => rows.length - (intOf i).toNat)
        case atStart => exact ⟨0, by omega, by omega, rfl, OwnT.nil _ _, Below.refl _ _⟩
        case round =>
          obtain ⟨j, hj, hj20, rfl, hown, hbel2⟩ := hrel
          have hz2 := hbel2.size
          by_cases hjj : j < rows.length ∧ j < 12
          · obtain ⟨hjl, hj20'⟩ := hjj
            obtain ⟨bl, ol, ul, rfl, hcl, hiL⟩ := (ht1.below hbel2).at hjl
            obtain ⟨ia, ic, rfl, _, hic⟩ := hiL.form
            unfold maxLen at hic
            have HN := hide (show (rows.take (j + 1)).map (smallT s.length) = (rows.take j).map (smallT s.length) ++ [smallT s.length rows[j]] by rw [List.take_succ_eq_append_getElem hjl, List.map_append]; rfl)
            have hll : ((rows.take j).map (smallT s.length)).length ≤ 12 := by rw [List.length_map]; exact Nat.le_trans (List.length_take_le _ _) hj20
            generalize (rows.take j).map (smallT s.length) = L at hown HN hll
            have HRJ := hide (fun k2 (h1 : k2 ≤ s.length) (h2 : k2 ≤ rows[j].length) (h : ¬ (k2 < s.length ∧ k2 < rows[j].length)) => small_end (n := s.length) (r := rows[j]) h1 h2 h)
            have HST := hide (fun k2 (h1 : k2 < s.length) (h2 : k2 < rows[j].length) => small_set (n := s.length) (r := rows[j]) h1 h2)
            rename World => wB
            go_wp2_with (at_make; refine wp_make_ints rfl _ _ rfl (Nat.le_refl _) rfl rfl (by omega) ?_; intro w3 hown3 hb3)
            go_loopw [10] (fun i wi => ∃ k2 : Nat, k2 ≤ s.length ∧ k2 ≤ rows[j].length ∧ i = .int .i64 k2 ∧ OwnI wB.heap.size wi (.slice (some ⟨wB.heap.size, 0, none⟩) s.length s.length) ((rows[j].take k2).map (modL 3) ++ List.replicate (s.length - k2) 0) ∧ Below wB.heap.size wB wi) (fun i _ => s.length - (intOf i).toNat)
            case atStart => exact ⟨0, by omega, by omega, rfl, by simpa using hown3, hb3⟩
            case round =>
              clear hown3 hb3
              obtain ⟨k2, hk2, hk2r, rfl, howni, hbel3⟩ := hrel
              have hz3 := hbel3.size
              by_cases hkk : k2 < s.length ∧ k2 < rows[j].length
              · obtain ⟨hka, hkb⟩ := hkk
                obtain ⟨bi, oi, e1, hci⟩ := (hiL.below hbel3).at hkb
                subst e1
                have hclw := Below.cell_of hbel3 hcl
                obtain ⟨⟨old, hcell⟩, hfr, hset, hbs⟩ := own_setI howni (by simp; omega) (i := k2) hka (modL 3 rows[j][k2])
                rw [unhide HST k2 hka hkb] at hset
                rw [show modL 3 rows[j][k2] = (bits .and .i64 rows[j][k2] 65535).tmod 3 from rfl] at hset hbs
                clear howni hiL hcl ht1 hout HST HRJ
                go_wp2
                go_roundw
                case rel => exact ⟨k2 + 1, by omega, by omega, by go_num, hset, hbel3.trans hbs⟩
                case measure => simp [intOf]; omega
              · have he := unhide HRJ k2 hk2 hk2r hkk
                have hclw := Below.cell_of hbel3 hcl
                have hok : Hid (decide (k2 < s.length) = false ∨ (k2 < s.length ∧ ¬ k2 < rows[j].length)) := hide (by
                  by_cases h1 : k2 < s.length
                  · exact .inr ⟨h1, fun h2 => hkk ⟨h1, h2⟩⟩
                  · exact .inl (by simpa using h1))
                rw [he] at howni
                clear he HST HRJ hiL hkk hcl
                have hti := Seq.of_own howni
                have hnt := New.of_own howni
                have hownL := hown.below hbel3
                have hap := hide (show Sep _ _ from (Sep.of_new hown.new (Nat.le_refl _) hnt).symm)
                have hzz := Nat.le_trans hz2 hz3
                generalize smallT s.length rows[j] = T at howni hti HN
                rcases unhide hok with h1 | ⟨h1, h2⟩
                all_goals
                  clear hok hown howni ht1 hout
                  go_wp2_with (at_builtin; refine wp_app_tup rfl (.tmp 70) (.tmp 72) rfl hownL hti (fun _ => unhide hap) rfl hzz rfl (by omega) ?_; intro v' w4 hown4 hgrew)
                  go_roundw
                  case rel => exact ⟨j + 1, by omega, by omega, by go_num, by rw [unhide HN]; exact hown4, (hbel2.trans (hbel3.mono hz2)).trans hgrew.below⟩
                  case measure => simp [intOf]; omega
          · have hF : (rows.take j).map (smallT s.length) = (rows.take 12).map (smallT s.length) := by
              rw [show rows.take j = rows.take 12 by rw [List.take_eq_take_iff]; omega]
            rw [hF] at hown
            have hlen20 : ((rows.take 12).map (smallT s.length)).length ≤ 12 := by rw [List.length_map]; exact List.length_take_le _ _
            have HSRT := hide (refSort_any hown.tups (by omega) (fun t ht => by
              obtain ⟨x, _, rfl⟩ := List.mem_map.1 ht
              rw [smallT_len]; omega))
            rw [← unhide HR] at HSRT
            have hok : Hid (decide (j < rows.length) = false ∨ (j < rows.length ∧ ¬ j < 12)) := hide (by
              by_cases h1 : j < rows.length
              · exact .inr ⟨h1, fun h2 => hjj ⟨h1, h2⟩⟩
              · exact .inl (by simpa using h1))
            have hbx2 := hbx1.belowH hbel2
            have hout2 := hout.below hbel2
            obtain ⟨va, vn, vc, hve⟩ := hown.sl
            rw [hve] at HSRT ⊢
            clear hF hlen20 hown hve hjj ht1 hout hbx1
            rcases unhide hok with h1 | ⟨h1, h2⟩
            all_goals
              clear hok
              go_wp2_with fail
              refine (unhide HSRT).mono ?_
              rintro e w5 ⟨u5, rfl, hu5, hun5, hb5⟩
              obtain ⟨ra, rc, hre, _, _⟩ := hu5.form
              rw [hre] at hu5 hun5 ⊢
              have hbx3 := hbx2.belowH hb5
              have hd0 := hbx3.cell0
              have hd1 := hbx3.cell1
              have hg0 := hbx3.frozen 0
              have hg1 := hbx3.frozen 1
              have hout3 := hout2.below hb5
              have hbl := (hbw.trans (hbel2.mono (by omega))).trans (hb5.mono (by omega))
              clear hre
              go_wp2
              have hfin := rel_store hbx3.boxS hd0 hout3 hu5 (hun5.ne (by omega))
              refine bodyPost_ret (v := .agg #[.slice oa s.length oc, .slice ra R.length rc]) (by simp [results, Tryz.results13, go_sem, hd0, hd1]) rfl ⟨_, rfl, by rw [← unhide HSE, ← unhide HRE]; exact hfin, below_store hbl (by omega) _ _⟩

theorem smallT_dig {n : Nat} {r : List Int} {x : Int} (h : x ∈ smallT n r) : 0 ≤ x ∧ x < 10 := by
  unfold smallT at h
  rcases List.mem_append.1 h with h | h
  · obtain ⟨y, _, rfl⟩ := List.mem_map.1 h
    have := modL_range (k := 3) (by decide) y
    omega
  · have := List.eq_of_mem_replicate h
    omega

theorem fine_small (sc : List Int) (rows : List (List Int)) : Fine (smallS3 sc) (smallR3 sc rows) 12 :=
  ⟨smallS3_asc sc, fun x hx => (smallS3_mem hx).1, smallR3_asc sc rows, fun t ht => smallR3_wide ht, by have := smallS3_len sc; omega, smallR3_len sc rows, fun t ht x hx => by
    rw [smallR3, (sortL_spec _).2] at ht
    obtain ⟨y, _, rfl⟩ := List.mem_map.1 ht
    exact smallT_dig hx⟩

end Go.Proofs.YtcndapakkkaojaaGreatDoor
