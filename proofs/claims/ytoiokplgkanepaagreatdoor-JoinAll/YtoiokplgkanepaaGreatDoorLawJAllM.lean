/-
  Proved: JoinAll answers true for every slice of Parts and every number, and leaves what was handed in as it was; the listed variables hold what the program's text lays. No other condition.
-/
import Derived.Test.YtoiokplgkanepaaGreatDoorLawSmall
import Derived.Test.YtoiokplgkanepaaGreatDoorSmall3
import Derived.Test.YtoiokplgkanepaaGreatDoorRefSortN
import Derived.Test.YtoiokplgkanepaaGreatDoorFrame3
import Derived.Test.YtoiokplgkanepaaGreatDoorJoinAll3
import Derived.Deep.SlicePairs
import Derived.Deep.RegionHeld3
import Derived.Test.YtoiokplgkanepaaGreatDoorRefJoin3
import Derived.Deep.RegionLaw
import Derived.BigRegion
import Derived.Test.YtoiokplgkanepaaGreatDoorLawKit3
namespace Go.Proofs.YtoiokplgkanepaaGreatDoor
open Go.RowKit
set_option linter.unusedVariables false
set_option linter.unusedSimpArgs false
set_option maxRecDepth 20000

theorem set_by {w : World} {b i : Nat} (y : Value) : w.grownBy (w.setCell ⟨b, i, none⟩ y) (some b) := by
  have h := (Below.refl b w).setCell (p := ⟨b, i, none⟩) (Nat.le_refl _) y
  refine ⟨h.os, h.tape, h.output, h.size, fun k hk hne => ?_⟩
  exact heap_setCell_other w ⟨b, i, none⟩ k y (fun e => hne (by rw [e]))

theorem relO_store {X : Nat → Prop} {w : World} {b : Nat} {x y : Value} {r : List Int × List (List Int)} (h : RelO X w (x, y) r) (hX : X b) (u v : Value) : RelO X ((w.setCell ⟨b, 0, none⟩ u).setCell ⟨b, 1, none⟩ v) (x, y) r :=
  (h.kept (set_by u) (fun c e => by cases e; exact hX)).kept (set_by v) (fun c e => by cases e; exact hX)

set_option maxHeartbeats 8000000 in
theorem small3_nw {sc : List Int} {rows : List (List Int)} {vs v : Value} {w : World} (hs : Ints w vs sc) (h : Tups w v rows) :
    Calls Tryz.prog 6 #[vs, v] w fun e w' => ∃ x y, e = .returned (.agg #[x, y]) ∧ RelO (· < w.heap.size) w' (x, y) (smallS3 sc, smallR3 sc rows) ∧ Below w.heap.size w w' := by
  obtain ⟨a, ca, rfl, hla, hca⟩ := hs.form
  obtain ⟨b, cb, rfl, hlb, hcb⟩ := h.form
  unfold maxLen at hca hcb
  have hb0 := (Below.refl w.heap.size w).alloc (Nat.le_refl _) (.cells #[.slice none 0 0, .slice none 0 0] 27)
  have hbx := Box.new w (.slice none 0 0) (.slice none 0 0)
  have hz0 : w.heap.size + 1 = (w.alloc (.cells #[.slice none 0 0, .slice none 0 0] 27)).heap.size := by simp
  have HS := hide (hs.below hb0)
  have HT := hide (h.below hb0)
  have HZ := hide hz0
  obtain ⟨W0, hW0⟩ : ∃ W, W = w.alloc (.cells #[.slice none 0 0, .slice none 0 0] 27) := ⟨_, rfl⟩
  rw [← hW0] at hbx HS HT HZ hb0
  have HW0 := hide hW0
  clear hs h hW0 hz0
  go_enter Tryz.func6, Tryz.ntmps6
  go_wp2
  rw [← unhide HW0]
  go_loopw [5, 6] (fun v i wr => ∃ k : Nat, k ≤ sc.length ∧ k ≤ 3 ∧ i = .int .i64 k ∧ IntsO (· ≤ w.heap.size) wr v (riseL ((sc.take k).map (modL 5))) ∧ Below W0.heap.size W0 wr) (fun _ i _ => sc.length - (intOf i).toNat)
  case atStart => exact ⟨0, by omega, by omega, rfl, IntsO.nil _ _, Below.refl _ _⟩
  case round =>
    obtain ⟨k, hk, hk4, rfl, hout, hbel⟩ := hrel
    by_cases hkk : k < sc.length ∧ k < 3
    · obtain ⟨hkl, hk4'⟩ := hkk
      obtain ⟨bl, ol, rfl, hcl⟩ := ((unhide HS).below hbel).at hkl
      have HN := hide (show riseL ((sc.take (k + 1)).map (modL 5)) = joinL (riseL ((sc.take k).map (modL 5))) [modL 5 sc[k]] by rw [List.take_succ_eq_append_getElem hkl, List.map_append]; exact riseL_app _ _)
      have hb1 := (Below.refl wr.heap.size wr).alloc (Nat.le_refl _) (.cells #[.int .i64 (modL 5 sc[k])] 3)
      have hrl := riseL_le ((sc.take k).map (modL 5))
      have hrl2 : ((sc.take k).map (modL 5)).length ≤ 3 := by rw [List.length_map]; exact Nat.le_trans (List.length_take_le _ _) hk4
      generalize riseL ((sc.take k).map (modL 5)) = sk at hout HN hrl
      have HJ := hide (refJoin_any (hout.1.below hb1) (lit_one (W := wr) (modL 5 sc[k])) (by simp; omega))
      obtain ⟨oa, oc, hoe, _, _⟩ := hout.1.form
      rw [hoe] at HJ ⊢
      rw [show modL 5 sc[k] = (bits .and .i64 sc[k] 65535).tmod 5 from rfl] at HJ HN hb1
      have hz := hbel.size
      clear hout hoe
      go_wp2_with fail
      refine (unhide HJ).mono ?_
      rintro e w2 ⟨u, rfl, hu, hun, hb2⟩
      go_wp2
      go_roundw
      case rel => exact ⟨k + 1, by omega, by omega, by go_num, by rw [unhide HN]; exact ⟨hu, (NotIn.of_new hun).weaken fun g _ hg => by have h1 := unhide HZ; have h2 : g ≤ w.heap.size := hg; show g < _; simp; omega⟩, hbel.trans ((hb1.trans (hb2.mono (by simp))).mono hz)⟩
      case measure => simp [intOf]; omega
    · have hkd : Hid (riseL ((sc.take k).map (modL 5)) = smallS3 sc) := hide (by
        unfold smallS3
        rw [show sc.take k = sc.take 3 by rw [List.take_eq_take_iff]; omega])
      rw [unhide hkd] at hout
      have hS4 := smallS3_len sc
      have HR := hide (show smallR3 sc rows = sortL ((rows.take 12).map (smallT (smallS3 sc).length)) from rfl)
      obtain ⟨R, hRe⟩ : ∃ R, R = smallR3 sc rows := ⟨_, rfl⟩
      obtain ⟨s, hse⟩ : ∃ s, s = smallS3 sc := ⟨_, rfl⟩
      rw [← hRe, ← hse] at HR
      rw [← hse] at hout hS4 hkd
      have HRE := hide hRe
      have HSE := hide hse
      clear hRe hse
      obtain ⟨oa, oc, hoe, _, hoc⟩ := hout.1.form
      unfold maxLen at hoc
      rw [hoe] at hout ⊢
      have hbx1 := hbx.belowH hbel
      have ht1 := (unhide HT).below hbel
      clear hoe hkd hbx
      rename World => wA
      have hz1 := hbel.size
      have hbw := hb0.trans (hbel.mono (by have := unhide HZ; omega))
      have hwz : w.heap.size < wA.heap.size := hbx1.lt
      by_cases hkl : k < sc.length
      case' pos =>
        have hk4' : ¬ k < 3 := fun h => hkk ⟨hkl, h⟩
      all_goals
        clear hkk
        go_wp2
        go_loopw [7, 8, 9, 10] (fun v i _ _ wq => ∃ k : Nat, k ≤ rows.length ∧ k ≤ 12 ∧ i = .int .i64 k ∧ OwnT wA.heap.size wq v ((rows.take k).map (smallT s.length)) ∧ Below wA.heap.size wA wq) (fun _ i _ _ _ => rows.length - (intOf i).toNat)
        case atStart => exact ⟨0, by omega, by omega, rfl, OwnT.nil _ _, Below.refl _ _⟩
        case round =>
          obtain ⟨j, hj, hj20, rfl, hown, hbel2⟩ := hrel
          have hz2 := hbel2.size
          by_cases hjj : j < rows.length ∧ j < 12
          · obtain ⟨hjl, hj20'⟩ := hjj
            obtain ⟨bl, ol, ul, rfl, hcl, hiL⟩ := (ht1.below hbel2).at hjl
            obtain ⟨ia, ic, rfl, _, hic⟩ := hiL.form
            unfold maxLen at hic
            have HN := hide (show (rows.take (j + 1)).map (smallT s.length) = (rows.take j).map (smallT s.length) ++ [smallT s.length rows[j]] by rw [List.take_succ_eq_append_getElem hjl, List.map_append]; rfl)
            have hll : ((rows.take j).map (smallT s.length)).length ≤ 12 := by rw [List.length_map]; exact Nat.le_trans (List.length_take_le _ _) hj20
            generalize (rows.take j).map (smallT s.length) = L at hown HN hll
            have HRJ := hide (fun k2 (h1 : k2 ≤ s.length) (h2 : k2 ≤ rows[j].length) (h : ¬ (k2 < s.length ∧ k2 < rows[j].length)) => small_end (n := s.length) (r := rows[j]) h1 h2 h)
            have HST := hide (fun k2 (h1 : k2 < s.length) (h2 : k2 < rows[j].length) => small_set (n := s.length) (r := rows[j]) h1 h2)
            rename World => wB
            go_wp2_with (at_make; refine wp_make_ints rfl _ _ rfl (Nat.le_refl _) rfl rfl (by omega) ?_; intro w3 hown3 hb3)
            go_loopw [10] (fun i wi => ∃ k2 : Nat, k2 ≤ s.length ∧ k2 ≤ rows[j].length ∧ i = .int .i64 k2 ∧ OwnI wB.heap.size wi (.slice (some ⟨wB.heap.size, 0, none⟩) s.length s.length) ((rows[j].take k2).map (modL 3) ++ List.replicate (s.length - k2) 0) ∧ Below wB.heap.size wB wi) (fun i _ => s.length - (intOf i).toNat)
            case atStart => exact ⟨0, by omega, by omega, rfl, by simpa using hown3, hb3⟩
            case round =>
              clear hown3 hb3
              obtain ⟨k2, hk2, hk2r, rfl, howni, hbel3⟩ := hrel
              have hz3 := hbel3.size
              by_cases hkk : k2 < s.length ∧ k2 < rows[j].length
              · obtain ⟨hka, hkb⟩ := hkk
                obtain ⟨bi, oi, e1, hci⟩ := (hiL.below hbel3).at hkb
                subst e1
                have hclw := Below.cell_of hbel3 hcl
                obtain ⟨⟨old, hcell⟩, hfr, hset, hbs⟩ := own_setI howni (by simp; omega) (i := k2) hka (modL 3 rows[j][k2])
                rw [unhide HST k2 hka hkb] at hset
                rw [show modL 3 rows[j][k2] = (bits .and .i64 rows[j][k2] 65535).tmod 3 from rfl] at hset hbs
                clear howni hiL hcl ht1 hout HST HRJ
                go_wp2
                go_roundw
                case rel => exact ⟨k2 + 1, by omega, by omega, by go_num, hset, hbel3.trans hbs⟩
                case measure => simp [intOf]; omega
              · have he := unhide HRJ k2 hk2 hk2r hkk
                have hclw := Below.cell_of hbel3 hcl
                have hok : Hid (decide (k2 < s.length) = false ∨ (k2 < s.length ∧ ¬ k2 < rows[j].length)) := hide (by
                  by_cases h1 : k2 < s.length
                  · exact .inr ⟨h1, fun h2 => hkk ⟨h1, h2⟩⟩
                  · exact .inl (by simpa using h1))
                rw [he] at howni
                clear he HST HRJ hiL hkk hcl
                have hti := Seq.of_own howni
                have hnt := New.of_own howni
                have hownL := hown.below hbel3
                have hap := hide (show Sep _ _ from (Sep.of_new hown.new (Nat.le_refl _) hnt).symm)
                have hzz := Nat.le_trans hz2 hz3
                generalize smallT s.length rows[j] = T at howni hti HN
                rcases unhide hok with h1 | ⟨h1, h2⟩
                all_goals
                  clear hok hown howni ht1 hout
                  go_wp2_with (at_builtin; refine wp_app_tup rfl (.tmp 70) (.tmp 72) rfl hownL hti (fun _ => unhide hap) rfl hzz rfl (by omega) ?_; intro v' w4 hown4 hgrew)
                  go_roundw
                  case rel => exact ⟨j + 1, by omega, by omega, by go_num, by rw [unhide HN]; exact hown4, (hbel2.trans (hbel3.mono hz2)).trans hgrew.below⟩
                  case measure => simp [intOf]; omega
          · have hF : (rows.take j).map (smallT s.length) = (rows.take 12).map (smallT s.length) := by
              rw [show rows.take j = rows.take 12 by rw [List.take_eq_take_iff]; omega]
            rw [hF] at hown
            have hlen20 : ((rows.take 12).map (smallT s.length)).length ≤ 12 := by rw [List.length_map]; exact List.length_take_le _ _
            have HSRT := hide (refSort_nw hown.tups (by omega) (fun t ht => by
              obtain ⟨x, _, rfl⟩ := List.mem_map.1 ht
              rw [smallT_len]; omega))
            rw [← unhide HR] at HSRT
            have hok : Hid (decide (j < rows.length) = false ∨ (j < rows.length ∧ ¬ j < 12)) := hide (by
              by_cases h1 : j < rows.length
              · exact .inr ⟨h1, fun h2 => hjj ⟨h1, h2⟩⟩
              · exact .inl (by simpa using h1))
            have hbx2 := hbx1.belowH hbel2
            have hout2 := hout.below hbel2
            obtain ⟨va, vn, vc, hve⟩ := hown.sl
            rw [hve] at HSRT ⊢
            clear hF hlen20 hown hve hjj ht1 hout hbx1
            rcases unhide hok with h1 | ⟨h1, h2⟩
            all_goals
              clear hok
              go_wp2_with fail
              refine (unhide HSRT).mono ?_
              rintro e w5 ⟨u5, rfl, hu5, hb5⟩
              obtain ⟨ra, rc, hre, _, _⟩ := hu5.tups.form
              rw [hre] at hu5 ⊢
              have hbx3 := hbx2.belowH hb5
              have hd0 := hbx3.cell0
              have hd1 := hbx3.cell1
              have hg0 := hbx3.frozen 0
              have hg1 := hbx3.frozen 1
              have hout3 := hout2.below hb5
              have hbl := (hbw.trans (hbel2.mono (by omega))).trans (hb5.mono (by omega))
              clear hre
              go_wp2
              have hfin := relO_store (r := (s, R)) (b := w.heap.size) ⟨hout3, hu5.weaken (Y := (· ≤ w.heap.size)) (fun g _ hg => by have h2 : g ≤ w.heap.size := hg; have h3 := hbel2.size; show g < _; omega)⟩ (Nat.le_refl _) (.slice oa s.length oc) (.slice ra R.length rc)
              refine bodyPost_ret (v := .agg #[.slice oa s.length oc, .slice ra R.length rc]) (by simp [results, Tryz.results6, go_sem, hd0, hd1]) rfl ⟨_, _, rfl, by rw [← unhide HSE, ← unhide HRE]; exact hfin.weaken (fun g _ hg => Nat.le_of_lt hg), below_store hbl (by omega) _ _⟩

end Go.Proofs.YtoiokplgkanepaaGreatDoor

namespace Go.Proofs.YtoiokplgkanepaaGreatDoor
open Go.RowKit Go.ChangeShapes Go.WideShapes Go.ChangeAt
set_option linter.unusedVariables false
set_option linter.unusedSimpArgs false
set_option maxRecDepth 20000

theorem list_of {α : Type} {p : Nat → α → Prop} : ∀ (n : Nat), (∀ i, i < n → ∃ x, p i x) → ∃ l : List α, l.length = n ∧ ∀ i (h : i < l.length), p i l[i]
  | 0, _ => ⟨[], rfl, fun i h => by simp at h⟩
  | n + 1, h => by
    obtain ⟨l, h1, h2⟩ := list_of n (fun i hi => h i (by omega))
    obtain ⟨x, hx⟩ := h n (by omega)
    refine ⟨l ++ [x], by simp [h1], fun i hi => ?_⟩
    by_cases hil : i < l.length
    · rw [List.getElem_append_left hil]; exact h2 i hil
    · have e : i = l.length := by simp at hi; omega
      subst e
      rw [List.getElem_append_right (by omega)]
      simpa [h1] using hx

theorem spot_none {w : World} {a : Addr} {v : Value} (h : w.cell? (a.add (0 * 2)) = some v) : a.spot = none := by
  simp only [Addr.add, Nat.zero_mul, if_true, World.cell?] at h
  split at h
  · split at h
    · cases h
    · rename_i hs; cases hx : a.spot with
      | none => rfl
      | some y => rw [hx] at hs; simp at hs
  · cases h

/-- A slice of Parts that is handed in. -/
theorem read_parts {H : Type} {enc : TypeId × Value → H} {W : World} {v : Value} {d : DataW H} {ps : List MemPlace} {base : Nat} {held : Bool} (h : DataW.Trod enc Tryz.prog W base (fun _ => true) held 36 v d ps) (hv : ∃ a n c, v = .slice a n c) :
    ∃ rs, RelS W v rs := by
  obtain ⟨a, n, c, rfl⟩ := hv
  obtain ⟨fuel, hf⟩ := h
  obtain ⟨f0, f1, hu, ⟨o0, t0⟩, o1, t1⟩ := part_fields
  rcases Go.Deep.open_slice_pairs Tryz.underlying36 hu partCells o0 o1 (by rw [t0]; exact relCells.2.1) (by rw [t1]; exact relCells.2.2) hf with ⟨hcs, _⟩ | ⟨x, len, cap, m, q, V0, V1, D0, D1, P0, P1, hcs, _, hl, hm, hmm, _, hx⟩
  · simp [Value.cells] at hcs
    obtain ⟨rfl, rfl, rfl⟩ := hcs
    exact ⟨[], RelS.nil _⟩
  · simp [Value.cells] at hcs
    obtain ⟨rfl, rfl, rfl⟩ := hcs
    obtain ⟨rs, hrl, hrs⟩ := list_of (p := fun i (r : List Int × List (List Int)) => ∃ b off x' y', some x = some (⟨b, off, none⟩ : Addr) ∧ W.cell? ⟨b, off + i * 2, none⟩ = some x' ∧ W.cell? ⟨b, off + i * 2 + 1, none⟩ = some y' ∧ RelV W (.agg #[x', y']) r.1 r.2) n (fun i hi => by
      obtain ⟨h0, h1, g0, g1⟩ := hx i (by rw [hmm]; simp; omega)
      have hs := spot_none (hx 0 (by rw [hmm]; simp; omega)).1
      rw [addr_add hs] at h0 h1
      rw [t0] at g0
      rw [t1] at g1
      obtain ⟨s, hs', _⟩ := read_intsC g0
      obtain ⟨ll, hl', _⟩ := read_tupsC g1
      obtain ⟨xb, xo, xs⟩ := x
      simp only at hs
      subst hs
      exact ⟨(s, ll), xb, xo, V0 i, V1 i, rfl, h0, by rw [← Nat.add_assoc] at h1; exact h1, _, _, rfl, hs', hl'⟩)
    exact ⟨rs, some x, c, by rw [hrl], by omega, hm, hrs⟩

/-- The relations that are made of Parts: five at most. -/
def partR (r : List Int × List (List Int)) : List Int × List (List Int) := (smallS3 r.1, smallR3 r.1 r.2)
def partsR (l : List (List Int × List (List Int))) : List (List Int × List (List Int)) := (l.take 5).map partR

theorem partsR_fine (l : List (List Int × List (List Int))) : ∀ r ∈ partsR l, Fine r.1 r.2 12 ∧ r.1.length ≤ 3 := by
  intro r hr
  obtain ⟨x, _, rfl⟩ := List.mem_map.1 hr
  exact ⟨fine_small x.1 x.2, smallS3_len x.1⟩
theorem partsR_len (l : List (List Int × List (List Int))) : (partsR l).length ≤ 5 := by unfold partsR; rw [List.length_map]; exact List.length_take_le _ _

theorem OwnR.relS {B : Nat} {w : World} {v : Value} {rs : List (List Int × List (List Int))} (h : OwnR B w v rs) : RelS w v rs := by
  obtain ⟨ps, ⟨hl, h1⟩, h2, h3⟩ := h
  rcases h1 with ⟨rfl, h0⟩ | ⟨g, cap, cur, hv, hg, hh, hn, hm, hs, ht⟩
  · have : rs = [] := List.length_eq_zero_iff.1 (by omega)
    subst this
    exact RelS.nil _
  · refine ⟨_, cap, by rw [hv, h2], by omega, hm, fun i hi => ⟨g, 0, ps[i].1, ps[i].2, rfl, ?_, ?_, (h3 i (by omega) hi).rel⟩⟩
    · have e := flat2_at0 ps i (by omega)
      rw [← ht, List.getElem?_take] at e
      split at e
      · simp only [World.cell?, hh]; simpa using e
      · cases e
    · have e := flat2_at1 ps i (by omega)
      rw [← ht, List.getElem?_take] at e
      split at e
      · simp only [World.cell?, hh]; simpa using e
      · cases e

set_option maxHeartbeats 8000000 in
theorem parts_any {l : List (List Int × List (List Int))} {v : Value} {w : World} (h : RelS w v l) : Calls Tryz.prog 15 #[v] w fun e w' => ∃ u, e = .returned u ∧ RelS w' u (partsR l) ∧ Below w.heap.size w w' := by
  have HS := hide (fun W (hb : Below w.heap.size w W) => h.below hb)
  obtain ⟨a, cap, rfl, hc1, hc2, _⟩ := h
  unfold maxLen at hc2
  go_enter Tryz.func15, Tryz.ntmps15
  go_wp2
  go_loopw [3, 4] (fun ov i wr => ∃ k : Nat, k ≤ l.length ∧ k ≤ 5 ∧ i = .int .i64 k ∧ OwnR w.heap.size wr ov ((l.take k).map partR) ∧ Below w.heap.size w wr) (fun _ i _ => l.length - (intOf i).toNat)
  case atStart => exact ⟨0, by omega, by omega, rfl, OwnR.nil _ _, Below.refl _ _⟩
  case round =>
    obtain ⟨k, hk, hk5, rfl, hown, hbel⟩ := hrel
    obtain ⟨oa, oc, hoe⟩ := hown.sl
    have hz := hbel.size
    rw [hoe] at hown ⊢
    clear hoe
    by_cases hkk : k < l.length ∧ k < 5
    · obtain ⟨hkl, hk5'⟩ := hkk
      obtain ⟨a', cap', ha, _, _, hat⟩ := unhide HS w (Below.refl _ _)
      cases ha
      obtain ⟨bl, ol, rx, ry, hae, hcx, hcy, hrk⟩ := hat k hkl
      subst hae
      obtain ⟨_, _, hre, hi, ht⟩ := hrk
      cases hre
      have HN := hide (show (l.take (k + 1)).map partR = (l.take k).map partR ++ [partR l[k]] by rw [List.take_succ_eq_append_getElem hkl, List.map_append]; rfl)
      have HSM := hide (fun W (hb : Below w.heap.size w W) => small3_nw (hi.below hb) (ht.below hb))
      have HK := hide (fun W (hb : Below w.heap.size w W) => And.intro (Below.cell_of hb hcx) (Below.cell_of hb hcy))
      have hll : ((l.take k).map partR).length ≤ 5 := by rw [List.length_map]; exact Nat.le_trans (List.length_take_le _ _) hk5
      have hpr : partR l[k] = (smallS3 l[k].1, smallR3 l[k].1 l[k].2) := rfl
      rw [← hpr] at HSM
      generalize partR l[k] = r at *
      generalize (l.take k).map partR = L at *
      have hbR := hbel
      have HOW := hide hown
      clear hi ht hat hcx hcy hpr hown
      go_wp2
      go_region_held3 (fun W => W.cell? ⟨bl, ol + k * 2, none⟩ = some rx ∧ W.cell? ⟨bl, ol + k * 2 + 1, none⟩ = some ry)
        (first | exact unhide HK _ (by first | exact hB5 | exact hB3 | exact hbR | exact below_then hbR (below_same rfl rfl rfl rfl) | exact below_then hB3 (below_push rfl rfl rfl rfl) | exact below_then hB5 (below_same rfl rfl rfl rfl) | exact below_then hB3 (below_same rfl rfl rfl rfl)))
        (first
          | (go_at_call 6; refine (unhide HSM _ (by first | exact hbR | exact below_then hbR (below_same rfl rfl rfl rfl))).mono ?_; rintro e w3 ⟨x3, y3, rfl, hR3, hb3⟩; have hB3 : Below w.heap.size w w3 := below_then (by first | exact hbR | exact below_then hbR (below_same rfl rfl rfl rfl)) hb3; have hown3 : OwnR w.heap.size w3 _ L := OwnR.below (by first | exact unhide HOW | exact OwnR.below (unhide HOW) (below_same rfl rfl rfl rfl)) hb3; have hP3 : RelO (fun g => (Value.slice oa L.length oc).ownBlock = some g) w3 (x3, y3) r := hR3.weaken (fun g _ hg => ((unhide HOW).new g hg).2); clear hb3 hR3)
          | (refine step_of rfl (op_app_rel (p := (x3, y3)) (.tmp 15) (.tmp 27) rfl hown3 hP3 rfl hB3.size rfl (by omega) ?_); intro v5 w5 hown5 hgrew5; have hB5 : Below w.heap.size w w5 := hB3.trans hgrew5.below))
      all_goals
        go_wp2
        go_roundw
        case rel => exact ⟨k + 1, by omega, by omega, by go_num, by rw [unhide HN]; exact hown5, hB5⟩
        case measure => simp [intOf]; omega
    · have hF : (l.take k).map partR = partsR l := by
        unfold partsR
        rw [show l.take k = l.take 5 by rw [List.take_eq_take_iff]; omega]
      rw [hF] at hown ⊢
      have hfin := hide hown.relS
      have hok : Hid (decide (k < l.length) = false ∨ (k < l.length ∧ ¬ k < 5)) := hide (by
        by_cases h1 : k < l.length
        · exact .inr ⟨h1, fun h2 => hkk ⟨h1, h2⟩⟩
        · exact .inl (by simpa using h1))
      generalize (partsR l).length = n at *
      clear hF hown hkk
      rcases unhide hok with h1 | ⟨h1, h2⟩
      all_goals
        clear hok
        go_wp2
        go_ret
        exact ⟨_, rfl, unhide hfin, hbel⟩

end Go.Proofs.YtoiokplgkanepaaGreatDoor

namespace Go.Proofs.YtoiokplgkanepaaGreatDoor
open Go.RowKit
set_option linter.unusedVariables false
set_option linter.unusedSimpArgs false
set_option maxRecDepth 20000

theorem cnt_join {rs : List (List Int × List (List Int))} (hrs : ∀ r ∈ rs, Fine r.1 r.2 12 ∧ r.1.length ≤ 3) (h5 : rs.length ≤ 5) {k : Nat} (hk : k < rs.length) : (joinR (allR (rs.take k)).1 (allR (rs.take k)).2 rs[k].1 rs[k].2).length = cntR rs k := by
  rw [cnt_at hk]
  exact join_len (all_fine hrs h5 k (by omega)).1 (hrs rs[k] (List.getElem_mem hk)).1

theorem all_small {rs : List (List Int × List (List Int))} (hrs : ∀ r ∈ rs, Fine r.1 r.2 12 ∧ r.1.length ≤ 3) (h5 : rs.length ≤ 5) {most : Int} (hm : most ≤ 4000) : ∀ {k : Nat}, k ≤ rs.length → (∀ j, j < k → (cntR rs j : Int) ≤ most) → (allR (rs.take k)).2.length ≤ 4000
  | 0, _, _ => by show ([[]] : List (List Int)).length ≤ 4000; simp
  | k + 1, hk, hmo => by
    rw [all_snoc (by omega)]
    show (joinR _ _ _ _).length ≤ 4000
    rw [cnt_join hrs h5 (by omega)]
    have := hmo k (by omega)
    omega

/-- What the document's All answers. -/
def AllEndsR (w' : World) (e : Ending) (rs : List (List Int × List (List Int))) (most : Int) : Prop :=
  (∃ x y, e = .returned (.tuple #[.agg #[x, y], .bool true]) ∧ RelV w' (.agg #[x, y]) (allR rs).1 (allR rs).2 ∧ ∀ k, k < rs.length → (cntR rs k : Int) ≤ most) ∨
  (e = .returned (.tuple #[.agg #[.slice none 0 0, .slice none 0 0], .bool false]) ∧ ∃ k, k < rs.length ∧ most < (cntR rs k : Int))

set_option maxHeartbeats 16000000 in
theorem refAll_any {rs : List (List Int × List (List Int))} {v : Value} {most : Int} {w : World} (h : RelS w v rs) (hrs : ∀ r ∈ rs, Fine r.1 r.2 12 ∧ r.1.length ≤ 3) (h5 : rs.length ≤ 5) (hm : most ≤ 4000) :
    Calls Tryz.prog 17 #[v, .int .i64 most] w fun e w' => AllEndsR w' e rs most ∧ Below w.heap.size w w' := by
  obtain ⟨W1, hW1⟩ : ∃ W, W = (((w.alloc (.cells #[.slice none 0 0, .slice none 0 0] 27)).alloc (.cells #[] 3)).alloc (.cells #[.slice (some ⟨w.heap.size + 1, 0, none⟩) 0 0] 22)).alloc (.cells #[.slice none 0 0, .slice (some ⟨w.heap.size + 1 + 1, 0, none⟩) 1 1] 27) := ⟨_, rfl⟩
  have hb6 : Below w.heap.size w W1 := by rw [hW1]; exact ((((Below.refl _ _).alloc (Nat.le_refl _) _).alloc (by simp) _).alloc (by simp; omega) _).alloc (by simp; omega) _
  have hbx6 : Box W1 w.heap.size (.slice none 0 0) (.slice none 0 0) := by rw [hW1]; exact (((Box.new w _ _).push _).push _).push _
  have hx6 : Box W1 (w.heap.size + 1 + 1 + 1) (.slice none 0 0) (.slice (some ⟨w.heap.size + 1 + 1, 0, none⟩) 1 1) := by
    unfold Box; rw [hW1]; simp only [alloc_at, World.size_alloc]; repeat (first | rw [if_pos True.intro] | rw [if_pos rfl] | rw [if_neg (by omega)])
  have q1 : W1.heap[w.heap.size + 1]? = some (.cells #[] 3 (0, 0)) := by rw [hW1]; simp only [alloc_at, World.size_alloc]; repeat (first | rw [if_pos True.intro] | rw [if_pos rfl] | rw [if_neg (by omega)])
  have q2 : W1.heap[w.heap.size + 1 + 1]? = some (.cells #[.slice (some ⟨w.heap.size + 1, 0, none⟩) 0 0] 22 (0, 0)) := by rw [hW1]; simp only [alloc_at, World.size_alloc]; repeat (first | rw [if_pos True.intro] | rw [if_pos rfl] | rw [if_neg (by omega)])
  have hr6 : RelV W1 (.agg #[.slice none 0 0, .slice (some ⟨w.heap.size + 1 + 1, 0, none⟩) 1 1]) [] [[]] := by
    refine ⟨_, _, rfl, Seq.nil _ _, [.slice (some ⟨w.heap.size + 1, 0, none⟩) 0 0], litT_at (c := #[.slice (some ⟨w.heap.size + 1, 0, none⟩) 0 0]) (e := 22) (fr := (0, 0)) q2 rfl rfl (by simp), rfl, fun i hi hi' => ?_⟩
    match i, hi, hi' with
    | 0, _, _ => exact litI_at (c := #[]) (e := 3) (fr := (0, 0)) q1 rfl rfl (by simp)
  have HS := hide (fun W (hb : Below w.heap.size w W) => h.below hb)
  have HFI := hide (all_fine hrs h5)
  have HRS := hide hrs
  have HCJ := hide (fun (k : Nat) (hk : k < rs.length) => cnt_join hrs h5 hk)
  have HSM := hide (fun (k : Nat) (hk : k ≤ rs.length) (hmo : ∀ j, j < k → (cntR rs j : Int) ≤ most) => all_small hrs h5 hm hk hmo)
  obtain ⟨a, cap, rfl, hc1, hc2, _⟩ := h
  unfold maxLen at hc2
  have hz1 := hx6.lt
  have HW1 := hide hW1
  clear hW1 hrs q1 q2
  go_enter Tryz.func17, Tryz.ntmps17
  go_wp2
  rw [← unhide HW1]
  go_loopw [5, 7] (fun _ i wr => ∃ (k : Nat) (xa xb : Option Addr) (xn xc yn yc : Nat), k ≤ rs.length ∧ i = .int .i64 k ∧ Box wr (w.heap.size + 1 + 1 + 1) (.slice xa xn xc) (.slice xb yn yc) ∧ RelV wr (.agg #[.slice xa xn xc, .slice xb yn yc]) (allR (rs.take k)).1 (allR (rs.take k)).2 ∧ Box wr w.heap.size (.slice none 0 0) (.slice none 0 0) ∧ (Value.slice xb yn yc).ownBlock ≠ some w.heap.size ∧ Below w.heap.size w wr ∧ ∀ j, j < k → (cntR rs j : Int) ≤ most) (fun _ i _ => rs.length - (intOf i).toNat)
  case atStart => exact ⟨0, none, some ⟨w.heap.size + 1 + 1, 0, none⟩, 0, 0, 1, 1, by omega, rfl, hx6, hr6, hbx6, by simp [Value.ownBlock]; omega, hb6, fun j hj => by omega⟩
  case round =>
    clear hx6 hr6 hbx6 hb6
    obtain ⟨k, xa, xb, xn, xc, yn, yc, hk, rfl, hx, hr, hbo, hne, hbel, hmo⟩ := hrel
    have hz := hbel.size
    have hxl := hx.lt
    by_cases hkl : k < rs.length
    · obtain ⟨a', cap', ha, _, _, hat⟩ := unhide HS _ hbel
      cases ha
      obtain ⟨bl, ol, rx, ry, hae, hcx, hcy, hrk⟩ := hat k hkl
      subst hae
      obtain ⟨ra, rc, rb, rd, hre, _, _, _, _, _, _⟩ := hrk.form
      cases hre
      have hg := (unhide HFI k (by omega)).1
      have hs15 := (unhide HFI k (by omega)).2
      have hgk := (unhide HRS rs[k] (List.getElem_mem hkl)).1
      have hle := unhide HSM k hk hmo
      have hkn := hgk.llen
      have hks := hgk.slen
      have hjs := joinS_le 0 hg.asc hgk.asc
      have hgs := hg.slen
      have hmul : ((allR (rs.take k)).2.length + 1) * rs[k].2.length ≤ 4001 * 12 := Nat.mul_le_mul (by omega) (by omega)
      have HJ := hide (fun W (hb : Below wr.heap.size wr W) => refJoin3_nw (hr.below hb) (hrk.below hb) hg.asc.nodup hg.wide hgk.wide (by omega) (by omega) (by omega) (by omega) (by omega) (by omega))
      have HCN := hide (unhide HCJ k hkl)
      have HSN := hide (all_snoc hkl)
      have hbR := Below.refl wr.heap.size wr
      have hd0 := hx.cell0
      have hd1 := hx.cell1
      obtain ⟨S', hS'⟩ : ∃ S', S' = joinL (allR (rs.take k)).1 rs[k].1 := ⟨_, rfl⟩
      obtain ⟨J', hJ'⟩ : ∃ J', J' = joinR (allR (rs.take k)).1 (allR (rs.take k)).2 rs[k].1 rs[k].2 := ⟨_, rfl⟩
      rw [← hJ'] at HCN
      rw [← hS', ← hJ'] at HJ
      have HS' := hide hS'
      have HJ' := hide hJ'
      have HC : Hid ((J'.length : Int) = (cntR rs k : Int)) := hide (by rw [unhide HCN])
      generalize rs[k].1.length = rn at *
      generalize rs[k].2.length = rm at *
      clear hg hgk hr hrk hS' hJ' hat HCN hjs hmul hkn hks hgs hle
      go_wp2
      go_region_law ((first | (refine step_of rfl ?_; go_simp; go_at_call 8; refine (unhide HJ _ (by first | exact hbR | exact below_same rfl rfl rfl rfl)).mono ?_; rintro e w3 ⟨x3, y3, rfl, hrj, hnew, hb3⟩; obtain ⟨ja, jc, jb, jd, hje, _, _, _, _, hji, hjt⟩ := hrj.form; cases hje; have hB3 : Below wr.heap.size wr w3 := below_then (by first | exact hbR | exact below_same rfl rfl rfl rfl) hb3; have hx3 := hx.belowH hB3; have hq0 := hx3.cell0; have hq1 := hx3.cell1; have hf0 := hx3.frozen 0; have hf1 := hx3.frozen 1; clear hb3)))
      all_goals
        have hbo3 := hbo.belowH hB3
        have hbel3 := below_then hbel hB3
        have hfin := hide (rel_store hx3.boxS hq0 hji hjt (hnew _ (by exact hxl)))
        have hx5 := (hx3.set0 (.slice ja S'.length jc)).set1 (.slice jb J'.length jd)
        have hbel4 := below_store hbel3 (b := w.heap.size + 1 + 1 + 1) (by omega) (.slice ja S'.length jc) (.slice jb J'.length jd)
        have hbo5 := box_keep (box_keep hbo3 (b := w.heap.size + 1 + 1 + 1) (i := 0) (by omega) (.slice ja S'.length jc)) (b := w.heap.size + 1 + 1 + 1) (i := 1) (by omega) (.slice jb J'.length jd)
        have hne5 := hide (hnew w.heap.size (by show w.heap.size < wr.heap.size; omega))
        have he1 := hx5.cell1
        have hp0 := hbo5.cell0
        have hp1 := hbo5.cell1
        have hg0 := hbo5.frozen 0
        have hg1 := hbo5.frozen 1
        have HX5 := hide hx5
        have HBO5 := hide hbo5
        have HBL4 := hide hbel4
        clear HJ hrj hji hjt hnew hd0 hd1 hq0 hq1 hf0 hf1 hx3 hbo3 hbel3 hx5 hbo5 hbel4
        by_cases hcm : (J'.length : Int) ≤ most
        · have hdm : decide ((J'.length : Int) > most) = false := by simpa using hcm
          have hdm2 : decide (most < (J'.length : Int)) = false := hdm
          go_wp2
          go_roundw
          case rel => exact ⟨k + 1, ja, jb, S'.length, jc, J'.length, jd, by omega, by go_num, unhide HX5, by rw [unhide HSN]; unfold stepR; rw [← unhide HS', ← unhide HJ']; exact unhide hfin, unhide HBO5, unhide hne5, unhide HBL4, fun j hj => by
            rcases Nat.lt_or_ge j k with h | h
            · exact hmo j h
            · have : j = k := by omega
              subst this
              rw [← unhide HC]; exact hcm⟩
          case measure => simp [intOf]; omega
        · have hdm : decide ((J'.length : Int) > most) = true := by simpa using hcm
          have hdm2 : decide (most < (J'.length : Int)) = true := hdm
          go_wp2
          refine bodyPost_ret (v := .tuple #[.agg #[.slice none 0 0, .slice none 0 0], .bool false]) (by simp [results, Tryz.results17, go_sem, hp0, hp1]) rfl ⟨.inr ⟨rfl, k, hkl, by rw [← unhide HC]; omega⟩, below_store (unhide HBL4) (Nat.le_refl _) _ _⟩
    · have hkk : k = rs.length := by omega
      subst hkk
      rw [List.take_length] at hr
      obtain ⟨ja, jc, jb, jd, hje, _, _, _, _, hji, hjt⟩ := hr.form
      cases hje
      have hq0 := hx.cell0
      have hq1 := hx.cell1
      have hp0 := hbo.cell0
      have hp1 := hbo.cell1
      have hf0 := hbo.frozen 0
      have hf1 := hbo.frozen 1
      have hfin := hide (rel_store hbo.boxS hp0 hji hjt hne)
      have hbl := hide (below_store hbel (Nat.le_refl _) (.slice xa (allR rs).1.length xc) (.slice xb (allR rs).2.length yc))
      generalize (allR rs).1.length = sn at *
      generalize (allR rs).2.length = sm at *
      clear hr hji hjt hx
      go_wp2
      refine bodyPost_ret (v := .tuple #[.agg #[.slice xa sn xc, .slice xb sm yc], .bool true]) (by simp [results, Tryz.results17, go_sem, hp0, hp1]) rfl ⟨.inl ⟨_, _, rfl, unhide hfin, hmo⟩, unhide hbl⟩

end Go.Proofs.YtoiokplgkanepaaGreatDoor

namespace Go.Proofs.YtoiokplgkanepaaGreatDoor.joinAll
open Go.RowKit Go.ChangeShapes Go.WideShapes Go.ChangeAt
set_option linter.unusedVariables false
set_option linter.unusedSimpArgs false
set_option maxRecDepth 20000

section
variable {rs : List (List Int × List (List Int))} {v : Value} {most : Int} {w : World} {S : List Int} {J : List (List Int)}

theorem all_ok (h : RelS w v rs) (hrs : ∀ r ∈ rs, Fine r.1 r.2 12 ∧ r.1.length ≤ 3) (h5 : rs.length ≤ 5) (hm : most ≤ 4000) (hall : ∀ k, k < rs.length → (cntR rs k : Int) ≤ most) (e1 : (allR rs).1 = S) (e2 : (allR rs).2 = J) :
    Calls Tryz.prog 16 #[v, .int .i64 most] w fun e w' => ∃ x, e = .returned (.tuple #[x, .int .i64 0]) ∧ RelV w' x S J ∧ Below w.heap.size w w' :=
  (all_any h hrs h5 (fun k hk hmo => Nat.le_trans (all_small hrs h5 hm (Nat.le_of_lt hk) hmo) (by omega))).mono fun e w' ⟨h1, h2⟩ => by
    rcases h1 with ⟨x, y, he, hr, _⟩ | ⟨_, k, hk, _, hgt⟩
    · rw [e1, e2] at hr; exact ⟨_, he, hr, h2⟩
    · have := hall k hk; omega

theorem all_no (h : RelS w v rs) (hrs : ∀ r ∈ rs, Fine r.1 r.2 12 ∧ r.1.length ≤ 3) (h5 : rs.length ≤ 5) (hm : most ≤ 4000) (hall : ¬ ∀ k, k < rs.length → (cntR rs k : Int) ≤ most) :
    Calls Tryz.prog 16 #[v, .int .i64 most] w fun e w' => e = .returned (.tuple #[.agg #[.slice none 0 0, .slice none 0 0], .int .i64 9]) ∧ Below w.heap.size w w' :=
  (all_any h hrs h5 (fun k hk hmo => Nat.le_trans (all_small hrs h5 hm (Nat.le_of_lt hk) hmo) (by omega))).mono fun e w' ⟨h1, h2⟩ => by
    rcases h1 with ⟨x, y, he, hr, hk⟩ | ⟨he, _⟩
    · exact absurd hk hall
    · exact ⟨he, h2⟩

theorem ref_ok (h : RelS w v rs) (hrs : ∀ r ∈ rs, Fine r.1 r.2 12 ∧ r.1.length ≤ 3) (h5 : rs.length ≤ 5) (hm : most ≤ 4000) (hall : ∀ k, k < rs.length → (cntR rs k : Int) ≤ most) (e1 : (allR rs).1 = S) (e2 : (allR rs).2 = J) :
    Calls Tryz.prog 17 #[v, .int .i64 most] w fun e w' => ∃ x, e = .returned (.tuple #[x, .bool true]) ∧ RelV w' x S J ∧ Below w.heap.size w w' :=
  (refAll_any h hrs h5 hm).mono fun e w' ⟨h1, h2⟩ => by
    rcases h1 with ⟨x, y, he, hr, _⟩ | ⟨_, k, hk, hgt⟩
    · rw [e1, e2] at hr; exact ⟨_, he, hr, h2⟩
    · have := hall k hk; omega

theorem ref_no (h : RelS w v rs) (hrs : ∀ r ∈ rs, Fine r.1 r.2 12 ∧ r.1.length ≤ 3) (h5 : rs.length ≤ 5) (hm : most ≤ 4000) (hall : ¬ ∀ k, k < rs.length → (cntR rs k : Int) ≤ most) :
    Calls Tryz.prog 17 #[v, .int .i64 most] w fun e w' => e = .returned (.tuple #[.agg #[.slice none 0 0, .slice none 0 0], .bool false]) ∧ Below w.heap.size w w' :=
  (refAll_any h hrs h5 hm).mono fun e w' ⟨h1, h2⟩ => by
    rcases h1 with ⟨x, y, he, hr, hk⟩ | ⟨he, _⟩
    · exact absurd hk hall
    · exact ⟨he, h2⟩
end

theorem refSame_yes {s : List Int} {ll : List (List Int)} {v v' : Value} {w : World} (h : RelV w v s ll) (h' : RelV w v' s ll) :
    Calls Tryz.prog 9 #[v, v'] w fun e w' => e = .returned (.bool true) ∧ Below w.heap.size w w' := by
  have := refSame_rel h h'
  rwa [show sameR s ll s ll = true from sameR_iff.2 ⟨rfl, rfl⟩] at this

set_option maxHeartbeats 32000000 in
theorem walk {l0 : List (List Int × List (List Int))} {l1 : Int} {v0 v1 : Value} {w : World} (i0 : RelS w v0 l0) (i1 : v1 = .int .i64 l1) :
    Calls Tryz.prog 4 #[v0, v1] w fun e w' => e = .returned (.bool true) ∧ Below w.heap.size w w' := by
  subst i1
  have HF := hide (partsR_fine l0)
  have H5 := partsR_len l0
  have hB := Below.refl w.heap.size w
  have HM := hide (show min l1 4000 ≤ 4000 by omega)
  
  go_enter Tryz.func4, Tryz.ntmps4
  go_wp2_with fail
  refine (shown3_any _).mono ?_
  rintro e w101 ⟨rfl, hb⟩
  replace i0 := i0.below hb
  replace hB := below_then hB hb
  clear hb
  go_wp2_with fail
  refine (parts_any i0).mono ?_
  rintro e w2 ⟨u, rfl, s0, hb⟩
  replace hB := below_then hB hb
  clear hb i0
  
  have hmin : min l1 4000 = min l1 4000 := rfl
  generalize hrs : partsR l0 = rs at *
  clear hmin hrs
  obtain ⟨S, hS⟩ : ∃ S, (allR rs).1 = S := ⟨_, rfl⟩
  obtain ⟨J, hJ⟩ : ∃ J, (allR rs).2 = J := ⟨_, rfl⟩
  have HS := hide hS
  have HJ := hide hJ
  clear hS hJ
  by_cases hall : ∀ k, k < rs.length → (cntR rs k : Int) ≤ min l1 4000
  · have HA := hide hall
    clear hall
    go_wp2_with fail
    refine (all_ok s0 (unhide HF) H5 (unhide HM) (unhide HA) (unhide HS) (unhide HJ)).mono ?_
    rintro e w102 ⟨u_p, rfl, p, hb⟩
    replace s0 := s0.below hb
    replace hB := below_then hB hb
    obtain ⟨a_p, c_p, b_p, d_p, e_p, _, _, _, _, _, _⟩ := p.form
    rw [e_p] at p ⊢
    clear e_p
    clear hb
    have pb := (Below.refl _ w102).alloc (Nat.le_refl _) (.cells #[.slice a_p (S).length c_p, .slice b_p (J).length d_p] 27)
    replace s0 := s0.below pb
    replace p := p.below pb
    have xp := Box.new w102 (.slice a_p (S).length c_p) (.slice b_p (J).length d_p)
    replace hB := below_then hB pb
    clear pb
    have c0_xp := xp.cell0
    have c1_xp := xp.cell1
    go_wp2_with fail
    refine (ref_ok s0 (unhide HF) H5 (unhide HM) (unhide HA) (unhide HS) (unhide HJ)).mono ?_
    rintro e w103 ⟨u_k, rfl, k, hb⟩
    replace s0 := s0.below hb
    replace p := p.below hb
    replace xp := xp.belowH hb
    replace hB := below_then hB hb
    obtain ⟨a_k, c_k, b_k, d_k, e_k, _, _, _, _, _, _⟩ := k.form
    rw [e_k] at k ⊢
    clear e_k
    clear hb c0_xp c1_xp
    have pb := (Below.refl _ w103).alloc (Nat.le_refl _) (.cells #[.slice a_k (S).length c_k, .slice b_k (J).length d_k] 27)
    replace s0 := s0.below pb
    replace p := p.below pb
    replace k := k.below pb
    replace xp := xp.push (.cells #[.slice a_k (S).length c_k, .slice b_k (J).length d_k] 27)
    have xk := Box.new w103 (.slice a_k (S).length c_k) (.slice b_k (J).length d_k)
    replace hB := below_then hB pb
    clear pb
    have c0_xp := xp.cell0
    have c1_xp := xp.cell1
    have c0_xk := xk.cell0
    have c1_xk := xk.cell1
    go_wp2_with fail
    refine (refSame_yes p k).mono ?_
    rintro e w104 ⟨rfl, hb⟩
    replace p := p.below hb
    replace k := k.below hb
    replace xp := xp.belowH hb
    replace xk := xk.belowH hb
    replace hB := below_then hB hb
    clear hb c0_xp c1_xp c0_xk c1_xk
    go_wp2
    go_ret
    exact ⟨rfl, hB⟩
  · have HA := hide hall
    clear hall
    go_wp2_with fail
    refine (all_no s0 (unhide HF) H5 (unhide HM) (unhide HA)).mono ?_
    rintro e w105 ⟨rfl, hb⟩
    replace s0 := s0.below hb
    replace hB := below_then hB hb
    clear hb
    have pb := (Below.refl _ w105).alloc (Nat.le_refl _) (.cells #[.slice none 0 0, .slice none 0 0] 27)
    replace s0 := s0.below pb
    have xp := Box.new w105 (.slice none 0 0) (.slice none 0 0)
    replace hB := below_then hB pb
    clear pb
    have c0_xp := xp.cell0
    have c1_xp := xp.cell1
    go_wp2_with fail
    refine (ref_no s0 (unhide HF) H5 (unhide HM) (unhide HA)).mono ?_
    rintro e w106 ⟨rfl, hb⟩
    replace s0 := s0.below hb
    replace xp := xp.belowH hb
    replace hB := below_then hB hb
    clear hb c0_xp c1_xp
    have pb := (Below.refl _ w106).alloc (Nat.le_refl _) (.cells #[.slice none 0 0, .slice none 0 0] 27)
    replace xp := xp.push (.cells #[.slice none 0 0, .slice none 0 0] 27)
    have xk := Box.new w106 (.slice none 0 0) (.slice none 0 0)
    replace hB := below_then hB pb
    clear pb
    have c0_xp := xp.cell0
    have c1_xp := xp.cell1
    go_wp2
    go_ret
    exact ⟨rfl, hB⟩

set_option maxRecDepth 100000 in
theorem lifted (os : Os) (started : os.Started) (H : Type) (enc : TypeId × Value → H) :
    ReturnsInHanded {} Tryz.checked os 4 .any (fun w args => (Rows.joinAllSpec.pre enc Tryz.prog Tryz.f4 [] false w args ∧ laidMetH Tryz.prog laidIn w) ∧ sizedMet enc Tryz.prog Tryz.f4 (OpenSpec.ofChange Rows.joinAllSpec) false w args)
      (Rows.joinAllSpec.post enc Tryz.prog Tryz.f4 false true false false) := by
  refine returnsInHanded_of_change_and (C := Tryz.checked) (X := fun w _ => laidMetH Tryz.prog laidIn w) (fun _ _ _ hh h => h.of_heap hh) own started (by kernel_rfl) Tryz.func4
    (ChangeSpec.witness_shaped (enc := enc) (C := Tryz.checked) (os := os) (X := fun w _ => laidMetH Tryz.prog laidIn w) false (World.doorLaid Tryz.prog doorN os) #[.slice none 0 0, .int .i64 0] 8 rfl (World.shaped_of_RefB (by kernel_rfl) (by kernel_rfl)) (by kernel_rfl) (by kernel_rfl) (by kernel_rfl) (door_met os _)) ?_
  intro W base args ds gs before hval0 hW _ _ _ _
  have hval : ∀ (j : Nat) t v, Tryz.f4.params[j]? = some t → args[j]? = some v → Value.okWide Tryz.prog W .any base t v := hval0
  have hW' := hW
  obtain ⟨p, q, hA0, hV, rfl, hfz, hnd⟩ := hW
  have hA : DataW.TrodAll enc Tryz.prog W 0 (fun _ => true) true Tryz.f4.params.toList args.toList ds p := hA0
  rw [Tryz.params4] at hA hval
  obtain ⟨v0, vs0, d0, ds0, p0, q0, hargs, rfl, rfl, h0, r0⟩ := trodAll_cons hA
  obtain ⟨v1, vs1, d1, ds1, p1, q1, rfl, rfl, rfl, h1, r1⟩ := trodAll_cons r0
  obtain ⟨rfl, rfl, rfl⟩ := trodAll_nil r1
  obtain rfl : args = #[v0, v1] := by cases args; simp_all
  obtain ⟨rfl, rfl⟩ := trodVars_none hV
  obtain ⟨l0, i0⟩ := read_parts h0 (okWide_slice Tryz.underlying36 (hval 0 36 v0 rfl rfl))
  have lt0 : ∀ x ∈ p0, x.block < W.heap.size := by obtain ⟨m, hm⟩ := h0; exact DataW.trod_lt m _ _ _ hm
  obtain ⟨l1, i1, m1⟩ := read_int h1 (hval 1 3 v1 rfl rfl)
  have lt1 : ∀ x ∈ p1, x.block < W.heap.size := by obtain ⟨m, hm⟩ := h1; exact DataW.trod_lt m _ _ _ hm
  clear hA0 hval0
  refine (walk i0 i1).mono fun e W' ⟨he, bel⟩ => ?_
  subst he
  exact ⟨_, rfl, _, _, _, [], _, [], hW', trodAll_mk1 (shut_bool Tryz.underlying4 _), (trodAll_cons_mk (Below.trod laidOut (by kernel_rfl) (of_decide_eq_true (by kernel_rfl)) h0 bel lt0) (trodAll_cons_mk (Below.trod laidOut (by kernel_rfl) (of_decide_eq_true (by kernel_rfl)) h1 bel lt1) trodAll_mk0)), rfl, bel.frame _, fun h => by cases h⟩

theorem over : Rows.joinAllRow.holds Tryz.pinned (OpenSpec.ofChange Rows.joinAllSpec) :=
  OpenClaim.holds_of_wide 4 Tryz.f4 rfl rfl rfl rfl rfl rfl rfl ⟨rfl, rfl, rfl, rfl, rfl⟩ rfl rfl rfl rfl rfl (by kernel_rfl) Tryz.func4 (by kernel_rfl)
    (of_decide_eq_true (by kernel_rfl)) (by unfold Func.isWrapper; first | (rw [if_pos (by decide +kernel)]; kernel_rfl) | (rw [if_neg (by decide +kernel)]; exact ⟨rfl, rfl⟩))
    (fun os started H enc _ => lifted os started H enc)

/-- The statement: the tied card. -/
theorem proved : Rows.JoinAllCardSaid :=
  Claim7.holds_tied_plain_at .later [] [.data, .data, .data] true (true, "b710a40ed91f1a7ab9323d612b67f05f7a5c93907a40730ac9a60b2e465762de") false
    over (fun _ h => by cases h) (by kernel_rfl) (fun _ h => by cases h) joinAll_row_tie rfl ⟨rfl, rfl⟩ (by kernel_rfl) rfl
    (fun f fn hf hfn => by
      obtain rfl : f = 4 := Option.some.inj ((show Tryz.prog.funcNamed "arborist/arboristlaw03.JoinAll" = some 4 by kernel_rfl).symm.trans hf) |>.symm
      obtain rfl : fn = Tryz.f4 := (Option.some.inj (Tryz.func4.symm.trans hfn)).symm
      exact ⟨by kernel_rfl, fun j t ht => by
        rw [Tryz.params4] at ht
        have hm : t ∈ [36, 3] := by simpa using Array.mem_of_getElem? ht
        have hall : ([36, 3].all fun u => !Tryz.prog.wantsStandIn u) = true := by kernel_rfl
        exact (show Tryz.prog.wantsStandIn t = false by simpa using List.all_eq_true.1 hall t hm)⟩)
    (by kernel_rfl)
#print axioms proved
end Go.Proofs.YtoiokplgkanepaaGreatDoor.joinAll
