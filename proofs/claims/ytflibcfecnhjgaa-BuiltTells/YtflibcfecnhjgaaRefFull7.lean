/-
  The contract of the document's Full.
-/
import Derived.Test.YtflibcfecnhjgaaBGath
import Derived.Test.YtflibcfecnhjgaaRelUnit
namespace Go.Proofs.Ytflibcfecnhjgaa
open Go.RowKit
set_option linter.unusedVariables false
set_option linter.unusedSimpArgs false
set_option maxRecDepth 20000

set_option maxHeartbeats 1000000 in
theorem refCopy_own {l : List Int} {v : Value} {w : World} (h : Ints w v l) (hlen : l.length < 100000000000) :
    Calls Try.prog 18 #[v] w fun e w' => ∃ v, e = .returned v ∧ OwnI w.heap.size w' v l ∧ Below w.heap.size w w' := by
  obtain ⟨a, ca, rfl, hla, hca⟩ := h.form
  have hb1 := (Below.refl w.heap.size w).alloc (Nat.le_refl _) (.cells #[] 3)
  have h1 := h.below hb1
  have hown := own_litI (Nat.le_refl w.heap.size)
  clear h
  go_enter Try.func18, Try.ntmps18
  go_wp2_with (at_builtin; refine wp_app_ints rfl (.tmp 3) (.tmp 4) rfl hown rfl (by simp) h1 rfl (by simpa using hlen) ?_; intro v' w' hown' hgrew)
  go_ret
  rw [List.nil_append] at hown'
  exact ⟨_, rfl, hown', hb1.trans hgrew.below⟩

theorem own_monoF {B B' : Nat} {e : TypeId} {w : World} {v : Value} {n : Nat} {xs : List Value} (h : w.ownsRow B e 1 v n xs) (hB : B' ≤ B) : w.ownsRow B' e 1 v n xs := by
  obtain ⟨h1, h2⟩ := h
  refine ⟨h1, ?_⟩
  rcases h2 with h2 | ⟨g, cap, cur, hv, hg, h3⟩
  · exact .inl h2
  · exact .inr ⟨g, cap, cur, hv, Nat.le_trans hB hg, h3⟩

/-- The rows that are made while the middle loop is at k, the inner one at j. -/
def moreK (out : List (List Int)) (d : List Int) (k : Nat) : List (List Int) := moreR (out.take k) d
def moreJ (out : List (List Int)) (d : List Int) (k j : Nat) (r : List Int) : List (List Int) := moreK out d k ++ (d.take j).map fun x => r ++ [x]
theorem moreJ_zero (out : List (List Int)) (d : List Int) (k : Nat) (r : List Int) : moreJ out d k 0 r = moreK out d k := by simp [moreJ]
theorem moreJ_step {out : List (List Int)} {d : List Int} {k j : Nat} {r : List Int} (h : j < d.length) : moreJ out d k (j + 1) r = moreJ out d k j r ++ [r ++ [d[j]]] := by
  unfold moreJ; rw [List.take_succ_eq_append_getElem h, List.map_append, List.append_assoc]; rfl
theorem moreJ_end {out : List (List Int)} {d : List Int} {k : Nat} (h : k < out.length) : moreJ out d k d.length out[k] = moreK out d (k + 1) := by
  unfold moreJ moreK moreR
  rw [List.take_length, List.take_succ_eq_append_getElem h, List.flatMap_append]
  simp
theorem moreR_len (out : List (List Int)) (d : List Int) : (moreR out d).length = out.length * d.length := by
  induction out with
  | nil => simp [moreR]
  | cons x r ih =>
    have e : moreR (x :: r) d = (d.map fun y => x ++ [y]) ++ moreR r d := by simp [moreR]
    rw [e, List.length_append, List.length_map, ih, List.length_cons, Nat.add_mul]; omega
theorem moreJ_len {out : List (List Int)} {d : List Int} {k j : Nat} {r : List Int} (hk : k < out.length) (hj : j ≤ d.length) : (moreJ out d k j r).length ≤ out.length * d.length := by
  unfold moreJ moreK
  rw [List.length_append, moreR_len, List.length_map, List.length_take, List.length_take]
  have h1 : min k out.length * d.length + d.length ≤ out.length * d.length := by
    have : (min k out.length + 1) * d.length ≤ out.length * d.length := Nat.mul_le_mul_right _ (by omega)
    rw [Nat.add_mul, Nat.one_mul] at this
    exact this
  omega

def fullR (doms : List (List Int)) (scope : List Int) (i : Nat) : List (List Int) := ((scope.take i).map (domL doms)).foldl moreR [[]]
theorem fullR_step {doms : List (List Int)} {scope : List Int} {i : Nat} (h : i < scope.length) : fullR doms scope (i + 1) = moreR (fullR doms scope i) (domL doms scope[i]) := by
  unfold fullR; rw [List.take_succ_eq_append_getElem h, List.map_append, List.foldl_append]; rfl
theorem fullR_all (doms : List (List Int)) (scope : List Int) : fullR doms scope scope.length = fullL (scope.map (domL doms)) := by
  unfold fullR; rw [List.take_length, fold_full]
theorem fullR_len (doms : List (List Int)) (scope : List Int) (i : Nat) : (fullR doms scope i).length = prodN ((scope.take i).map (domL doms)) := by
  unfold fullR; rw [fold_full, full_count]
theorem fullR_wide {doms : List (List Int)} {scope : List Int} {i : Nat} {t : List Int} (h : t ∈ fullR doms scope i) : t.length ≤ i := by
  unfold fullR at h
  rw [fold_full] at h
  have := full_len _ t h
  simp at this
  omega

set_option maxHeartbeats 4000000 in
theorem refFull_any {doms : List (List Int)} {scope : List Int} {vd vs : Value} {w : World} (hd : Tups w vd doms) (hs : Ints w vs scope) (hin : ∀ x ∈ scope, 0 ≤ x ∧ x < (doms.length : Int)) (hlen : scope.length < 100000)
    (hcnt : ∀ i, i ≤ scope.length → prodN ((scope.take i).map (domL doms)) < 1000000000) :
    Calls Try.prog 6 #[vd, vs] w fun e w' => ∃ v, e = .returned v ∧ Tups w' v (fullL (scope.map (domL doms))) ∧ Below w.heap.size w w' := by
  obtain ⟨a, ca, rfl, hla, hca⟩ := hd.form
  obtain ⟨b, cb, rfl, hlb, hcb⟩ := hs.form
  unfold maxLen at hca hcb
  have HD := hide hd
  have HS := hide hs
  have HIN := hide hin
  have HCN := hide hcnt
  have HE := hide (fullR_all doms scope)
  clear hd hs hin hcnt
  go_enter Try.func6, Try.ntmps6
  go_wp2
  go_loopw [5, 6, 7, 8, 9, 10] (fun v i _ _ _ _ wr => ∃ k : Nat, k ≤ scope.length ∧ i = .int .i64 k ∧ Tups wr v (fullR doms scope k) ∧ Below w.heap.size w wr) (fun _ i _ _ _ _ _ => scope.length - (intOf i).toNat)
  case atStart =>
    refine ⟨0, by omega, rfl, ⟨[.slice (some ⟨w.heap.size, 0, none⟩) 0 0], litT_at (c := #[.slice (some ⟨w.heap.size, 0, none⟩) 0 0]) (e := 29) (fr := (0, 0)) (by simp only [alloc_at, World.size_alloc]; simp) rfl rfl (by simp), rfl, fun i hi hi' => ?_⟩, ((Below.refl _ w).alloc (Nat.le_refl _) _).alloc (by simp) _⟩
    match i, hi, hi' with
    | 0, _, _ => exact litI_at (c := #[]) (e := 3) (fr := (0, 0)) (by simp only [alloc_at, World.size_alloc]; simp) rfl rfl (by simp)
  case round =>
    obtain ⟨k, hk, rfl, hout, hbel⟩ := hrel
    rename World => wr
    obtain ⟨oa, oc, rfl, hol, hoc⟩ := hout.form
    unfold maxLen at hoc
    have hzr := hbel.size
    by_cases hkl : k < scope.length
    · obtain ⟨b1, o1, rfl, hc1⟩ := (unhide HS).at hkl
      obtain ⟨h0, hdl⟩ := unhide HIN _ (List.getElem_mem hkl)
      obtain ⟨m, hm⟩ : ∃ m : Nat, scope[k] = (m : Int) := ⟨scope[k].toNat, by omega⟩
      have hml : m < doms.length := by omega
      have hdom : domL doms scope[k] = doms[m] := by unfold domL; rw [hm]; simp [List.getD_eq_getElem?_getD, hml]
      obtain ⟨b2, o2, u2, rfl, hc2, hu2⟩ := (unhide HD).at hml
      obtain ⟨a3, c3, rfl, hl3, hc3⟩ := hu2.form
      unfold maxLen at hc3
      rw [hm] at hc1
      have HST := hide (fullR_step (doms := doms) hkl)
      rw [hdom] at HST
      have hcb1 := unhide HCN k (by omega)
      have hcb2 := unhide HCN (k + 1) (by omega)
      rw [← fullR_len] at hcb1 hcb2
      rw [unhide HST, moreR_len] at hcb2
      have HW := hide (fun t (h : t ∈ fullR doms scope k) => fullR_wide h)
      have HC := hide (fun W (hb : Below w.heap.size w W) => And.intro (Below.cell_of hb hc1) (And.intro (Below.cell_of hb hc2) (hu2.below hb)))
      generalize fullR doms scope k = F at *
      generalize doms[m] = D at *
      have HOUT := hide hout
      have HBEL := hide hbel
      have hmi : (m : Int) < (doms.length : Int) := by omega
      clear hc1 hc2 hu2 hdom hm h0 hdl hout hbel
      go_wp2
      go_loopw [7, 8, 9, 10] (fun v i _ _ wq => ∃ j : Nat, j ≤ F.length ∧ i = .int .i64 j ∧ OwnT wr.heap.size wq v (moreK F D j) ∧ Below wr.heap.size wr wq) (fun _ i _ _ _ => F.length - (intOf i).toNat)
      case atStart => exact ⟨0, by omega, rfl, by simpa [moreK, moreR] using OwnT.lit (Nat.le_refl _), (Below.refl _ _).alloc (Nat.le_refl _) _⟩
      case round =>
        obtain ⟨j, hj, rfl, hown, hbq⟩ := hrel
        rename World => wq
        have hzq := hbq.size
        by_cases hjl : j < F.length
        · obtain ⟨f1, f2, f3⟩ := unhide HC wq ((unhide HBEL).trans (hbq.mono hzr))
          obtain ⟨b4, o4, u4, rfl, hc4, hu4⟩ := (unhide HOUT).at hjl
          obtain ⟨a5, c5, rfl, hl5, hc5⟩ := hu4.form
          have hrl := unhide HW _ (List.getElem_mem hjl)
          have HEND := hide (moreJ_end (d := D) hjl)
          have HSTJ := hide (fun q (h : q < D.length) => moreJ_step (out := F) (k := j) (r := F[j]) h)
          have HLEN := hide (fun q (h : q ≤ D.length) => moreJ_len (r := F[j]) hjl h)
          have hown' := hown
          rw [← moreJ_zero F D j F[j]] at hown'
          generalize F[j] = r at *
          have HU4 := hide (fun W (hb : Below wr.heap.size wr W) => And.intro (Below.cell_of hb hc4) (hu4.below hb))
          have HOW := hide hown'
          have HBQ := hide hbq
          have HCC := hide (fun W (hb : Below wr.heap.size wr W) => (unhide HC W ((unhide HBEL).trans (hb.mono hzr))).2.2)
          clear hc4 hu4 hown hown' hbq f3
          go_wp2
          go_loopw [7, 10] (fun v i wx => ∃ q : Nat, q ≤ D.length ∧ i = .int .i64 q ∧ OwnT wr.heap.size wx v (moreJ F D j q r) ∧ Below wr.heap.size wr wx) (fun _ i _ => D.length - (intOf i).toNat)
          case atStart => exact ⟨0, by omega, rfl, unhide HOW, unhide HBQ⟩
          case round =>
            clear HOW HBQ f1 f2 hzq
            obtain ⟨q, hq, rfl, hown, hbx⟩ := hrel
            rename World => wx
            have hzx := hbx.size
            by_cases hql : q < D.length
            · obtain ⟨g1, g2⟩ := unhide HU4 wx hbx
              obtain ⟨b6, o6, rfl, hc6⟩ := (unhide HCC wr (Below.refl _ _)).at hql
              have hstep := unhide HSTJ q hql
              have hll := unhide HLEN q (by omega)
              generalize hxx : D[q] = x at *
              clear hxx
              have HSTEP := hide hstep
              generalize moreJ F D j q r = L at *
              have HCP := hide (fun W (hb : Below wx.heap.size wx W) => refCopy_own (g2.below hb) (by omega))
              have HUU := unhide HU4
              have HK := hide (fun W (hb : Below wr.heap.size wr W) => And.intro (HUU W hb).1 (Below.cell_of hb hc6))
              have hc6x := Below.cell_of hbx hc6
              have hbR := Below.refl wx.heap.size wx
              have hLb : L.length < 100000000000 := by omega
              clear HUU g2 hstep HSTJ HLEN HU4 HCC HEND HST HW HC HOUT HBEL hcb1 hcb2 hll HE HCN HIN HS HD
              go_wp2
              go_region_held3 (fun W => W.cell? ⟨b4, o4 + j, none⟩ = some (.slice a5 r.length c5) ∧ W.cell? ⟨b6, o6 + q, none⟩ = some (.int .i64 x))
                (first | exact unhide HK _ (by first | exact hB7 | exact hC6 | exact hC4 | exact hbx | exact hbx.drew | exact Below.alloc hC6 hC6.size _ | exact Below.alloc hC4 hC4.size _ | exact Below.alloc (Below.drew hbx) hzx _))
                (first
                  | (go_at_call 18; refine (unhide HCP _ (by first | exact hbR | exact below_same rfl rfl rfl rfl | exact below_push rfl rfl rfl rfl)).mono ?_; rintro e w4 ⟨u4, rfl, ho4, hb4⟩; obtain ⟨ua, uc, rfl, _, _⟩ := (Seq.of_own ho4).form; have hB4 : Below wx.heap.size wx w4 := below_then (by first | exact hbR | exact below_same rfl rfl rfl rfl | exact below_push rfl rfl rfl rfl) hb4; have ho4' : OwnI wx.heap.size w4 (.slice ua r.length uc) r := own_monoF ho4 (by first | exact Nat.le_refl _ | simp); have hC4 : Below wr.heap.size wr w4 := hbx.trans (hB4.mono hzx); first | (have hli : Ints w4 (.slice (some ⟨wx.heap.size, 0, none⟩) 1 1) [x] := Seq.below (litI_at (c := #[.int .i64 x]) (e := 3) (fr := (0, 0)) (heap_alloc_new wx.drew _) rfl rfl (by simp)) hb4) | skip)
                  | (refine step_of rfl (op_app_tup (.tmp 39) (.tmp 51) rfl hown6 hi6 (fun _ => hap6) rfl hz6 rfl (by omega) ?_); intro v7 w7 hown7 hg7; have hB7 : Below wr.heap.size wr w7 := hC6.trans hg7.below)
                  | (refine step_of rfl (op_app_int (.tmp 44) (.tmp 49) rfl ho4' rfl hB4.size rfl (by omega) ?_); intro u6 w6 ho6 hg6; have hB6 : Below wx.heap.size wx w6 := hB4.trans hg6.below; have hC6 : Below wr.heap.size wr w6 := hbx.trans (hB6.mono hzx); have hi6 := Seq.of_own ho6; have hown6 := hown.below hB6; have hap6 : Sep u6 _ := (Sep.of_new hown.new (Nat.le_refl _) (New.of_own ho6)).symm; obtain ⟨xa, xc, hxe, _, _⟩ := hi6.form; rw [show (r ++ [x]).length = r.length + 1 from by simp] at hxe; subst hxe; have hz6 : wr.heap.size ≤ w6.heap.size := Nat.le_trans hzx hB6.size)
                  | (refine step_of rfl (op_app_ints (.tmp 44) (.tmp 49) rfl ho4' rfl hB4.size hli rfl (by simp; omega) ?_); intro u6 w6 ho6 hg6; have hB6 : Below wx.heap.size wx w6 := hB4.trans hg6.below; have hC6 : Below wr.heap.size wr w6 := hbx.trans (hB6.mono hzx); have hi6 := Seq.of_own ho6; have hown6 := hown.below hB6; have hap6 : Sep u6 _ := (Sep.of_new hown.new (Nat.le_refl _) (New.of_own ho6)).symm; obtain ⟨xa, xc, hxe, _, _⟩ := hi6.form; rw [show (r ++ [x]).length = r.length + 1 from by simp] at hxe; subst hxe; have hz6 : wr.heap.size ≤ w6.heap.size := Nat.le_trans hzx hB6.size))
              all_goals
                go_wp2
                go_roundw
                case rel => exact ⟨q + 1, by omega, by go_num, by rw [unhide HSTEP]; exact hown7, hB7⟩
                case measure => simp [intOf]; omega
            · have hqe : q = D.length := by omega
              subst hqe
              rw [unhide HEND] at hown
              clear HSTJ HLEN HEND HU4 HCC
              go_wp2
              go_roundw
              case rel => exact ⟨j + 1, by omega, by go_num, hown, hbx⟩
              case measure => simp [intOf]; omega
        · have hje : j = F.length := by omega
          subst hje
          have hfin := hown.tups
          unfold moreK at hfin
          rw [List.take_length, ← unhide HST] at hfin
          have HBQ := hide ((unhide HBEL).trans (hbq.mono hzr))
          clear hown hbq HST HW HC HOUT hcb1 hcb2 HBEL
          go_wp2
          go_roundw
          case rel => exact ⟨k + 1, by omega, by go_num, hfin, unhide HBQ⟩
          case measure => simp [intOf]; omega
    · have hke : k = scope.length := by omega
      subst hke
      clear HCN HIN HS HD hkl
      go_wp2
      go_ret
      exact ⟨_, rfl, by rw [← unhide HE]; exact hout, hbel⟩

end Go.Proofs.Ytflibcfecnhjgaa
