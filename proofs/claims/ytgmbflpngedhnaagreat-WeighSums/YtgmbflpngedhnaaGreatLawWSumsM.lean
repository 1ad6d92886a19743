/-
  Proved: WeighSums answers true for every Part and row of variables, and leaves what was handed in as it was. No condition.
-/
import Derived.Test.YtgmbflpngedhnaaGreatLibInts
import Derived.Test.YtgmbflpngedhnaaGreatJoinMath
import Derived.Test.YtgmbflpngedhnaaGreatApp2
import Derived.Test.YtgmbflpngedhnaaGreatRefSort
import Derived.Test.YtgmbflpngedhnaaGreatRefJoin
import Derived.Test.YtgmbflpngedhnaaGreatRelUnion
import Derived.Deep.RegionHeld3
import Derived.Test.YtgmbflpngedhnaaGreatWghThree
import Derived.Test.YtgmbflpngedhnaaGreatWghDocs
import Derived.Deep.CutRange
import Derived.Deep.RegionLaw
import Derived.BigRegion
import Derived.Test.YtgmbflpngedhnaaGreatWghRef
import Derived.Test.YtgmbflpngedhnaaGreatFrame2
import Derived.Lib.SmallJoins
import Derived.Test.YtgmbflpngedhnaaGreatRelSame
import Derived.Test.YtgmbflpngedhnaaGreatWghShown
import Derived.Deep.QuietTactic
import Derived.BigQuiet
namespace Go.Proofs.YtgmbflpngedhnaaGreat
open Go.RowKit
set_option linter.unusedVariables false
set_option linter.unusedSimpArgs false
set_option maxRecDepth 20000

theorem getR_at {s t : List Int} (hn : s.Nodup) (hl : t.length = s.length) {k : Nat} (hk : k < s.length) (hk' : k < t.length) : getR s t s[k] = t[k] := by
  have h := List.getElem_of_eq (map_getR hn hl) (i := k) (by simpa using hk)
  simpa using h

set_option maxHeartbeats 2000000 in
theorem refFit_any {s t u v : List Int} {vs vt vu vv : Value} {w : World} (hs : Ints w vs s) (ht : Ints w vt t) (hu : Ints w vu u) (hv : Ints w vv v) (hn : s.Nodup) (hst : t.length = s.length) (huv : v.length = u.length) :
    Calls Tryz.prog 45 #[vs, vt, vu, vv] w fun e w' => e = .returned (.bool (fitB s u t v)) ∧ ∃ n, w' = w.drewN n := by
  obtain ⟨a, ca, rfl, hla, hca⟩ := hs.form
  obtain ⟨b, cb, rfl, hlb, hcb⟩ := ht.form
  obtain ⟨c, cc, rfl, hlc, hcc⟩ := hu.form
  obtain ⟨d, cd, rfl, hld, hcd⟩ := hv.form
  unfold maxLen at hca hcb hcc hcd
  obtain ⟨q, hq⟩ : ∃ q, q = fitB s u t v := ⟨_, rfl⟩
  rw [← hq]
  have HPl := hide (fun n (m : Nat) => refPlace_any (n := n) (hu.drewN m))
  have HQ := hide hq
  have HS := hide hs
  have HT := hide ht
  have HV := hide hv
  have HN := hide hn
  have HST := hide hst
  have HUV := hide huv
  have hst1 : s.length ≤ t.length := by omega
  have huv1 : u.length ≤ v.length := by omega
  clear hq hs ht hu hv hn hst huv
  go_enter Tryz.func45, Tryz.ntmps45
  go_wp2
  go_loopw [9, 10] (fun i _ wr => ∃ k n : Nat, k ≤ s.length ∧ i = .int .i64 k ∧ wr = w.drewN n ∧ Hid (∀ j (hj : j < s.length) (hj' : j < t.length), j < k → s[j] ∈ u → t[j] = getR u v s[j])) (fun i _ _ => s.length - (intOf i).toNat)
  case atStart => exact ⟨0, 0, by omega, rfl, rfl, hide (fun j _ _ h => by omega)⟩
  case round =>
    obtain ⟨k, m, hk, rfl, rfl, HC⟩ := hrel
    by_cases hlt : k < s.length
    · have hkt : k < t.length := by omega
      obtain ⟨bs, os, rfl, hcs⟩ := (unhide HS).at hlt
      obtain ⟨bt, ot, rfl, hct⟩ := (unhide HT).at hkt
      have HP := hide (unhide HPl s[k] m)
      have hgk := getR_at (unhide HN) (unhide HST) hlt hkt
      rcases placeL_cases u s[k] with ⟨hp, hnm⟩ | ⟨j, hj, hp, hju, _⟩
      · rw [hp] at HP
        have HC2 : Hid (∀ j (hj : j < s.length) (hj' : j < t.length), j < k + 1 → s[j] ∈ u → t[j] = getR u v s[j]) := hide (fun j hj hj' hjk hm => by
          rcases Nat.lt_or_ge j k with h | h
          · exact HC.out j hj hj' h hm
          · have : j = k := by omega
            subst this; exact absurd hm hnm)
        clear HC hp hnm hgk
        go_wp2_with (go_at_call 74; refine (unhide HP).mono ?_; rintro e w' ⟨rfl, rfl⟩)
        go_quiet (fail)
        go_wp2
        go_roundw
        case rel => exact ⟨k + 1, _, by omega, by go_num, by first | rfl | (simp only [World.drewN_drewN]; rfl), HC2⟩
        case measure => simp [intOf]; omega
      · rw [hp] at HP
        have hjv : j < v.length := by omega
        obtain ⟨bv, ov, rfl, hcv⟩ := (unhide HV).at hjv
        have hgv : getR u v s[k] = v[j] := by unfold getR; rw [hp]; simp [hjv]
        by_cases he : v[j] = t[k]
        · have hne : (v[j] != t[k]) = false := by simp [he]
          have HC2 : Hid (∀ j (hj : j < s.length) (hj' : j < t.length), j < k + 1 → s[j] ∈ u → t[j] = getR u v s[j]) := hide (fun j' hj' hj'' hjk hm => by
            rcases Nat.lt_or_ge j' k with h | h
            · exact HC.out j' hj' hj'' h hm
            · have : j' = k := by omega
              subst this; rw [hgv, he])
          clear HC hp hju hgk hgv he
          go_wp2_with (go_at_call 74; refine (unhide HP).mono ?_; rintro e w' ⟨rfl, rfl⟩)
          go_quiet (fail)
          go_wp2
          go_roundw
          case rel => exact ⟨k + 1, _, by omega, by go_num, by first | rfl | (simp only [World.drewN_drewN]; rfl), HC2⟩
          case measure => simp [intOf]; omega
        · have hne : (v[j] != t[k]) = true := by simpa using he
          have HF : Hid (q = false) := hide (by
            rw [unhide HQ]
            cases hf : fitB s u t v with
            | false => rfl
            | true =>
              have := fit_iff.1 hf s[k] (List.getElem_mem _) (by rw [← hju]; exact List.getElem_mem _)
              rw [hgk, hgv] at this
              exact absurd this.symm he)
          clear HC hp hju hgk hgv he
          go_wp2_with (go_at_call 74; refine (unhide HP).mono ?_; rintro e w' ⟨rfl, rfl⟩)
          go_quiet (fail)
          go_wp2
          go_ret
          exact ⟨ret_bool (by rw [HF.out]), by first | exact ⟨_, rfl⟩ | (simp only [World.drewN_drewN]; exact ⟨_, rfl⟩)⟩
    · have HF : Hid (q = true) := hide (by
        rw [unhide HQ]
        refine fit_iff.2 fun x hx hxu => ?_
        obtain ⟨i, hi, rfl⟩ := List.getElem_of_mem hx
        have hit : i < t.length := by omega
        rw [getR_at (unhide HN) (unhide HST) hi hit]
        exact HC.out i hi hit (by omega) hxu)
      clear HC
      go_wp2
      go_ret
      exact ⟨ret_bool (by rw [HF.out]), _, rfl⟩

/-- What Both lays at a variable. -/
def bothF (s u t v : List Int) (x : Int) : Int := if x ∈ s then getR s t x else getR u v x

set_option maxHeartbeats 4000000 in
theorem refBoth_any {s t u v al : List Int} {vs vt vu vv va : Value} {w : World} (hs : Ints w vs s) (ht : Ints w vt t) (hu : Ints w vu u) (hv : Ints w vv v) (ha : Ints w va al) (hst : t.length = s.length) (huv : v.length = u.length) (hall : ∀ x ∈ al, x ∈ s ∨ x ∈ u) (hal : al.length < 100000) :
    Calls Tryz.prog 64 #[vs, vt, vu, vv, va] w fun e w' => ∃ x, e = .returned x ∧ Ints w' x (al.map (bothF s u t v)) ∧ New w.heap.size w' x ∧ Below w.heap.size w w' := by
  obtain ⟨a, ca, rfl, hla, hca⟩ := hs.form
  obtain ⟨b, cb, rfl, hlb, hcb⟩ := ht.form
  obtain ⟨c, cc, rfl, hlc, hcc⟩ := hu.form
  obtain ⟨d, cd, rfl, hld, hcd⟩ := hv.form
  obtain ⟨g, cg, rfl, hlg, hcg⟩ := ha.form
  unfold maxLen at hca hcb hcc hcd hcg
  have HPs := hide (fun W (hb : Below w.heap.size w W) n => refPlace_any (n := n) (hs.below hb))
  have HPu := hide (fun W (hb : Below w.heap.size w W) n => refPlace_any (n := n) (hu.below hb))
  have HT := hide (fun W (hb : Below w.heap.size w W) => ht.below hb)
  have HV := hide (fun W (hb : Below w.heap.size w W) => hv.below hb)
  have HA := hide (fun W (hb : Below w.heap.size w W) => ha.below hb)
  have hst1 : s.length ≤ t.length := by omega
  have huv1 : u.length ≤ v.length := by omega
  have HAL := hide hall
  have hown0 := own_litI (B := w.heap.size) (Nat.le_refl w.heap.size)
  have HO0 := hide hown0
  clear hs ht hu hv ha hst huv hall hown0
  go_enter Tryz.func64, Tryz.ntmps64
  go_wp2
  go_loopw [11, 12, 13] (fun ov i _ wr => ∃ k : Nat, k ≤ al.length ∧ i = .int .i64 k ∧ OwnI w.heap.size wr ov ((al.take k).map (bothF s u t v)) ∧ Below w.heap.size w wr) (fun _ i _ _ => al.length - (intOf i).toNat)
  case atStart => exact ⟨0, by omega, rfl, unhide HO0, (Below.refl _ _).alloc (Nat.le_refl _) _⟩
  case round =>
    clear HO0
    obtain ⟨k, hk, rfl, hown, hbel⟩ := hrel
    rename World => wr
    have hzw := hbel.size
    by_cases hlt : k < al.length
    · obtain ⟨bg, og, rfl, hcg'⟩ := (unhide HA wr hbel).at hlt
      have HPS := hide (unhide HPs wr hbel al[k])
      have HPU := hide (unhide HPu wr hbel al[k])
      have hlen : ((al.take k).map (bothF s u t v)).length ≤ k := by rw [List.length_map]; exact List.length_take_le _ _
      have HNX : Hid ((al.take (k + 1)).map (bothF s u t v) = (al.take k).map (bothF s u t v) ++ [bothF s u t v al[k]]) := hide (by rw [List.take_succ_eq_append_getElem hlt, List.map_append]; rfl)
      generalize (al.take k).map (bothF s u t v) = L at *
      have HBE := hide hbel
      rcases placeL_cases s al[k] with ⟨hp, hnm⟩ | ⟨j, hj, hp, hju, _⟩
      · have hmu := (unhide HAL al[k] (List.getElem_mem _)).resolve_left hnm
        obtain ⟨j, hj, hp2, hju⟩ := place_mem hmu
        rw [hp] at HPS
        rw [hp2] at HPU
        have hjv : j < v.length := by omega
        obtain ⟨bv, ov, rfl, hcv⟩ := (unhide HV wr hbel).at hjv
        have hval : bothF s u t v al[k] = v[j] := by unfold bothF; rw [if_neg hnm]; unfold getR; rw [hp2]; simp [hjv]
        rw [hval] at HNX
        have HOW := hide hown
        clear hp hnm hmu hp2 hju hval hbel hown
        go_wp2_with fail
        refine (unhide HPS).mono ?_
        rintro e w' ⟨rfl, rfl⟩
        go_wp2_with fail
        refine (unhide HPU).mono ?_
        rintro e w' ⟨rfl, rfl⟩
        go_wp2_with (at_builtin; refine wp_app_int rfl (.tmp 36) (.tmp 46) rfl (unhide HOW) rfl hzw rfl (by omega) ?_; intro v' w3 hown4 hgrew)
        go_roundw
        case rel => exact ⟨k + 1, by omega, by go_num, by rw [unhide HNX]; exact hown4, (unhide HBE).trans hgrew.below⟩
        case measure => simp [intOf]; omega
      · rw [hp] at HPS
        have hjt : j < t.length := by omega
        obtain ⟨bt, ot, rfl, hct⟩ := (unhide HT wr hbel).at hjt
        have hval : bothF s u t v al[k] = t[j] := by unfold bothF; rw [if_pos (by rw [← hju]; exact List.getElem_mem _)]; unfold getR; rw [hp]; simp [hjt]
        rw [hval] at HNX
        have HOW := hide hown
        clear hp hju hval hbel hown
        go_wp2_with fail
        refine (unhide HPS).mono ?_
        rintro e w' ⟨rfl, rfl⟩
        go_wp2_with (at_builtin; refine wp_app_int rfl (.tmp 29) (.tmp 34) rfl (unhide HOW) rfl hzw rfl (by omega) ?_; intro v' w3 hown4 hgrew)
        go_roundw
        case rel => exact ⟨k + 1, by omega, by go_num, by rw [unhide HNX]; exact hown4, (unhide HBE).trans hgrew.below⟩
        case measure => simp [intOf]; omega
    · have hkl : k = al.length := by omega
      rw [hkl, List.take_length] at hown
      have HOW := hide hown
      clear hown
      go_wp2
      go_ret
      exact ⟨_, rfl, Seq.of_own (unhide HOW), New.of_own (unhide HOW), hbel⟩

end Go.Proofs.YtgmbflpngedhnaaGreat

namespace Go.Proofs.YtgmbflpngedhnaaGreat
open Go.RowKit
set_option linter.unusedVariables false
set_option linter.unusedSimpArgs false
set_option maxRecDepth 20000

/-- The rows that are made while the outer loop is at i, the inner one at k. -/
def pairK (s : List Int) (la : List (List Int)) (u : List Int) (lb : List (List Int)) (i k : Nat) (t : List Int) : List (List Int) := pairR s (la.take i) u lb ++ ((lb.take k).filter (fitB s u t)).map (bothR s u t)
theorem pairK_zero (s : List Int) (la : List (List Int)) (u : List Int) (lb : List (List Int)) (i : Nat) (t : List Int) : pairK s la u lb i 0 t = pairR s (la.take i) u lb := by simp [pairK]
theorem pairK_end {s : List Int} {la : List (List Int)} {u : List Int} {lb : List (List Int)} {i : Nat} (hi : i < la.length) : pairK s la u lb i lb.length la[i] = pairR s (la.take (i + 1)) u lb := by
  unfold pairK pairR
  rw [List.take_length, List.take_succ_eq_append_getElem hi, List.flatMap_append]
  simp
theorem pairK_yes {s : List Int} {la : List (List Int)} {u : List Int} {lb : List (List Int)} {i k : Nat} {t : List Int} (hk : k < lb.length) (h : fitB s u t lb[k] = true) : pairK s la u lb i (k + 1) t = pairK s la u lb i k t ++ [bothR s u t lb[k]] := by
  unfold pairK
  rw [List.take_succ_eq_append_getElem hk, List.filter_append, List.map_append, List.append_assoc]
  simp [List.filter_cons, h]
theorem pairK_no {s : List Int} {la : List (List Int)} {u : List Int} {lb : List (List Int)} {i k : Nat} {t : List Int} (hk : k < lb.length) (h : fitB s u t lb[k] = false) : pairK s la u lb i (k + 1) t = pairK s la u lb i k t := by
  unfold pairK
  rw [List.take_succ_eq_append_getElem hk, List.filter_append, List.map_append]
  simp [List.filter_cons, h]
theorem pairK_len {s : List Int} {la : List (List Int)} {u : List Int} {lb : List (List Int)} {i k : Nat} {t : List Int} (hi : i ≤ la.length) : (pairK s la u lb i k t).length ≤ (la.length + 1) * lb.length := by
  have h1 : ∀ l : List (List Int), (pairR s l u lb).length ≤ l.length * lb.length := by
    intro l
    induction l with
    | nil => simp [pairR]
    | cons x r ih =>
      have e : pairR s (x :: r) u lb = (lb.filter (fitB s u x)).map (bothR s u x) ++ pairR s r u lb := by simp [pairR]
      have hf := List.length_filter_le (fitB s u x) lb
      rw [e, List.length_append, List.length_map, List.length_cons, Nat.add_mul, Nat.one_mul]
      omega
  unfold pairK
  have h2 := h1 (la.take i)
  have h3 := List.length_filter_le (fitB s u t) (lb.take k)
  have h4 : (la.take i).length * lb.length ≤ la.length * lb.length := Nat.mul_le_mul_right _ (by rw [List.length_take]; omega)
  have h5 : (lb.take k).length ≤ lb.length := by rw [List.length_take]; omega
  rw [List.length_append, List.length_map, Nat.add_mul, Nat.one_mul]
  omega

theorem pair_wide {s u : List Int} {la lb : List (List Int)} {t : List Int} (h : t ∈ pairR s la u lb) : t.length = (joinL s u).length := by
  unfold pairR at h
  obtain ⟨x, _, hx⟩ := List.mem_flatMap.1 h
  obtain ⟨y, _, rfl⟩ := List.mem_map.1 hx
  simp [bothR]
theorem Box.set0' {w : World} {b : Nat} {x y : Value} (h : Box w b x y) (z : Value) : Box (w.setCell ⟨b, 0, none⟩ z) b z y := by
  unfold Box at *
  rw [heap_setCell_same w b 0 _ _ z h]; simp
theorem litN {n : Nat} {w : World} (hn : n = w.heap.size) : OwnT w.heap.size (w.alloc (.cells #[] 22)) (.slice (some ⟨n, 0, none⟩) 0 0) [] := by
  subst hn
  exact OwnT.lit (Nat.le_refl _)

set_option maxHeartbeats 8000000 in
theorem refJoin3_nw {s u : List Int} {la lb : List (List Int)} {v v' : Value} {w : World} (h : RelV w v s la) (h' : RelV w v' u lb) (hn : s.Nodup) (hwa : ∀ t ∈ la, t.length = s.length) (hwb : ∀ t ∈ lb, t.length = u.length) (hsl : s.length < 10000) (hul : u.length < 10000) (hjl : (joinL s u).length < 100000) (hll : (la.length + 1) * lb.length < 100000) (hlal : la.length < 100000) (hlbl : lb.length < 100000) :
    Calls Tryz.prog 34 #[v, v'] w fun e w' => ∃ x y, e = .returned (.agg #[x, y]) ∧ RelV w' (.agg #[x, y]) (joinL s u) (joinR s la u lb) ∧ (∀ b, b < w.heap.size → y.ownBlock ≠ some b) ∧ Below w.heap.size w w' := by
  obtain ⟨a, ca, b, cb, rfl, k1, k2, k3, k4, hs1, ht1⟩ := h.form
  obtain ⟨a', ca', b', cb', rfl, k1', k2', k3', k4', hs2, ht2⟩ := h'.form
  unfold maxLen at k2 k4 k2' k4'
  obtain ⟨W0, hW0⟩ : ∃ W, W = ((w.alloc (.cells #[.slice a s.length ca, .slice b la.length cb] 31)).alloc (.cells #[.slice a' u.length ca', .slice b' lb.length cb'] 31)).alloc (.cells #[.slice none 0 0, .slice none 0 0] 31) := ⟨_, rfl⟩
  have hb0 : Below w.heap.size w W0 := by rw [hW0]; exact (b2x w _ _).alloc (by simp; omega) _
  have x0 : Box W0 w.heap.size (.slice a s.length ca) (.slice b la.length cb) := by rw [hW0]; exact ((Box.new w _ _).push _).push _
  have x1 : Box W0 (w.heap.size + 1) (.slice a' u.length ca') (.slice b' lb.length cb') := by
    rw [hW0]; have := (Box.new (w.alloc (.cells #[.slice a s.length ca, .slice b la.length cb] 31)) (.slice a' u.length ca') (.slice b' lb.length cb')).push (.cells #[.slice none 0 0, .slice none 0 0] 31); simpa using this
  have x2 : Box W0 (w.heap.size + 1 + 1) (.slice none 0 0) (.slice none 0 0) := by
    rw [hW0]; have := Box.new ((w.alloc (.cells #[.slice a s.length ca, .slice b la.length cb] 31)).alloc (.cells #[.slice a' u.length ca', .slice b' lb.length cb'] 31)) (.slice none 0 0) (.slice none 0 0); simpa using this
  replace hs1 := hs1.below hb0
  replace hs2 := hs2.below hb0
  replace ht1 := ht1.below hb0
  replace ht2 := ht2.below hb0
  have HU := hide (refJoin_any hs1 hs2 (by omega))
  have HW0 := hide hW0
  have hz0 := hb0.size
  clear hW0 h h'
  have c00 := x0.cell0
  have c10 := x1.cell0
  go_enter Tryz.func34, Tryz.ntmps34
  go_wp2_with fail
  rw [← unhide HW0]
  refine (unhide HU).mono ?_
  rintro e w1 ⟨vJ, rfl, rJ, nJ, hb1⟩
  clear HW0 HU c00 c10
  obtain ⟨ja, jc, rfl, _, _⟩ := rJ.form
  obtain ⟨J, hJ⟩ : ∃ J, J = joinL s u := ⟨_, rfl⟩
  rw [← hJ] at rJ nJ ⊢
  replace x0 := x0.belowH hb1
  replace x1 := x1.belowH hb1
  replace x2 := x2.belowH hb1
  have HLT1 := hide (show w.heap.size + 1 + 1 < w1.heap.size from x2.lt)
  replace hs1 := hs1.below hb1
  replace hs2 := hs2.below hb1
  replace ht1 := ht1.below hb1
  replace ht2 := ht2.below hb1
  have pb := (Below.refl _ w1).alloc (Nat.le_refl _) (.cells #[.slice ja J.length jc, .slice none 0 0] 31)
  have x5 := Box.new w1 (.slice ja J.length jc) (.slice none 0 0)
  replace x0 := x0.belowH pb
  replace x1 := x1.belowH pb
  replace x2 := x2.belowH pb
  replace hs1 := hs1.below pb
  replace hs2 := hs2.below pb
  replace ht1 := ht1.below pb
  replace ht2 := ht2.below pb
  replace rJ := rJ.below pb
  have hbb := below_then (below_then hb0 hb1) pb
  obtain ⟨Wb, hWb⟩ : ∃ W, W = w1.alloc (.cells #[.slice ja J.length jc, .slice none 0 0] 31) := ⟨_, rfl⟩
  have hz5 : w1.heap.size + 1 = Wb.heap.size := by rw [hWb]; simp
  rw [← hWb] at x0 x1 x2 x5 hs1 hs2 ht1 ht2 rJ hbb
  have HX := hide (fun W (hb : Below Wb.heap.size Wb W) => And.intro (x0.belowH hb) (And.intro (x1.belowH hb) (And.intro (x5.belowH hb) (x2.belowH hb))))
  have HR := hide (fun W (hb : Below Wb.heap.size Wb W) => And.intro (hs1.below hb) (And.intro (hs2.below hb) (And.intro (ht1.below hb) (And.intro (ht2.below hb) (rJ.below hb)))))
  have HWb := hide hWb
  have HBB := hide hbb
  have HJ := hide hJ
  have HWA := hide hwa
  have HWB := hide hwb
  have HN := hide hn
  have HLL := hide hll
  have HZ5 := hide hz5
  have HLT := hide (show w.heap.size + 1 + 1 < Wb.heap.size from x2.lt)
  clear x0 x1 x2 x5 hs1 hs2 ht1 ht2 rJ hbb pb hWb hJ hwa hwb hn hll hb0 hb1 nJ hz5
  go_wp2
  rw [← unhide HWb]
  clear HWb
  go_loopw [6, 7, 8, 9] (fun ov i _ _ wr => ∃ k : Nat, k ≤ la.length ∧ i = .int .i64 k ∧ OwnT Wb.heap.size wr ov (pairR s (la.take k) u lb) ∧ Below Wb.heap.size Wb wr) (fun _ i _ _ _ => la.length - (intOf i).toNat)
  case atStart => exact ⟨0, by omega, rfl, litN (unhide HZ5), (Below.refl _ _).alloc (Nat.le_refl _) _⟩
  case round =>
    have HZ5' := HZ5
    clear HZ5
    obtain ⟨k, hk, rfl, hown, hbr⟩ := hrel
    rename World => wr
    obtain ⟨x0, x1, x5, x2⟩ := unhide HX wr hbr
    have c01 := x0.cell1
    have hown' := hown
    by_cases hlt : k < la.length
    · rw [← pairK_zero s la u lb k la[k]] at hown'
      have HOW := hide hown'
      have HBR := hide hbr
      clear hown hown' x0 x1 x5 x2 hbr
      go_wp2
      go_loopw [6, 8, 9] (fun ov i _ wq => ∃ k2 : Nat, k2 ≤ lb.length ∧ i = .int .i64 k2 ∧ OwnT Wb.heap.size wq ov (pairK s la u lb k k2 la[k]) ∧ Below Wb.heap.size Wb wq) (fun _ i _ _ => lb.length - (intOf i).toNat)
      case atStart => exact ⟨0, by omega, rfl, unhide HOW, unhide HBR⟩
      case round =>
        clear HOW HBR c01
        obtain ⟨k2, hk2, rfl, hown, hbq⟩ := hrel
        rename World => wq
        obtain ⟨x0, x1, x5, x2⟩ := unhide HX wq hbq
        obtain ⟨hs1, hs2, ht1, ht2, rJ⟩ := unhide HR wq hbq
        have c00 := x0.cell0
        have c01 := x0.cell1
        have c10 := x1.cell0
        have c11 := x1.cell1
        have c50 := x5.cell0
        have hzq := hbq.size
        by_cases hlt2 : k2 < lb.length
        · obtain ⟨_, _, t1b, t2b, _⟩ := unhide HR Wb (Below.refl _ _)
          obtain ⟨ba, oa, ua, rfl, hub1, hia1⟩ := t1b.at hlt
          obtain ⟨bb, ob, ub, rfl, hub2, hib1⟩ := t2b.at hlt2
          have hua := Below.cell_of hbq hub1
          have hub := Below.cell_of hbq hub2
          have hia := hia1.below hbq
          have hib := hib1.below hbq
          clear t1b t2b
          have HF := hide (fun n => refFit_any (hs1.drewN n) (hia.drewN n) (hs2.drewN n) (hib.drewN n) (unhide HN) (unhide HWA _ (List.getElem_mem _)) (unhide HWB _ (List.getElem_mem _)))
          cases hf : fitB s u la[k] lb[k2] with
          | false =>
            rw [hf] at HF
            have HNX := hide (pairK_no (s := s) (la := la) (u := u) (i := k) hlt2 hf)
            have HOW := hide hown
            have HBQ := hide hbq
            clear hf hown hbq x0 x1 x5 x2 hs1 hs2 ht1 ht2 rJ hia hib
            go_wp2
            go_quiet ((go_at_call 45; exact Calls.quiet_of (unhide HF _)))
            go_wp2
            go_roundw
            case rel => exact ⟨k2 + 1, by omega, by go_num, by rw [unhide HNX]; exact (unhide HOW).below (Below.drewN _ _), Below.drewN1 (unhide HBQ) _⟩
            case measure => simp [intOf]; omega
          | true =>
            rw [hf] at HF
            have HNX := hide (pairK_yes (s := s) (la := la) (u := u) (i := k) hlt2 hf)
            have hlenK : (pairK s la u lb k k2 la[k]).length < 100000 := Nat.lt_of_le_of_lt (pairK_len hk) (unhide HLL)
            have HK := hide (fun W (hb : Below Wb.heap.size Wb W) => And.intro (unhide HX W hb).1.cell0 (And.intro (unhide HX W hb).1.cell1 (And.intro (unhide HX W hb).2.1.cell0 (And.intro (unhide HX W hb).2.1.cell1 (And.intro (unhide HX W hb).2.2.1.cell0 (And.intro (Below.cell_of hb hub1) (Below.cell_of hb hub2)))))))
            have HBO := hide (fun W (hb : Below Wb.heap.size Wb W) => refBoth_any (unhide HR W hb).1 (hia1.below hb) (unhide HR W hb).2.1 (hib1.below hb) (unhide HR W hb).2.2.2.2 (unhide HWA _ (List.getElem_mem hlt)) (unhide HWB _ (List.getElem_mem hlt2)) (fun x hx => by rw [unhide HJ] at hx; exact mem_joinL.1 hx) (by rw [unhide HJ]; exact hjl))
            have HBR' : Hid (bothR s u la[k] lb[k2] = J.map (bothF s u la[k] lb[k2])) := hide (by rw [unhide HJ]; rfl)
            rw [unhide HBR'] at HNX
            have HOW := hide hown
            have HBQ := hide hbq
            clear hf hown hbq x0 x1 x5 x2 hs1 hs2 ht1 ht2 rJ hia hib hia1 hib1 hub1 hub2 HBR'
            generalize pairK s la u lb k k2 la[k] = L at *
            generalize J.map (bothF s u la[k] lb[k2]) = bt at *
            go_wp2
            go_quiet ((go_at_call 45; exact Calls.quiet_of (unhide HF _)))
            go_wp2
            have hbW := Below.drewN1 (unhide HBQ) nq
            have hownW := (unhide HOW).below (Below.drewN _ nq)
            clear c00 c01 c10 c11 c50 hua hub hzq HOW HBQ HF
            generalize wq.drewN nq = W at *
            go_region_held3 (fun W => W.cell? ⟨w.heap.size, 0, none⟩ = some (.slice a s.length ca) ∧ W.cell? ⟨w.heap.size, 1, none⟩ = some (.slice (some ⟨ba, oa, none⟩) la.length cb) ∧ W.cell? ⟨w.heap.size + 1, 0, none⟩ = some (.slice a' u.length ca') ∧ W.cell? ⟨w.heap.size + 1, 1, none⟩ = some (.slice (some ⟨bb, ob, none⟩) lb.length cb') ∧ W.cell? ⟨w1.heap.size, 0, none⟩ = some (.slice ja J.length jc) ∧ W.cell? ⟨ba, oa + k, none⟩ = some ua ∧ W.cell? ⟨bb, ob + k2, none⟩ = some ub)
              (first | exact unhide HK _ (by first | exact hB5 | exact hB3 | exact hbW | exact below_then hbW (below_same rfl rfl rfl rfl) | exact below_then hB3 (below_push rfl rfl rfl rfl) | exact below_then hB5 (below_same rfl rfl rfl rfl) | exact below_then hB3 (below_same rfl rfl rfl rfl)))
              (first
                | (go_at_call 64; refine (unhide HBO _ (by first | exact hbW | exact below_then hbW (below_same rfl rfl rfl rfl))).mono ?_; rintro e w3 ⟨u3, rfl, hu3, hun3, hb3⟩; obtain ⟨ua3, uc3, hue, _, _⟩ := hu3.form; rw [hue] at hu3 hun3 ⊢; clear hue; have hB3 : Below Wb.heap.size Wb w3 := below_then (by first | exact hbW | exact below_then hbW (below_same rfl rfl rfl rfl)) hb3; have hown3 : OwnT Wb.heap.size w3 _ L := OwnT.below (by first | exact hownW | exact OwnT.below hownW (below_same rfl rfl rfl rfl)) hb3; have hap3 : Sep (.slice ua3 bt.length uc3) _ := (Sep.of_new hownW.new (Nat.le_refl _) hun3).symm)
                | (refine step_of rfl (op_app_tup (.tmp 47) (.tmp 65) rfl hown3 hu3 (fun _ => hap3) rfl hB3.size rfl (by omega) ?_); intro v5 w5 hown5 hgrew5; have hB5 : Below Wb.heap.size Wb w5 := hB3.trans hgrew5.below))
            all_goals
              go_wp2
              go_roundw
              case rel => exact ⟨k2 + 1, by omega, by go_num, by rw [unhide HNX]; exact hown5, hB5⟩
              case measure => simp [intOf]; omega
        · have hke : k2 = lb.length := by omega
          rw [hke, pairK_end hlt] at hown
          have HOW := hide hown
          have HBQ := hide hbq
          clear hown hbq x0 x1 x5 x2 hs1 hs2 ht1 ht2 rJ
          go_wp2
          go_roundw
          case rel => exact ⟨k + 1, by omega, by go_num, unhide HOW, unhide HBQ⟩
          case measure => simp [intOf]; omega
    · have hke : k = la.length := by omega
      rw [hke, List.take_length] at hown
      have HSO := hide (refSort_any hown.tups (by have := pairK_len (s := s) (u := u) (la := la) (lb := lb) (i := la.length) (k := 0) (t := []) (Nat.le_refl _); rw [pairK_zero, List.take_length] at this; have := unhide HLL; omega) (fun t ht => by rw [pair_wide ht]; omega))
      have HBR := hide hbr
      have hlt1 := unhide HLT1
      have hsz := hbr.size
      have hszb : w1.heap.size < Wb.heap.size := by rw [← unhide HZ5']; omega
      have X5 := hide x5
      have X2 := hide x2
      have RJ := hide (unhide HR wr hbr).2.2.2.2
      clear hown hown' x0 x1 x5 x2 hbr
      subst hke
      go_wp2_with fail
      refine (unhide HSO).mono ?_
      rintro e w6 ⟨v6, rfl, h6, n6, hb6⟩
      obtain ⟨ra, rc, hre, _, _⟩ := h6.form
      rw [hre] at h6 n6 ⊢
      clear hre
      have hz6 := hb6.size
      have y5 := (unhide X5).belowH hb6
      have y2 := (unhide X2).belowH hb6
      have rJ6 := (unhide RJ).below hb6
      have hn5 : (Value.slice ra (sortL (pairR s la u lb)).length rc).ownBlock ≠ some w1.heap.size := n6.ne (by omega)
      have hn2 : (Value.slice ra (sortL (pairR s la u lb)).length rc).ownBlock ≠ some (w.heap.size + 1 + 1) := n6.ne (by omega)
      have HNEW := hide (fun b (hb : b < w.heap.size) => show (Value.slice ra (sortL (pairR s la u lb)).length rc).ownBlock ≠ some b from n6.ne (by omega))
      have d50 := y5.cell0
      have d51 := y5.cell1
      have f50 := y5.frozen 0
      have f51 := y5.frozen 1
      have d20 := y2.cell0
      have d21 := y2.cell1
      have f20 := y2.frozen 0
      have f21 := y2.frozen 1
      have hne : w1.heap.size ≠ w.heap.size + 1 + 1 := by omega
      have hne2 : w.heap.size + 1 + 1 ≠ w1.heap.size := by omega
      have z5 := y5.set1 (.slice ra (sortL (pairR s la u lb)).length rc)
      have z2 : Box (w6.setCell ⟨w1.heap.size, 1, none⟩ (.slice ra (sortL (pairR s la u lb)).length rc)) (w.heap.size + 1 + 1) (.slice none 0 0) (.slice none 0 0) := by unfold Box at *; rw [heap_setCell_other w6 ⟨w1.heap.size, 1, none⟩ (w.heap.size + 1 + 1) _ hne2]; exact y2
      have e50 := z5.cell0
      have e51 := z5.cell1
      have e20 := z2.cell0
      have e21 := z2.cell1
      have g20 := z2.frozen 0
      have g21 := z2.frozen 1
      have rJ7 := rJ6.setBox y5.boxS 1 (.slice ra (sortL (pairR s la u lb)).length rc)
      have h7 := h6.setBox y5.boxS hn5 1 (.slice ra (sortL (pairR s la u lb)).length rc)
      have hfin := rel_store z2.boxS z2.cell0 rJ7 h7 hn2
      have z2' := (z2.set0' (.slice ja J.length jc)).set1 (.slice ra (sortL (pairR s la u lb)).length rc)
      have r0 := z2'.cell0
      have r1 := z2'.cell1
      have HBF := hide (below_store ((below_then (below_then (unhide HBB) (unhide HBR)) hb6).setCell (p := ⟨w1.heap.size, 1, none⟩) (show w.heap.size ≤ w1.heap.size by omega) (.slice ra (sortL (pairR s la u lb)).length rc)) (show w.heap.size ≤ w.heap.size + 1 + 1 by omega) (.slice ja J.length jc) (.slice ra (sortL (pairR s la u lb)).length rc))
      have HFIN := hide hfin
      have R0 := hide r0
      have R1 := hide r1
      clear y5 y2 z5 z2 z2' rJ6 rJ7 h6 h7 hfin n6 hn5 hn2 r0 r1
      go_wp2
      have r0 := unhide R0
      have r1 := unhide R1
      refine bodyPost_ret (v := .agg #[.slice ja J.length jc, .slice ra (sortL (pairR s la u lb)).length rc]) (by simp [results, Tryz.results34, go_sem, r0, r1]) rfl ⟨_, _, rfl, ?_, unhide HNEW, unhide HBF⟩
      rw [← unhide HJ]
      exact unhide HFIN

theorem refJoin3_any {s u : List Int} {la lb : List (List Int)} {v v' : Value} {w : World} (h : RelV w v s la) (h' : RelV w v' u lb) (hn : s.Nodup) (hwa : ∀ t ∈ la, t.length = s.length) (hwb : ∀ t ∈ lb, t.length = u.length) (hsl : s.length < 10000) (hul : u.length < 10000) (hjl : (joinL s u).length < 100000) (hll : (la.length + 1) * lb.length < 100000) (hlal : la.length < 100000) (hlbl : lb.length < 100000) :
    Calls Tryz.prog 34 #[v, v'] w fun e w' => ∃ x, e = .returned x ∧ RelV w' x (joinL s u) (joinR s la u lb) ∧ Below w.heap.size w w' :=
  (refJoin3_nw h h' hn hwa hwb hsl hul hjl hll hlal hlbl).mono fun e w' ⟨x, y, h1, h2, _, h4⟩ => ⟨_, h1, h2, h4⟩

end Go.Proofs.YtgmbflpngedhnaaGreat

namespace Go.Proofs.YtgmbflpngedhnaaGreat
open Go.RowKit
set_option linter.unusedVariables false
set_option linter.unusedSimpArgs false
set_option maxRecDepth 20000

theorem fit_cut {s vars c t : List Int} (hs : Asc s) (ht : t.length = s.length) (hc : c.length = (meetL s vars).length) : fitB (meetL s vars) s c t = decide (pickL t ((meetL s vars).map (placeL s)) = c) := by
  have e1 : meetL (meetL s vars) s = meetL s vars := by
    show (meetL s vars).filter _ = _
    rw [List.filter_eq_self]
    intro x hx
    exact decide_eq_true (meet_sub x hx)
  unfold fitB
  rw [e1, map_getR (asc_meetL hs).nodup hc, pick_map meet_sub ht, decide_eq_decide]
  exact eq_comm

/-- The weights of the first k rows that are cut to c. -/
def partW (S c s : List Int) (ll : List (List Int)) (ws : List Int) (k : Nat) : List Int := ((List.range k).filter fun i => fitB S s c (ll.getD i [])).map fun i => ws.getD i 0

theorem partW_zero (S c s : List Int) (ll : List (List Int)) (ws : List Int) : partW S c s ll ws 0 = [] := rfl
theorem partW_yes {S c s : List Int} {ll : List (List Int)} {ws : List Int} {k : Nat} (hk : k < ll.length) (hw : k < ws.length) (h : fitB S s c ll[k] = true) : partW S c s ll ws (k + 1) = partW S c s ll ws k ++ [ws[k]] := by
  have e : ll.getD k [] = ll[k] := by simp [hk]
  have e2 : ws.getD k 0 = ws[k] := by simp [hw]
  unfold partW
  rw [List.range_succ, List.filter_append, List.map_append]
  simp only [List.filter_cons, e, h, List.filter_nil, if_true, List.map_cons, List.map_nil, e2]
theorem partW_no {S c s : List Int} {ll : List (List Int)} {ws : List Int} {k : Nat} (hk : k < ll.length) (h : fitB S s c ll[k] = false) : partW S c s ll ws (k + 1) = partW S c s ll ws k := by
  have e : ll.getD k [] = ll[k] := by simp [hk]
  unfold partW
  rw [List.range_succ, List.filter_append, List.map_append]
  simp only [List.filter_cons, e, h, List.filter_nil, List.map_nil, List.append_nil]
  simp
theorem partW_len (S c s : List Int) (ll : List (List Int)) (ws : List Int) (k : Nat) : (partW S c s ll ws k).length ≤ k := by
  unfold partW
  rw [List.length_map]
  exact Nat.le_trans (List.length_filter_le _ _) (by simp)
theorem partW_more (S c s : List Int) (ll : List (List Int)) (ws : List Int) (k : Nat) : ∀ n, k ≤ n → ∃ r, partW S c s ll ws n = partW S c s ll ws k ++ r
  | 0, h => ⟨[], by have : k = 0 := by omega
                    subst this; simp⟩
  | n + 1, h => by
    by_cases hk : k = n + 1
    · exact ⟨[], by rw [hk]; simp⟩
    · obtain ⟨r, hr⟩ := partW_more S c s ll ws k n (by omega)
      have e : partW S c s ll ws (n + 1) = partW S c s ll ws n ++ ([n].filter fun i => fitB S s c (ll.getD i [])).map fun i => ws.getD i 0 := by
        unfold partW
        rw [List.range_succ, List.filter_append, List.map_append]
      exact ⟨r ++ ([n].filter fun i => fitB S s c (ll.getD i [])).map (fun i => ws.getD i 0), by rw [e, hr, List.append_assoc]⟩
theorem partW_in {S c s : List Int} {ll : List (List Int)} {ws : List Int} {k : Nat} {P : Int → Prop} (h0 : P 0) (h : ∀ x ∈ ws, P x) : ∀ x ∈ partW S c s ll ws k, P x := by
  intro x hx
  obtain ⟨i, _, rfl⟩ := List.mem_map.1 hx
  exact getD_in h0 h i

/-- The sources of row i of the projection. -/
theorem src_part {s vars : List Int} {ll : List (List Int)} {ws : List Int} (hs : Asc s) (hw : ∀ t ∈ ll, t.length = s.length) {i : Nat} (h : i < (projL s ll vars).length) (h' : i < (wsrcL s ll ws vars).length) :
    (wsrcL s ll ws vars)[i] = partW (meetL s vars) (projL s ll vars)[i] s ll ws ll.length := by
  have hc : ((projL s ll vars)[i]).length = (meetL s vars).length := by
    obtain ⟨t, _, e⟩ := (mem_proj hw).1 (List.getElem_mem h)
    rw [e, List.length_map]
  generalize hC : (projL s ll vars)[i] = c at hc
  have e : (wsrcL s ll ws vars)[i] = (srcAt ((meetL s vars).map (placeL s)) ll ll.length c).map fun p => ws.getD p.toNat 0 := by
    have : wsrcL s ll ws vars = ((projL s ll vars).map (srcAt ((meetL s vars).map (placeL s)) ll ll.length)).map fun ps => ps.map fun p => ws.getD p.toNat 0 := rfl
    simp only [this, List.getElem_map, hC]
  rw [e]
  unfold srcAt partW
  rw [List.map_map]
  have hf : (List.range ll.length).filter (fun i => decide (pickL (ll.getD i []) ((meetL s vars).map (placeL s)) = c)) = (List.range ll.length).filter fun i => fitB (meetL s vars) s c (ll.getD i []) := by
    refine List.filter_congr fun j hj => ?_
    have hj' : j < ll.length := List.mem_range.1 hj
    have e2 : ll.getD j [] = ll[j] := by simp [hj']
    rw [e2, fit_cut hs (hw _ (List.getElem_mem hj')) hc]
  rw [hf]
  refine List.map_congr_left fun j _ => ?_
  simp

theorem wsrc_length (s : List Int) (ll : List (List Int)) (ws vars : List Int) : (wsrcL s ll ws vars).length = (projL s ll vars).length := by unfold wsrcL srcL; simp

theorem sizes_append (a b : List Int) : sizesW (a ++ b) = sizesW a + sizesW b := by simp [sizesW]

theorem least_snoc {l : List Int} (h : l ≠ []) (x : Int) : leastV (l ++ [x]) = if x < leastV l then x else leastV l := by
  obtain ⟨h1, h2⟩ := least_spec h
  by_cases hx : x < leastV l
  · rw [if_pos hx]
    refine least_eq (by simp) fun y hy => ?_
    rcases List.mem_append.1 hy with hy | hy
    · have := h2 y hy; omega
    · rw [List.mem_singleton.1 hy]; exact Int.le_refl _
  · rw [if_neg hx]
    refine least_eq (by simp [h1]) fun y hy => ?_
    rcases List.mem_append.1 hy with hy | hy
    · exact h2 y hy
    · rw [List.mem_singleton.1 hy]; omega
theorem least_one (x : Int) : leastV [x] = x := rfl

end Go.Proofs.YtgmbflpngedhnaaGreat

namespace Go.Proofs.YtgmbflpngedhnaaGreat
open Go.RowKit
set_option linter.unusedVariables false
set_option linter.unusedSimpArgs false
set_option maxRecDepth 20000

theorem refSize_any {x : Int} {w : World} (hx : Fits x) : Calls Tryz.prog 46 #[.int .i64 x] w fun e w' => e = .returned (.int .i64 (x.natAbs : Int)) ∧ ∃ n, w' = w.drewN n := by
  unfold Fits at hx
  by_cases h : x < 0
  · have e : wrap64 (-x) = (x.natAbs : Int) := by unfold wrap64; omega
    go_enter Tryz.func46, Tryz.ntmps46
    go_wp2
    go_ret
    exact ⟨ret_int (by first | exact e | omega), 0, rfl⟩
  · go_enter Tryz.func46, Tryz.ntmps46
    go_wp2
    go_ret
    exact ⟨ret_int (by omega), 0, rfl⟩

theorem wrapI {x : Int} (h1 : -9223372036854775808 ≤ x) (h2 : x ≤ 9223372036854775807) : IntKind.i64.wrap x = x := by
  have e : IntKind.i64.wrap x = if (true && decide (x % 18446744073709551616 ≥ 9223372036854775808)) = true then x % 18446744073709551616 - 18446744073709551616 else x % 18446744073709551616 := rfl
  rw [e]
  simp only [Bool.true_and, decide_eq_true_eq]
  split <;> omega

/-- The block of a variable that holds a weight of two parts. -/
def BoxPr (w : World) (b : Nat) (x y : Value) : Prop := w.heap[b]? = some (.cells #[x, y] 63 (0, 0))
theorem BoxPr.lt {w : World} {b : Nat} {x y : Value} (h : BoxPr w b x y) : b < w.heap.size := by
  rcases Nat.lt_or_ge b w.heap.size with hl | hl
  · exact hl
  · unfold BoxPr at h; rw [Array.getElem?_eq_none hl] at h; cases h
theorem BoxPr.cell0 {w : World} {b : Nat} {x y : Value} (h : BoxPr w b x y) : w.cell? ⟨b, 0, none⟩ = some x := by unfold BoxPr at h; simp only [World.cell?, h]; simp
theorem BoxPr.cell1 {w : World} {b : Nat} {x y : Value} (h : BoxPr w b x y) : w.cell? ⟨b, 1, none⟩ = some y := by unfold BoxPr at h; simp only [World.cell?, h]; simp
theorem BoxPr.frozen {w : World} {b : Nat} {x y : Value} (h : BoxPr w b x y) (i : Nat) : w.frozen? ⟨b, i, none⟩ = false := frozen_of_row w b i _ _ h
theorem BoxPr.new (w : World) (x y : Value) : BoxPr (w.alloc (.cells #[x, y] 63)) w.heap.size x y := heap_alloc_new w _
theorem BoxPr.below {w w' : World} {b B : Nat} {x y : Value} (h : BoxPr w b x y) (hb : Below B w w') (hB : b < B) : BoxPr w' b x y := by unfold BoxPr at *; rw [hb.block b hB]; exact h
theorem BoxPr.belowH {w w' : World} {b : Nat} {x y : Value} (h : BoxPr w b x y) (hb : Below w.heap.size w w') : BoxPr w' b x y := h.below hb h.lt
theorem BoxPr.push {w : World} {b : Nat} {x y : Value} (h : BoxPr w b x y) (o : Obj) : BoxPr (w.alloc o) b x y := h.belowH ((Below.refl _ _).alloc (Nat.le_refl _) o)
theorem BoxPr.set0 {w : World} {b : Nat} {x y : Value} (h : BoxPr w b x y) (z : Value) : BoxPr (w.setCell ⟨b, 0, none⟩ z) b z y := by unfold BoxPr at *; rw [heap_setCell_same w b 0 _ _ z h]; simp
theorem BoxPr.set1 {w : World} {b : Nat} {x y : Value} (h : BoxPr w b x y) (z : Value) : BoxPr (w.setCell ⟨b, 1, none⟩ z) b x z := by unfold BoxPr at *; rw [heap_setCell_same w b 1 _ _ z h]; simp
theorem BoxPr.keep {w : World} {b : Nat} {x y : Value} (h : BoxPr w b x y) {c i : Nat} (hne : b ≠ c) (u : Value) : BoxPr (w.setCell ⟨c, i, none⟩ u) b x y := by unfold BoxPr at *; rw [heap_setCell_other w ⟨c, i, none⟩ b u hne]; exact h

/-- What the document's Sum answers. -/
def RefSumEnds (w' : World) (e : Ending) (S : List Int) (J : List (List Int)) (K : List (List Int)) : Prop :=
  ((∃ l ∈ K, sumOk l = false) ∧ e = .returned (.tuple #[.agg #[.slice none 0 0, .slice none 0 0, .slice none 0 0], .bool false])) ∨
  ((∀ l ∈ K, sumOk l = true) ∧ ∃ x y z, e = .returned (.tuple #[.agg #[x, y, z], .bool true]) ∧ RV w' (.agg #[x, y, z]) S J (K.map fun l => (sumV l, 0)))

set_option maxHeartbeats 40000000 in
theorem refSum_any {s vars ws : List Int} {ll : List (List Int)} {ps : List (Int × Int)} {v vv : Value} {w : World} (h : RV w v s ll ps) (hv : Ints w vv vars) (hs : Asc s) (hw : ∀ t ∈ ll, t.length = s.length) (hl : ll.length < 100000) (hsl : s.length < 10000) (hvl : vars.length < 10000000)
    (hwl : ws.length = ll.length) (hpl : ps.length = ll.length) (hps : ∀ k (h : k < ps.length) (h' : k < ws.length), ps[k] = (ws[k], 0)) (hf : ∀ x ∈ ws, Fits x) :
    Calls Tryz.prog 20 #[v, vv, .int .i64 4611686018427387904] w fun e w' => RefSumEnds w' e (meetL s vars) (projL s ll vars) (wsrcL s ll ws vars) ∧ Below w.heap.size w w' := by
  obtain ⟨a, ca, b, cb, d, cd, rfl, k1, k2, k3, hs1, ht1, hp1⟩ := h.form
  obtain ⟨a', ca', rfl, _, k5⟩ := hv.form
  unfold maxLen at k1 k2 k3 k5
  obtain ⟨W0, hW0⟩ : ∃ W, W = (w.alloc (.cells #[.slice a s.length ca, .slice b ll.length cb, .slice d ps.length cd] 34)).alloc (.cells #[.slice none 0 0, .slice none 0 0, .slice none 0 0] 34) := ⟨_, rfl⟩
  have hb0 : Below w.heap.size w W0 := by rw [hW0]; exact b2x w _ _
  have x0 : BoxF W0 w.heap.size (.slice a s.length ca) (.slice b ll.length cb) (.slice d ps.length cd) := by rw [hW0]; exact (BoxF.new w _ _ _).push _
  have x6 : BoxF W0 (w.heap.size + 1) (.slice none 0 0) (.slice none 0 0) (.slice none 0 0) := by
    rw [hW0]; have := BoxF.new (w.alloc (.cells #[.slice a s.length ca, .slice b ll.length cb, .slice d ps.length cd] 34)) (.slice none 0 0) (.slice none 0 0) (.slice none 0 0); simpa using this
  replace hs1 := hs1.below hb0
  replace ht1 := ht1.below hb0
  replace hp1 := hp1.below hb0
  have HPJ := hide (refProject_nw (s := s) (ll := ll) ⟨_, _, rfl, hs1, ht1⟩ (hv.below hb0) hl (by omega))
  have HW0 := hide hW0
  have hz0 := x6.lt
  have hzw := hb0.size
  have c00 := x0.cell0
  have c01 := x0.cell1
  obtain ⟨S, hS⟩ : ∃ S, S = meetL s vars := ⟨_, rfl⟩
  obtain ⟨L, hL⟩ : ∃ L, L = projL s ll vars := ⟨_, rfl⟩
  obtain ⟨K, hK⟩ : ∃ K, K = wsrcL s ll ws vars := ⟨_, rfl⟩
  have HSA := hide (show Asc S by rw [hS]; exact asc_meetL hs)
  have HLW := hide (show ∀ t ∈ L, t.length = S.length by
    intro t ht
    rw [hL] at ht
    obtain ⟨u, _, e⟩ := (mem_proj hw).1 ht
    rw [e, hS, List.length_map])
  have HKL := hide (show K.length = L.length by rw [hK, hL]; exact wsrc_length s ll ws vars)
  have HKI := hide (show ∀ i (h : i < L.length) (h' : i < K.length), K[i] = partW S L[i] s ll ws ll.length by subst hS hL hK; exact fun i h h' => src_part hs hw h h')
  have hLl : L.length ≤ ll.length := by rw [hL]; exact proj_le s vars ll
  rw [← hS, ← hL] at HPJ
  rw [← hS, ← hL, ← hK]
  have HW := hide hw
  have HWL := hide hwl
  have HPL := hide hpl
  have HPS := hide hps
  have HF := hide hf
  have HSN := hide hs
  clear hS hL hK h hv hW0 hs hw hwl hpl hps hf
  go_enter Tryz.func20, Tryz.ntmps20
  go_wp2_with fail
  rw [← unhide HW0]
  refine (unhide HPJ).mono ?_
  rintro e w1 ⟨px, py, rfl, hpr, hnew, hb1⟩
  obtain ⟨ja, jc, jb, jd, hje, _, _, _, _, hji, hjt⟩ := hpr.form
  cases hje
  clear HW0 HPJ c00 c01
  replace x0 := x0.belowH hb1
  replace x6 := x6.belowH hb1
  replace hs1 := hs1.below hb1
  replace ht1 := ht1.below hb1
  replace hp1 := hp1.below hb1
  have HBB := hide (below_then hb0 hb1)
  have hz1 := hb1.size
  have hz6 := x6.lt
  have HNE := hide (hnew (w.heap.size + 1) hz0)
  have HX := hide (fun W (hb : Below w1.heap.size w1 W) => And.intro (x0.belowH hb) (x6.belowH hb))
  have HR := hide (fun W (hb : Below w1.heap.size w1 W) => And.intro (hs1.below hb) (And.intro (ht1.below hb) (And.intro (hp1.below hb) (And.intro (hji.below hb) (hjt.below hb)))))
  have x8 := BoxF.new w1 (.slice ja S.length jc) (.slice jb L.length jd) (.slice none 0 0)
  clear hs1 ht1 hp1 hji hjt hpr hnew hb1 x0 x6 hb0
  go_wp2
  go_loopw [9, 10, 11, 12, 13, 14] (fun i _ _ _ _ _ wr => ∃ (k : Nat) (zv : Value), k ≤ L.length ∧ i = .int .i64 k ∧ BoxF wr w1.heap.size (.slice ja S.length jc) (.slice jb L.length jd) zv ∧ OwnP (w1.heap.size + 1) wr zv ((K.take k).map fun l => (sumV l, 0)) ∧ Below w1.heap.size w1 wr ∧ ∀ l ∈ K.take k, sumOk l = true) (fun i _ _ _ _ _ _ => L.length - (intOf i).toNat)
  case atStart => exact ⟨0, _, by omega, rfl, x8, World.ownsRow_nil _ _ _ _, (Below.refl _ _).alloc (Nat.le_refl _) _, by simp⟩
  case round =>
    clear x8
    obtain ⟨k, zv, hk, rfl, y8, hown, hbel, hok⟩ := hrel
    have hz := hbel.size
    have hl8 := y8.lt
    obtain ⟨za, zn, zc, rfl⟩ := own_sl2 hown
    have c81 := y8.cell1
    by_cases hkl : k < L.length
    · have HKK := hide (show ∃ h : k < K.length, K[k] = partW S L[k] s ll ws ll.length by
        have h1 := unhide HKL
        exact ⟨by omega, unhide HKI k hkl (by omega)⟩)
      have HTK := hide (show (K.take (k + 1)).map (fun l => ((sumV l, 0) : Int × Int)) = (K.take k).map (fun l => (sumV l, 0)) ++ [(sumV (partW S L[k] s ll ws ll.length), 0)] by
        obtain ⟨h1, h2⟩ := unhide HKK
        rw [List.take_succ_eq_append_getElem h1, List.map_append, h2]; rfl)
      have HOKK := hide (show sumOk (partW S L[k] s ll ws ll.length) = true → ∀ l ∈ K.take (k + 1), sumOk l = true by
        obtain ⟨h1, h2⟩ := unhide HKK
        intro h l hl
        rw [List.take_succ_eq_append_getElem h1] at hl
        rcases List.mem_append.1 hl with hl | hl
        · exact hok l hl
        · rw [List.mem_singleton.1 hl, h2]; exact h)
      have hlk : ((K.take k).map fun l => ((sumV l, 0) : Int × Int)).length ≤ k := by rw [List.length_map]; exact List.length_take_le _ _
      obtain ⟨bl, ol, ul, hbe, hcl, hiL⟩ := ((unhide HR wr hbel).2.2.2.2).at hkl
      cases hbe
      have hrw : (L[k]).length = S.length := unhide HLW _ (List.getElem_mem hkl)
      have HIL := hide (fun W (hb : Below wr.heap.size wr W) => And.intro (hiL.below hb) (Below.cell_of hb hcl))
      generalize L[k] = c at *
      generalize ((K.take k).map fun l => ((sumV l, 0) : Int × Int)) = KL at *
      have HOW := hide hown
      have HY8 := hide y8
      have bw0 := (BoxPr.new wr (.int .i64 0) (.int .i64 0)).push (.cells #[.int .i64 4611686018427387904, .int .i64 4611686018427387904] 63)
      have bl0 := BoxPr.new (wr.alloc (.cells #[.int .i64 0, .int .i64 0] 63)) (.int .i64 4611686018427387904) (.int .i64 4611686018427387904)
      have hbb0 := ((Below.refl wr.heap.size wr).alloc (Nat.le_refl _) (.cells #[.int .i64 0, .int .i64 0] 63)).alloc (by simp) (.cells #[.int .i64 4611686018427387904, .int .i64 4611686018427387904] 63)
      simp only [World.size_alloc] at bl0
      clear hown y8 hiL hok
      go_wp2
      go_loopw [12, 13, 14] (fun j _ _ wq => ∃ k2 : Nat, k2 ≤ ll.length ∧ j = .int .i64 k2 ∧ BoxPr wq wr.heap.size (.int .i64 (partW S c s ll ws k2).sum) (.int .i64 0) ∧ BoxPr wq (wr.heap.size + 1) (.int .i64 (4611686018427387904 - (sizesW (partW S c s ll ws k2) : Int))) (.int .i64 4611686018427387904) ∧ sizesW (partW S c s ll ws k2) ≤ 4611686018427387904 ∧ Below wr.heap.size wr wq) (fun j _ _ _ => ll.length - (intOf j).toNat)
      case atStart => exact ⟨0, by omega, rfl, by simpa [partW_zero] using bw0, by simpa [partW_zero, sizesW] using bl0, by simp [partW_zero, sizesW], hbb0⟩
      case round =>
        clear bw0 bl0 hbb0
        rename World => wq
        obtain ⟨k2, hk2, rfl, bw, bl', hsz, hbq⟩ := hrel
        have hbq1 := hbel.trans (hbq.mono hz)
        have hzq := hbq.size
        have hlw := bw.lt
        have hll' := bl'.lt
        obtain ⟨x0, x6⟩ := unhide HX wq hbq1
        have c00 := x0.cell0
        have c01 := x0.cell1
        have c02 := x0.cell2
        by_cases hk2l : k2 < ll.length
        · have hwk : k2 < ws.length := by have := unhide HWL; omega
          have hpk : k2 < ps.length := by have := unhide HPL; omega
          obtain ⟨hs1, ht1, hp1, hji, hjt⟩ := unhide HR wq hbq1
          obtain ⟨hiq, hclq⟩ := unhide HIL wq hbq
          obtain ⟨bt, ot, ut, hte, hct, hit⟩ := ht1.at hk2l
          cases hte
          have y8q := (unhide HY8).below hbq hl8
          have c80 := y8q.cell0
          have c81 := y8q.cell1
          have HFT := hide (fun n => refFit_any (hji.drewN n) (hiq.drewN n) (hs1.drewN n) (hit.drewN n) (unhide HSA).nodup hrw (unhide HW _ (List.getElem_mem hk2l)))
          have HBQ := hide hbq
          have HBO := hide bw
          have HBL := hide bl'
          cases hf : fitB S s c ll[k2] with
          | false =>
            rw [hf] at HFT
            have HN := hide (partW_no (ws := ws) hk2l hf)
            clear hf hs1 ht1 hp1 hji hjt hiq hit y8q x0 x6 bw bl' hbq
            go_wp2
            go_quiet ((go_at_call 45; exact Calls.quiet_of (unhide HFT _)))
            go_wp2
            go_roundw
            case rel => exact ⟨k2 + 1, by omega, by go_num, by rw [unhide HN]; exact unhide HBO, by rw [unhide HN]; exact unhide HBL, by rw [unhide HN]; exact hsz, Below.drewN1 (unhide HBQ) _⟩
            case measure => simp [intOf]; omega
          | true =>
            rw [hf] at HFT
            obtain ⟨bp, op, hpe, hcp0, hcp1⟩ := hp1.at hpk
            cases hpe
            rw [unhide HPS k2 hpk hwk] at hcp0 hcp1
            have HN := hide (partW_yes hk2l hwk hf)
            have hfx : Fits ws[k2] := unhide HF _ (List.getElem_mem hwk)
            have hf0 : Fits 0 := by unfold Fits; omega
            have HKM := hide (partW_more S c s ll ws (k2 + 1) ll.length (by omega))
            have hTZ := sum_le_sizes (partW S c s ll ws k2)
            have HZ1 := hide (sizes_snoc (partW S c s ll ws k2) ws[k2])
            have HT1 := hide (sum_snoc (partW S c s ll ws k2) ws[k2])
            clear hf hs1 ht1 hp1 hji hjt hiq hit y8q x0 x6 bw bl' hbq
            generalize partW S c s ll ws k2 = P at *
            generalize ws[k2] = x at *
            obtain ⟨T, hT⟩ : ∃ T, T = P.sum := ⟨_, rfl⟩
            obtain ⟨lf, hlf⟩ : ∃ z : Int, z = 4611686018427387904 - (sizesW P : Int) := ⟨_, rfl⟩
            obtain ⟨sz, hszx⟩ : ∃ z : Int, z = (x.natAbs : Int) := ⟨_, rfl⟩
            have hlf0 : 0 ≤ lf := by omega
            have hlf1 : lf ≤ 4611686018427387904 := by omega
            have hsz0 : 0 ≤ sz := by omega
            have hsz1 : sz ≤ 4611686018427387904 := by unfold Fits at hfx; omega
            have hT1 : -4611686018427387904 ≤ T := by omega
            have hT2 : T ≤ 4611686018427387904 := by omega
            rw [← hT] at HBO HT1
            rw [← hlf] at HBL
            have HSX := hide (fun W => refSize_any (w := W) hfx)
            have HS0 := hide (fun W => refSize_any (w := W) hf0)
            rw [← hszx] at HSX
            have HLF := hide hlf
            have HTT := hide hT
            have HSZ := hide hszx
            clear hT hlf hszx hTZ
            go_wp2
            go_quiet ((go_at_call 45; exact Calls.quiet_of (unhide HFT _)))
            have hbW : Below wr.heap.size wr (wq.drewN nq) := Below.drewN1 (unhide HBQ) _
            have bwW : BoxPr (wq.drewN nq) wr.heap.size (.int .i64 T) (.int .i64 0) := unhide HBO
            have blW : BoxPr (wq.drewN nq) (wr.heap.size + 1) (.int .i64 lf) (.int .i64 4611686018427387904) := unhide HBL
            have d02 : (wq.drewN nq).cell? ⟨w.heap.size, 2, none⟩ = some (.slice (some ⟨bp, op, none⟩) ps.length cd) := c02
            have dp0 : (wq.drewN nq).cell? ⟨bp, op + k2 * 2, none⟩ = some (.int .i64 x) := hcp0
            have dp1 : (wq.drewN nq).cell? ⟨bp, op + k2 * 2 + 1, none⟩ = some (.int .i64 0) := hcp1
            have hlw' : wr.heap.size < (wq.drewN nq).heap.size := hlw
            have hll2 : wr.heap.size + 1 < (wq.drewN nq).heap.size := hll'
            clear c00 c01 c02 c80 c81 hcp0 hcp1 hct hclq HBO HBL HBQ HFT hzq hlw hll' hbq1
            generalize wq.drewN nq = W at *
            have bw1 := bwW.push (.cells #[.int .i64 x, .int .i64 0] 63)
            have bl1 := blW.push (.cells #[.int .i64 x, .int .i64 0] 63)
            have bx1 := BoxPr.new W (.int .i64 x) (.int .i64 0)
            have hb1 := hbW.alloc (show wr.heap.size ≤ W.heap.size by omega) (.cells #[.int .i64 x, .int .i64 0] 63)
            obtain ⟨bx, hbx⟩ : ∃ b, b = W.heap.size := ⟨_, rfl⟩
            obtain ⟨WX, hWX⟩ : ∃ X, X = W.alloc (.cells #[.int .i64 x, .int .i64 0] 63) := ⟨_, rfl⟩
            rw [← hWX] at bw1 bl1 bx1 hb1
            rw [← hbx] at bx1
            have HBX := hide hbx
            have HWX := hide hWX
            have hnx1 : bx ≠ wr.heap.size := by omega
            have hnx2 : bx ≠ wr.heap.size + 1 := by omega
            have f1 := bl1.cell0
            have f2 := bl1.cell1
            have f3 := bx1.cell0
            have f4 := bx1.cell1
            clear hbx hWX bwW blW
            go_wp2
            rw [← unhide HBX, ← unhide HWX]
            clear HBX HWX d02 dp0 dp1
            by_cases hfail : sz > lf
            · have hd1 : decide (sz > lf) = true := by simpa using hfail
              have hd2 : decide (lf < sz) = true := hd1
              have HBAD := hide (show ∃ l ∈ K, sumOk l = false by
                obtain ⟨h1, h2⟩ := unhide HKK
                obtain ⟨r, hr⟩ := unhide HKM
                refine ⟨K[k], List.getElem_mem h1, ?_⟩
                have e1 := unhide HZ1
                have e2 := unhide HLF
                have e3 := unhide HSZ
                rw [h2, hr, unhide HN]
                unfold sumOk
                rw [sizes_append, e1, decide_eq_false_iff_not]
                omega)
              go_quiet ((go_at_call 46; exact Calls.quiet_of (unhide HSX _)))
              have hbV : Below w1.heap.size w1 (WX.drewN nq) := Below.drewN1 (hbel.trans (hb1.mono hz)) _
              have x6V := (unhide HX _ hbV).2
              have hbF := hide (below_store3 (below_then (unhide HBB) hbV) (b := w.heap.size + 1) (by omega) (.slice none 0 0) (.slice none 0 0) (.slice none 0 0))
              clear f1 f2 f3 f4 bw1 bl1 bx1 hb1 hd1 hd2 hbV
              generalize WX.drewN nq = V at *
              have p0 := x6V.cell0
              have p1 := x6V.cell1
              have p2 := x6V.cell2
              have q0 := x6V.frozen 0
              have q1 := x6V.frozen 1
              have q2 := x6V.frozen 2
              go_wp2
              refine bodyPost_ret (v := .tuple #[.agg #[.slice none 0 0, .slice none 0 0, .slice none 0 0], .bool false]) (by simp [results, Tryz.results20, go_sem, p0, p1, p2]) rfl ⟨.inl ⟨unhide HBAD, rfl⟩, unhide hbF⟩
            · have hd1 : decide (sz > lf) = false := by simpa using hfail
              have hd2 : decide (lf < sz) = false := hd1
              go_quiet ((go_at_call 46; first | exact Calls.quiet_of (unhide HSX _) | exact Calls.quiet_of (unhide HS0 _)))
              have bw2 : BoxPr (WX.drewN nq) wr.heap.size (.int .i64 T) (.int .i64 0) := bw1
              have bl2 : BoxPr (WX.drewN nq) (wr.heap.size + 1) (.int .i64 lf) (.int .i64 4611686018427387904) := bl1
              have bx2 : BoxPr (WX.drewN nq) bx (.int .i64 x) (.int .i64 0) := bx1
              have hb2 : Below wr.heap.size wr (WX.drewN nq) := Below.drewN1 hb1 _
              clear f1 f2 f3 f4 bw1 bl1 bx1 hb1 hd1 hd2
              generalize WX.drewN nq = V at *
              have f1 := bl2.cell0
              have f3 := bx2.cell0
              have f5 := bl2.frozen 0
              go_upto_region 15 with fail
              go_cut [] from 32 to 106 (fun wx => BoxPr wx wr.heap.size (.int .i64 T) (.int .i64 0) ∧ BoxPr wx (wr.heap.size + 1) (.int .i64 (lf - sz)) (.int .i64 4611686018427387904) ∧ BoxPr wx bx (.int .i64 x) (.int .i64 0) ∧ Below wr.heap.size wr wx)
              case first =>
                go_region_law ((first | (refine step_of rfl ?_; go_simp; go_at_call 46; refine (unhide HSX _).mono ?_; rintro e w3 ⟨rfl, n3, rfl⟩)))
                all_goals
                  go_wp2_with fail
                  go_meet
                  case rel =>
                    have g1 : BoxPr (V.drewN (1 + n3)) wr.heap.size (.int .i64 T) (.int .i64 0) := bw2
                    have g2 : BoxPr (V.drewN (1 + n3)) (wr.heap.size + 1) (.int .i64 lf) (.int .i64 4611686018427387904) := bl2
                    have g3 : BoxPr (V.drewN (1 + n3)) bx (.int .i64 x) (.int .i64 0) := bx2
                    have g4 : Below wr.heap.size wr (V.drewN (1 + n3)) := Below.drewN1 hb2 _
                    have ew : IntKind.i64.wrap (lf - sz) = lf - sz := wrapI (by omega) (by omega)
                    rw [ew]
                    exact ⟨g1.keep (by omega) _, g2.set0 _, g3.keep hnx2 _, g4.setCell (by show wr.heap.size ≤ wr.heap.size + 1; omega) _⟩
              case rest =>
                obtain ⟨bw3, bl3, bx3, hb3⟩ := hcut
                clear bw2 bl2 bx2 hb2 f1 f3 f5
                rename World => V
                have f1 := bl3.cell1
                have f3 := bx3.cell1
                have f5 := bl3.frozen 1
                go_upto_region 16 with fail
                go_cut [] from 32 to 106 (fun wx => BoxPr wx wr.heap.size (.int .i64 T) (.int .i64 0) ∧ BoxPr wx (wr.heap.size + 1) (.int .i64 (lf - sz)) (.int .i64 4611686018427387904) ∧ BoxPr wx bx (.int .i64 x) (.int .i64 0) ∧ Below wr.heap.size wr wx)
                case first =>
                  go_region_law ((first | (refine step_of rfl ?_; go_simp; go_at_call 46; refine (unhide HS0 _).mono ?_; rintro e w3 ⟨rfl, n3, rfl⟩)))
                  all_goals
                    go_wp2_with fail
                    go_meet
                    case rel =>
                      have g1 : BoxPr (V.drewN (1 + n3)) wr.heap.size (.int .i64 T) (.int .i64 0) := bw3
                      have g2 : BoxPr (V.drewN (1 + n3)) (wr.heap.size + 1) (.int .i64 (lf - sz)) (.int .i64 4611686018427387904) := bl3
                      have g3 : BoxPr (V.drewN (1 + n3)) bx (.int .i64 x) (.int .i64 0) := bx3
                      have g4 : Below wr.heap.size wr (V.drewN (1 + n3)) := Below.drewN1 hb3 _
                      have ew : IntKind.i64.wrap 4611686018427387904 = 4611686018427387904 := wrapI (by omega) (by omega)
                      rw [ew]
                      exact ⟨g1.keep (by omega) _, g2.set1 _, g3.keep hnx2 _, g4.setCell (by show wr.heap.size ≤ wr.heap.size + 1; omega) _⟩
                case rest =>
                  obtain ⟨bw4, bl4, bx4, hb4⟩ := hcut
                  clear bw3 bl3 bx3 hb3 f1 f3 f5
                  rename World => V4
                  have hx2 : sz = (x.natAbs : Int) := unhide HSZ
                  have hl2 : lf = 4611686018427387904 - (sizesW P : Int) := unhide HLF
                  have htx : T.natAbs ≤ sizesW P := by have := sum_le_sizes P; rw [← unhide HTT] at this; exact this
                  have htx1 : -4611686018427387904 ≤ T + x := by omega
                  have htx2 : T + x ≤ 4611686018427387904 := by omega
                  have f1 := bw4.cell0
                  have f2 := bx4.cell0
                  have f3 := bw4.frozen 0
                  have bw5 := bw4.set0 (.int .i64 (T + x))
                  have bx5 := bx4.keep (c := wr.heap.size) (i := 0) (by omega) (.int .i64 (T + x))
                  have f4 := bw5.cell1
                  have f5 := bx5.cell1
                  have f6 := bw5.frozen 1
                  have hE : 4611686018427387904 - ((sizesW P + x.natAbs : Nat) : Int) = lf - sz := by omega
                  have hZ3 : sizesW P + x.natAbs ≤ 4611686018427387904 := by omega
                  have BW6 := hide (bw5.set1 (.int .i64 0))
                  have BL6 := hide ((bl4.keep (c := wr.heap.size) (i := 0) (by omega) (.int .i64 (T + x))).keep (c := wr.heap.size) (i := 1) (by omega) (.int .i64 0))
                  have HB6 := hide ((hb4.setCell (p := ⟨wr.heap.size, 0, none⟩) (Nat.le_refl _) (.int .i64 (T + x))).setCell (p := ⟨wr.heap.size, 1, none⟩) (Nat.le_refl _) (.int .i64 0))
                  have HE := hide hE
                  clear hx2 hl2 htx hE bw4 bl4 bx4 bw5 bx5 hb4
                  go_wp2
                  go_roundw
                  case rel => exact ⟨k2 + 1, by omega, by go_num, by rw [unhide HN, unhide HT1]; exact unhide BW6, by rw [unhide HN, unhide HZ1, unhide HE]; exact unhide BL6, by rw [unhide HN, unhide HZ1]; exact hZ3, unhide HB6⟩
                  case measure => simp [intOf]; omega
        · have hkk : k2 = ll.length := by omega
          subst hkk
          have HOK := hide (show sumOk (partW S c s ll ws ll.length) = true by unfold sumOk; exact decide_eq_true hsz)
          have HSV := hide (show sumV (partW S c s ll ws ll.length) = (partW S c s ll ws ll.length).sum by unfold sumV; rw [if_pos (unhide HOK)])
          have HOK2 := hide (unhide HOKK (unhide HOK))
          rw [unhide HSV] at HTK
          have HTK2 := HTK
          clear HTK HOKK HSV HOK HKK
          generalize (partW S c s ll ws ll.length).sum = T at *
          have f1 := bw.cell0
          have f2 := bw.cell1
          have y8q := (unhide HY8).below hbq hl8
          have hownq := own_below2 (unhide HOW) hbq
          have c82 := y8q.cell2
          have c82' := cell_push c82
          have hzX : w1.heap.size + 1 ≤ wq.heap.size := by omega
          have hne : (Value.slice za zn zc).ownBlock ≠ some w1.heap.size := (own_new2 hownq).ne (by omega)
          clear x0 x6 c00 c02 bw bl'
          go_wp2_with (at_builtin; refine wp_app_pair2 (y := (T, 0)) rfl (.tmp 108) (.tmp 110) rfl hownq rfl hzX rfl rfl (by omega) ?_; intro v' w10 hown10 hgrew; obtain ⟨na, nm, nc, hv10⟩ := own_sl2 hown10; subst hv10; have y5 := y8q.grew hgrew hne; have e0 := y5.cell2; have e1 := y5.frozen 2)
          have hn4 : (Value.slice na nm nc).ownBlock ≠ some w1.heap.size := (own_new2 hown10).ne (by omega)
          go_roundw
          case rel => exact ⟨k + 1, _, by omega, by go_num, y5.set2 _, by rw [unhide HTK2]; exact ownsRow_setCell_other hown10 hn4 _, (hbq1.trans (hgrew.below.mono (by omega))).setCell (Nat.le_refl _) _, unhide HOK2⟩
          case measure => simp [intOf]; omega
    · have hkk : k = L.length := by omega
      subst hkk
      have hKt : K.take L.length = K := List.take_of_length_le (by have := unhide HKL; omega)
      rw [hKt] at hown hok
      obtain ⟨x0, x6⟩ := unhide HX wr hbel
      obtain ⟨_, _, _, hji, hjt⟩ := unhide HR wr hbel
      have c80 := y8.cell0
      have c82 := y8.cell2
      have hd0 := x6.cell0
      have hd1 := x6.cell1
      have hd2 := x6.cell2
      have hg0 := x6.frozen 0
      have hg1 := x6.frozen 1
      have hg2 := x6.frozen 2
      have HWV : Hid (RV wr (.agg #[.slice ja S.length jc, .slice jb L.length jd, .slice za zn zc]) S L (K.map fun l => (sumV l, 0))) := hide ⟨_, _, _, rfl, hji, hjt, hown.pairs⟩
      have HOK := hide hok
      have hbr := below_then (unhide HBB) hbel
      clear hown hok y8 hji hjt hKt x0
      go_wp2
      have hfin := rv_store x6.boxS x6 (unhide HWV) (unhide HNE)
      refine bodyPost_ret (v := .tuple #[.agg #[.slice ja S.length jc, .slice jb L.length jd, .slice za zn zc], .bool true]) (by simp [results, Tryz.results20, go_sem, hd0, hd1, hd2]) rfl ⟨.inr ⟨unhide HOK, _, _, _, rfl, hfin⟩, below_store3 hbr (by omega) _ _ _⟩

end Go.Proofs.YtgmbflpngedhnaaGreat

namespace Go.Proofs.YtgmbflpngedhnaaGreat
open Go.RowKit
set_option linter.unusedVariables false
set_option linter.unusedSimpArgs false
set_option maxRecDepth 20000

/-- Is there any? -/
def anyB (l : List Int) : Bool := !l.isEmpty
theorem anyB_snoc (l : List Int) (x : Int) : anyB (l ++ [x]) = true := by cases l <;> rfl

set_option maxHeartbeats 40000000 in
theorem refMin_any {s vars ws : List Int} {ll : List (List Int)} {ps : List (Int × Int)} {v vv : Value} {w : World} (h : RV w v s ll ps) (hv : Ints w vv vars) (hs : Asc s) (hw : ∀ t ∈ ll, t.length = s.length) (hl : ll.length < 100000) (hsl : s.length < 10000) (hvl : vars.length < 10000000)
    (hwl : ws.length = ll.length) (hpl : ps.length = ll.length) (hps : ∀ k (h : k < ps.length) (h' : k < ws.length), ps[k] = (ws[k], 0)) :
    Calls Tryz.prog 24 #[v, vv] w fun e w' => ∃ x y z, e = .returned (.agg #[x, y, z]) ∧ RV w' (.agg #[x, y, z]) (meetL s vars) (projL s ll vars) ((wsrcL s ll ws vars).map fun l => (leastV l, 0)) ∧ Below w.heap.size w w' := by
  obtain ⟨a, ca, b, cb, d, cd, rfl, k1, k2, k3, hs1, ht1, hp1⟩ := h.form
  obtain ⟨a', ca', rfl, _, k5⟩ := hv.form
  unfold maxLen at k1 k2 k3 k5
  obtain ⟨W0, hW0⟩ : ∃ W, W = (w.alloc (.cells #[.slice a s.length ca, .slice b ll.length cb, .slice d ps.length cd] 34)).alloc (.cells #[.slice none 0 0, .slice none 0 0, .slice none 0 0] 34) := ⟨_, rfl⟩
  have hb0 : Below w.heap.size w W0 := by rw [hW0]; exact b2x w _ _
  have x0 : BoxF W0 w.heap.size (.slice a s.length ca) (.slice b ll.length cb) (.slice d ps.length cd) := by rw [hW0]; exact (BoxF.new w _ _ _).push _
  have x6 : BoxF W0 (w.heap.size + 1) (.slice none 0 0) (.slice none 0 0) (.slice none 0 0) := by
    rw [hW0]; have := BoxF.new (w.alloc (.cells #[.slice a s.length ca, .slice b ll.length cb, .slice d ps.length cd] 34)) (.slice none 0 0) (.slice none 0 0) (.slice none 0 0); simpa using this
  replace hs1 := hs1.below hb0
  replace ht1 := ht1.below hb0
  replace hp1 := hp1.below hb0
  have HPJ := hide (refProject_nw (s := s) (ll := ll) ⟨_, _, rfl, hs1, ht1⟩ (hv.below hb0) hl (by omega))
  have HW0 := hide hW0
  have hz0 := x6.lt
  have hzw := hb0.size
  have c00 := x0.cell0
  have c01 := x0.cell1
  obtain ⟨S, hS⟩ : ∃ S, S = meetL s vars := ⟨_, rfl⟩
  obtain ⟨L, hL⟩ : ∃ L, L = projL s ll vars := ⟨_, rfl⟩
  obtain ⟨K, hK⟩ : ∃ K, K = wsrcL s ll ws vars := ⟨_, rfl⟩
  have HSA := hide (show Asc S by rw [hS]; exact asc_meetL hs)
  have HLW := hide (show ∀ t ∈ L, t.length = S.length by
    intro t ht
    rw [hL] at ht
    obtain ⟨u, _, e⟩ := (mem_proj hw).1 ht
    rw [e, hS, List.length_map])
  have HKL := hide (show K.length = L.length by rw [hK, hL]; exact wsrc_length s ll ws vars)
  have HKI := hide (show ∀ i (h : i < L.length) (h' : i < K.length), K[i] = partW S L[i] s ll ws ll.length by subst hS hL hK; exact fun i h h' => src_part hs hw h h')
  have hLl : L.length ≤ ll.length := by rw [hL]; exact proj_le s vars ll
  rw [← hS, ← hL] at HPJ
  rw [← hS, ← hL, ← hK]
  have HW := hide hw
  have HWL := hide hwl
  have HPL := hide hpl
  have HPS := hide hps
  have HSN := hide hs
  clear hS hL hK h hv hW0 hs hw hwl hpl hps
  go_enter Tryz.func24, Tryz.ntmps24
  go_wp2_with fail
  rw [← unhide HW0]
  refine (unhide HPJ).mono ?_
  rintro e w1 ⟨px, py, rfl, hpr, hnew, hb1⟩
  obtain ⟨ja, jc, jb, jd, hje, _, _, _, _, hji, hjt⟩ := hpr.form
  cases hje
  clear HW0 HPJ c00 c01
  replace x0 := x0.belowH hb1
  replace x6 := x6.belowH hb1
  replace hs1 := hs1.below hb1
  replace ht1 := ht1.below hb1
  replace hp1 := hp1.below hb1
  have HBB := hide (below_then hb0 hb1)
  have hz1 := hb1.size
  have hz6 := x6.lt
  have HNE := hide (hnew (w.heap.size + 1) hz0)
  have HX := hide (fun W (hb : Below w1.heap.size w1 W) => And.intro (x0.belowH hb) (x6.belowH hb))
  have HR := hide (fun W (hb : Below w1.heap.size w1 W) => And.intro (hs1.below hb) (And.intro (ht1.below hb) (And.intro (hp1.below hb) (And.intro (hji.below hb) (hjt.below hb)))))
  have x8 := BoxF.new w1 (.slice ja S.length jc) (.slice jb L.length jd) (.slice none 0 0)
  clear hs1 ht1 hp1 hji hjt hpr hnew hb1 x0 x6 hb0
  go_wp2
  go_loopw [6, 7, 8, 9, 10] (fun i _ _ _ _ wr => ∃ (k : Nat) (zv : Value), k ≤ L.length ∧ i = .int .i64 k ∧ BoxF wr w1.heap.size (.slice ja S.length jc) (.slice jb L.length jd) zv ∧ OwnP (w1.heap.size + 1) wr zv ((K.take k).map fun l => (leastV l, 0)) ∧ Below w1.heap.size w1 wr) (fun i _ _ _ _ _ => L.length - (intOf i).toNat)
  case atStart => exact ⟨0, _, by omega, rfl, x8, World.ownsRow_nil _ _ _ _, (Below.refl _ _).alloc (Nat.le_refl _) _⟩
  case round =>
    clear x8
    obtain ⟨k, zv, hk, rfl, y8, hown, hbel⟩ := hrel
    have hz := hbel.size
    have hl8 := y8.lt
    obtain ⟨za, zn, zc, rfl⟩ := own_sl2 hown
    have c81 := y8.cell1
    by_cases hkl : k < L.length
    · have HKK := hide (show ∃ h : k < K.length, K[k] = partW S L[k] s ll ws ll.length by
        have h1 := unhide HKL
        exact ⟨by omega, unhide HKI k hkl (by omega)⟩)
      have HTK := hide (show (K.take (k + 1)).map (fun l => ((leastV l, 0) : Int × Int)) = (K.take k).map (fun l => (leastV l, 0)) ++ [(leastV (partW S L[k] s ll ws ll.length), 0)] by
        obtain ⟨h1, h2⟩ := unhide HKK
        rw [List.take_succ_eq_append_getElem h1, List.map_append, h2]; rfl)
      have hlk : ((K.take k).map fun l => ((leastV l, 0) : Int × Int)).length ≤ k := by rw [List.length_map]; exact List.length_take_le _ _
      obtain ⟨bl, ol, ul, hbe, hcl, hiL⟩ := ((unhide HR wr hbel).2.2.2.2).at hkl
      cases hbe
      have hrw : (L[k]).length = S.length := unhide HLW _ (List.getElem_mem hkl)
      have HIL := hide (fun W (hb : Below wr.heap.size wr W) => And.intro (hiL.below hb) (Below.cell_of hb hcl))
      generalize L[k] = c at *
      generalize ((K.take k).map fun l => ((leastV l, 0) : Int × Int)) = KL at *
      have HOW := hide hown
      have HY8 := hide y8
      have bw0 := BoxPr.new wr (.int .i64 0) (.int .i64 0)
      have hbb0 := (Below.refl wr.heap.size wr).alloc (Nat.le_refl _) (.cells #[.int .i64 0, .int .i64 0] 63)
      clear hown y8 hiL
      go_wp2
      go_loopw [8, 9, 10] (fun an j _ wq => ∃ k2 : Nat, k2 ≤ ll.length ∧ j = .int .i64 k2 ∧ an = .bool (anyB (partW S c s ll ws k2)) ∧ BoxPr wq wr.heap.size (.int .i64 (leastV (partW S c s ll ws k2))) (.int .i64 0) ∧ Below wr.heap.size wr wq) (fun _ j _ _ => ll.length - (intOf j).toNat)
      case atStart => exact ⟨0, by omega, rfl, rfl, bw0, hbb0⟩
      case round =>
        clear bw0 hbb0
        rename World => wq
        obtain ⟨k2, hk2, rfl, rfl, bw, hbq⟩ := hrel
        have hbq1 := hbel.trans (hbq.mono hz)
        have hzq := hbq.size
        have hlw := bw.lt
        obtain ⟨x0, x6⟩ := unhide HX wq hbq1
        have c00 := x0.cell0
        have c01 := x0.cell1
        have c02 := x0.cell2
        by_cases hk2l : k2 < ll.length
        · have hwk : k2 < ws.length := by have := unhide HWL; omega
          have hpk : k2 < ps.length := by have := unhide HPL; omega
          obtain ⟨hs1, ht1, hp1, hji, hjt⟩ := unhide HR wq hbq1
          obtain ⟨hiq, hclq⟩ := unhide HIL wq hbq
          obtain ⟨bt, ot, ut, hte, hct, hit⟩ := ht1.at hk2l
          cases hte
          have y8q := (unhide HY8).below hbq hl8
          have c80 := y8q.cell0
          have c81 := y8q.cell1
          have HFT := hide (fun n => refFit_any (hji.drewN n) (hiq.drewN n) (hs1.drewN n) (hit.drewN n) (unhide HSA).nodup hrw (unhide HW _ (List.getElem_mem hk2l)))
          have HBQ := hide hbq
          have HBO := hide bw
          cases hf : fitB S s c ll[k2] with
          | false =>
            rw [hf] at HFT
            have HN := hide (partW_no (ws := ws) hk2l hf)
            clear hf hs1 ht1 hp1 hji hjt hiq hit y8q x0 x6 bw hbq
            generalize partW S c s ll ws k2 = P at *
            generalize hA : anyB P = q at *
            have HA := hide hA
            clear hA
            cases q with
            | false =>
              go_wp2
              go_quiet ((go_at_call 45; exact Calls.quiet_of (unhide HFT _)))
              go_wp2
              go_quiet (fail)
              go_wp2
              go_roundw
              case rel => exact ⟨k2 + 1, by omega, by go_num, by rw [unhide HN, unhide HA], by rw [unhide HN]; exact unhide HBO, Below.drewN1 (unhide HBQ) _⟩
              case measure => simp [intOf]; omega
            | true =>
              go_wp2
              go_quiet ((go_at_call 45; exact Calls.quiet_of (unhide HFT _)))
              go_wp2
              go_quiet (fail)
              go_wp2
              go_roundw
              case rel => exact ⟨k2 + 1, by omega, by go_num, by rw [unhide HN, unhide HA], by rw [unhide HN]; exact unhide HBO, Below.drewN1 (unhide HBQ) _⟩
              case measure => simp [intOf]; omega
          | true =>
            rw [hf] at HFT
            obtain ⟨bp, op, hpe, hcp0, hcp1⟩ := hp1.at hpk
            cases hpe
            rw [unhide HPS k2 hpk hwk] at hcp0 hcp1
            have HN := hide (partW_yes hk2l hwk hf)
            clear hf hs1 ht1 hp1 hji hjt hiq hit y8q x0 x6 bw hbq
            generalize partW S c s ll ws k2 = P at *
            generalize ws[k2] = x at *
            obtain ⟨T, hT⟩ : ∃ T, T = leastV P := ⟨_, rfl⟩
            obtain ⟨q, hq⟩ : ∃ q, q = anyB P := ⟨_, rfl⟩
            have HM := hide (show (q = false ∧ leastV (P ++ [x]) = x) ∨ (q = true ∧ x < T ∧ leastV (P ++ [x]) = x) ∨ (q = true ∧ ¬ x < T ∧ leastV (P ++ [x]) = T) by
              by_cases hP : P = []
              · subst hP; exact .inl ⟨hq, rfl⟩
              · have e := least_snoc hP x
                have hqt : q = true := by rw [hq]; cases P with
                  | nil => exact absurd rfl hP
                  | cons y r => rfl
                rw [← hT] at e
                by_cases hx : x < T
                · rw [if_pos hx] at e; exact .inr (.inl ⟨hqt, hx, e⟩)
                · rw [if_neg hx] at e; exact .inr (.inr ⟨hqt, hx, e⟩))
            have HAX := hide (anyB_snoc P x)
            rw [← hT] at HBO
            rw [← hq]
            clear hT hq
            rcases unhide HM with ⟨rfl, hM⟩ | ⟨rfl, hx, hM⟩ | ⟨rfl, hx, hM⟩
            all_goals
              have HMM := hide hM
              have b0 := (unhide HBO).cell0
              clear hM HM
            · go_wp2
              go_quiet ((go_at_call 45; exact Calls.quiet_of (unhide HFT _)))
              have hbV : Below wr.heap.size wr (wq.drewN nq) := Below.drewN1 (unhide HBQ) _
              have bwV : BoxPr (wq.drewN nq) wr.heap.size (.int .i64 T) (.int .i64 0) := unhide HBO
              have d02 : (wq.drewN nq).cell? ⟨w.heap.size, 2, none⟩ = some (.slice (some ⟨bp, op, none⟩) ps.length cd) := c02
              have dp0 : (wq.drewN nq).cell? ⟨bp, op + k2 * 2, none⟩ = some (.int .i64 x) := hcp0
              have dp1 : (wq.drewN nq).cell? ⟨bp, op + k2 * 2 + 1, none⟩ = some (.int .i64 0) := hcp1
              clear c00 c01 c02 c80 c81 hcp0 hcp1 hct hclq HBO HBQ HFT hzq hlw hbq1 b0
              generalize wq.drewN nq = V at *
              have b0 := bwV.cell0
              go_wp2
              go_quiet (fail)
              have hbU : Below wr.heap.size wr (V.drewN nq) := Below.drewN1 hbV _
              have bwU : BoxPr (V.drewN nq) wr.heap.size (.int .i64 T) (.int .i64 0) := bwV
              have d02' : (V.drewN nq).cell? ⟨w.heap.size, 2, none⟩ = some (.slice (some ⟨bp, op, none⟩) ps.length cd) := d02
              have dp0' : (V.drewN nq).cell? ⟨bp, op + k2 * 2, none⟩ = some (.int .i64 x) := dp0
              have dp1' : (V.drewN nq).cell? ⟨bp, op + k2 * 2 + 1, none⟩ = some (.int .i64 0) := dp1
              clear hbV bwV d02 dp0 dp1 b0
              generalize V.drewN nq = U at *
              have b0 := bwU.cell0
              have b1 := bwU.cell1
              have b2 := bwU.frozen 0
              have b3 := bwU.frozen 1
              have BW6 := hide ((bwU.set0 (.int .i64 x)).set1 (.int .i64 0))
              have HB6 := hide (below_store hbU (Nat.le_refl _) (.int .i64 x) (.int .i64 0))
              clear bwU hbU
              go_wp2
              go_roundw
              case rel => exact ⟨k2 + 1, by omega, by go_num, by rw [unhide HN, unhide HAX], by rw [unhide HN, unhide HMM]; exact unhide BW6, unhide HB6⟩
              case measure => simp [intOf]; omega
            · go_wp2
              go_quiet ((go_at_call 45; exact Calls.quiet_of (unhide HFT _)))
              have hbV : Below wr.heap.size wr (wq.drewN nq) := Below.drewN1 (unhide HBQ) _
              have bwV : BoxPr (wq.drewN nq) wr.heap.size (.int .i64 T) (.int .i64 0) := unhide HBO
              have d02 : (wq.drewN nq).cell? ⟨w.heap.size, 2, none⟩ = some (.slice (some ⟨bp, op, none⟩) ps.length cd) := c02
              have dp0 : (wq.drewN nq).cell? ⟨bp, op + k2 * 2, none⟩ = some (.int .i64 x) := hcp0
              have dp1 : (wq.drewN nq).cell? ⟨bp, op + k2 * 2 + 1, none⟩ = some (.int .i64 0) := hcp1
              clear c00 c01 c02 c80 c81 hcp0 hcp1 hct hclq HBO HBQ HFT hzq hlw hbq1 b0
              generalize wq.drewN nq = V at *
              have b0 := bwV.cell0
              have hd1 : decide (x < T) = true := by simpa using hx
              go_wp2
              go_quiet (fail)
              have hbU : Below wr.heap.size wr (V.drewN nq) := Below.drewN1 hbV _
              have bwU : BoxPr (V.drewN nq) wr.heap.size (.int .i64 T) (.int .i64 0) := bwV
              have d02' : (V.drewN nq).cell? ⟨w.heap.size, 2, none⟩ = some (.slice (some ⟨bp, op, none⟩) ps.length cd) := d02
              have dp0' : (V.drewN nq).cell? ⟨bp, op + k2 * 2, none⟩ = some (.int .i64 x) := dp0
              have dp1' : (V.drewN nq).cell? ⟨bp, op + k2 * 2 + 1, none⟩ = some (.int .i64 0) := dp1
              clear hbV bwV d02 dp0 dp1 b0
              generalize V.drewN nq = U at *
              have b0 := bwU.cell0
              have b1 := bwU.cell1
              have b2 := bwU.frozen 0
              have b3 := bwU.frozen 1
              have BW6 := hide ((bwU.set0 (.int .i64 x)).set1 (.int .i64 0))
              have HB6 := hide (below_store hbU (Nat.le_refl _) (.int .i64 x) (.int .i64 0))
              clear bwU hbU
              go_wp2
              go_roundw
              case rel => exact ⟨k2 + 1, by omega, by go_num, by rw [unhide HN, unhide HAX], by rw [unhide HN, unhide HMM]; exact unhide BW6, unhide HB6⟩
              case measure => simp [intOf]; omega
            · go_wp2
              go_quiet ((go_at_call 45; exact Calls.quiet_of (unhide HFT _)))
              have hbV : Below wr.heap.size wr (wq.drewN nq) := Below.drewN1 (unhide HBQ) _
              have bwV : BoxPr (wq.drewN nq) wr.heap.size (.int .i64 T) (.int .i64 0) := unhide HBO
              have d02 : (wq.drewN nq).cell? ⟨w.heap.size, 2, none⟩ = some (.slice (some ⟨bp, op, none⟩) ps.length cd) := c02
              have dp0 : (wq.drewN nq).cell? ⟨bp, op + k2 * 2, none⟩ = some (.int .i64 x) := hcp0
              have dp1 : (wq.drewN nq).cell? ⟨bp, op + k2 * 2 + 1, none⟩ = some (.int .i64 0) := hcp1
              clear c00 c01 c02 c80 c81 hcp0 hcp1 hct hclq HBO HBQ HFT hzq hlw hbq1 b0
              generalize wq.drewN nq = V at *
              have b0 := bwV.cell0
              have hd1 : decide (x < T) = false := by simpa using hx
              go_wp2
              go_quiet (fail)
              have hbU : Below wr.heap.size wr (V.drewN nq) := Below.drewN1 hbV _
              have bwU : BoxPr (V.drewN nq) wr.heap.size (.int .i64 T) (.int .i64 0) := bwV
              have d02' : (V.drewN nq).cell? ⟨w.heap.size, 2, none⟩ = some (.slice (some ⟨bp, op, none⟩) ps.length cd) := d02
              have dp0' : (V.drewN nq).cell? ⟨bp, op + k2 * 2, none⟩ = some (.int .i64 x) := dp0
              have dp1' : (V.drewN nq).cell? ⟨bp, op + k2 * 2 + 1, none⟩ = some (.int .i64 0) := dp1
              clear hbV bwV d02 dp0 dp1 b0
              generalize V.drewN nq = U at *
              have BW6 := hide bwU
              have HB6 := hide hbU
              clear bwU hbU
              go_wp2
              go_roundw
              case rel => exact ⟨k2 + 1, by omega, by go_num, by rw [unhide HN, unhide HAX], by rw [unhide HN, unhide HMM]; exact unhide BW6, unhide HB6⟩
              case measure => simp [intOf]; omega
        · have hkk : k2 = ll.length := by omega
          subst hkk
          have HTK2 := HTK
          clear HTK HKK
          have hkl2 : k < L.length := by omega
          generalize leastV (partW S c s ll ws ll.length) = T at *
          have f1 := bw.cell0
          have f2 := bw.cell1
          have y8q := (unhide HY8).below hbq hl8
          have hownq := own_below2 (unhide HOW) hbq
          have c82 := y8q.cell2
          have c82' := cell_push c82
          have hzX : w1.heap.size + 1 ≤ wq.heap.size := by omega
          have hne : (Value.slice za zn zc).ownBlock ≠ some w1.heap.size := (own_new2 hownq).ne (by omega)
          clear x0 x6 c00 c02 bw
          go_wp2_with (at_builtin; refine wp_app_pair2 (y := (T, 0)) rfl (.tmp 74) (.tmp 76) rfl hownq rfl hzX rfl rfl (by omega) ?_; intro v' w10 hown10 hgrew; obtain ⟨na, nm, nc, hv10⟩ := own_sl2 hown10; subst hv10; have y5 := y8q.grew hgrew hne; have e0 := y5.cell2; have e1 := y5.frozen 2)
          have hn4 : (Value.slice na nm nc).ownBlock ≠ some w1.heap.size := (own_new2 hown10).ne (by omega)
          go_roundw
          case rel => exact ⟨k + 1, _, by omega, by go_num, y5.set2 _, by rw [unhide HTK2]; exact ownsRow_setCell_other hown10 hn4 _, (hbq1.trans (hgrew.below.mono (by omega))).setCell (Nat.le_refl _) _⟩
          case measure => simp [intOf]; omega
    · have hkk : k = L.length := by omega
      subst hkk
      have hKt : K.take L.length = K := List.take_of_length_le (by have := unhide HKL; omega)
      rw [hKt] at hown
      obtain ⟨x0, x6⟩ := unhide HX wr hbel
      obtain ⟨_, _, _, hji, hjt⟩ := unhide HR wr hbel
      have c80 := y8.cell0
      have c82 := y8.cell2
      have hd0 := x6.cell0
      have hd1 := x6.cell1
      have hd2 := x6.cell2
      have hg0 := x6.frozen 0
      have hg1 := x6.frozen 1
      have hg2 := x6.frozen 2
      have HWV : Hid (RV wr (.agg #[.slice ja S.length jc, .slice jb L.length jd, .slice za zn zc]) S L (K.map fun l => (leastV l, 0))) := hide ⟨_, _, _, rfl, hji, hjt, hown.pairs⟩
      have hbr := below_then (unhide HBB) hbel
      clear hown y8 hji hjt hKt x0
      go_wp2
      have hfin := rv_store x6.boxS x6 (unhide HWV) (unhide HNE)
      refine bodyPost_ret (v := .agg #[.slice ja S.length jc, .slice jb L.length jd, .slice za zn zc]) (by simp [results, Tryz.results24, go_sem, hd0, hd1, hd2]) rfl ⟨_, _, _, rfl, hfin, below_store3 hbr (by omega) _ _ _⟩

end Go.Proofs.YtgmbflpngedhnaaGreat

namespace Go.Proofs.YtgmbflpngedhnaaGreat
open Go.RowKit
set_option linter.unusedVariables false
set_option linter.unusedSimpArgs false

theorem ref_ok {sc A Bl : List Int} {rows : List (List Int)} {v : Value} {most : Int} {w : World} (h : PartV w v sc rows A Bl) (hm : 0 < most) (hm2 : most ≤ 4611686018427387904) :
    Calls Tryz.prog 11 #[v, .int .i64 most, .bool true] w fun e w' => ∃ x, e = .returned x ∧ RV w' x (smallS3 sc) (smallR3 sc rows) (refW A most (smallR3 sc rows).length) ∧ Below w.heap.size w w' := by
  refine (ref_any h hm hm2).mono ?_
  rintro e w' ⟨x, y, z, he, hr, _, hb⟩
  exact ⟨_, he, hr, hb⟩

theorem clamp_in {most x : Int} (hm : 0 < most) : -most ≤ clampW most x ∧ clampW most x ≤ most := by
  unfold clampW
  split
  · have h1 := Int.tmod_lt_of_pos x hm
    have h2 := Int.lt_tmod_of_pos x hm
    omega
  · omega
theorem few_ref (A : List Int) (n : Nat) : Few ((refW A 999 n).map Prod.fst) := by
  intro x hx
  unfold refW at hx
  rw [List.map_map] at hx
  obtain ⟨i, _, rfl⟩ := List.mem_map.1 hx
  have := clamp_in (most := 999) (x := A.getD i 1) (by omega)
  simp only [Function.comp]
  omega
theorem fits_ref (A : List Int) (n : Nat) : ∀ x ∈ (refW A 4611686018427387904 n).map Prod.fst, Fits x := by
  intro x hx
  unfold refW at hx
  rw [List.map_map] at hx
  obtain ⟨i, _, rfl⟩ := List.mem_map.1 hx
  have := clamp_in (most := 4611686018427387904) (x := A.getD i 1) (by omega)
  simp only [Function.comp]
  unfold Fits
  omega

end Go.Proofs.YtgmbflpngedhnaaGreat

namespace Go.Proofs.YtgmbflpngedhnaaGreat
open Go.RowKit Go.ChangeShapes Go.WideShapes Go.ChangeAt
set_option linter.unusedVariables false
set_option linter.unusedSimpArgs false
set_option maxRecDepth 100000

theorem read_int64 {H : Type} {enc : TypeId × Value → H} {W : World} {v : Value} {d : DataW H} {ps : List MemPlace} {base b0 : Nat} {held : Bool} {r : Reach} (h : DataW.Trod enc Tryz.prog W base (fun _ => true) held 2 v d ps) (hv : Value.okWide Tryz.prog W r b0 2 v) :
    ∃ n, v = .int .i64 n ∧ InI64 n := by
  obtain ⟨n, hv, _, _, hw⟩ := open_int Tryz.underlying2 hv h
  exact ⟨n, hv, wf_in hw⟩

theorem read_i64s {H : Type} {enc : TypeId × Value → H} {W : World} {x : Value} {y : DataW H × List MemPlace} {base fuel : Nat} {held : Bool} (hf : DataW.trod enc Tryz.prog W base (fun _ => true) held fuel 24 [x] = some y) :
    ∃ l, Ints W x l := by
  rcases open_ints Tryz.underlying24 Tryz.underlying2 (by kernel_rfl) hf with ⟨hcs, _⟩ | ⟨x', l, c', zs, hcs, _, hl, hm, hz, _, hcell, hwz⟩
  · cases cells_one hcs
    exact ⟨[], Seq.nil _ _⟩
  · cases cells_one hcs
    exact ⟨zs.take l, ints_of hl hm (by simpa using hz) hcell⟩

theorem part4Fields : (Tryz.prog.underlying 26).map (fun t => match t with | .struct fs => fs.toList.map (fun f => (f.offset, f.type)) | _ => []) = some [(0, 22), (1, 23), (2, 24), (3, 24)] := by kernel_rfl
theorem part4Cells : Tryz.prog.cellsOf 26 = 4 ∧ Tryz.prog.cellsOf 22 = 1 ∧ Tryz.prog.cellsOf 23 = 1 ∧ Tryz.prog.cellsOf 24 = 1 := by refine ⟨?_, ?_, ?_, ?_⟩ <;> kernel_rfl

theorem read_part4 {H : Type} {enc : TypeId × Value → H} {W : World} {v : Value} {d : DataW H} {ps : List MemPlace} {base b0 : Nat} {held : Bool} {r : Reach} (h : DataW.Trod enc Tryz.prog W base (fun _ => true) held 26 v d ps) (hv : Value.okWide Tryz.prog W r b0 26 v) :
    ∃ s ll A B, PartV W v s ll A B := by
  obtain ⟨fs, hu, hfs⟩ : ∃ fs, Tryz.prog.underlying 26 = some (.struct fs) ∧ fs.toList.map (fun f => (f.offset, f.type)) = [(0, 22), (1, 23), (2, 24), (3, 24)] := by
    have h1 := part4Fields
    cases hx : Tryz.prog.underlying 26 with
    | none => rw [hx] at h1; cases h1
    | some t =>
      rw [hx] at h1
      cases t <;> simp at h1
      exact ⟨_, rfl, by simpa using h1⟩
  obtain ⟨f0, f1, f2, f3, rfl⟩ : ∃ f0 f1 f2 f3, fs = #[f0, f1, f2, f3] := by
    have hl := congrArg List.length hfs
    simp at hl
    obtain ⟨l⟩ := fs
    match l, hl with
    | [f0, f1, f2, f3], _ => exact ⟨f0, f1, f2, f3, rfl⟩
  simp at hfs
  obtain ⟨⟨o0, t0⟩, ⟨o1, t1⟩, ⟨o2, t2⟩, o3, t3⟩ := hfs
  obtain ⟨cs, rfl, hsz⟩ := okWide_struct hu hv
  rw [part4Cells.1] at hsz
  obtain ⟨x, y, z, u, rfl⟩ : ∃ x y z u, cs = #[x, y, z, u] := by
    obtain ⟨l⟩ := cs
    match l, hsz with
    | [x, y, z, u], _ => exact ⟨x, y, z, u, rfl⟩
  obtain ⟨fuel, hf⟩ := h
  obtain ⟨y0, y1, y2, y3, n, _, _, h0, h1, h2, h3⟩ := Go.Joins.trod_struct4 hu hf
  rw [o0, t0, part4Cells.2.1] at h0
  rw [o1, t1, part4Cells.2.2.1] at h1
  rw [o2, t2, part4Cells.2.2.2] at h2
  rw [o3, t3, part4Cells.2.2.2] at h3
  simp [Value.cells] at h0 h1 h2 h3
  obtain ⟨s, hs, ms⟩ := read_intsC h0
  obtain ⟨ll, hl, ml⟩ := read_tupsC h1
  obtain ⟨A, hA⟩ := read_i64s h2
  obtain ⟨B, hB⟩ := read_i64s h3
  exact ⟨s, ll, A, B, ⟨x, y, z, u, rfl, hs, hl, hA, hB⟩⟩

end Go.Proofs.YtgmbflpngedhnaaGreat

namespace Go.Proofs.YtgmbflpngedhnaaGreat
open Go.RowKit
set_option linter.unusedVariables false
set_option linter.unusedSimpArgs false
set_option maxRecDepth 20000

theorem refSame_y {s : List Int} {ll : List (List Int)} {v v' : Value} {w : World} (h : RelV w v s ll) (h' : RelV w v' s ll) :
    Calls Tryz.prog 38 #[v, v'] w fun e w' => e = .returned (.bool true) ∧ Below w.heap.size w w' := by
  have := refSame_rel h h'
  rwa [sameR_iff.2 ⟨rfl, rfl⟩] at this

theorem limits_any (w : World) : Calls Tryz.prog 10 #[] w fun e w' => e = .returned (.tuple #[.int .i64 4611686018427387904, .int .i64 9007199254740991]) ∧ w' = w := by
  go_enter Tryz.func10, Tryz.ntmps10
  go_wp2
  go_ret2
  exact ⟨rfl, rfl⟩

theorem refW_pair (A : List Int) (most : Int) (n : Nat) : ∀ k (h : k < (refW A most n).length) (h' : k < ((refW A most n).map Prod.fst).length), (refW A most n)[k] = (((refW A most n).map Prod.fst)[k], 0) := by
  intro k h h'
  simp [refW]

theorem sums_no {s vars : List Int} {ll : List (List Int)} {ws : List Int} {v vv : Value} {w : World} {K : List (List Int)} (h : WVI w v s ll ws) (hv : Ints w vv vars) (hs : Asc s) (hl : ll.length < 100000) (hsl : s.length < 10000) (hvl : vars.length < 10000000) (hf : ∀ x ∈ ws, Fits x)
    (hK : wsrcL s ll ws vars = K) (hbad : ¬ ∀ l ∈ K, sumOk l = true) :
    Calls Tryz.prog 22 #[v, vv] w fun e w' => e = .returned (.tuple #[.agg #[.slice none 0 0, .slice none 0 0, .slice none 0 0], .int .i64 11]) ∧ Below w.heap.size w w' := by
  refine (sums_any h hv hs hl hsl hvl hf).mono ?_
  rintro e w' ⟨h1 | h1, hb⟩
  · exact ⟨h1.2, hb⟩
  · rw [hK] at h1; exact absurd h1.1 hbad

theorem refSum_ok {s vars ws : List Int} {ll : List (List Int)} {ps : List (Int × Int)} {v vv : Value} {w : World} {K : List (List Int)} (h : RV w v s ll ps) (hv : Ints w vv vars) (hs : Asc s) (hw : ∀ t ∈ ll, t.length = s.length) (hl : ll.length < 100000) (hsl : s.length < 10000) (hvl : vars.length < 10000000)
    (hwl : ws.length = ll.length) (hpl : ps.length = ll.length) (hps : ∀ k (h : k < ps.length) (h' : k < ws.length), ps[k] = (ws[k], 0)) (hf : ∀ x ∈ ws, Fits x) (hK : wsrcL s ll ws vars = K) (hall : ∀ l ∈ K, sumOk l = true) :
    Calls Tryz.prog 20 #[v, vv, .int .i64 4611686018427387904] w fun e w' => ∃ x, e = .returned (.tuple #[x, .bool true]) ∧ RV w' x (meetL s vars) (projL s ll vars) (K.map fun l => (sumV l, 0)) ∧ Below w.heap.size w w' := by
  refine (refSum_any h hv hs hw hl hsl hvl hwl hpl hps hf).mono ?_
  rintro e w' ⟨h1 | h1, hb⟩
  · obtain ⟨⟨x, hx, hx2⟩, _⟩ := h1
    rw [hK] at hx
    rw [hall x hx] at hx2; cases hx2
  · obtain ⟨_, x, y, z, he, hr⟩ := h1
    rw [hK] at hr
    exact ⟨_, he, hr, hb⟩

theorem refSum_no {s vars ws : List Int} {ll : List (List Int)} {ps : List (Int × Int)} {v vv : Value} {w : World} {K : List (List Int)} (h : RV w v s ll ps) (hv : Ints w vv vars) (hs : Asc s) (hw : ∀ t ∈ ll, t.length = s.length) (hl : ll.length < 100000) (hsl : s.length < 10000) (hvl : vars.length < 10000000)
    (hwl : ws.length = ll.length) (hpl : ps.length = ll.length) (hps : ∀ k (h : k < ps.length) (h' : k < ws.length), ps[k] = (ws[k], 0)) (hf : ∀ x ∈ ws, Fits x) (hK : wsrcL s ll ws vars = K) (hbad : ¬ ∀ l ∈ K, sumOk l = true) :
    Calls Tryz.prog 20 #[v, vv, .int .i64 4611686018427387904] w fun e w' => e = .returned (.tuple #[.agg #[.slice none 0 0, .slice none 0 0, .slice none 0 0], .bool false]) ∧ Below w.heap.size w w' := by
  refine (refSum_any h hv hs hw hl hsl hvl hwl hpl hps hf).mono ?_
  rintro e w' ⟨h1 | h1, hb⟩
  · exact ⟨h1.2, hb⟩
  · rw [hK] at h1; exact absurd h1.1 hbad

theorem refMin_ok {s vars ws : List Int} {ll : List (List Int)} {ps : List (Int × Int)} {v vv : Value} {w : World} {K : List (List Int)} (h : RV w v s ll ps) (hv : Ints w vv vars) (hs : Asc s) (hw : ∀ t ∈ ll, t.length = s.length) (hl : ll.length < 100000) (hsl : s.length < 10000) (hvl : vars.length < 10000000)
    (hwl : ws.length = ll.length) (hpl : ps.length = ll.length) (hps : ∀ k (h : k < ps.length) (h' : k < ws.length), ps[k] = (ws[k], 0)) (hK : wsrcL s ll ws vars = K) :
    Calls Tryz.prog 24 #[v, vv] w fun e w' => ∃ x, e = .returned x ∧ RV w' x (meetL s vars) (projL s ll vars) (K.map fun l => (leastV l, 0)) ∧ Below w.heap.size w w' := by
  refine (refMin_any h hv hs hw hl hsl hvl hwl hpl hps).mono ?_
  rintro e w' ⟨x, y, z, he, hr, hb⟩
  rw [hK] at hr
  exact ⟨_, he, hr, hb⟩

set_option maxHeartbeats 8000000 in
theorem same4_yes {s ws : List Int} {ll : List (List Int)} {ps : List (Int × Int)} {v v' : Value} {w : World} (h : WVI w v s ll ws) (h' : RV w v' s ll ps) (hl : ps.length = ws.length) (hps : ∀ k (h : k < ps.length) (h' : k < ws.length), ps[k] = (ws[k], 0)) :
    Calls Tryz.prog 16 #[v, v'] w fun e w' => e = .returned (.bool true) ∧ Below w.heap.size w w' := by
  obtain ⟨a, ca, b, cb, d, cd, rfl, k1, k2, k3, k4, hs1, ht1, hw1⟩ := h.form
  obtain ⟨a', ca', b', cb', d', cd', rfl, k1', k2', k3', hs2, ht2, hp2⟩ := h'.form
  unfold maxLen at k1 k2 k3 k1' k2' k3'
  obtain ⟨W0, hW0⟩ : ∃ W, W = (w.alloc (.cells #[.slice a s.length ca, .slice b ll.length cb, .slice d ws.length cd] 37)).alloc (.cells #[.slice a' s.length ca', .slice b' ll.length cb', .slice d' ps.length cd'] 34) := ⟨_, rfl⟩
  have hb0 : Below w.heap.size w W0 := by rw [hW0]; exact b2x w _ _
  have x0 : BoxWI W0 w.heap.size (.slice a s.length ca) (.slice b ll.length cb) (.slice d ws.length cd) := by rw [hW0]; exact (BoxWI.new w _ _ _).push _
  have x1 : BoxF W0 (w.heap.size + 1) (.slice a' s.length ca') (.slice b' ll.length cb') (.slice d' ps.length cd') := by
    rw [hW0]; have := BoxF.new (w.alloc (.cells #[.slice a s.length ca, .slice b ll.length cb, .slice d ws.length cd] 37)) (.slice a' s.length ca') (.slice b' ll.length cb') (.slice d' ps.length cd'); simpa using this
  have HSM := hide (refSame_y (s := s) (ll := ll) (w := W0) ⟨_, _, rfl, hs1.below hb0, ht1.below hb0⟩ ⟨_, _, rfl, hs2.below hb0, ht2.below hb0⟩)
  have HW0 := hide hW0
  have HR := hide (fun W (hb : Below W0.heap.size W0 W) => And.intro ((hw1.below hb0).below hb) ((hp2.below hb0).below hb))
  have HPS := hide hps
  have c00 := x0.cell0
  have c01 := x0.cell1
  have c10 := x1.cell0
  have c11 := x1.cell1
  have hlen : ((ws.length : Int) != (ps.length : Int)) = false := by rw [hl]; simp
  have HL := hide hl
  clear h h' hs1 ht1 hw1 hs2 ht2 hp2 hW0 hps hl
  go_enter Tryz.func16, Tryz.ntmps16
  go_wp2_with fail
  rw [← unhide HW0]
  refine (unhide HSM).mono ?_
  rintro e w1 ⟨rfl, hb1⟩
  replace x0 := x0.belowH hb1
  replace x1 := x1.belowH hb1
  have HB := hide (below_then hb0 hb1)
  have HR1 := hide (unhide HR w1 hb1)
  clear HW0 HSM HR c00 c01 c10 c11 hb0 hb1
  have c02 := x0.cell2
  have c12 := x1.cell2
  clear x0 x1
  go_wp2
  go_loopw [5] (fun i wr => ∃ k n : Nat, k ≤ ws.length ∧ i = .int .i64 k ∧ wr = w1.drewN n) (fun i _ => ws.length - (intOf i).toNat)
  case atStart => exact ⟨0, 0, by omega, rfl, rfl⟩
  case round =>
    obtain ⟨k, n, hk, rfl, rfl⟩ := hrel
    by_cases hkl : k < ws.length
    · have hkp : k < ps.length := by have := unhide HL; omega
      obtain ⟨bd, od, rfl, hd⟩ := (unhide HR1).1.at hkl
      obtain ⟨bp, op, hpe, hp0, _⟩ := (unhide HR1).2.at hkp
      cases hpe
      rw [unhide HPS k hkp hkl] at hp0
      have hne : (ws[k] != ws[k]) = false := by simp
      generalize ws[k] = x at *
      go_wp2
      go_quiet (fail)
      go_wp2
      go_roundw
      case rel => exact ⟨k + 1, _, by omega, by go_num, by first | rfl | (simp only [World.drewN_drewN]; rfl)⟩
      case measure => simp [intOf]; omega
    · go_wp2
      go_ret
      exact ⟨rfl, Below.drewN1 (unhide HB) _⟩

end Go.Proofs.YtgmbflpngedhnaaGreat

namespace Go.Proofs.YtgmbflpngedhnaaGreat.weighSums
open Go.RowKit Go.ChangeShapes Go.WideShapes Go.ChangeAt
set_option linter.unusedVariables false
set_option linter.unusedSimpArgs false
set_option maxRecDepth 20000

theorem map_pair (f : List Int → Int) (K : List (List Int)) : ∀ k (h : k < (K.map fun l => ((f l, 0) : Int × Int)).length) (h' : k < (K.map f).length), (K.map fun l => ((f l, 0) : Int × Int))[k] = ((K.map f)[k], 0) := by
  intro k h h'
  simp

set_option maxHeartbeats 64000000 in
theorem walk {l0 l1 a0 b0 : List Int} {k0 : List (List Int)} {v0 v1 : Value} {w : World} (i0 : PartV w v0 l0 k0 a0 b0) (i1 : Ints w v1 l1) (m1 : ∀ n ∈ l1, InI64 n) :
    Calls Tryz.prog 5 #[v0, v1] w fun e w' => e = .returned (.bool true) ∧ Below w.heap.size w w' := by
  obtain ⟨xa, ca, xb, cb, xd, cd, xe, ce, rfl, _, _, _, _, _, _, _, _, _, _, _⟩ := i0.form
  obtain ⟨da, dc, rfl, hld, hcd⟩ := i1.form
  unfold maxLen at hcd
  obtain ⟨W0, hW0⟩ : ∃ W, W = w.alloc (.cells #[.slice xa l0.length ca, .slice xb k0.length cb, .slice xd a0.length cd, .slice xe b0.length ce] 26) := ⟨_, rfl⟩
  have hB : Below w.heap.size w W0 := by rw [hW0]; exact (Below.refl _ _).alloc (Nat.le_refl _) _
  have bx : BoxQ W0 w.heap.size (.slice xa l0.length ca) (.slice xb k0.length cb) (.slice xd a0.length cd) (.slice xe b0.length ce) := by rw [hW0]; exact BoxQ.new w _ _ _ _
  replace i0 := i0.below hB
  replace i1 := i1.below hB
  have HW0 := hide hW0
  clear hW0 m1
  have j1 := i1.cut 6
  have hv1 : (l1.take 6).length ≤ 6 := List.length_take_le _ _
  have hcut := run_cut da l1.length dc (min (l1.length : Int) ((6 : Nat) : Int)) (min (l1.length : Int) ((6 : Nat) : Int)).toNat (by omega) (by omega)
  generalize l1.take 6 = one at j1 hv1
  clear i1
  go_enter Tryz.func5, Tryz.ntmps5
  have HC := hide (shown4_any W0)
  go_wp2_with fail
  rw [← unhide HW0]
  refine (unhide HC).mono ?_
  rintro e w1 ⟨rfl, hb⟩
  replace i0 := i0.below hb
  replace j1 := j1.below hb
  replace bx := bx.belowH hb
  replace hB := below_then hB hb
  clear HC hb
  clear HW0
  go_wp2_with fail
  refine (limits_any _).mono ?_
  rintro e _ ⟨rfl, rfl⟩
  have HC := hide (ref_ok i0 (most := 4611686018427387904) (by omega) (by omega))
  have c0_bx := bx.cell0
  have c1_bx := bx.cell1
  have c2_bx := bx.cell2
  have c3_bx := bx.cell3
  go_wp2_with fail
  refine (unhide HC).mono ?_
  rintro e w2 ⟨u, rfl, rf, hb⟩
  replace i0 := i0.below hb
  replace j1 := j1.below hb
  replace bx := bx.belowH hb
  replace hB := below_then hB hb
  clear HC hb c0_bx c1_bx c2_bx c3_bx
  clear i0 bx
  have GF := hide (fine_small l0 k0)
  have hwl : ((refW a0 4611686018427387904 (smallR3 l0 k0).length).map Prod.fst).length = (smallR3 l0 k0).length := by rw [List.length_map, refW_len]
  have hpl : (refW a0 4611686018427387904 (smallR3 l0 k0).length).length = (smallR3 l0 k0).length := by rw [refW_len]
  have FW := hide (fits_ref a0 (smallR3 l0 k0).length)
  have HPS := hide (refW_pair a0 4611686018427387904 (smallR3 l0 k0).length)
  have hrl : (refW a0 4611686018427387904 (smallR3 l0 k0).length).length ≤ 12 := by rw [refW_len]; exact smallR3_len l0 k0
  generalize smallS3 l0 = s at *
  generalize smallR3 l0 k0 = ll at *
  generalize refW a0 4611686018427387904 ll.length = rw0 at *
  have HWL := hide hwl
  have HPL := hide hpl
  clear hwl hpl
  obtain ⟨fa, fb, fc, fd, fe, ff, rfl, _, _, _, _, _, _⟩ := rf.form
  have pb := (Below.refl _ w2).alloc (Nat.le_refl _) (.cells #[.slice fa s.length fb, .slice fc ll.length fd, .slice fe rw0.length ff] 34)
  replace j1 := j1.below pb
  replace rf := rf.below pb
  replace hB := below_then hB pb
  have xF := BoxF.new w2 (.slice fa s.length fb) (.slice fc ll.length fd) (.slice fe rw0.length ff)
  clear pb
  obtain ⟨ws, hws⟩ : ∃ ws, ws = rw0.map Prod.fst := ⟨_, rfl⟩
  rw [← hws] at HWL FW
  have HPS2 : Hid (∀ k (h : k < rw0.length) (h' : k < ws.length), rw0[k] = (ws[k], 0)) := hide (by subst hws; exact unhide HPS)
  have HNB := hide (fun (W : World) (v : Value) (h : RV W v s ll rw0) => number_any h (by omega))
  rw [← hws] at HNB
  clear hws HPS
  have hsl := (unhide GF).slen
  have hll := (unhide GF).llen
  have hml := meetL_le s one
  have hpl := proj_le s one ll
  have HC := hide (unhide HNB _ _ rf)
  have c0_xF := xF.cell0
  have c1_xF := xF.cell1
  have c2_xF := xF.cell2
  go_wp2_with fail
  refine (unhide HC).mono ?_
  rintro e w3 ⟨u, rfl, ra, hb⟩
  replace j1 := j1.below hb
  replace rf := rf.below hb
  replace xF := xF.belowH hb
  replace hB := below_then hB hb
  clear HC hb c0_xF c1_xF c2_xF
  obtain ⟨aa, ab, ac, ad, ae, af, rfl, _, _, _, _, _, _, _⟩ := ra.form
  obtain ⟨K, hK⟩ : ∃ K, wsrcL s ll ws one = K := ⟨_, rfl⟩
  have HK := hide hK
  clear hK
  obtain ⟨S1, hS1⟩ : ∃ S, S = meetL s one := ⟨_, rfl⟩
  obtain ⟨L1, hL1⟩ : ∃ S, S = projL s ll one := ⟨_, rfl⟩
  have HS1 := hide hS1
  have HL1 := hide hL1
  clear hS1 hL1
  have HFIN := hide (fun (W : World) (v v' : Value) (h : WVI W v S1 L1 (K.map leastV)) (h' : RV W v' S1 L1 (K.map fun l => (leastV l, 0))) => same4_yes h h' (by simp) (map_pair leastV K))
  have HMI := hide (fun (W : World) (v v' : Value) (h : WVI W v s ll ws) (h' : Ints W v' one) => mins_ok h h' (unhide GF).asc (by omega) (by omega) (by omega) (unhide HK))
  have HRM := hide (fun (W : World) (v v' : Value) (h : RV W v s ll rw0) (h' : Ints W v' one) => refMin_ok h h' (unhide GF).asc (unhide GF).wide (by omega) (by omega) (by omega) (unhide HWL) (unhide HPL) (unhide HPS2) (unhide HK))
  rw [← unhide HS1, ← unhide HL1] at HMI HRM
  obtain ⟨V2, hV2⟩ : ∃ S, S = K.map leastV := ⟨_, rfl⟩
  obtain ⟨P2, hP2⟩ : ∃ S, S = K.map fun l => ((leastV l, 0) : Int × Int) := ⟨_, rfl⟩
  rw [← hV2, ← hP2] at HFIN
  rw [← hV2] at HMI
  rw [← hP2] at HRM
  clear hV2 hP2
  by_cases hall : ∀ l ∈ K, sumOk l = true
  · have HA := hide hall
    clear hall
    have HC := hide (sums_ok ra j1 (unhide GF).asc (by omega) (by omega) (by omega) (unhide FW) (unhide HK) (unhide HA))
    go_wp2_with fail
    refine (unhide HC).mono ?_
    rintro e w4 ⟨u, rfl, rs, hb⟩
    replace j1 := j1.below hb
    replace rf := rf.below hb
    replace ra := ra.below hb
    replace xF := xF.belowH hb
    replace hB := below_then hB hb
    clear HC hb
    have HPA := hide (map_pair sumV K)
    obtain ⟨V1, hV1⟩ : ∃ S, S = K.map sumV := ⟨_, rfl⟩
    obtain ⟨P1, hP1⟩ : ∃ S, S = K.map fun l => ((sumV l, 0) : Int × Int) := ⟨_, rfl⟩
    have HPV := hide (show P1.length = V1.length by rw [hV1, hP1]; simp)
    rw [← hV1, ← hP1] at HPA
    rw [← hV1, ← unhide HS1, ← unhide HL1] at rs
    have HP1 := hide hP1
    clear hV1 hP1
    obtain ⟨sa, sb, sc, sd, se, sf, rfl, _, _, _, _, _, _, _⟩ := rs.form
    have pb := (Below.refl _ w4).alloc (Nat.le_refl _) (.cells #[.slice sa S1.length sb, .slice sc L1.length sd, .slice se V1.length sf] 37)
    replace j1 := j1.below pb
    replace rf := rf.below pb
    replace ra := ra.below pb
    replace rs := rs.below pb
    replace xF := xF.belowH pb
    replace hB := below_then hB pb
    have xS := BoxWI.new w4 (.slice sa S1.length sb) (.slice sc L1.length sd) (.slice se V1.length sf)
    clear pb
    have HC := hide (refSum_ok rf j1 (unhide GF).asc (unhide GF).wide (by omega) (by omega) (by omega) (unhide HWL) (unhide HPL) (unhide HPS2) (unhide FW) (unhide HK) (unhide HA))
    have c0_xF := xF.cell0
    have c1_xF := xF.cell1
    have c2_xF := xF.cell2
    go_wp2_with fail
    refine (unhide HC).mono ?_
    rintro e w5 ⟨u, rfl, rt, hb⟩
    replace j1 := j1.below hb
    replace rf := rf.below hb
    replace ra := ra.below hb
    replace rs := rs.below hb
    replace xF := xF.belowH hb
    replace xS := xS.belowH hb
    replace hB := below_then hB hb
    clear HC hb c0_xF c1_xF c2_xF
    rw [← unhide HP1, ← unhide HS1, ← unhide HL1] at rt
    clear HP1
    obtain ⟨ta, tb, tc, td, te, tf, rfl, _, _, _, _, _, _⟩ := rt.form
    have pb := (Below.refl _ w5).alloc (Nat.le_refl _) (.cells #[.slice ta S1.length tb, .slice tc L1.length td, .slice te P1.length tf] 34)
    replace j1 := j1.below pb
    replace rf := rf.below pb
    replace ra := ra.below pb
    replace rs := rs.below pb
    replace rt := rt.below pb
    replace xF := xF.belowH pb
    replace xS := xS.belowH pb
    replace hB := below_then hB pb
    have xT := BoxF.new w5 (.slice ta S1.length tb) (.slice tc L1.length td) (.slice te P1.length tf)
    clear pb
    have HC := hide (same4_yes rs rt (unhide HPV) (unhide HPA))
    have c0_xS := xS.cell0
    have c1_xS := xS.cell1
    have c2_xS := xS.cell2
    have c0_xT := xT.cell0
    have c1_xT := xT.cell1
    have c2_xT := xT.cell2
    go_wp2_with fail
    refine (unhide HC).mono ?_
    rintro e w6 ⟨rfl, hb⟩
    replace j1 := j1.below hb
    replace rf := rf.below hb
    replace ra := ra.below hb
    replace rs := rs.below hb
    replace rt := rt.below hb
    replace xF := xF.belowH hb
    replace xS := xS.belowH hb
    replace xT := xT.belowH hb
    replace hB := below_then hB hb
    clear HC hb c0_xS c1_xS c2_xS c0_xT c1_xT c2_xT
    clear rs rt xS xT
    go_wp2
    generalize w6 = W9 at *
    have HXF := hide xF
    have HRF := hide rf
    have HJ1 := hide j1
    have HKC := hide (fun W (hb : Below W9.heap.size W9 W) => And.intro (xF.belowH hb).cell0 (And.intro (xF.belowH hb).cell1 (xF.belowH hb).cell2))
    have hbR := Below.refl W9.heap.size W9
    clear xF rf j1 ra
    go_region_held3 (fun W => W.cell? ⟨w2.heap.size, 0, none⟩ = some (.slice fa s.length fb) ∧ W.cell? ⟨w2.heap.size, 1, none⟩ = some (.slice fc ll.length fd) ∧ W.cell? ⟨w2.heap.size, 2, none⟩ = some (.slice fe rw0.length ff))
      (first | exact unhide HKC _ (by first | exact hR4 | exact hR3 | exact hR2 | exact hR1 | exact hbR | exact below_same rfl rfl rfl rfl | exact below_then hR4 (below_same rfl rfl rfl rfl) | exact below_then hR4 (below_push rfl rfl rfl rfl)))
      (first
        | (go_at_call 16; refine (unhide HFIN _ _ _ (rm.below hq3) rn).mono ?_; rintro e wq4 ⟨rfl, hq4⟩; have hR4 : Below W9.heap.size W9 wq4 := below_then hR3 hq4)
        | (go_at_call 24; refine (unhide HRM _ _ _ ((unhide HRF).below hR2) ((unhide HJ1).below hR2)).mono ?_; rintro e wq3 ⟨u3, rfl, rn, hq3⟩; obtain ⟨na, nb, nc, nd, ne, nf, rfl, _, _, _, _, _, _⟩ := rn.form; have hR3 : Below W9.heap.size W9 wq3 := below_then hR2 hq3)
        | (go_at_call 23; refine (unhide HMI _ _ _ rp ((unhide HJ1).below hR1)).mono ?_; rintro e wq2 ⟨u2, rfl, rm, hq2⟩; obtain ⟨ma, mb, mc, md, me, mf, rfl, _, _, _, _, _, _, _⟩ := rm.form; have hR2 : Below W9.heap.size W9 wq2 := below_then hR1 hq2)
        | (go_at_call 13; refine (unhide HNB _ _ ((unhide HRF).below (by first | exact hbR | exact below_same rfl rfl rfl rfl))).mono ?_; rintro e wq1 ⟨u1, rfl, rp, hq1⟩; obtain ⟨pa, pb, pc, pd, pe, pf, rfl, _, _, _, _, _, _, _⟩ := rp.form; have hR1 : Below W9.heap.size W9 wq1 := below_then (by first | exact hbR | exact below_same rfl rfl rfl rfl) hq1))
    all_goals
      have hBF := below_then hB hR4
      clear hR1 hR2 hR3 hR4 hq1 hq2 hq3 hq4
      go_wp2
      go_ret
      exact ⟨rfl, hBF⟩
  · have HA := hide hall
    clear hall
    have HC := hide (sums_no ra j1 (unhide GF).asc (by omega) (by omega) (by omega) (unhide FW) (unhide HK) (unhide HA))
    go_wp2_with fail
    refine (unhide HC).mono ?_
    rintro e w4 ⟨rfl, hb⟩
    replace j1 := j1.below hb
    replace rf := rf.below hb
    replace ra := ra.below hb
    replace xF := xF.belowH hb
    replace hB := below_then hB hb
    clear HC hb
    have pb := (Below.refl _ w4).alloc (Nat.le_refl _) (.cells #[.slice none 0 0, .slice none 0 0, .slice none 0 0] 37)
    replace j1 := j1.below pb
    replace rf := rf.below pb
    replace ra := ra.below pb
    replace xF := xF.belowH pb
    replace hB := below_then hB pb
    have xS := BoxWI.new w4 (.slice none 0 0) (.slice none 0 0) (.slice none 0 0)
    clear pb
    have HC := hide (refSum_no rf j1 (unhide GF).asc (unhide GF).wide (by omega) (by omega) (by omega) (unhide HWL) (unhide HPL) (unhide HPS2) (unhide FW) (unhide HK) (unhide HA))
    have c0_xF := xF.cell0
    have c1_xF := xF.cell1
    have c2_xF := xF.cell2
    go_wp2_with fail
    refine (unhide HC).mono ?_
    rintro e w5 ⟨rfl, hb⟩
    replace j1 := j1.below hb
    replace rf := rf.below hb
    replace ra := ra.below hb
    replace xF := xF.belowH hb
    replace xS := xS.belowH hb
    replace hB := below_then hB hb
    clear HC hb c0_xF c1_xF c2_xF
    have pb := (Below.refl _ w5).alloc (Nat.le_refl _) (.cells #[.slice none 0 0, .slice none 0 0, .slice none 0 0] 34)
    replace j1 := j1.below pb
    replace rf := rf.below pb
    replace ra := ra.below pb
    replace xF := xF.belowH pb
    replace xS := xS.belowH pb
    replace hB := below_then hB pb
    have xT := BoxF.new w5 (.slice none 0 0) (.slice none 0 0) (.slice none 0 0)
    clear pb
    have e1 := xS.cell1
    have e2 := xS.cell2
    obtain ⟨W9, hW9⟩ : ∃ W, W = w5.alloc (.cells #[.slice none 0 0, .slice none 0 0, .slice none 0 0] 34) := ⟨_, rfl⟩
    rw [← hW9] at hB xF rf j1 ra xS xT e1 e2
    have HW9 := hide hW9
    have e1' : (w5.alloc (.cells #[.slice none 0 0, .slice none 0 0, .slice none 0 0] 34)).cell? ⟨w4.heap.size, 1, none⟩ = some (.slice none 0 0) := by rw [← hW9]; exact e1
    have e2' : (w5.alloc (.cells #[.slice none 0 0, .slice none 0 0, .slice none 0 0] 34)).cell? ⟨w4.heap.size, 2, none⟩ = some (.slice none 0 0) := by rw [← hW9]; exact e2
    clear hW9 xS xT
    go_wp2
    rw [← unhide HW9]
    clear HW9 e1 e2 e1' e2'
    have HXF := hide xF
    have HRF := hide rf
    have HJ1 := hide j1
    have HKC := hide (fun W (hb : Below W9.heap.size W9 W) => And.intro (xF.belowH hb).cell0 (And.intro (xF.belowH hb).cell1 (xF.belowH hb).cell2))
    have hbR := Below.refl W9.heap.size W9
    clear xF rf j1 ra
    go_region_held3 (fun W => W.cell? ⟨w2.heap.size, 0, none⟩ = some (.slice fa s.length fb) ∧ W.cell? ⟨w2.heap.size, 1, none⟩ = some (.slice fc ll.length fd) ∧ W.cell? ⟨w2.heap.size, 2, none⟩ = some (.slice fe rw0.length ff))
      (first | exact unhide HKC _ (by first | exact hR4 | exact hR3 | exact hR2 | exact hR1 | exact hbR | exact below_same rfl rfl rfl rfl | exact below_then hR4 (below_same rfl rfl rfl rfl) | exact below_then hR4 (below_push rfl rfl rfl rfl)))
      (first
        | (go_at_call 16; refine (unhide HFIN _ _ _ (rm.below hq3) rn).mono ?_; rintro e wq4 ⟨rfl, hq4⟩; have hR4 : Below W9.heap.size W9 wq4 := below_then hR3 hq4)
        | (go_at_call 24; refine (unhide HRM _ _ _ ((unhide HRF).below hR2) ((unhide HJ1).below hR2)).mono ?_; rintro e wq3 ⟨u3, rfl, rn, hq3⟩; obtain ⟨na, nb, nc, nd, ne, nf, rfl, _, _, _, _, _, _⟩ := rn.form; have hR3 : Below W9.heap.size W9 wq3 := below_then hR2 hq3)
        | (go_at_call 23; refine (unhide HMI _ _ _ rp ((unhide HJ1).below hR1)).mono ?_; rintro e wq2 ⟨u2, rfl, rm, hq2⟩; obtain ⟨ma, mb, mc, md, me, mf, rfl, _, _, _, _, _, _, _⟩ := rm.form; have hR2 : Below W9.heap.size W9 wq2 := below_then hR1 hq2)
        | (go_at_call 13; refine (unhide HNB _ _ ((unhide HRF).below (by first | exact hbR | exact below_same rfl rfl rfl rfl))).mono ?_; rintro e wq1 ⟨u1, rfl, rp, hq1⟩; obtain ⟨pa, pb, pc, pd, pe, pf, rfl, _, _, _, _, _, _, _⟩ := rp.form; have hR1 : Below W9.heap.size W9 wq1 := below_then (by first | exact hbR | exact below_same rfl rfl rfl rfl) hq1))
    all_goals
      have hBF := below_then hB hR4
      clear hR1 hR2 hR3 hR4 hq1 hq2 hq3 hq4
      go_wp2
      go_ret
      exact ⟨rfl, hBF⟩

set_option maxRecDepth 100000 in
theorem lifted (os : Os) (started : os.Started) (H : Type) (enc : TypeId × Value → H) :
    ReturnsInHanded {} Tryz.checked os 5 .any (Rows.weighSumsSpec.pre6 enc Tryz.prog Tryz.f5 Rows.weighSumsRow.domain false) (Rows.weighSumsSpec.post enc Tryz.prog Tryz.f5 false true false false) := by
  refine returnsInHanded_of_change (C := Tryz.checked) own started (by kernel_rfl) Tryz.func5
    (ChangeSpec.witness6 (enc := enc) (C := Tryz.checked) false ⟨#[], #[.agg #[.slice none 0 0, .slice none 0 0, .slice none 0 0, .slice none 0 0], .slice none 0 0], []⟩ 8 (by kernel_rfl) (by kernel_rfl) (by kernel_rfl) (by kernel_rfl)) ?_
  intro W base args ds gs before hval0 hW hcnd _
  have hval : ∀ (j : Nat) t v, Tryz.f5.params[j]? = some t → args[j]? = some v → Value.okWide Tryz.prog W .any base t v := hval0
  have hW' := hW
  obtain ⟨p, q, hA0, hV, rfl, hfz, hnd⟩ := hW
  have hA : DataW.TrodAll enc Tryz.prog W 0 (fun _ => true) true Tryz.f5.params.toList args.toList ds p := hA0
  rw [Tryz.params5] at hA hval
  obtain ⟨v0, vs0, d0, ds0, p0, q0, hargs, rfl, rfl, h0, r0⟩ := trodAll_cons hA
  obtain ⟨v1, vs1, d1, ds1, p1, q1, rfl, rfl, rfl, h1, r1⟩ := trodAll_cons r0
  obtain ⟨rfl, rfl, rfl⟩ := trodAll_nil r1
  obtain rfl : args = #[v0, v1] := by cases args; simp_all
  obtain ⟨rfl, rfl⟩ := trodVars_none hV
  obtain ⟨l0, k0, a0, b0, i0⟩ := read_part4 h0 (hval 0 26 v0 rfl rfl)
  have lt0 : ∀ x ∈ p0, x.block < W.heap.size := by obtain ⟨m, hm⟩ := h0; exact DataW.trod_lt m _ _ _ hm
  obtain ⟨l1, i1, m1⟩ := read_ints h1 (okWide_slice Tryz.underlying22 (hval 1 22 v1 rfl rfl))
  have lt1 : ∀ x ∈ p1, x.block < W.heap.size := by obtain ⟨m, hm⟩ := h1; exact DataW.trod_lt m _ _ _ hm
  clear hA0 hval0
  refine (walk i0 i1 m1).mono fun e W' ⟨he, bel⟩ => ?_
  subst he
  exact ⟨_, rfl, _, _, _, [], _, [], hW', trodAll_mk1 (shut_bool Tryz.underlying4 _), (trodAll_cons_mk (Below.trod laidOut (by kernel_rfl) (of_decide_eq_true (by kernel_rfl)) h0 bel lt0) (trodAll_cons_mk (Below.trod laidOut (by kernel_rfl) (of_decide_eq_true (by kernel_rfl)) h1 bel lt1) trodAll_mk0)), rfl, bel.frame _, fun h => by cases h⟩

theorem over : Rows.weighSumsRow.holds Tryz.pinned (OpenSpec.ofChange Rows.weighSumsSpec) :=
  OpenClaim.holds_of_wide 5 Tryz.f5 rfl rfl rfl rfl rfl rfl rfl ⟨rfl, rfl, rfl, rfl, rfl⟩ rfl rfl rfl rfl rfl (by kernel_rfl) Tryz.func5 (by kernel_rfl)
    (of_decide_eq_true (by kernel_rfl)) (by unfold Func.isWrapper; first | (rw [if_pos (by decide +kernel)]; kernel_rfl) | (rw [if_neg (by decide +kernel)]; exact ⟨rfl, rfl⟩))
    (fun os started H enc _ => lifted os started H enc)

/-- The statement. -/
theorem proved : Rows.WeighSumsSaid := over
#print axioms proved
end Go.Proofs.YtgmbflpngedhnaaGreat.weighSums
