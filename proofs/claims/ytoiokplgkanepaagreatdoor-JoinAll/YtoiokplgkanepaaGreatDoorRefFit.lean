/-
  The contracts of the document's Fit and Both.
-/
import Derived.Test.YtoiokplgkanepaaGreatDoorLibInts
import Derived.Test.YtoiokplgkanepaaGreatDoorJoinMath
import Derived.Test.YtoiokplgkanepaaGreatDoorApp2
namespace Go.Proofs.YtoiokplgkanepaaGreatDoor
open Go.RowKit
set_option linter.unusedVariables false
set_option linter.unusedSimpArgs false
set_option maxRecDepth 20000

theorem getR_at {s t : List Int} (hn : s.Nodup) (hl : t.length = s.length) {k : Nat} (hk : k < s.length) (hk' : k < t.length) : getR s t s[k] = t[k] := by
  have h := List.getElem_of_eq (map_getR hn hl) (i := k) (by simpa using hk)
  simpa using h

set_option maxHeartbeats 2000000 in
theorem refFit_any {s t u v : List Int} {vs vt vu vv : Value} {w : World} (hs : Ints w vs s) (ht : Ints w vt t) (hu : Ints w vu u) (hv : Ints w vv v) (hn : s.Nodup) (hst : t.length = s.length) (huv : v.length = u.length) :
    Calls Tryz.prog 28 #[vs, vt, vu, vv] w fun e w' => e = .returned (.bool (fitB s u t v)) ∧ ∃ n, w' = w.drewN n := by
  obtain ⟨a, ca, rfl, hla, hca⟩ := hs.form
  obtain ⟨b, cb, rfl, hlb, hcb⟩ := ht.form
  obtain ⟨c, cc, rfl, hlc, hcc⟩ := hu.form
  obtain ⟨d, cd, rfl, hld, hcd⟩ := hv.form
  unfold maxLen at hca hcb hcc hcd
  obtain ⟨q, hq⟩ : ∃ q, q = fitB s u t v := ⟨_, rfl⟩
  rw [← hq]
  have HPl := hide (fun n (m : Nat) => refPlace_any (n := n) (hu.drewN m))
  have HQ := hide hq
  have HS := hide hs
  have HT := hide ht
  have HV := hide hv
  have HN := hide hn
  have HST := hide hst
  have HUV := hide huv
  have hst1 : s.length ≤ t.length := by omega
  have huv1 : u.length ≤ v.length := by omega
  clear hq hs ht hu hv hn hst huv
  go_enter Tryz.func28, Tryz.ntmps28
  go_wp2
  go_loopw [9, 10] (fun i _ wr => ∃ k n : Nat, k ≤ s.length ∧ i = .int .i64 k ∧ wr = w.drewN n ∧ Hid (∀ j (hj : j < s.length) (hj' : j < t.length), j < k → s[j] ∈ u → t[j] = getR u v s[j])) (fun i _ _ => s.length - (intOf i).toNat)
  case atStart => exact ⟨0, 0, by omega, rfl, rfl, hide (fun j _ _ h => by omega)⟩
  case round =>
    obtain ⟨k, m, hk, rfl, rfl, HC⟩ := hrel
    by_cases hlt : k < s.length
    · have hkt : k < t.length := by omega
      obtain ⟨bs, os, rfl, hcs⟩ := (unhide HS).at hlt
      obtain ⟨bt, ot, rfl, hct⟩ := (unhide HT).at hkt
      have HP := hide (unhide HPl s[k] m)
      have hgk := getR_at (unhide HN) (unhide HST) hlt hkt
      rcases placeL_cases u s[k] with ⟨hp, hnm⟩ | ⟨j, hj, hp, hju, _⟩
      · rw [hp] at HP
        have HC2 : Hid (∀ j (hj : j < s.length) (hj' : j < t.length), j < k + 1 → s[j] ∈ u → t[j] = getR u v s[j]) := hide (fun j hj hj' hjk hm => by
          rcases Nat.lt_or_ge j k with h | h
          · exact HC.out j hj hj' h hm
          · have : j = k := by omega
            subst this; exact absurd hm hnm)
        clear HC hp hnm hgk
        go_wp2_with (go_at_call 50; refine (unhide HP).mono ?_; rintro e w' ⟨rfl, rfl⟩)
        go_quiet (fail)
        go_wp2
        go_roundw
        case rel => exact ⟨k + 1, _, by omega, by go_num, by first | rfl | (simp only [World.drewN_drewN]; rfl), HC2⟩
        case measure => simp [intOf]; omega
      · rw [hp] at HP
        have hjv : j < v.length := by omega
        obtain ⟨bv, ov, rfl, hcv⟩ := (unhide HV).at hjv
        have hgv : getR u v s[k] = v[j] := by unfold getR; rw [hp]; simp [hjv]
        by_cases he : v[j] = t[k]
        · have hne : (v[j] != t[k]) = false := by simp [he]
          have HC2 : Hid (∀ j (hj : j < s.length) (hj' : j < t.length), j < k + 1 → s[j] ∈ u → t[j] = getR u v s[j]) := hide (fun j' hj' hj'' hjk hm => by
            rcases Nat.lt_or_ge j' k with h | h
            · exact HC.out j' hj' hj'' h hm
            · have : j' = k := by omega
              subst this; rw [hgv, he])
          clear HC hp hju hgk hgv he
          go_wp2_with (go_at_call 50; refine (unhide HP).mono ?_; rintro e w' ⟨rfl, rfl⟩)
          go_quiet (fail)
          go_wp2
          go_roundw
          case rel => exact ⟨k + 1, _, by omega, by go_num, by first | rfl | (simp only [World.drewN_drewN]; rfl), HC2⟩
          case measure => simp [intOf]; omega
        · have hne : (v[j] != t[k]) = true := by simpa using he
          have HF : Hid (q = false) := hide (by
            rw [unhide HQ]
            cases hf : fitB s u t v with
            | false => rfl
            | true =>
              have := fit_iff.1 hf s[k] (List.getElem_mem _) (by rw [← hju]; exact List.getElem_mem _)
              rw [hgk, hgv] at this
              exact absurd this.symm he)
          clear HC hp hju hgk hgv he
          go_wp2_with (go_at_call 50; refine (unhide HP).mono ?_; rintro e w' ⟨rfl, rfl⟩)
          go_quiet (fail)
          go_wp2
          go_ret
          exact ⟨ret_bool (by rw [HF.out]), by first | exact ⟨_, rfl⟩ | (simp only [World.drewN_drewN]; exact ⟨_, rfl⟩)⟩
    · have HF : Hid (q = true) := hide (by
        rw [unhide HQ]
        refine fit_iff.2 fun x hx hxu => ?_
        obtain ⟨i, hi, rfl⟩ := List.getElem_of_mem hx
        have hit : i < t.length := by omega
        rw [getR_at (unhide HN) (unhide HST) hi hit]
        exact HC.out i hi hit (by omega) hxu)
      clear HC
      go_wp2
      go_ret
      exact ⟨ret_bool (by rw [HF.out]), _, rfl⟩

/-- What Both lays at a variable. -/
def bothF (s u t v : List Int) (x : Int) : Int := if x ∈ s then getR s t x else getR u v x

set_option maxHeartbeats 4000000 in
theorem refBoth_any {s t u v al : List Int} {vs vt vu vv va : Value} {w : World} (hs : Ints w vs s) (ht : Ints w vt t) (hu : Ints w vu u) (hv : Ints w vv v) (ha : Ints w va al) (hst : t.length = s.length) (huv : v.length = u.length) (hall : ∀ x ∈ al, x ∈ s ∨ x ∈ u) (hal : al.length < 100000) :
    Calls Tryz.prog 29 #[vs, vt, vu, vv, va] w fun e w' => ∃ x, e = .returned x ∧ Ints w' x (al.map (bothF s u t v)) ∧ New w.heap.size w' x ∧ Below w.heap.size w w' := by
  obtain ⟨a, ca, rfl, hla, hca⟩ := hs.form
  obtain ⟨b, cb, rfl, hlb, hcb⟩ := ht.form
  obtain ⟨c, cc, rfl, hlc, hcc⟩ := hu.form
  obtain ⟨d, cd, rfl, hld, hcd⟩ := hv.form
  obtain ⟨g, cg, rfl, hlg, hcg⟩ := ha.form
  unfold maxLen at hca hcb hcc hcd hcg
  have HPs := hide (fun W (hb : Below w.heap.size w W) n => refPlace_any (n := n) (hs.below hb))
  have HPu := hide (fun W (hb : Below w.heap.size w W) n => refPlace_any (n := n) (hu.below hb))
  have HT := hide (fun W (hb : Below w.heap.size w W) => ht.below hb)
  have HV := hide (fun W (hb : Below w.heap.size w W) => hv.below hb)
  have HA := hide (fun W (hb : Below w.heap.size w W) => ha.below hb)
  have hst1 : s.length ≤ t.length := by omega
  have huv1 : u.length ≤ v.length := by omega
  have HAL := hide hall
  have hown0 := own_litI (B := w.heap.size) (Nat.le_refl w.heap.size)
  have HO0 := hide hown0
  clear hs ht hu hv ha hst huv hall hown0
  go_enter Tryz.func29, Tryz.ntmps29
  go_wp2
  go_loopw [11, 12, 13] (fun ov i _ wr => ∃ k : Nat, k ≤ al.length ∧ i = .int .i64 k ∧ OwnI w.heap.size wr ov ((al.take k).map (bothF s u t v)) ∧ Below w.heap.size w wr) (fun _ i _ _ => al.length - (intOf i).toNat)
  case atStart => exact ⟨0, by omega, rfl, unhide HO0, (Below.refl _ _).alloc (Nat.le_refl _) _⟩
  case round =>
    clear HO0
    obtain ⟨k, hk, rfl, hown, hbel⟩ := hrel
    rename World => wr
    have hzw := hbel.size
    by_cases hlt : k < al.length
    · obtain ⟨bg, og, rfl, hcg'⟩ := (unhide HA wr hbel).at hlt
      have HPS := hide (unhide HPs wr hbel al[k])
      have HPU := hide (unhide HPu wr hbel al[k])
      have hlen : ((al.take k).map (bothF s u t v)).length ≤ k := by rw [List.length_map]; exact List.length_take_le _ _
      have HNX : Hid ((al.take (k + 1)).map (bothF s u t v) = (al.take k).map (bothF s u t v) ++ [bothF s u t v al[k]]) := hide (by rw [List.take_succ_eq_append_getElem hlt, List.map_append]; rfl)
      generalize (al.take k).map (bothF s u t v) = L at *
      have HBE := hide hbel
      rcases placeL_cases s al[k] with ⟨hp, hnm⟩ | ⟨j, hj, hp, hju, _⟩
      · have hmu := (unhide HAL al[k] (List.getElem_mem _)).resolve_left hnm
        obtain ⟨j, hj, hp2, hju⟩ := place_mem hmu
        rw [hp] at HPS
        rw [hp2] at HPU
        have hjv : j < v.length := by omega
        obtain ⟨bv, ov, rfl, hcv⟩ := (unhide HV wr hbel).at hjv
        have hval : bothF s u t v al[k] = v[j] := by unfold bothF; rw [if_neg hnm]; unfold getR; rw [hp2]; simp [hjv]
        rw [hval] at HNX
        have HOW := hide hown
        clear hp hnm hmu hp2 hju hval hbel hown
        go_wp2_with fail
        refine (unhide HPS).mono ?_
        rintro e w' ⟨rfl, rfl⟩
        go_wp2_with fail
        refine (unhide HPU).mono ?_
        rintro e w' ⟨rfl, rfl⟩
        go_wp2_with (at_builtin; refine wp_app_int rfl (.tmp 36) (.tmp 46) rfl (unhide HOW) rfl hzw rfl (by omega) ?_; intro v' w3 hown4 hgrew)
        go_roundw
        case rel => exact ⟨k + 1, by omega, by go_num, by rw [unhide HNX]; exact hown4, (unhide HBE).trans hgrew.below⟩
        case measure => simp [intOf]; omega
      · rw [hp] at HPS
        have hjt : j < t.length := by omega
        obtain ⟨bt, ot, rfl, hct⟩ := (unhide HT wr hbel).at hjt
        have hval : bothF s u t v al[k] = t[j] := by unfold bothF; rw [if_pos (by rw [← hju]; exact List.getElem_mem _)]; unfold getR; rw [hp]; simp [hjt]
        rw [hval] at HNX
        have HOW := hide hown
        clear hp hju hval hbel hown
        go_wp2_with fail
        refine (unhide HPS).mono ?_
        rintro e w' ⟨rfl, rfl⟩
        go_wp2_with (at_builtin; refine wp_app_int rfl (.tmp 29) (.tmp 34) rfl (unhide HOW) rfl hzw rfl (by omega) ?_; intro v' w3 hown4 hgrew)
        go_roundw
        case rel => exact ⟨k + 1, by omega, by go_num, by rw [unhide HNX]; exact hown4, (unhide HBE).trans hgrew.below⟩
        case measure => simp [intOf]; omega
    · have hkl : k = al.length := by omega
      rw [hkl, List.take_length] at hown
      have HOW := hide hown
      clear hown
      go_wp2
      go_ret
      exact ⟨_, rfl, Seq.of_own (unhide HOW), New.of_own (unhide HOW), hbel⟩

end Go.Proofs.YtoiokplgkanepaaGreatDoor
