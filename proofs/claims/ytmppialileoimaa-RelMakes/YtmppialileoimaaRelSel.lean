/-
  The contracts of Select, and of the document's Select.
-/
import Derived.Test.YtmppialileoimaaRelVals
namespace Go.Proofs.Ytmppialileoimaa
open Go.RowKit
set_option linter.unusedVariables false
set_option linter.unusedSimpArgs false
set_option maxRecDepth 20000

/-- Has the row this value at place p? (All have, if p is none.) -/
def selB (p x : Int) (t : List Int) : Bool := decide (p < 0) || decide (pickL t [p] = [x])
def selL (s : List Int) (ll : List (List Int)) (v x : Int) : List (List Int) := ll.filter (selB (placeL s v) x)

theorem filter_snoc {α : Type} {l : List α} {f : α → Bool} {k : Nat} (hk : k < l.length) : (l.take (k + 1)).filter f = (l.take k).filter f ++ if f l[k] then [l[k]] else [] := by
  rw [List.take_succ_eq_append_getElem hk, List.filter_append]
  by_cases h : f l[k] <;> simp [List.filter_cons, h]

theorem sortL_asc {ll : List (List Int)} (h : AscL ll) : sortL ll = ll := AscL.ext (sortL_spec ll).1 h (sortL_spec ll).2

set_option maxHeartbeats 4000000 in
theorem select_any {s : List Int} {ll : List (List Int)} {x y : Int} {v : Value} {w : World} (h : RelV w v s ll) (has : AscL ll) (hl : ll.length < 100000) (hsl : s.length < 100000000) (hrw : ∀ t ∈ ll, t.length < 100000000) :
    Calls Try.prog 21 #[v, .int .i64 x, .int .i64 y] w fun e w' => ∃ u, e = .returned u ∧ RelV w' u s (selL s ll x y) ∧ Below w.heap.size w w' := by
  obtain ⟨a, ca, b, cb, rfl, k1, k2, k3, k4, hs, ht⟩ := h.form
  unfold maxLen at k2 k4
  have hb0 := b2x w (.cells #[.slice a s.length ca, .slice b ll.length cb] 25) (.cells #[.slice none 0 0, .slice none 0 0] 25)
  have hz0 : w.heap.size ≤ ((w.alloc (.cells #[.slice a s.length ca, .slice b ll.length cb] 25)).alloc (.cells #[.slice none 0 0, .slice none 0 0] 25)).heap.size := by simp; omega
  have HI := hide (index_any (n := x) (hs.below hb0))
  have hpr := placeL_range s x
  have HV := hide (show selL s ll x y = ll.filter (selB (placeL s x) y) from rfl)
  have ht0 := ht.below hb0
  have hs0 := hs.below hb0
  have HRW := hide hrw
  have HAS := hide has
  generalize selL s ll x y = V at HV
  generalize placeL s x = p at HI hpr HV
  obtain ⟨W0, hW0⟩ : ∃ W, W = (w.alloc (.cells #[.slice a s.length ca, .slice b ll.length cb] 25)).alloc (.cells #[.slice none 0 0, .slice none 0 0] 25) := ⟨_, rfl⟩
  have HB := hide (fun W (hb : Below W0.heap.size W0 W) => box2 (w := w) (W := W) (a := a) (n := s.length) (c := ca) (a' := b) (n' := ll.length) (c' := cb) (b := none) (m := 0) (d := 0) (b' := none) (m' := 0) (d' := 0) (t := 25) (t' := 25) (by rw [← hW0]; exact hb))
  rw [← hW0] at ht0 hs0 hz0 hb0
  have HW0 := hide hW0
  have hzz : W0.heap.size = w.heap.size + 2 := by rw [hW0]; simp
  have HZZ := hide hzz
  clear h hs ht has hrw hzz
  go_enter Try.func21, Try.ntmps21
  go_wp2_with (go_at_call 48; refine (unhide HI).mono ?_; rintro e w1 ⟨rfl, rfl⟩)
  rw [← unhide HW0]
  clear hW0
  go_loopw [8, 10, 19] (fun v _ i wr => ∃ k : Nat, k ≤ ll.length ∧ i = .int .i64 k ∧ OwnT W0.heap.size wr v ((ll.take k).filter (selB p y)) ∧ Below W0.heap.size W0 wr) (fun _ _ i _ => ll.length - (intOf i).toNat)
  case atStart => exact ⟨0, by omega, rfl, by have := OwnT.lit (w := W0) (Nat.le_refl W0.heap.size); rw [unhide HZZ] at this ⊢; simpa using this, (Below.refl _ _).alloc (Nat.le_refl _) _⟩
  case round =>
    obtain ⟨k, hk, rfl, hown, hbel⟩ := hrel
    have hz := hbel.size
    have hil : ((ll.take k).filter (selB p y)).length ≤ k := Nat.le_trans (List.length_filter_le _ _) (List.length_take_le _ _)
    by_cases hkl : k < ll.length
    · obtain ⟨bl, ol, ul, rfl, hcl, hiL⟩ := (ht0.below hbel).at hkl
      obtain ⟨_, _, ul0, hul, hcl0, hiL0⟩ := ht0.at hkl
      have hulr : ul0 = ul := by
        cases hul
        have := Below.cell_of hbel hcl0
        rw [hcl] at this; cases this; rfl
      subst hulr
      obtain ⟨ia, ic, rfl, _, _⟩ := hiL.form
      have HN := hide (filter_snoc (f := selB p y) hkl)
      have HSB := hide (show selB p y ll[k] = (decide (p < 0) || decide (pickL ll[k] [p] = [y])) from rfl)
      have hap := hide (fun v (hv : New W0.heap.size wr v) => hiL0.apart hv (Nat.le_refl _))
      generalize selB p y ll[k] = q at HN HSB
      clear ht0 hs0 hcl0 hiL0 hul
      by_cases hp0 : p < 0
      · have hq : q = true := by rw [unhide HSB]; simp [hp0]
        subst hq
        have HN2 := hide (by simpa using unhide HN)
        go_wp2_with (at_builtin; refine wp_app_tup rfl (.tmp 39) (.tmp 41) rfl hown hiL (unhide hap _ hown.new) rfl hz rfl (by omega) ?_; intro v' w4 hown4 hgrew)
        go_roundw
        case rel => exact ⟨k + 1, by omega, by go_num, by rw [unhide HN2]; exact hown4, hbel.trans hgrew.below⟩
        case measure => simp [intOf]; omega
      · obtain ⟨m, hm⟩ := Int.eq_ofNat_of_zero_le (Int.not_lt.1 hp0)
        subst hm
        by_cases hmt : m < ll[k].length
        · obtain ⟨bt, ot, rfl, hct⟩ := hiL.at hmt
          rw [pick_one_at hmt] at HSB
          by_cases hy : ll[k][m] = y
          · have hq : q = true := by rw [unhide HSB]; simp [hy]
            subst hq
            have hy1 : (ll[k][m] == y) = true := by simp [hy]
            have HN2 := hide (by simpa using unhide HN)
            clear hy HSB hp0
            go_wp2_with (at_builtin; refine wp_app_tup rfl (.tmp 39) (.tmp 41) rfl hown hiL (unhide hap _ hown.new) rfl hz rfl (by omega) ?_; intro v' w4 hown4 hgrew)
            go_roundw
            case rel => exact ⟨k + 1, by omega, by go_num, by rw [unhide HN2]; exact hown4, hbel.trans hgrew.below⟩
            case measure => simp [intOf]; omega
          · have hq : q = false := by rw [unhide HSB]; simp [hy]
            subst hq
            have hy1 : (ll[k][m] == y) = false := by simp [hy]
            have HN2 := hide (by simpa using unhide HN)
            clear hy HSB hp0 hiL
            go_wp2
            go_roundw
            case rel => exact ⟨k + 1, by omega, by go_num, by rw [unhide HN2]; exact hown, hbel⟩
            case measure => simp [intOf]; omega
        · have hq : q = false := by rw [unhide HSB, pick_one_no (by omega)]; simp
          subst hq
          have HN2 := hide (by simpa using unhide HN)
          have hmt' : ¬ (m : Int) < ll[k].length := by omega
          clear HSB hp0 hiL
          go_wp2
          go_roundw
          case rel => exact ⟨k + 1, by omega, by go_num, by rw [unhide HN2]; exact hown, hbel⟩
          case measure => simp [intOf]; omega
    · have hkk : k = ll.length := by omega
      subst hkk
      rw [List.take_length] at hown hil
      have HSRT := hide (fun W (hb : Below wr.heap.size wr W) => sort_any (hown.tups.below hb) (by omega) (fun t ht => unhide HRW t (List.mem_filter.1 ht).1))
      have HSA := hide (sortL_asc (List.Pairwise.filter (selB p y) (unhide HAS)))
      rw [unhide HSA, ← unhide HV] at HSRT
      have HCL := hide (cloneI_any (hs0.below hbel) hsl)
      obtain ⟨ra, rc, hre, _, _⟩ := hown.tups.form
      rw [hre] at HSRT ⊢
      obtain ⟨⟨hc0, hc1⟩, _, _, _⟩ := unhide HB _ hbel
      have hbw := hb0.trans (hbel.mono hz0)
      have hwz : w.heap.size + 1 < wr.heap.size := by have := unhide HZZ; omega
      clear ht0 hs0 hown hre
      go_wp2_with fail
      refine (unhide HCL).mono ?_
      rintro e w2 ⟨u2, rfl, hu2, hb2⟩
      have hi2 := Seq.of_own hu2
      obtain ⟨ua, uc, hue, _, _⟩ := hi2.form
      rw [hue] at hi2 ⊢
      clear HCL hue hu2
      go_wp2_with fail
      refine (unhide HSRT _ hb2).mono ?_
      rintro e w3 ⟨u3, rfl, hu3, hun3, hb3⟩
      obtain ⟨va, vc, hve, _, _⟩ := hu3.form
      rw [hve] at hu3 hun3 ⊢
      have hb3' := below_then (below_then hbel hb2) hb3
      obtain ⟨_, ⟨hd0, hd1⟩, ⟨hg0, hg1⟩, hbx⟩ := unhide HB _ hb3'
      have hi3 := hi2.below hb3
      have hbl := hb0.trans (hb3'.mono hz0)
      have hz2 := hb2.size
      clear HSRT hve hc0 hc1
      go_wp2
      have hfin := rel_store hbx hd0 hi3 hu3 (hun3.ne (by omega))
      refine bodyPost_ret (v := .agg #[.slice ua s.length uc, .slice va V.length vc]) (by simp [results, Try.results21, go_sem, hd0, hd1]) rfl ⟨_, rfl, hfin, below_store hbl (by omega) _ _⟩

end Go.Proofs.Ytmppialileoimaa
