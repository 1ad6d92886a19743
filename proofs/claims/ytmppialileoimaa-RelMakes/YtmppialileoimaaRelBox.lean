/-
  A relation's box: the block that a variable of type api.Rel has; the contract of the document's Select.
-/
import Derived.Test.YtmppialileoimaaRelSel
import Derived.Deep.RegionLaw
import Derived.BigRegion
namespace Go.Proofs.Ytmppialileoimaa
open Go.RowKit
set_option linter.unusedVariables false
set_option linter.unusedSimpArgs false
set_option maxRecDepth 20000

def Box (w : World) (b : Nat) (x y : Value) : Prop := w.heap[b]? = some (.cells #[x, y] 25 (0, 0))

theorem Box.lt {w : World} {b : Nat} {x y : Value} (h : Box w b x y) : b < w.heap.size := by
  rcases Nat.lt_or_ge b w.heap.size with hl | hl
  · exact hl
  · unfold Box at h; rw [Array.getElem?_eq_none hl] at h; cases h
theorem Box.cell0 {w : World} {b : Nat} {x y : Value} (h : Box w b x y) : w.cell? ⟨b, 0, none⟩ = some x := by unfold Box at h; simp only [World.cell?, h]; simp
theorem Box.cell1 {w : World} {b : Nat} {x y : Value} (h : Box w b x y) : w.cell? ⟨b, 1, none⟩ = some y := by unfold Box at h; simp only [World.cell?, h]; simp
theorem Box.frozen {w : World} {b : Nat} {x y : Value} (h : Box w b x y) (i : Nat) : w.frozen? ⟨b, i, none⟩ = false := frozen_of_row w b i _ _ h
theorem Box.boxS {w : World} {b : Nat} {a a' : Option Addr} {n n' c c' : Nat} (h : Box w b (.slice a n c) (.slice a' n' c')) : BoxS w b := by
  intro off u hu
  unfold Box at h
  simp only [World.cell?, h] at hu
  match off, hu with
  | 0, hu => simp at hu; exact ⟨_, _, _, hu.symm⟩
  | 1, hu => simp at hu; exact ⟨_, _, _, hu.symm⟩
  | off + 2, hu => simp at hu
theorem Box.new (w : World) (x y : Value) : Box (w.alloc (.cells #[x, y] 25)) w.heap.size x y := heap_alloc_new w _
theorem Box.below {w w' : World} {b B : Nat} {x y : Value} (h : Box w b x y) (hb : Below B w w') (hB : b < B) : Box w' b x y := by
  unfold Box at *; rw [hb.block b hB]; exact h
theorem Box.belowH {w w' : World} {b : Nat} {x y : Value} (h : Box w b x y) (hb : Below w.heap.size w w') : Box w' b x y := h.below hb h.lt
theorem Box.push {w : World} {b : Nat} {x y : Value} (h : Box w b x y) (o : Obj) : Box (w.alloc o) b x y := h.belowH ((Below.refl _ _).alloc (Nat.le_refl _) o)
theorem Box.grew {w w' : World} {b B : Nat} {x y v v' : Value} (h : Box w b x y) (g : Grew B w w' v v') (hne : v.ownBlock ≠ some b) : Box w' b x y := by
  have hl := h.lt
  unfold Box at *
  rw [g.by_.block b hl (fun e => hne e.symm)]; exact h
theorem Box.set1 {w : World} {b : Nat} {x y : Value} (h : Box w b x y) (z : Value) : Box (w.setCell ⟨b, 1, none⟩ z) b x z := by
  unfold Box at *
  rw [heap_setCell_same w b 1 _ _ z h]; simp

theorem OwnT.sl {B : Nat} {w : World} {v : Value} {ll : List (List Int)} (h : OwnT B w v ll) : ∃ a n c, v = .slice a n c := by
  obtain ⟨a, c, rfl, _, _⟩ := h.tups.form
  exact ⟨_, _, _, rfl⟩

theorem OwnT.setBox {B : Nat} {w : World} {v : Value} {ll : List (List Int)} (h : OwnT B w v ll) {b : Nat} (hb : BoxS w b) (hne : v.ownBlock ≠ some b) (i : Nat) (y : Value) : OwnT B (w.setCell ⟨b, i, none⟩ y) v ll := by
  obtain ⟨vs, h1, h2, h3⟩ := h
  exact ⟨vs, ownsRow_setCell_other h1 hne y, h2, fun j hj hj' => ⟨(h3 j hj hj').1.setBox hb _ y, (h3 j hj hj').2⟩⟩

set_option maxHeartbeats 4000000 in
theorem refSelect_any {s : List Int} {ll : List (List Int)} {x y : Int} {v : Value} {w : World} (h : RelV w v s ll) (hwd : ∀ t ∈ ll, t.length = s.length) (hl : ll.length < 100000) (hsl : s.length < 100000000) :
    Calls Try.prog 24 #[v, .int .i64 x, .int .i64 y] w fun e w' => ∃ u, e = .returned u ∧ RelV w' u s (selL s ll x y) ∧ Below w.heap.size w w' := by
  obtain ⟨a, ca, b, cb, rfl, k1, k2, k3, k4, hs, ht⟩ := h.form
  unfold maxLen at k2 k4
  have hb0 := b2x w (.cells #[.slice a s.length ca, .slice b ll.length cb] 25) (.cells #[.slice none 0 0, .slice none 0 0] 25)
  have hz0 : w.heap.size ≤ ((w.alloc (.cells #[.slice a s.length ca, .slice b ll.length cb] 25)).alloc (.cells #[.slice none 0 0, .slice none 0 0] 25)).heap.size := by simp; omega
  have HI := hide (refPlace_any (n := x) (hs.below hb0))
  have HCP := hide (refCopy_any (hs.below hb0) (by omega))
  have hpr := placeL_range s x
  have HV := hide (show selL s ll x y = ll.filter (selB (placeL s x) y) from rfl)
  have HWD := hide hwd
  have hbx0 : Box ((w.alloc (.cells #[.slice a s.length ca, .slice b ll.length cb] 25)).alloc (.cells #[.slice none 0 0, .slice none 0 0] 25)) w.heap.size (.slice a s.length ca) (.slice b ll.length cb) := (Box.new w _ _).push _
  have hbx1 : Box ((w.alloc (.cells #[.slice a s.length ca, .slice b ll.length cb] 25)).alloc (.cells #[.slice none 0 0, .slice none 0 0] 25)) (w.heap.size + 1) (.slice none 0 0) (.slice none 0 0) := by have := Box.new (w.alloc (.cells #[.slice a s.length ca, .slice b ll.length cb] 25)) (.slice none 0 0) (.slice none 0 0); simpa using this
  generalize selL s ll x y = V at HV
  generalize placeL s x = p at HI hpr HV
  clear h hs hwd
  go_enter Try.func24, Try.ntmps24
  go_wp2_with (go_at_call 51; refine (unhide HI).mono ?_; rintro e w1 ⟨rfl, rfl⟩)
  refine (unhide HCP).mono ?_
  rintro e w1 ⟨u1, rfl, hu1, _, hb1⟩
  obtain ⟨ua, uc, hue, _, _⟩ := hu1.form
  rw [hue] at hu1 ⊢
  replace hbx0 := hbx0.belowH hb1
  replace hbx1 := hbx1.belowH hb1
  have hbw := hb0.trans (hb1.mono hz0)
  have ht1 := ht.below hbw
  have hbx2 := Box.new w1 (.slice ua s.length uc) (.slice none 0 0)
  have hc1 := (hbx0.push (.cells #[.slice ua s.length uc, .slice none 0 0] 25)).cell1
  have hwz : w.heap.size + 1 < w1.heap.size := hbx1.lt
  clear HI HCP hue ht hb1
  go_wp2
  go_loopw [9] (fun i wr => ∃ (k : Nat) (v : Value), k ≤ ll.length ∧ i = .int .i64 k ∧ Box wr w1.heap.size (.slice ua s.length uc) v ∧ OwnT (w1.heap.size + 1) wr v ((ll.take k).filter (selB p y)) ∧ Below w1.heap.size w1 wr) (fun i _ => ll.length - (intOf i).toNat)
  case atStart => exact ⟨0, _, by omega, rfl, hbx2, OwnT.nil _ _, (Below.refl _ _).alloc (Nat.le_refl _) _⟩
  case round =>
    obtain ⟨k, vo, hk, rfl, hbo, hown, hbel⟩ := hrel
    clear hbx2 hc1
    have hz := hbel.size
    have hz1 := hbo.lt
    have hil : ((ll.take k).filter (selB p y)).length ≤ k := Nat.le_trans (List.length_filter_le _ _) (List.length_take_le _ _)
    obtain ⟨oa, oc, hoe, _, _⟩ := hown.tups.form
    have hne : vo.ownBlock ≠ some w1.heap.size := fun e => by have := hown.new _ e; omega
    rw [hoe] at hbo hown hne
    have hcb := (hbx0.belowH hbel).cell1
    have hco0 := hbo.cell0
    have hco1 := hbo.cell1
    by_cases hkl : k < ll.length
    · obtain ⟨bl, ol, ul, rfl, hcl, hiL⟩ := (ht1.below hbel).at hkl
      obtain ⟨ia, ic, rfl, _, _⟩ := hiL.form
      have HN := hide (filter_snoc (f := selB p y) hkl)
      have HSB := hide (show selB p y ll[k] = (decide (p < 0) || decide (pickL ll[k] [p] = [y])) from rfl)
      have hwk := unhide HWD _ (List.getElem_mem hkl)
      have HCP := hide (fun W (hb : Below wr.heap.size wr W) => refCopy_any (w := W) (hiL.below hb) (by omega))
      have hbR := Below.refl wr.heap.size wr
      have HRD := hide (fun m (hm : m < ll[k].length) => hiL.at hm)
      generalize selB p y ll[k] = q at HN HSB
      have hkq : Hid ((q = true ∧ (p < 0 ∨ ∃ m : Nat, p = m ∧ ∃ h : m < ll[k].length, ll[k][m] = y)) ∨ (q = false ∧ ∃ m : Nat, p = m ∧ ∃ h : m < ll[k].length, ll[k][m] ≠ y)) := hide (by
        by_cases hp0 : p < 0
        · exact .inl ⟨by rw [unhide HSB]; simp [hp0], .inl hp0⟩
        · obtain ⟨m, rfl⟩ := Int.eq_ofNat_of_zero_le (Int.not_lt.1 hp0)
          have hmt : m < ll[k].length := by omega
          have hs := unhide HSB
          rw [pick_one_at hmt] at hs
          by_cases hy : ll[k][m] = y
          · exact .inl ⟨by rw [hs]; simp [hy], .inr ⟨m, rfl, hmt, hy⟩⟩
          · exact .inr ⟨by rw [hs]; simp [hy], m, rfl, hmt, hy⟩)
      have hq := unhide hkq
      clear hwk ht1 hiL HSB hkq hoe
      rcases hq with ⟨rfl, hq⟩ | ⟨rfl, m, rfl, hmt, hy⟩
      · have HN2 := hide (by simpa using unhide HN)
        rcases hq with hp0 | ⟨m, rfl, hmt, hy⟩
        · go_wp2
          go_region_law ((first | (refine step_of rfl ?_; go_simp; go_at_call 52; refine (unhide HCP _ (by first | exact hbR | exact below_same rfl rfl rfl rfl)).mono ?_; rintro e w2 ⟨u2, rfl, hu2, hun2, hb2'⟩; obtain ⟨va, vc, hve, _, _⟩ := hu2.form; rw [hve] at hu2 hun2 ⊢; clear hve; have hb2 : Below wr.heap.size wr w2 := below_then (by first | exact hbR | exact below_same rfl rfl rfl rfl) hb2'; have hcx := (hbo.belowH hb2).cell1; have hcy := cell_push hcx; clear hb2') | (refine step_of rfl (op_app_tup (.tmp 40) (.tmp 47) rfl (hown.below hb2) hu2 (fun _ => (Sep.of_new hown.new (Nat.le_refl _) hun2).symm) rfl (Nat.le_trans hz1 hb2.size) rfl (by omega) ?_); intro v' w4 hown4 hgrew; obtain ⟨na, nn, nc, hne4⟩ := hown4.sl; rw [hne4] at hown4 hgrew ⊢; clear hne4; have hbo4 := (hbo.belowH hb2).grew hgrew hne; have hq0 := hbo4.cell1; have hq1 := hbo4.frozen 1; have hn4 := hown4.new.ne (b := w1.heap.size) (by omega))))
          all_goals
            go_wp2
            go_roundw
            case rel => exact ⟨k + 1, _, by omega, by go_num, hbo4.set1 _, by rw [unhide HN2]; exact hown4.setBox hbo4.boxS hn4 _ _, ((hbel.trans (hb2.mono hz)).trans (hgrew.below.mono (by omega))).setCell (Nat.le_refl _) _⟩
            case measure => simp [intOf]; omega
        · have hct := hide (unhide HRD m hmt)
          obtain ⟨bt, ot, hia, hct⟩ := unhide hct
          subst hia
          have hy1 : (ll[k][m] == y) = true := by simp [hy]
          clear hy
          go_wp2
          go_region_law ((first | (refine step_of rfl ?_; go_simp; go_at_call 52; refine (unhide HCP _ (by first | exact hbR | exact below_same rfl rfl rfl rfl)).mono ?_; rintro e w2 ⟨u2, rfl, hu2, hun2, hb2'⟩; obtain ⟨va, vc, hve, _, _⟩ := hu2.form; rw [hve] at hu2 hun2 ⊢; clear hve; have hb2 : Below wr.heap.size wr w2 := below_then (by first | exact hbR | exact below_same rfl rfl rfl rfl) hb2'; have hcx := (hbo.belowH hb2).cell1; have hcy := cell_push hcx; clear hb2') | (refine step_of rfl (op_app_tup (.tmp 40) (.tmp 47) rfl (hown.below hb2) hu2 (fun _ => (Sep.of_new hown.new (Nat.le_refl _) hun2).symm) rfl (Nat.le_trans hz1 hb2.size) rfl (by omega) ?_); intro v' w4 hown4 hgrew; obtain ⟨na, nn, nc, hne4⟩ := hown4.sl; rw [hne4] at hown4 hgrew ⊢; clear hne4; have hbo4 := (hbo.belowH hb2).grew hgrew hne; have hq0 := hbo4.cell1; have hq1 := hbo4.frozen 1; have hn4 := hown4.new.ne (b := w1.heap.size) (by omega))))
          all_goals
            go_wp2
            go_roundw
            case rel => exact ⟨k + 1, _, by omega, by go_num, hbo4.set1 _, by rw [unhide HN2]; exact hown4.setBox hbo4.boxS hn4 _ _, ((hbel.trans (hb2.mono hz)).trans (hgrew.below.mono (by omega))).setCell (Nat.le_refl _) _⟩
            case measure => simp [intOf]; omega
      · have HN2 := hide (by simpa using unhide HN)
        obtain ⟨bt, ot, hia, hct⟩ := unhide HRD m hmt
        subst hia
        have hy1 : (ll[k][m] == y) = false := by simp [hy]
        clear hy
        go_wp2
        go_roundw
        case rel => exact ⟨k + 1, _, by omega, by go_num, hbo, by rw [unhide HN2]; exact hown, hbel⟩
        case measure => simp [intOf]; omega
    · have hkk : k = ll.length := by omega
      subst hkk
      have hF : (ll.take ll.length).filter (selB p y) = V := by rw [List.take_length, ← unhide HV]
      rw [hF] at hown hbo hco1 hil hne
      have htf := hown.tups
      have hbo1 := hbx1.belowH hbel
      have hd0 := hbo1.cell0
      have hd1 := hbo1.cell1
      have hg0 := hbo1.frozen 0
      have hg1 := hbo1.frozen 1
      have hbs := hbo1.boxS
      have hu3 := hu1.below hbel
      have hnf : (Value.slice oa V.length oc).ownBlock ≠ some (w.heap.size + 1) := fun e => by have := hown.new _ e; omega
      have hbl := hbw.trans (hbel.mono (by omega))
      clear ht1 hown hF hoe
      go_wp2
      have hfin := rel_store hbs hd0 hu3 htf hnf
      refine bodyPost_ret (v := .agg #[.slice ua s.length uc, .slice oa V.length oc]) (by simp [results, Try.results24, go_sem, hd0, hd1]) rfl ⟨_, rfl, hfin, below_store hbl (by omega) _ _⟩

end Go.Proofs.Ytmppialileoimaa
