/-
  The contracts of Times, Plus, Sum, Min, Of (weights int64); plain mathematics of weights.
-/
import Derived.Test.YtafpecdmaogohaaGreatWghCombI
import Derived.Test.YtafpecdmaogohaaGreatWghOne
import Derived.Deep.RegionLaw
import Derived.BigRegion
namespace Go.Proofs.YtafpecdmaogohaaGreat
open Go.RowKit
set_option linter.unusedVariables false
set_option linter.unusedSimpArgs false
set_option maxRecDepth 20000

theorem wOf_in {ll : List (List Int)} {ws : List Int} {t : List Int} {P : Int → Prop} (h0 : P 0) (h : ∀ x ∈ ws, P x) : P (wOfI ll ws t) := by
  unfold wOfI
  rw [List.getD_eq_getElem?_getD]
  by_cases hl : lowN ll t < ws.length
  · rw [List.getElem?_eq_getElem hl]; exact h _ (List.getElem_mem hl)
  · rw [List.getElem?_eq_none (by omega)]; exact h0

def mulF (x y : Int) : Int × Bool := (wrap64 (x * y), fitB64 (x * y))
def addF (x y : Int) : Int × Bool := (wrap64 (x + y), fitB64 (x + y))

theorem mul_fits {x y : Int} (h : (mulF x y).2 = true) : (mulF x y).1 = x * y := wrap64_id (fitB64_iff.1 h).i64
theorem add_fits {x y : Int} (h : (addF x y).2 = true) : (addF x y).1 = x + y := wrap64_id (fitB64_iff.1 h).i64

set_option maxHeartbeats 8000000 in
theorem timesI_any {s u : List Int} {la lb : List (List Int)} {wa wb : List Int} {n m : Nat} {v v' : Value} {most : Int} {w : World} (h : WVI w v s la wa) (h' : WVI w v' u lb wb) (g : Fine s la n) (g' : Fine u lb m) (hn : n < 100000) (hm : m < 100000) (hnm : n * m < 100000)
    (hfa : ∀ x ∈ wa, Fits x) (hfb : ∀ x ∈ wb, Fits x) :
    Calls Tryz.prog 12 #[v, v', .int .i64 most] w fun e w' => CombEndsI w.heap.size w' e (joinL s u) (joinR s la u lb) (combLI mulF s la wa u lb wb) (pairR s la u lb).length most ∧ Below w.heap.size w w' := by
  obtain ⟨a, ca, b, cb, d, cd, rfl, k1, k2, k3, k4, hs1, ht1, hw1⟩ := h.form
  obtain ⟨a', ca', b', cb', d', cd', rfl, k1', k2', k3', k4', hs2, ht2, hw2⟩ := h'.form
  obtain ⟨W0, hW0⟩ : ∃ W, W = ((w.alloc (.cells #[.slice a s.length ca, .slice b la.length cb, .slice d wa.length cd] 35)).alloc (.cells #[.slice a' u.length ca', .slice b' lb.length cb', .slice d' wb.length cd'] 35)).alloc (.cells #[.slice none 0 0, .slice none 0 0, .slice none 0 0] 35) := ⟨_, rfl⟩
  have hb0 : Below w.heap.size w W0 := by rw [hW0]; exact (b2x w _ _).alloc (by simp; omega) _
  have x2 : BoxWI W0 (w.heap.size + 1 + 1) (.slice none 0 0) (.slice none 0 0) (.slice none 0 0) := by
    rw [hW0]; have := BoxWI.new ((w.alloc (.cells #[.slice a s.length ca, .slice b la.length cb, .slice d wa.length cd] 35)).alloc (.cells #[.slice a' u.length ca', .slice b' lb.length cb', .slice d' wb.length cd'] 35)) (.slice none 0 0) (.slice none 0 0) (.slice none 0 0); simpa using this
  have HC := hide (combineI_any (most := most) (F := 25) (f := mulF) (h.below hb0) (h'.below hb0) g g' hn hm hnm (fun t t' W => (product_any (wOf_in (P := Fits) (by unfold Fits; omega) hfa).i64 (wOf_in (P := Fits) (by unfold Fits; omega) hfb).i64).mono fun e w' ⟨he, hw⟩ => ⟨he, by rw [hw]; exact Below.refl _ _⟩) ⟨_, _, Tryz.func25, by kernel_rfl, rfl⟩)
  have HW0 := hide hW0
  have hzw := hb0.size
  have HL2 := hide x2.lt
  generalize combLI mulF s la wa u lb wb = K at *
  generalize joinR s la u lb = JR at *
  generalize joinL s u = J at *
  generalize (pairR s la u lb).length = cnt at *
  clear h h' hW0 hs1 ht1 hw1 hs2 ht2 hw2 g g'
  go_enter Tryz.func12, Tryz.ntmps12
  go_wp2_with fail
  rw [← unhide HW0]
  refine (unhide HC).mono ?_
  rintro e w1 ⟨hends, hb1⟩
  replace x2 := x2.belowH hb1
  have hbel1 := hb0.trans (hb1.mono hzw)
  have hd0 := x2.cell0
  have hd1 := x2.cell1
  have hd2 := x2.cell2
  have hg0 := x2.frozen 0
  have hg1 := x2.frozen 1
  have hg2 := x2.frozen 2
  have hl2 := x2.lt
  clear HC
  rcases hends with ⟨h1, rfl⟩ | ⟨h1, h2, rfl⟩ | ⟨h1, h2, x, y, z, rfl, hr, hyn⟩
  · go_wp2
    refine bodyPost_ret (v := .tuple #[.agg #[.slice none 0 0, .slice none 0 0, .slice none 0 0], .int .i64 9]) (by simp [results, Tryz.results12, go_sem, hd0, hd1, hd2]) rfl ⟨.inl ⟨h1, rfl⟩, ?_⟩
    first | exact hbel1 | exact below_store3 hbel1 (by omega) _ _ _
  · have H2 := hide h2
    clear h2
    go_wp2
    refine bodyPost_ret (v := .tuple #[.agg #[.slice none 0 0, .slice none 0 0, .slice none 0 0], .int .i64 11]) (by simp [results, Tryz.results12, go_sem, hd0, hd1, hd2]) rfl ⟨.inr (.inl ⟨h1, unhide H2, rfl⟩), ?_⟩
    first | exact hbel1 | exact below_store3 hbel1 (by omega) _ _ _
  · have H2 := hide h2
    have HY := hide hyn
    obtain ⟨xa, xn, xc, xb, xm, xd, xe, xk, xf, hxe⟩ := hr.sl
    cases hxe
    have HR := hide hr
    clear h2 hyn hr
    go_wp2
    have hfin := wv_storeI x2.boxS x2 (unhide HR) (unhide HY _ (unhide HL2))
    refine bodyPost_ret (v := .tuple #[.agg #[.slice xa xn xc, .slice xb xm xd, .slice xe xk xf], .int .i64 0]) (by simp [results, Tryz.results12, go_sem, hd0, hd1, hd2]) rfl ⟨.inr (.inr ⟨h1, unhide H2, _, _, _, rfl, hfin, fun b hb => unhide HY b (by omega)⟩), below_store3 hbel1 (by omega) _ _ _⟩


set_option maxHeartbeats 8000000 in
theorem plus_any {s u : List Int} {la lb : List (List Int)} {wa wb : List Int} {n m : Nat} {v v' : Value} {most : Int} {w : World} (h : WVI w v s la wa) (h' : WVI w v' u lb wb) (g : Fine s la n) (g' : Fine u lb m) (hn : n < 100000) (hm : m < 100000) (hnm : n * m < 100000)
    (hfa : ∀ x ∈ wa, Fits x) (hfb : ∀ x ∈ wb, Fits x) :
    Calls Tryz.prog 13 #[v, v', .int .i64 most] w fun e w' => CombEndsI w.heap.size w' e (joinL s u) (joinR s la u lb) (combLI addF s la wa u lb wb) (pairR s la u lb).length most ∧ Below w.heap.size w w' := by
  obtain ⟨a, ca, b, cb, d, cd, rfl, k1, k2, k3, k4, hs1, ht1, hw1⟩ := h.form
  obtain ⟨a', ca', b', cb', d', cd', rfl, k1', k2', k3', k4', hs2, ht2, hw2⟩ := h'.form
  obtain ⟨W0, hW0⟩ : ∃ W, W = ((w.alloc (.cells #[.slice a s.length ca, .slice b la.length cb, .slice d wa.length cd] 35)).alloc (.cells #[.slice a' u.length ca', .slice b' lb.length cb', .slice d' wb.length cd'] 35)).alloc (.cells #[.slice none 0 0, .slice none 0 0, .slice none 0 0] 35) := ⟨_, rfl⟩
  have hb0 : Below w.heap.size w W0 := by rw [hW0]; exact (b2x w _ _).alloc (by simp; omega) _
  have x2 : BoxWI W0 (w.heap.size + 1 + 1) (.slice none 0 0) (.slice none 0 0) (.slice none 0 0) := by
    rw [hW0]; have := BoxWI.new ((w.alloc (.cells #[.slice a s.length ca, .slice b la.length cb, .slice d wa.length cd] 35)).alloc (.cells #[.slice a' u.length ca', .slice b' lb.length cb', .slice d' wb.length cd'] 35)) (.slice none 0 0) (.slice none 0 0) (.slice none 0 0); simpa using this
  have HC := hide (combineI_any (most := most) (F := 26) (f := addF) (h.below hb0) (h'.below hb0) g g' hn hm hnm (fun t t' W => (sumOfTwo_any (wOf_in (P := Fits) (by unfold Fits; omega) hfa) (wOf_in (P := Fits) (by unfold Fits; omega) hfb)).mono fun e w' ⟨he, hw⟩ => ⟨he, by rw [hw]; exact Below.refl _ _⟩) ⟨_, _, Tryz.func26, by kernel_rfl, rfl⟩)
  have HW0 := hide hW0
  have hzw := hb0.size
  have HL2 := hide x2.lt
  generalize combLI addF s la wa u lb wb = K at *
  generalize joinR s la u lb = JR at *
  generalize joinL s u = J at *
  generalize (pairR s la u lb).length = cnt at *
  clear h h' hW0 hs1 ht1 hw1 hs2 ht2 hw2 g g'
  go_enter Tryz.func13, Tryz.ntmps13
  go_wp2_with fail
  rw [← unhide HW0]
  refine (unhide HC).mono ?_
  rintro e w1 ⟨hends, hb1⟩
  replace x2 := x2.belowH hb1
  have hbel1 := hb0.trans (hb1.mono hzw)
  have hd0 := x2.cell0
  have hd1 := x2.cell1
  have hd2 := x2.cell2
  have hg0 := x2.frozen 0
  have hg1 := x2.frozen 1
  have hg2 := x2.frozen 2
  have hl2 := x2.lt
  clear HC
  rcases hends with ⟨h1, rfl⟩ | ⟨h1, h2, rfl⟩ | ⟨h1, h2, x, y, z, rfl, hr, hyn⟩
  · go_wp2
    refine bodyPost_ret (v := .tuple #[.agg #[.slice none 0 0, .slice none 0 0, .slice none 0 0], .int .i64 9]) (by simp [results, Tryz.results13, go_sem, hd0, hd1, hd2]) rfl ⟨.inl ⟨h1, rfl⟩, ?_⟩
    first | exact hbel1 | exact below_store3 hbel1 (by omega) _ _ _
  · have H2 := hide h2
    clear h2
    go_wp2
    refine bodyPost_ret (v := .tuple #[.agg #[.slice none 0 0, .slice none 0 0, .slice none 0 0], .int .i64 11]) (by simp [results, Tryz.results13, go_sem, hd0, hd1, hd2]) rfl ⟨.inr (.inl ⟨h1, unhide H2, rfl⟩), ?_⟩
    first | exact hbel1 | exact below_store3 hbel1 (by omega) _ _ _
  · have H2 := hide h2
    have HY := hide hyn
    obtain ⟨xa, xn, xc, xb, xm, xd, xe, xk, xf, hxe⟩ := hr.sl
    cases hxe
    have HR := hide hr
    clear h2 hyn hr
    go_wp2
    have hfin := wv_storeI x2.boxS x2 (unhide HR) (unhide HY _ (unhide HL2))
    refine bodyPost_ret (v := .tuple #[.agg #[.slice xa xn xc, .slice xb xm xd, .slice xe xk xf], .int .i64 0]) (by simp [results, Tryz.results13, go_sem, hd0, hd1, hd2]) rfl ⟨.inr (.inr ⟨h1, unhide H2, _, _, _, rfl, hfin, fun b hb => unhide HY b (by omega)⟩), below_store3 hbel1 (by omega) _ _ _⟩


end Go.Proofs.YtafpecdmaogohaaGreat

namespace Go.Proofs.YtafpecdmaogohaaGreat
open Go.RowKit
set_option linter.unusedVariables false
set_option linter.unusedSimpArgs false
set_option maxRecDepth 20000

/-- The weights of the rows that are cut to each row of the projection. -/
def wsrcL (s : List Int) (ll : List (List Int)) (ws : List Int) (vars : List Int) : List (List Int) := (srcL s ll vars).map fun ps => ps.map fun p => ws.getD p.toNat 0

theorem src_small {s : List Int} {ll : List (List Int)} {vars ps : List Int} (h : ps ∈ srcL s ll vars) : ps.length ≤ ll.length ∧ ∀ p ∈ ps, 0 ≤ p ∧ p < ll.length := by
  unfold srcL at h
  obtain ⟨c, _, rfl⟩ := List.mem_map.1 h
  exact ⟨src_len _ _ _ _, fun p hp => src_range hp⟩

theorem getD_in {ws : List Int} {P : Int → Prop} (h0 : P 0) (h : ∀ x ∈ ws, P x) (k : Nat) : P (ws.getD k 0) := by
  rw [List.getD_eq_getElem?_getD]
  by_cases hl : k < ws.length
  · rw [List.getElem?_eq_getElem hl]; exact h _ (List.getElem_mem hl)
  · rw [List.getElem?_eq_none (by omega)]; exact h0

theorem wsrc_in {s : List Int} {ll : List (List Int)} {ws vars : List Int} {P : Int → Prop} (h0 : P 0) (h : ∀ x ∈ ws, P x) : ∀ l ∈ wsrcL s ll ws vars, ∀ x ∈ l, P x := by
  intro l hl x hx
  unfold wsrcL at hl
  obtain ⟨ps, _, rfl⟩ := List.mem_map.1 hl
  obtain ⟨p, _, rfl⟩ := List.mem_map.1 hx
  exact getD_in h0 h _

/-- What Sum answers. -/
def SumEnds (B : Nat) (w' : World) (e : Ending) (S : List Int) (J : List (List Int)) (K : List (List Int)) : Prop :=
  ((∃ l ∈ K, sumOk l = false) ∧ e = .returned (.tuple #[.agg #[.slice none 0 0, .slice none 0 0, .slice none 0 0], .int .i64 11])) ∨
  ((∀ l ∈ K, sumOk l = true) ∧ ∃ x y z, e = .returned (.tuple #[.agg #[x, y, z], .int .i64 0]) ∧ WVI w' (.agg #[x, y, z]) S J (K.map sumV) ∧ ∀ b, b < B → y.ownBlock ≠ some b)

set_option maxHeartbeats 16000000 in
theorem sums_any {s vars : List Int} {ll : List (List Int)} {ws : List Int} {v vv : Value} {w : World} (h : WVI w v s ll ws) (hv : Ints w vv vars) (hs : Asc s) (hl : ll.length < 100000) (hsl : s.length < 10000) (hvl : vars.length < 10000000) (hf : ∀ x ∈ ws, Fits x) :
    Calls Tryz.prog 9 #[v, vv] w fun e w' => SumEnds w.heap.size w' e (meetL s vars) (projL s ll vars) (wsrcL s ll ws vars) ∧ Below w.heap.size w w' := by
  obtain ⟨a, ca, b, cb, d, cd, rfl, k1, k2, k3, k4, hs1, ht1, hw1⟩ := h.form
  obtain ⟨a', ca', rfl, _, k5⟩ := hv.form
  obtain ⟨W0, hW0⟩ : ∃ W, W = (w.alloc (.cells #[.slice a s.length ca, .slice b ll.length cb, .slice d ws.length cd] 35)).alloc (.cells #[.slice none 0 0, .slice none 0 0, .slice none 0 0] 35) := ⟨_, rfl⟩
  have hb0 : Below w.heap.size w W0 := by rw [hW0]; exact b2x w _ _
  have x0 : BoxWI W0 w.heap.size (.slice a s.length ca) (.slice b ll.length cb) (.slice d ws.length cd) := by rw [hW0]; exact (BoxWI.new w _ _ _).push _
  have x2 : BoxWI W0 (w.heap.size + 1) (.slice none 0 0) (.slice none 0 0) (.slice none 0 0) := by
    rw [hW0]; have := BoxWI.new (w.alloc (.cells #[.slice a s.length ca, .slice b ll.length cb, .slice d ws.length cd] 35)) (.slice none 0 0) (.slice none 0 0) (.slice none 0 0); simpa using this
  have HJ := hide (bundle_any (h.below hb0).rel (hv.below hb0) hs hl hsl hvl)
  have HW0 := hide hW0
  have hzw := hb0.size
  have HA := hide (fun W (hb : Below w.heap.size w W) => h.below hb)
  have HSM := hide (fun ps => src_small (s := s) (ll := ll) (vars := vars) (ps := ps))
  have HCL := hide (show wsrcL s ll ws vars = (srcL s ll vars).map fun ps => ps.map fun p => ws.getD p.toNat 0 from rfl)
  have HFI := hide (wsrc_in (s := s) (ll := ll) (ws := ws) (vars := vars) (P := Fits) (by unfold Fits; omega) hf)
  have hJR := proj_le s vars ll
  have hSL : (srcL s ll vars).length = (projL s ll vars).length := by unfold srcL; simp
  generalize wsrcL s ll ws vars = K at *
  generalize srcL s ll vars = SR at *
  generalize projL s ll vars = JR at *
  generalize meetL s vars = J at *
  clear h hv hW0 hs1 ht1 hw1 hf
  have c00 := x0.cell0
  have c01 := x0.cell1
  have HX0 := hide x0
  have HX2 := hide x2
  have HX2L := hide x2.lt
  clear x0 x2
  go_enter Tryz.func9, Tryz.ntmps9
  go_wp2_with fail
  rw [← unhide HW0]
  refine (unhide HJ).mono ?_
  rintro e w1 ⟨x, y, z, rfl, hr, hz, hyn, hb1⟩
  obtain ⟨ra, rc, rb, rd, hre, _, hrc, _, hrd, hri, hrt⟩ := hr.form
  cases hre
  obtain ⟨sa, sc, rfl, _, hsc⟩ := hz.form
  unfold maxLen at hsc
  have x0 := (unhide HX0).belowH hb1
  have x2 := (unhide HX2).belowH hb1
  have hbel1 := hb0.trans (hb1.mono hzw)
  have hb2 := (Below.refl w1.heap.size w1).alloc (Nat.le_refl _) (.cells #[.slice ra J.length rc, .slice rb JR.length rd] 29)
  obtain ⟨w4, hw4⟩ : ∃ W, W = w1.alloc (.cells #[.slice ra J.length rc, .slice rb JR.length rd] 29) := ⟨_, rfl⟩
  rw [← hw4] at hb2
  have HW4 := hide hw4
  have HE4 := hide (show w4.heap.size = w1.heap.size + 1 by rw [hw4]; simp)
  replace x0 := x0.belowH hb2
  replace x2 := x2.belowH hb2
  have hbel4 := below_then hbel1 hb2
  have hz4 := hbel4.size
  have hl2 := x2.lt
  have HRI4 := hide (hri.below hb2)
  have HRT4 := hide (hrt.below hb2)
  have HSR4 := hide (hz.below hb2)
  have x4 := BoxWI.new w4 (.slice ra J.length rc) (.slice rb JR.length rd) (.slice none 0 0)
  clear HJ c00 c01 HX0 HX2 hr hri hrt hz hw4
  go_wp2
  rw [← unhide HW4, ← unhide HE4]
  go_loopw [10, 11, 12, 24] (fun _ _ _ i wr => ∃ (k : Nat) (zv : Value), k ≤ SR.length ∧ i = .int .i64 k ∧ BoxWI wr w4.heap.size (.slice ra J.length rc) (.slice rb JR.length rd) zv ∧ OwnWI (w4.heap.size + 1) wr zv ((K.take k).map sumV) ∧ (∀ q ∈ K.take k, sumOk q = true) ∧ Below w4.heap.size w4 wr) (fun _ _ _ i _ => SR.length - (intOf i).toNat)
  case atStart => exact ⟨0, _, by omega, rfl, x4, World.ownsRow_nil _ _ _ _, by simp, (Below.refl _ _).alloc (Nat.le_refl _) _⟩
  case round =>
    clear x4
    obtain ⟨k, zv, hk, rfl, y4, hown, hall, hbel⟩ := hrel
    have hz := hbel.size
    have hl4 := y4.lt
    have hbw := hbel4.trans (hbel.mono hz4)
    have hKl : K.length = SR.length := by rw [unhide HCL, List.length_map]
    obtain ⟨za, zn, zc, rfl⟩ := own_sl hown
    by_cases hkl : k < SR.length
    · obtain ⟨bl, ol, ul, hble, hcl0, hiL0⟩ := (unhide HSR4).at hkl
      subst hble
      have hcl := Below.cell_of hbel hcl0
      have hiL := hiL0.below hbel
      obtain ⟨ia, ic, rfl, _, _⟩ := hiL0.form
      have hkK : k < K.length := by omega
      obtain ⟨hsm1, hsm2⟩ := unhide HSM SR[k] (List.getElem_mem hkl)
      have HKE := hide (show K[k] = SR[k].map fun p => ws.getD p.toNat 0 by have hc := unhide HCL; subst hc; rw [List.getElem_map])
      have HTK := hide (List.take_succ_eq_append_getElem hkK)
      have HWA := hide (weightsAtI_any (unhide HA _ hbw) hiL (fun p hp => by have := hsm2 p hp; omega) (by omega))
      rw [← unhide HKE] at HWA
      have HFK := hide (unhide HFI K[k] (List.getElem_mem hkK))
      have HMK := hide (List.getElem_mem hkK)
      generalize K[k] = L at *
      have y0 := x0.below hbel (by have := x0.lt; exact this)
      have y2 := x2.below hbel hl2
      have c0 := y0.cell0
      have c1 := y0.cell1
      have c2 := y0.cell2
      have HY4 := hide y4
      have HOW := hide hown
      have HALL := hide hall
      clear hcl0 hiL hiL0 y4 hown hall hsm2
      go_wp2_with fail
      refine (unhide HWA).mono ?_
      rintro e w8 ⟨u8, rfl, hu8, _, hb8⟩
      obtain ⟨a8, c8, rfl, _, _⟩ := hu8.form
      have HSU := hide (sumI_any hu8 (unhide HFK))
      clear HWA c0 c1 c2 hu8 hcl
      go_wp2_with fail
      refine (unhide HSU).mono ?_
      rintro e w9 ⟨rfl, rfl⟩
      generalize hq2 : sumOk L = q2 at *
      generalize hq1 : sumV L = q1 at *
      replace y2 := y2.belowH hb8
      have y4 := (unhide HY4).belowH hb8
      have hown9 := own_below (unhide HOW) hb8
      have hbw9 := below_then hbw hb8
      have hz9 : w4.heap.size + 1 ≤ w9.heap.size := y4.lt
      have HQ1 := hide hq1
      have HQ2 := hide hq2
      clear HSU HY4 HOW hq1 hq2
      cases q2 with
      | false =>
        have hd0 := y2.cell0
        have hd1 := y2.cell1
        have hd2 := y2.cell2
        have hg0 := y2.frozen 0
        have hg1 := y2.frozen 1
        have hg2 := y2.frozen 2
        clear hown9 y4 HTK
        go_wp2
        refine bodyPost_ret (v := .tuple #[.agg #[.slice none 0 0, .slice none 0 0, .slice none 0 0], .int .i64 11]) (by simp [results, Tryz.results9, go_sem, hd0, hd1, hd2]) rfl ⟨.inl ⟨⟨L, unhide HMK, unhide HQ2⟩, rfl⟩, ?_⟩
        first | exact hbw9 | exact below_store3 hbw9 (by omega) _ _ _
      | true =>
        have c42 := y4.cell2
        have hne : (Value.slice za zn zc).ownBlock ≠ some w4.heap.size := (New.of_own hown9).ne (by omega)
        have hln : ((K.take k).map sumV).length < 100000 := by rw [List.length_map, List.length_take]; omega
        have HTM := hide (show (K.take (k + 1)).map sumV = (K.take k).map sumV ++ [q1] by rw [unhide HTK, List.map_append]; simp only [List.map_cons, List.map_nil]; rw [unhide HQ1])
        have HTA := hide (show ∀ q ∈ K.take (k + 1), sumOk q = true by
          rw [unhide HTK]
          intro q hq
          rcases List.mem_append.1 hq with h | h
          · exact unhide HALL q h
          · rw [List.mem_singleton.1 h]; exact unhide HQ2)
        have HD := hide y4
        generalize (K.take k).map sumV = KL at *
        clear HTK HALL
        go_wp2_with (at_builtin; refine wp_app_wI (y := q1) rfl (.tmp 39) (.tmp 41) rfl hown9 rfl hz9 rfl (by omega) ?_; intro v' w10 hown10 hgrew; obtain ⟨na, nm, nc, hv10⟩ := own_sl hown10; subst hv10; have y5 := (unhide HD).grew hgrew hne; have e0 := y5.cell2; have e1 := y5.frozen 2)
        have hn4 : (Value.slice na nm nc).ownBlock ≠ some w4.heap.size := (New.of_own hown10).ne (by omega)
        go_roundw
        case rel => exact ⟨k + 1, _, by omega, by go_num, y5.set2 _, by rw [unhide HTM]; exact ownsRow_setCell_other hown10 hn4 _, unhide HTA, ((hbel.trans (hb8.mono hz)).trans (hgrew.below.mono (by omega))).setCell (Nat.le_refl _) _⟩
        case measure => simp [intOf]; omega
    · have hkk : k = SR.length := by omega
      have hKt : K.take k = K := List.take_of_length_le (by omega)
      rw [hKt] at hown hall
      have y2 := x2.below hbel hl2
      have c40 := y4.cell0
      have c41 := y4.cell1
      have c42 := y4.cell2
      have hd0 := y2.cell0
      have hd1 := y2.cell1
      have hd2 := y2.cell2
      have hg0 := y2.frozen 0
      have hg1 := y2.frozen 1
      have hg2 := y2.frozen 2
      have HWV : Hid (WVI wr (.agg #[.slice ra J.length rc, .slice rb JR.length rd, .slice za zn zc]) J JR (K.map sumV)) := hide ⟨_, _, _, rfl, (unhide HRI4).below hbel, (unhide HRT4).below hbel, Seq.of_own hown⟩
      have HY := hide hyn
      have HALL := hide hall
      have hnr : (Value.slice rb JR.length rd).ownBlock ≠ some (w.heap.size + 1) := (unhide HY _ (unhide HX2L)).1
      clear hown hall hyn hKt y4
      go_wp2
      have hfin := wv_storeI y2.boxS y2 (unhide HWV) hnr
      refine bodyPost_ret (v := .tuple #[.agg #[.slice ra J.length rc, .slice rb JR.length rd, .slice za zn zc], .int .i64 0]) (by simp [results, Tryz.results9, go_sem, hd0, hd1, hd2]) rfl ⟨.inr ⟨unhide HALL, _, _, _, rfl, hfin, fun b hb => (unhide HY b (by omega)).1⟩, below_store3 hbw (by omega) _ _ _⟩

end Go.Proofs.YtafpecdmaogohaaGreat

namespace Go.Proofs.YtafpecdmaogohaaGreat
open Go.RowKit
set_option linter.unusedVariables false
set_option linter.unusedSimpArgs false
set_option maxRecDepth 20000

set_option maxHeartbeats 16000000 in
theorem mins_any {s vars : List Int} {ll : List (List Int)} {ws : List Int} {v vv : Value} {w : World} (h : WVI w v s ll ws) (hv : Ints w vv vars) (hs : Asc s) (hl : ll.length < 100000) (hsl : s.length < 10000) (hvl : vars.length < 10000000) :
    Calls Tryz.prog 8 #[v, vv] w fun e w' => ∃ x y z, e = .returned (.agg #[x, y, z]) ∧ WVI w' (.agg #[x, y, z]) (meetL s vars) (projL s ll vars) ((wsrcL s ll ws vars).map leastV) ∧ (∀ b, b < w.heap.size → y.ownBlock ≠ some b) ∧ Below w.heap.size w w' := by
  obtain ⟨a, ca, b, cb, d, cd, rfl, k1, k2, k3, k4, hs1, ht1, hw1⟩ := h.form
  obtain ⟨a', ca', rfl, _, k5⟩ := hv.form
  obtain ⟨W0, hW0⟩ : ∃ W, W = (w.alloc (.cells #[.slice a s.length ca, .slice b ll.length cb, .slice d ws.length cd] 35)).alloc (.cells #[.slice none 0 0, .slice none 0 0, .slice none 0 0] 35) := ⟨_, rfl⟩
  have hb0 : Below w.heap.size w W0 := by rw [hW0]; exact b2x w _ _
  have x0 : BoxWI W0 w.heap.size (.slice a s.length ca) (.slice b ll.length cb) (.slice d ws.length cd) := by rw [hW0]; exact (BoxWI.new w _ _ _).push _
  have x2 : BoxWI W0 (w.heap.size + 1) (.slice none 0 0) (.slice none 0 0) (.slice none 0 0) := by
    rw [hW0]; have := BoxWI.new (w.alloc (.cells #[.slice a s.length ca, .slice b ll.length cb, .slice d ws.length cd] 35)) (.slice none 0 0) (.slice none 0 0) (.slice none 0 0); simpa using this
  have HJ := hide (bundle_any (h.below hb0).rel (hv.below hb0) hs hl hsl hvl)
  have HW0 := hide hW0
  have hzw := hb0.size
  have HA := hide (fun W (hb : Below w.heap.size w W) => h.below hb)
  have HSM := hide (fun ps => src_small (s := s) (ll := ll) (vars := vars) (ps := ps))
  have HCL := hide (show wsrcL s ll ws vars = (srcL s ll vars).map fun ps => ps.map fun p => ws.getD p.toNat 0 from rfl)
  have hJR := proj_le s vars ll
  have hSL : (srcL s ll vars).length = (projL s ll vars).length := by unfold srcL; simp
  generalize wsrcL s ll ws vars = K at *
  generalize srcL s ll vars = SR at *
  generalize projL s ll vars = JR at *
  generalize meetL s vars = J at *
  clear h hv hW0 hs1 ht1 hw1
  have c00 := x0.cell0
  have c01 := x0.cell1
  have HX0 := hide x0
  have HX2 := hide x2
  have HX2L := hide x2.lt
  clear x0 x2
  go_enter Tryz.func8, Tryz.ntmps8
  go_wp2_with fail
  rw [← unhide HW0]
  refine (unhide HJ).mono ?_
  rintro e w1 ⟨x, y, z, rfl, hr, hz, hyn, hb1⟩
  obtain ⟨ra, rc, rb, rd, hre, _, hrc, _, hrd, hri, hrt⟩ := hr.form
  cases hre
  obtain ⟨sa, sc, rfl, _, hsc⟩ := hz.form
  unfold maxLen at hsc
  have x0 := (unhide HX0).belowH hb1
  have x2 := (unhide HX2).belowH hb1
  have hbel1 := hb0.trans (hb1.mono hzw)
  have hb2 := (Below.refl w1.heap.size w1).alloc (Nat.le_refl _) (.cells #[.slice ra J.length rc, .slice rb JR.length rd] 29)
  obtain ⟨w4, hw4⟩ : ∃ W, W = w1.alloc (.cells #[.slice ra J.length rc, .slice rb JR.length rd] 29) := ⟨_, rfl⟩
  rw [← hw4] at hb2
  have HW4 := hide hw4
  have HE4 := hide (show w4.heap.size = w1.heap.size + 1 by rw [hw4]; simp)
  replace x0 := x0.belowH hb2
  replace x2 := x2.belowH hb2
  have hbel4 := below_then hbel1 hb2
  have hz4 := hbel4.size
  have hl2 := x2.lt
  have HRI4 := hide (hri.below hb2)
  have HRT4 := hide (hrt.below hb2)
  have HSR4 := hide (hz.below hb2)
  have x4 := BoxWI.new w4 (.slice ra J.length rc) (.slice rb JR.length rd) (.slice none 0 0)
  clear HJ c00 c01 HX0 HX2 hr hri hrt hz hw4
  go_wp2
  rw [← unhide HW4, ← unhide HE4]
  go_loopw [9, 21] (fun _ i wr => ∃ (k : Nat) (zv : Value), k ≤ SR.length ∧ i = .int .i64 k ∧ BoxWI wr w4.heap.size (.slice ra J.length rc) (.slice rb JR.length rd) zv ∧ OwnWI (w4.heap.size + 1) wr zv ((K.take k).map leastV) ∧ Below w4.heap.size w4 wr) (fun _ i _ => SR.length - (intOf i).toNat)
  case atStart => exact ⟨0, _, by omega, rfl, x4, World.ownsRow_nil _ _ _ _, (Below.refl _ _).alloc (Nat.le_refl _) _⟩
  case round =>
    clear x4
    obtain ⟨k, zv, hk, rfl, y4, hown, hbel⟩ := hrel
    have hz := hbel.size
    have hl4 := y4.lt
    have hbw := hbel4.trans (hbel.mono hz4)
    have hKl : K.length = SR.length := by rw [unhide HCL, List.length_map]
    obtain ⟨za, zn, zc, rfl⟩ := own_sl hown
    by_cases hkl : k < SR.length
    · obtain ⟨bl, ol, ul, hble, hcl0, hiL0⟩ := (unhide HSR4).at hkl
      subst hble
      have hcl := Below.cell_of hbel hcl0
      have hiL := hiL0.below hbel
      obtain ⟨ia, ic, rfl, _, _⟩ := hiL0.form
      have hkK : k < K.length := by omega
      obtain ⟨hsm1, hsm2⟩ := unhide HSM SR[k] (List.getElem_mem hkl)
      have HKE := hide (show K[k] = SR[k].map fun p => ws.getD p.toNat 0 by have hc := unhide HCL; subst hc; rw [List.getElem_map])
      have HTK := hide (List.take_succ_eq_append_getElem hkK)
      have HWA := hide (fun W (hb : Below wr.heap.size wr W) => weightsAtI_any (w := W) (unhide HA _ (below_then hbw hb)) (hiL.below hb) (fun p hp => by have := hsm2 p hp; omega) (by omega))
      rw [← unhide HKE] at HWA
      generalize K[k] = L at *
      have y0 := x0.below hbel (by have := x0.lt; exact this)
      have c0 := y0.cell0
      have c1 := y0.cell1
      have c2 := y0.cell2
      have c42 := y4.cell2
      have HLS := hide (fun W u (hu : WtsI W u L) => least_any (w := W) hu)
      have hbR := Below.refl wr.heap.size wr
      have hne : (Value.slice za zn zc).ownBlock ≠ some w4.heap.size := (New.of_own hown).ne (by omega)
      have hln : ((K.take k).map leastV).length < 100000 := by rw [List.length_map, List.length_take]; omega
      have HTM := hide (show (K.take (k + 1)).map leastV = (K.take k).map leastV ++ [leastV L] by rw [unhide HTK, List.map_append]; rfl)
      generalize (K.take k).map leastV = KL at *
      generalize leastV L = q1 at *
      clear hcl0 hiL hiL0 hsm2 HTK HKE
      go_wp2
      go_region_law ((first
        | (refine step_of rfl ?_; go_simp; go_at_call 20; have hpv := hB8; refine (unhide HLS _ _ hu8).mono ?_; rintro e w9 ⟨rfl, hw9⟩; subst hw9)
        | (refine step_of rfl ?_; go_simp; go_at_call 21; refine (unhide HWA _ (by first | exact hbR | exact below_same rfl rfl rfl rfl)).mono ?_; rintro e w8 ⟨u8, rfl, hu8, _, hb8⟩; obtain ⟨a8, c8, hue, _, _⟩ := hu8.form; rw [hue] at hu8 ⊢; clear hue; have hB8 : Below wr.heap.size wr w8 := below_then (by first | exact hbR | exact below_same rfl rfl rfl rfl) hb8; have hcx := (y4.belowH hB8).cell2; have hcy := cell_push hcx; clear hb8)
        | (refine step_of rfl (op_app_wI (y := q1) (.tmp 26) (.tmp 31) rfl (own_below hown hB8) rfl (Nat.le_trans hl4 hB8.size) rfl (by omega) ?_); intro v' w10 hown10 hgrew; obtain ⟨na, nm, nc, hv10⟩ := own_sl hown10; rw [hv10] at hown10 hgrew ⊢; clear hv10; have y5 := (y4.belowH hB8).grew hgrew hne; have e0 := y5.cell2; have e1 := y5.frozen 2; have hn4 := (New.of_own hown10).ne (b := w4.heap.size) (by omega))))
      all_goals
        go_wp2
        go_roundw
        case rel => exact ⟨k + 1, _, by omega, by go_num, y5.set2 _, by rw [unhide HTM]; exact ownsRow_setCell_other hown10 hn4 _, ((hbel.trans (hB8.mono hz)).trans (hgrew.below.mono (by omega))).setCell (Nat.le_refl _) _⟩
        case measure => simp [intOf]; omega
    · have hkk : k = SR.length := by omega
      have hKt : K.take k = K := List.take_of_length_le (by omega)
      rw [hKt] at hown
      have y2 := x2.below hbel hl2
      have c40 := y4.cell0
      have c41 := y4.cell1
      have c42 := y4.cell2
      have hd0 := y2.cell0
      have hd1 := y2.cell1
      have hd2 := y2.cell2
      have hg0 := y2.frozen 0
      have hg1 := y2.frozen 1
      have hg2 := y2.frozen 2
      have HWV : Hid (WVI wr (.agg #[.slice ra J.length rc, .slice rb JR.length rd, .slice za zn zc]) J JR (K.map leastV)) := hide ⟨_, _, _, rfl, (unhide HRI4).below hbel, (unhide HRT4).below hbel, Seq.of_own hown⟩
      have HY := hide hyn
      have hnr : (Value.slice rb JR.length rd).ownBlock ≠ some (w.heap.size + 1) := (unhide HY _ (unhide HX2L)).1
      clear hown hyn hKt y4
      go_wp2
      have hfin := wv_storeI y2.boxS y2 (unhide HWV) hnr
      refine bodyPost_ret (v := .agg #[.slice ra J.length rc, .slice rb JR.length rd, .slice za zn zc]) (by simp [results, Tryz.results8, go_sem, hd0, hd1, hd2]) rfl ⟨_, _, _, rfl, hfin, fun b hb => (unhide HY b (by omega)).1, below_store3 hbw (by omega) _ _ _⟩

end Go.Proofs.YtafpecdmaogohaaGreat

namespace Go.Proofs.YtafpecdmaogohaaGreat
open Go.RowKit
set_option linter.unusedVariables false
set_option linter.unusedSimpArgs false
set_option maxRecDepth 20000

theorem own_mono {B B' : Nat} {e : TypeId} {w : World} {v : Value} {n : Nat} {xs : List Value} (h : w.ownsRow B e 1 v n xs) (hB : B' ≤ B) : w.ownsRow B' e 1 v n xs := by
  obtain ⟨h1, h2⟩ := h
  refine ⟨h1, ?_⟩
  rcases h2 with h2 | ⟨g, cap, cur, hv, hg, hr⟩
  · exact .inl h2
  · exact .inr ⟨g, cap, cur, hv, by omega, hr⟩

/-- Rows of different types lie in different blocks. -/
theorem sep_types {B B' : Nat} {e e' : TypeId} {w : World} {u v : Value} {n m : Nat} {xs ys : List Value} (h : w.ownsRow B e 1 u n xs) (h' : w.ownsRow B' e' 1 v m ys) (hne : e ≠ e') : Sep u v := by
  intro g h1 h2
  obtain ⟨_, k⟩ := h
  obtain ⟨_, k'⟩ := h'
  rcases k with ⟨rfl, _⟩ | ⟨b, cap, cur, rfl, hg, hh, _⟩
  · cases h1
  · rcases k' with ⟨rfl, _⟩ | ⟨b', cap', cur', rfl, hg', hh', _⟩
    · cases h2
    · have e1 : b = g := by simpa [Value.ownBlock] using h1
      have e2 : b' = g := by simpa [Value.ownBlock] using h2
      subst e1
      subst e2
      rw [hh] at hh'
      injection hh' with hh'
      injection hh' with _ ht _
      exact hne ht

theorem OwnS.grewO {B B' : Nat} {e : TypeId} {w w' : World} {v z z' : Value} {ll : List (List Int)} {n : Nat} {xs : List Value} (h : OwnS B w v ll) (hz : w.ownsRow B' e 1 z n xs) (h1 : 3 ≠ e) (h2 : 22 ≠ e) (g : Grew B w w' z z') : OwnS B w' v ll := by
  obtain ⟨vs, k1, k2, k3, k4⟩ := h
  exact ⟨vs, own_grew k1 g (sep_types k1 hz h2).or, k2, fun i hi hi' => ⟨own_grew (k3 i hi hi').1 g (sep_types (k3 i hi hi').1 hz h1).or, (k3 i hi hi').2⟩, k4⟩

theorem OwnS.sepO {B B' : Nat} {e : TypeId} {w : World} {v z : Value} {ll : List (List Int)} {n : Nat} {xs : List Value} (h : OwnS B w v ll) (hz : w.ownsRow B' e 1 z n xs) (h2 : 22 ≠ e) : Sep z v := by
  obtain ⟨vs, k1, _⟩ := h
  exact (sep_types k1 hz h2).symm

theorem OwnS.setOther {B : Nat} {w : World} {v : Value} {ll : List (List Int)} (h : OwnS B w v ll) {b i : Nat} (hb : b < B) (y : Value) : OwnS B (w.setCell ⟨b, i, none⟩ y) v ll := by
  obtain ⟨vs, k1, k2, k3, k4⟩ := h
  exact ⟨vs, ownsRow_setCell_other k1 ((New.of_own k1).ne hb) y, k2, fun i hi hi' => ⟨ownsRow_setCell_other (k3 i hi hi').1 ((New.of_own (k3 i hi hi').1).ne hb) y, (k3 i hi hi').2⟩, k4⟩

theorem OwnS.nil (B : Nat) (w : World) : OwnS B w (.slice none 0 0) [] := ⟨[], own_nilV _ _, rfl, fun i h => by simp at h, fun i j h => by simp at h⟩

/-- One more row, that was made since. -/
theorem op_app_src {w0 w : World} {o : Oper} {a : Act} {K : Act → World → Prop} {Q : Exit → Act → World → Prop} (s x : Operand)
    (ho : o.op = .call { callee := .builtin .append, args := #[s, x], argTypes := #[23, 23] }) {B : Nat} {v u : Value} {ll : List (List Int)} {l : List Int} (hown : OwnS B w0 v ll) (hb : Below w0.heap.size w0 w) (hu : OwnI w0.heap.size w u l) (hs : a.eval s = v) (hB : B ≤ w0.heap.size)
    (hx : a.eval x = .slice (some ⟨w.heap.size, 0, none⟩) 1 1) (hlen : ll.length < 100000000000)
    (h : ∀ v' w', OwnS B w' v' (ll ++ [l]) → Grew B w w' v v' → K (a.put o.dst v') w') :
    o.wp Tryz.prog a (w.alloc (.cells #[u] 22)) K Q := by
  obtain ⟨vs, h1, h2, h3, h4⟩ := hown
  have hsu : ∀ i (hi : i < vs.length), Sep vs[i] u := fun i hi => Sep.of_new (New.of_own (h3 i hi (by omega)).1) (Nat.le_refl _) (New.of_own hu)
  have hvu : Sep v u := Sep.of_new (New.of_own h1) (Nat.le_refl _) (New.of_own hu)
  refine op_app_row s x ho (own_below h1 hb) hs (Nat.le_trans hB hb.size) hx (Seq.of_own hu).one (by omega) fun v' w' k1 k2 => h v' w' ⟨vs ++ [u], k1, by simp [h2], fun i hi hi' => ?_, fun i j hi hj hij => ?_⟩ k2
  · by_cases hiv : i < vs.length
    · have hil : i < ll.length := by omega
      rw [List.getElem_append_left hiv, List.getElem_append_left hil]
      obtain ⟨p, q⟩ := h3 i hiv hil
      exact ⟨own_grew (own_below p hb) k2 q.or, Sep.grewN q ((New.of_own p).grow (Nat.le_refl _) hb.size) k2⟩
    · have e : i = vs.length := by simp at hi; omega
      subst e
      rw [List.getElem_append_right (by omega), List.getElem_append_right (by omega)]
      simp only [h2, Nat.sub_self, List.getElem_cons_zero]
      exact ⟨own_mono (own_grew (own_mono hu hB) k2 hvu.symm.or) (Nat.le_refl _), Sep.grewN hvu.symm (New.of_own hu) k2⟩
  · have hi' : i < vs.length + 1 := by simpa using hi
    have hj' : j < vs.length + 1 := by simpa using hj
    by_cases hiv : i < vs.length
    · by_cases hjv : j < vs.length
      · rw [List.getElem_append_left hiv, List.getElem_append_left hjv]; exact h4 i j hiv hjv hij
      · have e : j = vs.length := by omega
        subst e
        rw [List.getElem_append_left hiv, List.getElem_append_right (by omega)]
        simp only [Nat.sub_self, List.getElem_cons_zero]
        exact hsu i hiv
    · have e : i = vs.length := by omega
      subst e
      have hjv : j < vs.length := by omega
      rw [List.getElem_append_left hjv, List.getElem_append_right (by omega)]
      simp only [Nat.sub_self, List.getElem_cons_zero]
      exact (hsu j hjv).symm

set_option maxHeartbeats 16000000 in
theorem ofI_any {s : List Int} {ll : List (List Int)} {q : Int} {v : Value} {w : World} (h : RelV w v s ll) (hl : ll.length < 100000) (hsl : s.length < 10000) (hrow : ∀ t ∈ ll, t.length < 100000000) :
    Calls Tryz.prog 7 #[v, (Value.int .i64) q] w fun e w' => ∃ x y z, e = .returned (.agg #[x, y, z]) ∧ WVI w' (.agg #[x, y, z]) s ll (List.replicate ll.length q) ∧ (∀ b, b < w.heap.size → y.ownBlock ≠ some b) ∧ Below w.heap.size w w' := by
  obtain ⟨a, ca, b, cb, rfl, k1, k2, k3, k4, hs1, ht1⟩ := h.form
  unfold maxLen at k4
  obtain ⟨W0, hW0⟩ : ∃ W, W = (w.alloc (.cells #[.slice a s.length ca, .slice b ll.length cb] 29)).alloc (.cells #[.slice none 0 0, .slice none 0 0, .slice none 0 0] 35) := ⟨_, rfl⟩
  have hb0 : Below w.heap.size w W0 := by rw [hW0]; exact b2x w _ _
  have x0 : Box W0 w.heap.size (.slice a s.length ca) (.slice b ll.length cb) := by rw [hW0]; exact (Box.new w _ _).push _
  have x2 : BoxWI W0 (w.heap.size + 1) (.slice none 0 0) (.slice none 0 0) (.slice none 0 0) := by
    rw [hW0]; have := BoxWI.new (w.alloc (.cells #[.slice a s.length ca, .slice b ll.length cb] 29)) (.slice none 0 0) (.slice none 0 0) (.slice none 0 0); simpa using this
  have HC := hide (cloneI_any (hs1.below hb0) (by omega))
  have HW0 := hide hW0
  have hzw := hb0.size
  have HT := hide (fun W (hb : Below w.heap.size w W) => ht1.below hb)
  have HRW := hide hrow
  clear h hW0 hs1 ht1 hrow
  go_enter Tryz.func7, Tryz.ntmps7
  go_wp2_with fail
  rw [← unhide HW0]
  refine (unhide HC).mono ?_
  rintro e w4 ⟨vc, rfl, hvc, hb1⟩
  obtain ⟨sa, sc, hse⟩ := own_form hvc
  rw [hse] at hvc ⊢
  replace x0 := x0.belowH hb1
  replace x2 := x2.belowH hb1
  have hbel4 := hb0.trans (hb1.mono hzw)
  have hz4 := hbel4.size
  have hl2 := x2.lt
  have HSC := hide (Seq.of_own hvc)
  have x4 := BoxWI.new w4 (.slice sa s.length sc) (.slice none 0 0) (.slice none 0 0)
  have c01 := (x0.push (.cells #[.slice sa s.length sc, .slice none 0 0, .slice none 0 0] 35)).cell1
  clear HC hvc hse hb1
  go_wp2
  go_loopw [7, 16] (fun _ i wr => ∃ (k : Nat) (yv zv : Value), k ≤ ll.length ∧ i = .int .i64 k ∧ BoxWI wr w4.heap.size (.slice sa s.length sc) yv zv ∧ OwnS (w4.heap.size + 1) wr yv (ll.take k) ∧ OwnWI (w4.heap.size + 1) wr zv (List.replicate k q) ∧ Below w4.heap.size w4 wr) (fun _ i _ => ll.length - (intOf i).toNat)
  case atStart => exact ⟨0, _, _, by omega, rfl, x4, OwnS.nil _ _, World.ownsRow_nil _ _ _ _, (Below.refl _ _).alloc (Nat.le_refl _) _⟩
  case round =>
    clear x4 c01
    obtain ⟨k, yv, zv, hk, rfl, y4, hrows, hown, hbel⟩ := hrel
    have hz := hbel.size
    have hl4 := y4.lt
    have hbw := hbel4.trans (hbel.mono hz4)
    obtain ⟨za, zn, zc, rfl⟩ := own_sl hown
    obtain ⟨ya, yn, yc, rfl⟩ : ∃ a n c, yv = .slice a n c := by obtain ⟨vs, h1, _⟩ := hrows; exact own_sl h1
    by_cases hkl : k < ll.length
    · obtain ⟨bl, ol, ul, hble, hcl, hiL⟩ := (unhide HT _ hbw).at hkl
      subst hble
      obtain ⟨ia, ic, rfl, _, _⟩ := hiL.form
      have HCL := hide (fun W (hb : Below wr.heap.size wr W) => cloneI_any (w := W) (hiL.below hb) (unhide HRW _ (List.getElem_mem hkl)))
      have HTK := hide (List.take_succ_eq_append_getElem hkl)
      have hlt : (ll.take k).length < 100000 := by rw [List.length_take]; omega
      have hlk : (List.replicate k q).length < 100000 := by rw [List.length_replicate]; omega
      have HRP := hide (show List.replicate (k + 1) q = List.replicate k q ++ [q] from List.replicate_succ')
      have hbR := Below.refl wr.heap.size wr
      have hne : (Value.slice ya yn yc).ownBlock ≠ some w4.heap.size := hrows.new.ne (by omega)
      have hnz : (Value.slice za zn zc).ownBlock ≠ some w4.heap.size := (New.of_own hown).ne (by omega)
      have c41 := y4.cell1
      generalize ll[k] = t at *
      generalize ll.take k = LL at *
      generalize List.replicate k q = QL at *
      clear hiL
      go_wp2
      go_region_law ((first
        | (refine step_of rfl ?_; go_simp; go_at_call 18; refine (unhide HCL _ (by first | exact hbR | exact below_same rfl rfl rfl rfl)).mono ?_; rintro e w8 ⟨u8, rfl, hu8, hb8⟩; obtain ⟨a8, m8, c8, hue⟩ := own_sl hu8; rw [hue] at hu8 ⊢; clear hue; have hB8 : Below wr.heap.size wr w8 := below_then (by first | exact hbR | exact below_same rfl rfl rfl rfl) hb8; have hU8 := own_mono hu8 (show wr.heap.size ≤ _ from by first | exact Nat.le_refl _ | simp); have hcx := (y4.belowH hB8).cell1; have hcy := cell_push hcx; clear hb8)
        | (refine step_of rfl (op_app_src (.tmp 22) (.tmp 25) rfl hrows hB8 hU8 rfl hl4 rfl (by omega) ?_); intro v' w10 hrows10 hgrew; obtain ⟨na, nm, nc, hv10⟩ : ∃ a n c, v' = .slice a n c := (by obtain ⟨vs, h1, _⟩ := hrows10; exact own_sl h1); rw [hv10] at hrows10 hgrew ⊢; clear hv10; have y5 := (y4.belowH hB8).grew hgrew hne; have e0 := y5.cell1; have e1 := y5.frozen 1; have hown5 := own_grew (own_below hown hB8) hgrew ((hrows.below hB8).sepO (own_below hown hB8) (by decide)).or)))
      all_goals
        have y6 := y5.set1 (.slice na nm nc)
        have hrows6 := hrows10.setOther (b := w4.heap.size) (i := 1) (by omega) (.slice na nm nc)
        have hown6 := ownsRow_setCell_other (a := ⟨w4.heap.size, 1, none⟩) hown5 hnz (.slice na nm nc)
        have hbl6 := ((hbel.trans (hB8.mono hz)).trans (hgrew.below.mono (by omega))).setCell (p := ⟨w4.heap.size, 1, none⟩) (Nat.le_refl _) (.slice na nm nc)
        generalize w10.setCell ⟨w4.heap.size, 1, none⟩ (.slice na nm nc) = w11 at *
        clear y5 e0 e1 hcx hcy hrows10 hown5 hgrew hB8 hu8 hU8
        have c62 := y6.cell2
        have hz11 : w4.heap.size + 1 ≤ w11.heap.size := y6.lt
        go_wp2_with (at_builtin; refine wp_app_wI (y := q) rfl (.tmp 30) (.tmp 32) rfl hown6 rfl hz11 rfl (by omega) ?_; intro v' w12 hown12 hgrew; obtain ⟨oa, om, oc, hv12⟩ := own_sl hown12; subst hv12; have y7 := y6.grew hgrew hnz; have e0 := y7.cell2; have e1 := y7.frozen 2)
        have hrows7 := (hrows6.grewO hown6 (by decide) (by decide) hgrew).setOther (b := w4.heap.size) (i := 2) (by omega) (.slice oa om oc)
        have hn7 : (Value.slice oa om oc).ownBlock ≠ some w4.heap.size := (New.of_own hown12).ne (by omega)
        go_roundw
        case rel => exact ⟨k + 1, _, _, by omega, by go_num, y7.set2 _, by rw [unhide HTK]; exact hrows7, by rw [unhide HRP]; exact ownsRow_setCell_other hown12 hn7 _, (hbl6.trans (hgrew.below.mono (by omega))).setCell (Nat.le_refl _) _⟩
        case measure => simp [intOf]; omega
    · have hkk : k = ll.length := by omega
      subst hkk
      rw [List.take_length] at hrows
      have y2 := x2.below hbel hl2
      have c40 := y4.cell0
      have c41 := y4.cell1
      have c42 := y4.cell2
      have hd0 := y2.cell0
      have hd1 := y2.cell1
      have hd2 := y2.cell2
      have hg0 := y2.frozen 0
      have hg1 := y2.frozen 1
      have hg2 := y2.frozen 2
      have HWV : Hid (WVI wr (.agg #[.slice sa s.length sc, .slice ya yn yc, .slice za zn zc]) s ll (List.replicate ll.length q)) := hide ⟨_, _, _, rfl, (unhide HSC).below hbel, hrows.tups, Seq.of_own hown⟩
      have HY := hide hrows.new
      have hnr : (Value.slice ya yn yc).ownBlock ≠ some (w.heap.size + 1) := hrows.new.ne (by omega)
      clear hown hrows y4
      go_wp2
      have hfin := wv_storeI y2.boxS y2 (unhide HWV) hnr
      refine bodyPost_ret (v := .agg #[.slice sa s.length sc, .slice ya yn yc, .slice za zn zc]) (by simp [results, Tryz.results7, go_sem, hd0, hd1, hd2]) rfl ⟨_, _, _, rfl, hfin, fun b hb => (unhide HY).ne (by omega), below_store3 hbw (by omega) _ _ _⟩

end Go.Proofs.YtafpecdmaogohaaGreat

namespace Go.Proofs.YtafpecdmaogohaaGreat
open Go.RowKit
set_option linter.unusedVariables false
set_option linter.unusedSimpArgs false
set_option maxRecDepth 20000

theorem times_ok {s u : List Int} {la lb : List (List Int)} {wa wb : List Int} {n m : Nat} {v v' : Value} {most : Int} {w : World} {K : List (Int × Bool)} (h : WVI w v s la wa) (h' : WVI w v' u lb wb) (g : Fine s la n) (g' : Fine u lb m) (hn : n < 100000) (hm : m < 100000) (hnm : n * m < 100000)
    (hfa : ∀ x ∈ wa, Fits x) (hfb : ∀ x ∈ wb, Fits x) (hK : combLI mulF s la wa u lb wb = K) (hall : ∀ x ∈ K, x.2 = true) (hc : ((pairR s la u lb).length : Int) ≤ most) :
    Calls Tryz.prog 12 #[v, v', .int .i64 most] w fun e w' => ∃ x, e = .returned (.tuple #[x, .int .i64 0]) ∧ WVI w' x (joinL s u) (joinR s la u lb) (K.map Prod.fst) ∧ Below w.heap.size w w' := by
  refine (timesI_any (most := most) h h' g g' hn hm hnm hfa hfb).mono ?_
  rintro e w' ⟨h1 | h1 | h1, hb⟩
  · omega
  · obtain ⟨_, ⟨x, hx, hx2⟩, _⟩ := h1
    rw [hK] at hx
    rw [hall x hx] at hx2; cases hx2
  · obtain ⟨_, _, x, y, z, he, hr, _⟩ := h1
    rw [hK] at hr
    exact ⟨_, he, hr, hb⟩

theorem times_no {s u : List Int} {la lb : List (List Int)} {wa wb : List Int} {n m : Nat} {v v' : Value} {most : Int} {w : World} (h : WVI w v s la wa) (h' : WVI w v' u lb wb) (g : Fine s la n) (g' : Fine u lb m) (hn : n < 100000) (hm : m < 100000) (hnm : n * m < 100000)
    (hfa : ∀ x ∈ wa, Fits x) (hfb : ∀ x ∈ wb, Fits x) (hc : most < ((pairR s la u lb).length : Int)) :
    Calls Tryz.prog 12 #[v, v', .int .i64 most] w fun e w' => e = .returned (.tuple #[.agg #[.slice none 0 0, .slice none 0 0, .slice none 0 0], .int .i64 9]) ∧ Below w.heap.size w w' := by
  refine (timesI_any (most := most) h h' g g' hn hm hnm hfa hfb).mono ?_
  rintro e w' ⟨h1 | h1 | h1, hb⟩
  · exact ⟨h1.2, hb⟩
  · have := h1.1; omega
  · have := h1.1; omega

theorem plus_ok {s u : List Int} {la lb : List (List Int)} {wa wb : List Int} {n m : Nat} {v v' : Value} {most : Int} {w : World} {K : List (Int × Bool)} (h : WVI w v s la wa) (h' : WVI w v' u lb wb) (g : Fine s la n) (g' : Fine u lb m) (hn : n < 100000) (hm : m < 100000) (hnm : n * m < 100000)
    (hfa : ∀ x ∈ wa, Fits x) (hfb : ∀ x ∈ wb, Fits x) (hK : combLI addF s la wa u lb wb = K) (hall : ∀ x ∈ K, x.2 = true) (hc : ((pairR s la u lb).length : Int) ≤ most) :
    Calls Tryz.prog 13 #[v, v', .int .i64 most] w fun e w' => ∃ x, e = .returned (.tuple #[x, .int .i64 0]) ∧ WVI w' x (joinL s u) (joinR s la u lb) (K.map Prod.fst) ∧ Below w.heap.size w w' := by
  refine (plus_any (most := most) h h' g g' hn hm hnm hfa hfb).mono ?_
  rintro e w' ⟨h1 | h1 | h1, hb⟩
  · omega
  · obtain ⟨_, ⟨x, hx, hx2⟩, _⟩ := h1
    rw [hK] at hx
    rw [hall x hx] at hx2; cases hx2
  · obtain ⟨_, _, x, y, z, he, hr, _⟩ := h1
    rw [hK] at hr
    exact ⟨_, he, hr, hb⟩

theorem sums_ok {s vars : List Int} {ll : List (List Int)} {ws : List Int} {v vv : Value} {w : World} {K : List (List Int)} (h : WVI w v s ll ws) (hv : Ints w vv vars) (hs : Asc s) (hl : ll.length < 100000) (hsl : s.length < 10000) (hvl : vars.length < 10000000) (hf : ∀ x ∈ ws, Fits x)
    (hK : wsrcL s ll ws vars = K) (hall : ∀ l ∈ K, sumOk l = true) :
    Calls Tryz.prog 9 #[v, vv] w fun e w' => ∃ x, e = .returned (.tuple #[x, .int .i64 0]) ∧ WVI w' x (meetL s vars) (projL s ll vars) (K.map sumV) ∧ Below w.heap.size w w' := by
  refine (sums_any h hv hs hl hsl hvl hf).mono ?_
  rintro e w' ⟨h1 | h1, hb⟩
  · obtain ⟨⟨x, hx, hx2⟩, _⟩ := h1
    rw [hK] at hx
    rw [hall x hx] at hx2; cases hx2
  · obtain ⟨_, x, y, z, he, hr, _⟩ := h1
    rw [hK] at hr
    exact ⟨_, he, hr, hb⟩

theorem mins_ok {s vars : List Int} {ll : List (List Int)} {ws : List Int} {v vv : Value} {w : World} {K : List (List Int)} (h : WVI w v s ll ws) (hv : Ints w vv vars) (hs : Asc s) (hl : ll.length < 100000) (hsl : s.length < 10000) (hvl : vars.length < 10000000) (hK : wsrcL s ll ws vars = K) :
    Calls Tryz.prog 8 #[v, vv] w fun e w' => ∃ x, e = .returned x ∧ WVI w' x (meetL s vars) (projL s ll vars) (K.map leastV) ∧ Below w.heap.size w w' := by
  refine (mins_any h hv hs hl hsl hvl).mono ?_
  rintro e w' ⟨x, y, z, he, hr, _, hb⟩
  rw [hK] at hr
  exact ⟨_, he, hr, hb⟩

theorem of_ok {s : List Int} {ll : List (List Int)} {q : Int} {v : Value} {w : World} (h : RelV w v s ll) (hl : ll.length < 100000) (hsl : s.length < 10000) (hrow : ∀ t ∈ ll, t.length < 100000000) :
    Calls Tryz.prog 7 #[v, .int .i64 q] w fun e w' => ∃ x, e = .returned x ∧ WVI w' x s ll (List.replicate ll.length q) ∧ Below w.heap.size w w' := by
  refine (ofI_any h hl hsl hrow).mono ?_
  rintro e w' ⟨x, y, z, he, hr, _, hb⟩
  exact ⟨_, he, hr, hb⟩

/-- Of shown: two rows, each weighing three. -/
theorem sh_fine : Fine [0] [[1], [2]] 2 := ⟨by decide, by decide, by decide, by decide, by decide, by decide, by decide⟩
theorem sh_fits : ∀ x ∈ [(3 : Int), 3], Fits x := by intro x hx; simp at hx; subst hx; unfold Fits; omega
theorem sh_src : wsrcL [0] [[1], [2]] [3, 3] [] = [[3, 3]] := by decide
theorem sh_meet : meetL [0] [] = [] := by decide
theorem sh_proj : projL [0] [[1], [2]] [] = [[]] := by decide
theorem sh_joinS : joinL [0] [0] = [0] := (join_self sh_fine).1
theorem sh_join : joinR [0] [[1], [2]] [0] [[1], [2]] = [[1], [2]] := (join_self sh_fine).2
theorem sh_pair : (pairR [0] [[1], [2]] [0] [[1], [2]]).length = 2 := by decide
theorem sh_mul : combLI mulF [0] [[1], [2]] [3, 3] [0] [[1], [2]] [3, 3] = [(9, true), (9, true)] := by unfold combLI; rw [sh_joinS, sh_join]; kernel_rfl
theorem sh_add : combLI addF [0] [[1], [2]] [3, 3] [0] [[1], [2]] [3, 3] = [(6, true), (6, true)] := by unfold combLI; rw [sh_joinS, sh_join]; kernel_rfl
theorem sh_sum : sumV [3, 3] = 6 ∧ sumOk [3, 3] = true ∧ leastV [3, 3] = 3 := by decide

end Go.Proofs.YtafpecdmaogohaaGreat

namespace Go.Proofs.YtafpecdmaogohaaGreat
set_option linter.unusedVariables false
set_option linter.unusedSimpArgs false

theorem meet_none (s : List Int) : meetL s [] = [] := by simp [meetL]
theorem pick_none (t : List Int) : pickL t [] = [] := rfl

theorem proj_none {s : List Int} {ll : List (List Int)} (hl : ll ≠ []) : projL s ll [] = [[]] := by
  refine AscL.ext (asc_proj _ _ _) (by simp [AscL]) fun u => ?_
  unfold projL cutL
  rw [(sortL_spec _).2, List.mem_map, meet_none]
  simp only [List.map_nil, pick_none, List.mem_singleton]
  constructor
  · rintro ⟨_, _, rfl⟩; rfl
  · rintro rfl
    obtain ⟨t, r, rfl⟩ := List.exists_cons_of_ne_nil hl
    exact ⟨t, by simp, rfl⟩

theorem proj_of_nil (s vars : List Int) : projL s [] vars = [] := rfl
theorem wsrc_of_nil (s ws vars : List Int) : wsrcL s [] ws vars = [] := rfl

theorem range_getD (ws : List Int) : (List.range ws.length).map (fun i => ws.getD i 0) = ws := by
  apply List.ext_getElem
  · simp
  · intro i h1 h2
    have : i < ws.length := by simpa using h2
    simp [this]

theorem wsrc_none {s : List Int} {ll : List (List Int)} {ws : List Int} (hl : ll ≠ []) (hw : ws.length = ll.length) : wsrcL s ll ws [] = [ws] := by
  unfold wsrcL srcL
  rw [proj_none hl, meet_none]
  simp only [List.map_cons, List.map_nil, List.cons.injEq, and_true]
  have e : srcAt [] ll ll.length [] = (List.range ll.length).map Int.ofNat := by
    unfold srcAt
    congr 1
    rw [List.filter_eq_self]
    intro i _
    rw [pick_none]; simp
  rw [e, List.map_map, ← hw]
  exact range_getD ws

def tot (g : Int → Int) (L : List (List Int)) : Int := (L.map fun l => (l.map g).sum).sum
theorem tot_set (g : Int → Int) (x : Int) : ∀ (L : List (List Int)) (j : Nat) (hj : j < L.length), tot g (L.set j (L[j] ++ [x])) = tot g L + g x
  | l :: r, 0, _ => by simp [tot]; omega
  | l :: r, j + 1, hj => by
    have ih := tot_set g x r j (by simpa using hj)
    simp only [tot, List.set_cons_succ, List.map_cons, List.sum_cons, List.getElem_cons_succ] at *
    omega

theorem tot_src {ps : List Int} {ll C : List (List Int)} (hn : C.Nodup) (hC : ∀ k (hk : k < ll.length), pickL ll[k] ps ∈ C) (g : Int → Int) : ∀ k, k ≤ ll.length → tot g (C.map (srcAt ps ll k)) = ((List.range k).map fun i : Nat => g (i : Int)).sum
  | 0, _ => by
    have e : C.map (srcAt ps ll 0) = List.replicate C.length [] := by
      apply List.ext_getElem
      · simp
      · intro i h1 h2; simp [srcAt]
    have z : ∀ n, tot g (List.replicate n []) = 0 := fun n => by
      induction n with
      | zero => rfl
      | succ n ih => simp only [tot, List.replicate_succ, List.map_cons, List.sum_cons, List.map_nil, List.sum_nil] at *; omega
    rw [e, z]; rfl
  | k + 1, hk => by
    have hk' : k < ll.length := by omega
    have ih := tot_src hn hC g k (by omega)
    obtain ⟨j, hj, e⟩ := List.getElem_of_mem (hC k hk')
    rw [src_step hk' hj hn e.symm]
    have hm : j < (C.map (srcAt ps ll k)).length := by simpa using hj
    have em : (C.map (srcAt ps ll k))[j] = srcAt ps ll k C[j] := by simp
    rw [← em, tot_set g k _ j hm, ih, List.range_succ, List.map_append]
    simp

theorem pick_in_proj {s vars : List Int} {ll : List (List Int)} (k : Nat) (hk : k < ll.length) : pickL ll[k] ((meetL s vars).map (placeL s)) ∈ projL s ll vars := by
  unfold projL cutL
  rw [(sortL_spec _).2]
  exact List.mem_map.2 ⟨ll[k], List.getElem_mem hk, rfl⟩

theorem sum_parts {s vars : List Int} {ll : List (List Int)} {ws : List Int} (hw : ws.length = ll.length) : ((wsrcL s ll ws vars).map List.sum).sum = ws.sum := by
  have h := tot_src (AscL.nodup (asc_proj s vars ll)) (fun k hk => pick_in_proj (s := s) (vars := vars) k hk) (fun p => ws.getD p.toNat 0) ll.length (Nat.le_refl _)
  have e : ((wsrcL s ll ws vars).map List.sum).sum = tot (fun p => ws.getD p.toNat 0) ((projL s ll vars).map (srcAt ((meetL s vars).map (placeL s)) ll ll.length)) := by
    unfold wsrcL srcL tot
    rw [List.map_map]; rfl
  rw [e, h, ← hw]
  have := range_getD ws
  conv => rhs; rw [← this]
  rfl

theorem mem_wsrc {s vars : List Int} {ll : List (List Int)} {ws : List Int} (hw : ws.length = ll.length) {x : Int} : (∃ l ∈ wsrcL s ll ws vars, x ∈ l) ↔ x ∈ ws := by
  constructor
  · rintro ⟨l, hl, hx⟩
    unfold wsrcL at hl
    obtain ⟨ps, hps, rfl⟩ := List.mem_map.1 hl
    obtain ⟨p, hp, rfl⟩ := List.mem_map.1 hx
    obtain ⟨h0, h1⟩ := (src_small hps).2 p hp
    have : p.toNat < ws.length := by omega
    rw [List.getD_eq_getElem?_getD, List.getElem?_eq_getElem this]
    exact List.getElem_mem this
  · intro hx
    obtain ⟨i, hi, rfl⟩ := List.getElem_of_mem hx
    have hil : i < ll.length := by omega
    refine ⟨_, List.mem_map.2 ⟨_, List.mem_map.2 ⟨_, pick_in_proj (s := s) (vars := vars) i hil, rfl⟩, rfl⟩, List.mem_map.2 ⟨(i : Int), ?_, ?_⟩⟩
    · unfold srcAt
      exact List.mem_map.2 ⟨i, List.mem_filter.2 ⟨List.mem_range.2 hil, by simp [hil]⟩, rfl⟩
    · simp [hi]

theorem wsrc_ne {s vars : List Int} {ll : List (List Int)} {ws l : List Int} (h : l ∈ wsrcL s ll ws vars) : l ≠ [] := by
  unfold wsrcL srcL at h
  obtain ⟨ps, hps, rfl⟩ := List.mem_map.1 h
  obtain ⟨c, hc, rfl⟩ := List.mem_map.1 hps
  unfold projL cutL at hc
  rw [(sortL_spec _).2] at hc
  obtain ⟨t, ht, rfl⟩ := List.mem_map.1 hc
  obtain ⟨i, hi, rfl⟩ := List.getElem_of_mem ht
  intro e
  have : (i : Int) ∈ srcAt ((meetL s vars).map (placeL s)) ll ll.length (pickL ll[i] ((meetL s vars).map (placeL s))) := by
    unfold srcAt
    exact List.mem_map.2 ⟨i, List.mem_filter.2 ⟨List.mem_range.2 hi, by simp [hi]⟩, rfl⟩
  rw [List.map_eq_nil_iff.1 e] at this
  cases this

theorem foldl_min : ∀ (r : List Int) (x : Int), (r.foldl min x = x ∨ r.foldl min x ∈ r) ∧ r.foldl min x ≤ x ∧ ∀ y ∈ r, r.foldl min x ≤ y
  | [], x => ⟨.inl rfl, Int.le_refl _, by simp⟩
  | y :: r, x => by
    obtain ⟨h1, h2, h3⟩ := foldl_min r (min x y)
    simp only [List.foldl_cons]
    refine ⟨?_, by omega, fun z hz => ?_⟩
    · rcases h1 with h1 | h1
      · rw [h1]
        rcases Int.le_total x y with h | h
        · exact .inl (by omega)
        · exact .inr (by rw [show min x y = y by omega]; simp)
      · exact .inr (by simp [h1])
    · rcases List.mem_cons.1 hz with rfl | hz
      · omega
      · exact h3 z hz

theorem least_spec {l : List Int} (h : l ≠ []) : leastV l ∈ l ∧ ∀ x ∈ l, leastV l ≤ x := by
  cases l with
  | nil => exact absurd rfl h
  | cons x r =>
    obtain ⟨h1, h2, h3⟩ := foldl_min r x
    refine ⟨?_, fun y hy => ?_⟩
    · rcases h1 with h1 | h1
      · show r.foldl min x ∈ _; rw [h1]; simp
      · exact List.mem_cons_of_mem _ h1
    · rcases List.mem_cons.1 hy with rfl | hy
      · exact h2
      · exact h3 y hy

theorem least_eq {l : List Int} {m : Int} (hm : m ∈ l) (h : ∀ x ∈ l, m ≤ x) : leastV l = m := by
  obtain ⟨h1, h2⟩ := least_spec (List.ne_nil_of_mem hm)
  have := h _ h1
  have := h2 _ hm
  omega

theorem least_parts {s vars : List Int} {ll : List (List Int)} {ws : List Int} (hl : ll ≠ []) (hw : ws.length = ll.length) : leastV ((wsrcL s ll ws vars).map leastV) = leastV ws := by
  have hne : ws ≠ [] := by rintro rfl; exact hl (List.length_eq_zero_iff.1 hw.symm)
  obtain ⟨h1, h2⟩ := least_spec hne
  refine least_eq ?_ ?_
  · obtain ⟨l, hlm, hx⟩ := (mem_wsrc (s := s) (vars := vars) hw).2 h1
    refine List.mem_map.2 ⟨l, hlm, ?_⟩
    refine least_eq hx fun x hx' => h2 x ((mem_wsrc hw).1 ⟨l, hlm, hx'⟩)
  · intro x hx
    obtain ⟨l, hlm, rfl⟩ := List.mem_map.1 hx
    exact h2 _ ((mem_wsrc hw).1 ⟨l, hlm, (least_spec (wsrc_ne hlm)).1⟩)

/-- Weights below a thousand, of few rows: all sums fit. -/
def Few (ws : List Int) : Prop := ∀ x ∈ ws, -1000 < x ∧ x < 1000
theorem Few.fits {ws : List Int} (h : Few ws) : ∀ x ∈ ws, Fits x := fun x hx => by have := h x hx; unfold Fits; omega
theorem sizes_le {n : Nat} : ∀ {l : List Int}, (∀ x ∈ l, x.natAbs ≤ n) → sizesW l ≤ l.length * n
  | [], _ => by simp [sizesW]
  | x :: r, h => by
    have ih := sizes_le (l := r) (fun y hy => h y (by simp [hy]))
    have hx := h x (by simp)
    simp only [sizesW, List.map_cons, List.sum_cons, List.length_cons, Nat.succ_mul] at *
    omega
theorem sum_ok_of {n : Nat} {l : List Int} (h : ∀ x ∈ l, x.natAbs ≤ n) (hb : l.length * n ≤ 4611686018427387904) : sumOk l = true ∧ sumV l = l.sum := by
  have hs := sizes_le h
  have h1 : sumOk l = true := by unfold sumOk; rw [decide_eq_true_eq]; omega
  exact ⟨h1, by unfold sumV; rw [h1]; rfl⟩
theorem wsrc_len {s vars : List Int} {ll : List (List Int)} {ws l : List Int} (h : l ∈ wsrcL s ll ws vars) : l.length ≤ ll.length := by
  unfold wsrcL at h
  obtain ⟨ps, hps, rfl⟩ := List.mem_map.1 h
  rw [List.length_map]; exact (src_small hps).1
theorem map_sumV {K : List (List Int)} (h : ∀ l ∈ K, sumV l = l.sum) : K.map sumV = K.map List.sum := List.map_congr_left h

end Go.Proofs.YtafpecdmaogohaaGreat
