/-
  The contracts of combine and of what calls it (weights int64).
-/
import Derived.Test.YtafpecdmaogohaaGreatWghTwo
import Derived.Test.YtafpecdmaogohaaGreatWghOne
namespace Go.Proofs.YtafpecdmaogohaaGreat
open Go.RowKit
set_option linter.unusedVariables false
set_option linter.unusedSimpArgs false
set_option maxRecDepth 20000

theorem Seq.setBoxG {α : Type} {enc : α → Value} (henc : ∀ y a n c, enc y ≠ .slice a n c) {w : World} {v : Value} {l : List α} (h : Seq enc w v l) {b : Nat} (hb : BoxS w b) (i : Nat) (y : Value) : Seq enc (w.setCell ⟨b, i, none⟩ y) v l := by
  refine h.setCell (fun hne e => ?_) y
  obtain ⟨a, cap, rfl, h2, h3, h4, h5, h6⟩ := h
  obtain ⟨x, rfl, hc⟩ := h6 0 (l.head hne) (by cases l with
    | nil => exact absurd rfl hne
    | cons y r => rfl)
  have hx : x.block = b := by simpa [Value.ownBlock] using e
  rw [hx] at hc
  obtain ⟨_, _, _, he⟩ := hb _ _ hc
  exact henc _ _ _ _ he

theorem BoxWI.boxS {w : World} {b : Nat} {a a' a'' : Option Addr} {n n' n'' c c' c'' : Nat} (h : BoxWI w b (.slice a n c) (.slice a' n' c') (.slice a'' n'' c'')) : BoxS w b := by
  intro off u hu
  unfold BoxWI at h
  simp only [World.cell?, h] at hu
  match off, hu with
  | 0, hu => simp at hu; exact ⟨_, _, _, hu.symm⟩
  | 1, hu => simp at hu; exact ⟨_, _, _, hu.symm⟩
  | 2, hu => simp at hu; exact ⟨_, _, _, hu.symm⟩
  | off + 3, hu => simp at hu

theorem WVI.sl {w : World} {v : Value} {s : List Int} {ll : List (List Int)} {ws : List Int} (h : WVI w v s ll ws) : ∃ a n c a' n' c' a'' n'' c'', v = .agg #[.slice a n c, .slice a' n' c', .slice a'' n'' c''] := by
  obtain ⟨a, ca, b, cb, d, cd, e, _⟩ := h.form
  exact ⟨_, _, _, _, _, _, _, _, _, e⟩

/-- A weighted relation that is laid in a box of its own. -/
theorem wv_storeI {w : World} {b : Nat} {p q r : Value} {a a' a'' : Option Addr} {n n' n'' c c' c'' : Nat} {s : List Int} {ll : List (List Int)} {ws : List Int} (hb : BoxS w b) (hx : BoxWI w b p q r)
    (h : WVI w (.agg #[.slice a n c, .slice a' n' c', .slice a'' n'' c'']) s ll ws) (hne : (Value.slice a' n' c').ownBlock ≠ some b) :
    WVI (((w.setCell ⟨b, 0, none⟩ (.slice a n c)).setCell ⟨b, 1, none⟩ (.slice a' n' c')).setCell ⟨b, 2, none⟩ (.slice a'' n'' c'')) (.agg #[.slice a n c, .slice a' n' c', .slice a'' n'' c'']) s ll ws := by
  obtain ⟨vs, vr, vw, e, h1, h2, h3⟩ := h
  cases e
  have hb1 := hb.setCell hx.cell0 a n c
  have hx1 : (w.setCell ⟨b, 0, none⟩ (.slice a n c)).cell? ⟨b, 1, none⟩ = some q := by
    rw [World.cell?_setCell_other]
    · exact hx.cell1
    · intro e; cases e
  have hb2 := hb1.setCell hx1 a' n' c'
  exact ⟨_, _, _, rfl, ((h1.setBox hb _ _).setBox hb1 _ _).setBox hb2 _ _, ((h2.setBox hb hne _ _).setBox hb1 hne _ _).setBox hb2 hne _ _,
    Seq.setBoxG (fun _ _ _ _ h => by cases h) (Seq.setBoxG (fun _ _ _ _ h => by cases h) (Seq.setBoxG (fun _ _ _ _ h => by cases h) h3 hb _ _) hb1 _ _) hb2 _ _⟩

theorem below_store3 {w W : World} {B b : Nat} (h : Below B w W) (hb : B ≤ b) (x y z : Value) : Below B w (((W.setCell ⟨b, 0, none⟩ x).setCell ⟨b, 1, none⟩ y).setCell ⟨b, 2, none⟩ z) := ((h.setCell hb _).setCell hb _).setCell hb _

def wOfI (ll : List (List Int)) (ws : List Int) (t : List Int) : Int := ws.getD (lowN ll t) (0 : Int)

/-- What each row of the join weighs, and whether that fits. -/
def combLI (f : Int → Int → Int × Bool) (s : List Int) (la : List (List Int)) (wa : List Int) (u : List Int) (lb : List (List Int)) (wb : List Int) : List (Int × Bool) :=
  (joinR s la u lb).map fun r => f (wOfI la wa (pickL r (idxL (joinL s u) s (joinL s u).length))) (wOfI lb wb (pickL r (idxL (joinL s u) u (joinL s u).length)))

/-- What combine answers. -/
def CombEndsI (B : Nat) (w' : World) (e : Ending) (S : List Int) (J : List (List Int)) (K : List (Int × Bool)) (c : Nat) (most : Int) : Prop :=
  (most < (c : Int) ∧ e = .returned (.tuple #[.agg #[.slice none 0 0, .slice none 0 0, .slice none 0 0], .int .i64 9])) ∨
  ((c : Int) ≤ most ∧ (∃ x ∈ K, x.2 = false) ∧ e = .returned (.tuple #[.agg #[.slice none 0 0, .slice none 0 0, .slice none 0 0], .int .i64 11])) ∨
  ((c : Int) ≤ most ∧ (∀ x ∈ K, x.2 = true) ∧ ∃ x y z, e = .returned (.tuple #[.agg #[x, y, z], .int .i64 0]) ∧ WVI w' (.agg #[x, y, z]) S J (K.map Prod.fst) ∧ ∀ b, b < B → y.ownBlock ≠ some b)

set_option maxHeartbeats 40000000 in
theorem combineI_any {s u : List Int} {la lb : List (List Int)} {wa wb : List Int} {n m : Nat} {v v' : Value} {most : Int} {F : FuncId} {f : Int → Int → Int × Bool} {w : World} (h : WVI w v s la wa) (h' : WVI w v' u lb wb) (g : Fine s la n) (g' : Fine u lb m) (hn : n < 100000) (hm : m < 100000) (hnm : n * m < 100000)
    (hF : ∀ t t' W, Calls Tryz.prog F #[(Value.int .i64) (wOfI la wa t), (Value.int .i64) (wOfI lb wb t')] W fun e w' => e = .returned (.tuple #[(Value.int .i64) (f (wOfI la wa t) (wOfI lb wb t')).1, .bool (f (wOfI la wa t) (wOfI lb wb t')).2]) ∧ Below W.heap.size W w') (hFf : ∃ fn c, Tryz.prog.funcs[F]? = some fn ∧ (fn.name == "runtime.NumGoroutine") = false ∧ fn.body = some c) :
    Calls Tryz.prog 24 #[v, v', .int .i64 most, .func (.func F) #[] #[]] w fun e w' => CombEndsI w.heap.size w' e (joinL s u) (joinR s la u lb) (combLI f s la wa u lb wb) (pairR s la u lb).length most ∧ Below w.heap.size w w' := by
  obtain ⟨a, ca, b, cb, d, cd, rfl, k1, k2, k3, k4, hs1, ht1, hw1⟩ := h.form
  obtain ⟨a', ca', b', cb', d', cd', rfl, k1', k2', k3', k4', hs2, ht2, hw2⟩ := h'.form
  obtain ⟨W0, hW0⟩ : ∃ W, W = ((w.alloc (.cells #[.slice a s.length ca, .slice b la.length cb, .slice d wa.length cd] 35)).alloc (.cells #[.slice a' u.length ca', .slice b' lb.length cb', .slice d' wb.length cd'] 35)).alloc (.cells #[.slice none 0 0, .slice none 0 0, .slice none 0 0] 35) := ⟨_, rfl⟩
  have hb0 : Below w.heap.size w W0 := by rw [hW0]; exact (b2x w _ _).alloc (by simp; omega) _
  have x0 : BoxWI W0 w.heap.size (.slice a s.length ca) (.slice b la.length cb) (.slice d wa.length cd) := by rw [hW0]; exact ((BoxWI.new w _ _ _).push _).push _
  have x1 : BoxWI W0 (w.heap.size + 1) (.slice a' u.length ca') (.slice b' lb.length cb') (.slice d' wb.length cd') := by
    rw [hW0]; have := (BoxWI.new (w.alloc (.cells #[.slice a s.length ca, .slice b la.length cb, .slice d wa.length cd] 35)) (.slice a' u.length ca') (.slice b' lb.length cb') (.slice d' wb.length cd')).push (.cells #[.slice none 0 0, .slice none 0 0, .slice none 0 0] 35); simpa using this
  have x2 : BoxWI W0 (w.heap.size + 1 + 1) (.slice none 0 0) (.slice none 0 0) (.slice none 0 0) := by
    rw [hW0]; have := BoxWI.new ((w.alloc (.cells #[.slice a s.length ca, .slice b la.length cb, .slice d wa.length cd] 35)).alloc (.cells #[.slice a' u.length ca', .slice b' lb.length cb', .slice d' wb.length cd'] 35)) (.slice none 0 0) (.slice none 0 0) (.slice none 0 0); simpa using this
  have HJ := hide (joined_any (most := most) (h.below hb0).rel (h'.below hb0).rel g g' hn hm hnm)
  have hsl := g.slen
  have hul := g'.slen
  have hJl := joinS_le 0 g.asc g'.asc
  have hJR := Nat.lt_of_le_of_lt (Nat.le_trans (join_len_le s u la lb) (Nat.mul_le_mul g.llen g'.llen)) hnm
  have hll := Nat.lt_of_le_of_lt g.llen hn
  have hml := Nat.lt_of_le_of_lt g'.llen hm
  have HW0 := hide hW0
  have hzw := hb0.size
  have HA := hide (fun W (hb : Below w.heap.size w W) => h.below hb)
  have HB := hide (fun W (hb : Below w.heap.size w W) => h'.below hb)
  have HSA := hide (fun W (hb : Below w.heap.size w W) => hs1.below hb)
  have HSB := hide (fun W (hb : Below w.heap.size w W) => hs2.below hb)
  have HAS := hide g.asl
  have HBS := hide g'.asl
  have HUA := hide (asc_le g.asc)
  have HUB := hide (asc_le g'.asc)
  have HF := hide hF
  have HCL := hide (show combLI f s la wa u lb wb = (joinR s la u lb).map fun r => f (wOfI la wa (pickL r (idxL (joinL s u) s (joinL s u).length))) (wOfI lb wb (pickL r (idxL (joinL s u) u (joinL s u).length))) from rfl)
  obtain ⟨Ffn, Fc, hF1, hF2, hF3⟩ := hFf
  have HEN := enters (P := Tryz.prog) hF1 hF2 hF3
  generalize combLI f s la wa u lb wb = K at *
  generalize joinR s la u lb = JR at *
  generalize joinL s u = J at *
  generalize (pairR s la u lb).length = cnt at *
  clear h h' hW0 hs1 ht1 hw1 hs2 ht2 hw2 g g' hF hF1 hF2 hF3
  have c00 := x0.cell0
  have c01 := x0.cell1
  have c10 := x1.cell0
  have c11 := x1.cell1
  have HX0 := hide x0
  have HX1 := hide x1
  have HX2 := hide x2
  have HX2L := hide x2.lt
  clear x0 x1 x2
  go_enter Tryz.func24, Tryz.ntmps24
  go_wp2_with fail
  rw [← unhide HW0]
  refine (unhide HJ).mono ?_
  rintro e w1 ⟨hends, hb1⟩
  have x0 := (unhide HX0).belowH hb1
  have x1 := (unhide HX1).belowH hb1
  have x2 := (unhide HX2).belowH hb1
  have hbel1 := hb0.trans (hb1.mono hzw)
  clear HJ c00 c01 c10 c11 HX0 HX1 HX2
  rcases hends with ⟨x, y, rfl, hr, hcnt, hyn⟩ | ⟨rfl, hcnt⟩
  case inr =>
    have hd0 := (x2.push (.cells #[.slice none 0 0, .slice none 0 0] 29)).cell0
    have hd1 := (x2.push (.cells #[.slice none 0 0, .slice none 0 0] 29)).cell1
    have hd2 := (x2.push (.cells #[.slice none 0 0, .slice none 0 0] 29)).cell2
    have hg0 := (x2.push (.cells #[.slice none 0 0, .slice none 0 0] 29)).frozen 0
    have hg1 := (x2.push (.cells #[.slice none 0 0, .slice none 0 0] 29)).frozen 1
    have hg2 := (x2.push (.cells #[.slice none 0 0, .slice none 0 0] 29)).frozen 2
    clear HA HB HSA HSB HF HEN
    go_wp2
    refine bodyPost_ret (v := .tuple #[.agg #[.slice none 0 0, .slice none 0 0, .slice none 0 0], .int .i64 9]) (by simp [results, Tryz.results24, go_sem, hd0, hd1, hd2]) rfl ⟨.inl ⟨hcnt, rfl⟩, ?_⟩
    first | exact hbel1.alloc hbel1.size _ | exact below_store3 (hbel1.alloc hbel1.size _) (by omega) _ _ _
  case inl =>
  obtain ⟨ra, rc, rb, rd, hre, _, hrc, _, hrd, hri, hrt⟩ := hr.form
  cases hre
  unfold maxLen at hrd
  have hb2 := (Below.refl w1.heap.size w1).alloc (Nat.le_refl _) (.cells #[.slice ra J.length rc, .slice rb JR.length rd] 29)
  have x3 := Box.new w1 (.slice ra J.length rc) (.slice rb JR.length rd)
  obtain ⟨W2, hW2⟩ : ∃ W, W = w1.alloc (.cells #[.slice ra J.length rc, .slice rb JR.length rd] 29) := ⟨_, rfl⟩
  rw [← hW2] at hb2 x3
  have HW2 := hide hW2
  replace x0 := x0.belowH hb2
  replace x1 := x1.belowH hb2
  replace x2 := x2.belowH hb2
  have hbel2 := below_then hbel1 hb2
  have hri2 := hri.below hb2
  have HRT := hide (hrt.below hb2)
  have HRI := hide hri2
  have hz2 := hbel2.size
  have HPA := hide (fun W (hb : Below W2.heap.size W2 W) => placesW_any ((unhide HRI).below hb) (unhide HSA _ (hbel2.trans (hb.mono hz2))) (unhide HUA) (by omega) (by omega))
  have HPB := hide (fun W (hb : Below W2.heap.size W2 W) => placesW_any ((unhide HRI).below hb) (unhide HSB _ (hbel2.trans (hb.mono hz2))) (unhide HUB) (by omega) (by omega))
  have HKK := hide (fun W (hb : Below W2.heap.size W2 W) => And.intro (x3.belowH hb).cell0 (And.intro (x0.belowH hb).cell0 (x1.belowH hb).cell0))
  have hbR := Below.refl W2.heap.size W2
  have hiA := idxL_le J s J.length
  have hiB := idxL_le J u J.length
  generalize idxL J s J.length = pA at *
  generalize idxL J u J.length = pB at *
  clear hr hri hrt hri2 hW2 hb1 hbel1
  go_wp2
  rw [← unhide HW2]
  go_region_held3 (fun W => W.cell? ⟨w1.heap.size, 0, none⟩ = some (.slice ra J.length rc) ∧ W.cell? ⟨w.heap.size, 0, none⟩ = some (.slice a s.length ca) ∧ W.cell? ⟨w.heap.size + 1, 0, none⟩ = some (.slice a' u.length ca'))
    (first | exact unhide HKK _ (by first | exact hB2 | exact hB1 | exact hbR | exact below_same rfl rfl rfl rfl))
    (first
      | (go_at_call 32; refine (unhide HPB _ hB1).mono ?_; rintro e w4 ⟨v4, rfl, hp2, _, hb4⟩; obtain ⟨qa, qc, qe, _, _⟩ := hp2.form; rw [qe] at hp2 ⊢; clear qe; have hB2 : Below W2.heap.size W2 w4 := below_then hB1 hb4)
      | (go_at_call 32; refine (unhide HPA _ (by first | exact hbR | exact below_same rfl rfl rfl rfl)).mono ?_; rintro e w3 ⟨v3, rfl, hp1, _, hb3⟩; obtain ⟨pa, pc, pe, _, _⟩ := hp1.form; rw [pe] at hp1 ⊢; clear pe; have hB1 : Below W2.heap.size W2 w3 := below_then (by first | exact hbR | exact below_same rfl rfl rfl rfl) hb3))
  replace hp1 := hp1.below hb4
  replace x0 := x0.belowH hB2
  replace x1 := x1.belowH hB2
  replace x2 := x2.belowH hB2
  replace x3 := x3.belowH hB2
  have hbel4 := below_then hbel2 hB2
  have HRT4 := hide ((unhide HRT).below hB2)
  have HRI4 := hide ((unhide HRI).below hB2)
  have HP1 := hide hp1
  have HP2 := hide hp2
  have hz4 := hbel4.size
  have hl2 := x2.lt
  have c30 := x3.cell0
  have c31 := x3.cell1
  have c31' := (x3.push (.cells #[.slice ra J.length rc, .slice rb JR.length rd, .slice none 0 0] 35)).cell1
  have x4 := BoxWI.new w4 (.slice ra J.length rc) (.slice rb JR.length rd) (.slice none 0 0)
  clear HPA HPB HKK hbR hB1 hB2 hb3 hb4 hp1 hp2 HRT HRI hbel2 hb2
  go_wp2
  go_loopw [16, 17, 18, 49] (fun _ _ _ i wr => ∃ (k : Nat) (zv : Value), k ≤ JR.length ∧ i = .int .i64 k ∧ BoxWI wr w4.heap.size (.slice ra J.length rc) (.slice rb JR.length rd) zv ∧ OwnWI (w4.heap.size + 1) wr zv ((K.take k).map Prod.fst) ∧ (∀ q ∈ K.take k, q.2 = true) ∧ Below w4.heap.size w4 wr) (fun _ _ _ i _ => JR.length - (intOf i).toNat)
  case atStart => exact ⟨0, _, by omega, rfl, x4, World.ownsRow_nil _ _ _ _, by simp, (Below.refl _ _).alloc (Nat.le_refl _) _⟩
  case round =>
    clear x4 c30 c31 c31'
    obtain ⟨k, zv, hk, rfl, y4, hown, hall, hbel⟩ := hrel
    have hz := hbel.size
    have hl4 := y4.lt
    have hbw := hbel4.trans (hbel.mono hz4)
    have hKl : K.length = JR.length := by rw [unhide HCL, List.length_map]
    obtain ⟨za, zn, zc, rfl⟩ := own_sl hown
    by_cases hkl : k < JR.length
    · obtain ⟨bl, ol, ul, hble, hcl0, hiL0⟩ := (unhide HRT4).at hkl
      subst hble
      have hcl := Below.cell_of hbel hcl0
      have hiL := hiL0.below hbel
      obtain ⟨ia, ic, rfl, _, _⟩ := hiL0.form
      have hkK : k < K.length := by omega
      have HKE := hide (show K[k] = f (wOfI la wa (pickL JR[k] pA)) (wOfI lb wb (pickL JR[k] pB)) by have hc := unhide HCL; subst hc; rw [List.getElem_map])
      have HTK := hide (List.take_succ_eq_append_getElem hkK)
      have HPA := hide (fun W (hb : Below wr.heap.size wr W) => pick_any (w := W) (hiL.below hb) (((unhide HP1).below hbel).below hb) (by omega))
      have HPB := hide (fun W (hb : Below wr.heap.size wr W) => pick_any (w := W) (hiL.below hb) (((unhide HP2).below hbel).below hb) (by omega))
      have HWA := hide (fun W (hb : Below wr.heap.size wr W) vt (ht : Ints W vt (pickL JR[k] pA)) => weightOfI_any (unhide HA _ (below_then hbw hb)) ht (unhide HAS) (by omega))
      have HWB := hide (fun W (hb : Below wr.heap.size wr W) vt (ht : Ints W vt (pickL JR[k] pB)) => weightOfI_any (unhide HB _ (below_then hbw hb)) ht (unhide HBS) (by omega))
      have HFF := hide (unhide HF (pickL JR[k] pA) (pickL JR[k] pB))
      generalize pickL JR[k] pA = tA at *
      generalize pickL JR[k] pB = tB at *
      rw [show wa.getD (lowN la tA) (0 : Int) = wOfI la wa tA from rfl] at HWA
      rw [show wb.getD (lowN lb tB) (0 : Int) = wOfI lb wb tB from rfl] at HWB
      generalize wOfI la wa tA = xA at *
      generalize wOfI lb wb tB = xB at *
      generalize f xA xB = q at *
      have y0 := x0.below hbel (by have := x0.lt; exact this)
      have y1 := x1.below hbel (by have := x1.lt; exact this)
      have HKK := hide (fun W (hb : Below wr.heap.size wr W) => And.intro (y0.belowH hb).cell0 (And.intro (y0.belowH hb).cell1 (And.intro (y0.belowH hb).cell2 (And.intro (y1.belowH hb).cell0 (And.intro (y1.belowH hb).cell1 (y1.belowH hb).cell2)))))
      have hbR := Below.refl wr.heap.size wr
      have HY4 := hide y4
      have HOW := hide hown
      have HALL := hide hall
      obtain ⟨q1, q2⟩ := q
      clear hcl0 hiL hiL0 y4 hown hall
      go_wp2
      go_region_held3 (fun W => W.cell? ⟨w.heap.size, 0, none⟩ = some (.slice a s.length ca) ∧ W.cell? ⟨w.heap.size, 1, none⟩ = some (.slice b la.length cb) ∧ W.cell? ⟨w.heap.size, 2, none⟩ = some (.slice d wa.length cd) ∧ W.cell? ⟨w.heap.size + 1, 0, none⟩ = some (.slice a' u.length ca') ∧ W.cell? ⟨w.heap.size + 1, 1, none⟩ = some (.slice b' lb.length cb') ∧ W.cell? ⟨w.heap.size + 1, 2, none⟩ = some (.slice d' wb.length cd'))
        (first | exact unhide HKK _ (by first | exact hR5 | exact hR4 | exact hR3 | exact hR2 | exact hR1 | exact hbR | exact below_same rfl rfl rfl rfl))
        (first
          | (have hpv := hR4; refine (unhide HFF _).mono ?_; rintro e w9 ⟨rfl, hb9⟩; have hR5 : Below wr.heap.size wr w9 := below_then hR4 hb9)
          | (go_at_call 40; have hpv := hR3; refine (unhide HWB _ hR3 _ htB).mono ?_; rintro e w8 ⟨rfl, hb8⟩; have hR4 : Below wr.heap.size wr w8 := below_then hR3 hb8)
          | (go_at_call 34; have hpv := hR2; refine (unhide HPB _ hR2).mono ?_; rintro e w7 ⟨u7, rfl, htB, _, hb7⟩; obtain ⟨a7, c7, e7, _, _⟩ := htB.form; rw [e7] at htB ⊢; clear e7; have hR3 : Below wr.heap.size wr w7 := below_then hR2 hb7)
          | (go_at_call 40; have hpv := hR1; refine (unhide HWA _ hR1 _ htA).mono ?_; rintro e w6 ⟨rfl, hb6⟩; have hR2 : Below wr.heap.size wr w6 := below_then hR1 hb6)
          | (go_at_call 34; refine (unhide HPA _ (by first | exact hbR | exact below_same rfl rfl rfl rfl)).mono ?_; rintro e w5 ⟨u5, rfl, htA, _, hb5⟩; obtain ⟨a5, c5, e5, _, _⟩ := htA.form; rw [e5] at htA ⊢; clear e5; have hR1 : Below wr.heap.size wr w5 := below_then (by first | exact hbR | exact below_same rfl rfl rfl rfl) hb5))
      have y2 := (x2.below hbel hl2).belowH hR5
      have y4 := (unhide HY4).belowH hR5
      have hown9 := own_below (unhide HOW) hR5
      have hbw9 := below_then hbw hR5
      have hz9 : w4.heap.size + 1 ≤ w9.heap.size := y4.lt
      have hKk : K[k] = (q1, q2) := unhide HKE
      rw [hKk] at HTK
      clear HPA HPB HWA HWB HFF HKK HKE HY4 HOW hR1 hR2 hR3 hR4 hb5 hb6 hb7 hb8 hb9 htA htB
      cases q2 with
      | false =>
        have hd0 := y2.cell0
        have hd1 := y2.cell1
        have hd2 := y2.cell2
        have hg0 := y2.frozen 0
        have hg1 := y2.frozen 1
        have hg2 := y2.frozen 2
        have HX := hide (show ∃ x ∈ K, x.2 = false from ⟨K[k], List.getElem_mem hkK, by rw [hKk]⟩)
        clear hown9 y4 hKk HTK
        go_wp2
        refine bodyPost_ret (v := .tuple #[.agg #[.slice none 0 0, .slice none 0 0, .slice none 0 0], .int .i64 11]) (by simp [results, Tryz.results24, go_sem, hd0, hd1, hd2]) rfl ⟨.inr (.inl ⟨hcnt, unhide HX, rfl⟩), ?_⟩
        first | exact hbw9 | exact below_store3 hbw9 (by omega) _ _ _
      | true =>
        have c42 := y4.cell2
        have hne : (Value.slice za zn zc).ownBlock ≠ some w4.heap.size := (New.of_own hown9).ne (by omega)
        have hln : ((K.take k).map Prod.fst).length < 100000 := by rw [List.length_map, List.length_take]; omega
        have HTM := hide (show (K.take (k + 1)).map Prod.fst = (K.take k).map Prod.fst ++ [q1] by rw [unhide HTK, List.map_append]; rfl)
        have HTA := hide (show ∀ q ∈ K.take (k + 1), q.2 = true by
          rw [unhide HTK]
          intro q hq
          rcases List.mem_append.1 hq with h | h
          · exact unhide HALL q h
          · rw [List.mem_singleton.1 h])
        have HD := hide y4
        generalize (K.take k).map Prod.fst = KL at *
        clear hKk HTK HALL
        go_wp2_with (at_builtin; refine wp_app_wI (y := q1) rfl (.tmp 72) (.tmp 74) rfl hown9 rfl hz9 rfl (by omega) ?_; intro v' w10 hown10 hgrew; obtain ⟨na, nm, nc, hv10⟩ := own_sl hown10; subst hv10; have y5 := (unhide HD).grew hgrew hne; have e0 := y5.cell2; have e1 := y5.frozen 2)
        have hn4 : (Value.slice na nm nc).ownBlock ≠ some w4.heap.size := (New.of_own hown10).ne (by omega)
        go_roundw
        case rel => exact ⟨k + 1, _, by omega, by go_num, y5.set2 _, by rw [unhide HTM]; exact ownsRow_setCell_other hown10 hn4 _, unhide HTA, ((hbel.trans (hR5.mono hz)).trans (hgrew.below.mono (by omega))).setCell (Nat.le_refl _) _⟩
        case measure => simp [intOf]; omega
    · have hkk : k = JR.length := by omega
      have hKt : K.take k = K := List.take_of_length_le (by omega)
      rw [hKt] at hown hall
      have y2 := x2.below hbel hl2
      have c40 := y4.cell0
      have c41 := y4.cell1
      have c42 := y4.cell2
      have hd0 := y2.cell0
      have hd1 := y2.cell1
      have hd2 := y2.cell2
      have hg0 := y2.frozen 0
      have hg1 := y2.frozen 1
      have hg2 := y2.frozen 2
      have HWV : Hid (WVI wr (.agg #[.slice ra J.length rc, .slice rb JR.length rd, .slice za zn zc]) J JR (K.map Prod.fst)) := hide ⟨_, _, _, rfl, (unhide HRI4).below hbel, (unhide HRT4).below hbel, Seq.of_own hown⟩
      have HY := hide hyn
      have HALL := hide hall
      have hW0z := hb0.size
      have hnr : (Value.slice rb JR.length rd).ownBlock ≠ some (w.heap.size + 1 + 1) := unhide HY _ (by have := unhide HX2L; exact this)
      clear hown hall hyn hKt y4
      go_wp2
      have hfin := wv_storeI y2.boxS y2 (unhide HWV) hnr
      refine bodyPost_ret (v := .tuple #[.agg #[.slice ra J.length rc, .slice rb JR.length rd, .slice za zn zc], .int .i64 0]) (by simp [results, Tryz.results24, go_sem, hd0, hd1, hd2]) rfl ⟨.inr (.inr ⟨hcnt, unhide HALL, _, _, _, rfl, hfin, fun b hb => unhide HY b (by omega)⟩), below_store3 hbw (by omega) _ _ _⟩

end Go.Proofs.YtafpecdmaogohaaGreat
