/-
  The contract of Print, of an instance whose hard constraints have neither rows nor args, and that has no soft ones.
-/
import Derived.Test.YtoiokplgkanepaaDoorPrintD
namespace Go.Proofs.YtoiokplgkanepaaDoor
open Go.RowKit
set_option linter.unusedVariables false
set_option linter.unusedSimpArgs false
set_option maxRecDepth 20000

def domT (dec : Int → Bytes) (d : List Int) : Bytes := [118, 97, 114] ++ numsL dec d ++ [59, 10]
def conT (dec : Int → Bytes) (c : Con) : Bytes := wordsL.getD c.kind.toNat [] ++ numsL dec c.scope ++ [59, 10]
def domsT (dec : Int → Bytes) (l : List (List Int)) : Bytes := l.flatMap (domT dec)
def consT (dec : Int → Bytes) (l : List Con) : Bytes := l.flatMap (conT dec)
/-- The text of a plain instance. -/
def textP (dec : Int → Bytes) (x : Ins) : Bytes := domsT dec x.doms ++ consT dec x.hard
theorem domsT_cons (dec : Int → Bytes) (d : List Int) (l : List (List Int)) : domsT dec (d :: l) = domT dec d ++ domsT dec l := by simp [domsT]
theorem consT_cons (dec : Int → Bytes) (c : Con) (l : List Con) : consT dec (c :: l) = conT dec c ++ consT dec l := by simp [consT]

theorem numsL_len {dec : Int → Bytes} (m : List Int) (h : ∀ n ∈ m, (dec n).length ≤ 20) : (numsL dec m).length ≤ m.length * 30 := by
  induction m with
  | nil => simp [numsL]
  | cons n m ih =>
    rw [numsL_cons]
    have h1 := h n (by simp)
    have h2 := ih (fun x hx => h x (by simp [hx]))
    simp
    omega

set_option maxHeartbeats 1000000 in
theorem print_plain {dec : Int → Bytes} {x : Ins} {v : Value} {w : World} (h : InsV w v x) (hx : PlainI x) (T : Tabs w) (h0 : x.doms ≠ [])
    (hd : ∀ d ∈ x.doms, d.length ≤ 16 ∧ ∀ n ∈ d, Tells10 dec n ∧ (dec n).length ≤ 20) (hc : ∀ c ∈ x.hard, c.scope.length ≤ 6 ∧ ∀ n ∈ c.scope, Tells10 dec n ∧ (dec n).length ≤ 20) :
    Calls Tryd.prog 10 #[v] w fun e w' => e = .returned (.string ⟨(textP dec x).toArray⟩) ∧ Below w.heap.size w w' := by
  have HR0 := hide (fun W (hb : Below w.heap.size w W) => right_plain (h.below hb) hx)
  obtain ⟨dv, hv, sv, rfl, hdo, ⟨qs, q1, q2, q3, q4⟩, us, s1, s2, s3, s4⟩ := h
  have hs0 := hx.s1
  obtain ⟨da, dc, rfl, hdl, hdc⟩ := hdo.form
  obtain ⟨ha, hcc, rfl, hhl, hhc⟩ := q1.form
  obtain ⟨sa, sc, rfl, hsl, hsc⟩ := s1.form
  unfold maxLen at hdc hhc hsc
  have hu0 : us.length = 0 := by rw [s3, hs0]; rfl
  rw [hu0] at HR0 ⊢
  have hb0 := (Below.refl w.heap.size w).alloc (Nat.le_refl _) (.cells #[.slice da x.doms.length dc, .slice ha qs.length hcc, .slice sa 0 sc] 27)
  have x0 := Box3.new 27 w (.slice da x.doms.length dc) (.slice ha qs.length hcc) (.slice sa 0 sc)
  have HR1 := hide (unhide HR0 _ hb0)
  have HDO := hide (fun W (hb : Below w.heap.size w W) => hdo.tups.below hb)
  have HHQ := hide (fun W (hb : Below w.heap.size w W) => (q1.keptO q2 (grown_below hb none) (fun b e => by cases e) : SeqQ W (.slice ha qs.length hcc) qs))
  have HHC := hide (fun W (hb : Below w.heap.size w W) i hi hi' => (q4 i hi hi').kept (grown_below hb none) (fun b e => by cases e))
  have HQ3 := hide q3
  have HPL := hide hx
  have HD := hide hd
  have HC := hide hc
  have HT := hide T
  have X0 := hide x0
  have HB0 := hide hb0
  have H0 := hide h0
  have n1 : x.doms.length ≤ 40 := hx.d1
  have n2 : x.hard.length ≤ 200 := hx.h1
  clear HR0 hdo q1 q2 q3 q4 s1 s2 s3 s4 hx hs0 hu0 hb0 x0 hd hc T h0
  obtain ⟨X, hX⟩ : ∃ X, X = textP dec x := ⟨_, rfl⟩
  rw [← hX]
  have HXT := hide hX
  clear hX
  go_enter Tryd.func10, Tryd.ntmps10
  go_wp2_with fail
  refine (unhide HR1).mono ?_
  rintro e w1 ⟨rfl, hb1⟩
  have x1 := (unhide X0).keep (grown_below hb1 none) (by simp)
  have hB1 := below_then (unhide HB0) hb1
  have hp := Pr.new w1
  have hb2 := (Below.refl w1.heap.size w1).alloc (Nat.le_refl _) (.cells #[.pointer none, .slice none 0 0] 63)
  have x2 := x1.keep (grown_below hb2 none) (by simp)
  have c0 := x2.cell0; have c1 := x2.cell1; have c2 := x2.cell2
  have X2 := hide x2
  have HP := hide hp
  have HB2 := hide (below_then hB1 hb2)
  have hw1 : w.heap.size < w1.heap.size := x1.lt
  clear x1 x2 hp hb2 hB1 hb1 X0 HB0 HR1
  have hxl := (unhide X2).lt
  go_wp2
  clear c0 c1 c2
  generalize w1.alloc (.cells #[.pointer none, .slice none 0 0] 63) = W at *
  generalize w1.heap.size = b at *
  have hb0 : 0 < b := by omega
  have HTb : Hid (∀ U, Below b W U → Tabs U) := hide (fun U hb i hi => by
    have h0 := ((unhide HT).below (unhide HB2)) i hi
    rw [hb.cell (by exact hb0)]; exact h0)
  have HBw : Hid (∀ U, Below b W U → Below w.heap.size w U) := hide (fun U hb => (unhide HB2).trans (hb.mono (by omega)))
  have HXb : Hid (∀ U, Below b W U → Box3 27 U w.heap.size (.slice da x.doms.length dc) (.slice ha qs.length hcc) (.slice sa 0 sc)) := hide (fun U hb => by
    have h := unhide X2
    unfold Box3 at h ⊢
    rw [hb.block _ hw1]; exact h)
  have HX : Hid (X = [] ++ domsT dec (x.doms.drop 0) ++ consT dec x.hard) := hide (by rw [unhide HXT]; rfl)
  have HNE : Hid (X ≠ [] ∧ True) := hide ⟨by
    rw [unhide HXT]
    unfold textP
    cases hd : x.doms with
    | nil => exact absurd hd (unhide H0)
    | cons d l => rw [domsT_cons, domT]; simp, trivial⟩
  clear HXT
  go_loopw [18] (fun i wr => ∃ (k : Nat) (u : Bytes), k ≤ x.doms.length ∧ i = .int .i64 k ∧ Pr b u wr ∧ Below b W wr ∧ u.length ≤ k * 600 ∧ Hid (X = u ++ domsT dec (x.doms.drop k) ++ consT dec x.hard)) (fun i _ => x.doms.length - (intOf i).toNat)
  case atStart => exact ⟨0, [], Nat.zero_le _, rfl, unhide HP, Below.refl _ _, by simp, HX⟩
  case round =>
    clear HX HP
    obtain ⟨k, u, hk, rfl, hp, hb, hul, HX⟩ := hrel
    rename World => wr
    have hbl := hp.lt
    by_cases hlt : k < x.doms.length
    · have hX := HX.out
      rw [List.drop_eq_getElem_cons hlt, domsT_cons] at hX
      obtain ⟨bb, oo, dvv, hda, hcell, hints⟩ := (unhide HDO w (Below.refl _ _)).at hlt
      have hc1 := Below.cell_of (unhide HBw wr hb) hcell
      obtain ⟨hd1, hd2⟩ := unhide HD _ (List.getElem_mem hlt)
      have hnl := numsL_len (dec := dec) x.doms[k] (fun n hn => (hd2 n hn).2)
      have HBG := hide (begin_any 0 (by decide) (unhide HTb wr hb) hb0 hp (fun w' hb' => hints.below (unhide HBw w' (hb.trans hb'))) hd2 (by omega))
      obtain ⟨ea, ec, rfl, _, _⟩ := hints.form
      subst hda
      have HX1 : Hid (X = (u ++ domT dec x.doms[k]) ++ domsT dec (x.doms.drop (k + 1)) ++ consT dec x.hard) := hide (by rw [hX]; simp)
      have e0 : wordsL[0] = [118, 97, 114] := rfl
      rw [e0] at HBG
      have HDT : Hid (u ++ [118, 97, 114] ++ numsL dec x.doms[k] ++ [59, 10] = u ++ domT dec x.doms[k] ∧ (u ++ domT dec x.doms[k]).length ≤ (k + 1) * 600) := hide ⟨by simp [domT], by simp [domT]; omega⟩
      generalize domT dec x.doms[k] = dt at *
      generalize numsL dec x.doms[k] = nl at *
      generalize x.doms[k].length = dn at *
      have HB := hide hb
      clear hX HX hp hb hcell hints hd2
      go_wp2_with fail
      refine (unhide HBG).mono ?_
      rintro e w3 ⟨rfl, hp3, hb3⟩
      have HE := hide (prEnd_any hp3 (by simp; omega))
      have HB3 := hide ((unhide HB).trans hb3)
      clear hp3 hb3
      go_wp2_with fail
      refine (unhide HE).mono ?_
      rintro e w4 ⟨rfl, hp4, hb4⟩
      rw [(unhide HDT).1] at hp4
      have HP4 := hide hp4
      have HB4 := hide ((unhide HB3).trans hb4)
      clear hp4 hb4 HE HBG
      go_wp2
      go_roundw
      case rel => exact ⟨k + 1, u ++ dt, by omega, by go_num, unhide HP4, unhide HB4, (unhide HDT).2, HX1⟩
      case measure => simp [intOf]; omega
    · have hX := HX.out
      rw [List.drop_eq_nil_of_le (by omega)] at hX
      have HX2 : Hid (X = u ++ consT dec (x.hard.drop 0)) := hide (by rw [hX]; simp [domsT])
      have x3 := unhide HXb wr hb
      have c1 := x3.cell1
      have HP := hide hp
      have HB := hide hb
      have hul2 : u.length ≤ 24000 := by have : k * 600 ≤ 40 * 600 := Nat.mul_le_mul_right _ (by omega); omega
      clear hX HX hp hb x3 hul hbl
      go_wp2
      clear c1
      go_loopw [31] (fun i wr2 => ∃ (k : Nat) (u : Bytes), k ≤ qs.length ∧ i = .int .i64 k ∧ Pr b u wr2 ∧ Below b W wr2 ∧ u.length ≤ 24000 + k * 300 ∧ Hid (X = u ++ consT dec (x.hard.drop k))) (fun i _ => qs.length - (intOf i).toNat)
      case atStart => exact ⟨0, u, Nat.zero_le _, rfl, unhide HP, unhide HB, by omega, HX2⟩
      case round =>
        clear HX2 HP HB hul2
        obtain ⟨k2, u2, hk2, rfl, hp, hb, hul, HX⟩ := hrel
        rename World => wr2
        have hbl := hp.lt
        by_cases hlt2 : k2 < qs.length
        · have hkx : k2 < x.hard.length := by rw [← unhide HQ3]; exact hlt2
          have hX := HX.out
          rw [List.drop_eq_getElem_cons hkx, consT_cons] at hX
          obtain ⟨bb, oo, hha, k0, k1, k3, k4⟩ := (unhide HHQ wr2 (unhide HBw wr2 hb)).at hlt2
          have co := unhide HHC w (Below.refl _ _) k2 hlt2 hkx
          obtain ⟨kk, hkk, h3, h5, hr, har⟩ := ((unhide HPL).h2 _ (List.getElem_mem hkx)).1
          obtain ⟨hc1, hc2⟩ := unhide HC _ (List.getElem_mem hkx)
          have hnl := numsL_len (dec := dec) x.hard[k2].scope (fun n hn => (hc2 n hn).2)
          obtain ⟨q0, qb, qc, qd⟩ := co
          obtain ⟨e1, f1, g1, _, _⟩ := qb.1.form
          obtain ⟨e2, f2, g2, _, _⟩ := qc.form
          obtain ⟨e3, f3, g3, _, _⟩ := qd.1.form
          rw [q0, hkk] at k0
          rw [g1] at k1 qb
          rw [g2] at k3
          rw [g3] at k4
          have hkw : kk < wordsL.length := by show kk < 11; omega
          have hw6 := words_le kk hkw
          have HX1 : Hid (X = (u2 ++ conT dec x.hard[k2]) ++ consT dec (x.hard.drop (k2 + 1))) := hide (by rw [hX]; simp)
          have hwd : wordsL.getD x.hard[k2].kind.toNat [] = wordsL[kk] := by rw [hkk, Int.toNat_natCast, List.getD_eq_getElem?_getD, List.getElem?_eq_getElem hkw]; rfl
          have hdt : u2 ++ wordsL[kk] ++ numsL dec x.hard[k2].scope ++ [59, 10] = u2 ++ conT dec x.hard[k2] := by unfold conT; rw [hwd]; simp
          have hdl : (u2 ++ conT dec x.hard[k2]).length ≤ 24000 + (k2 + 1) * 300 := by rw [← hdt]; simp; omega
          have hbA := (Below.refl wr2.heap.size wr2).alloc (Nat.le_refl _) (.cells #[.int .i64 (kk : Int), .slice e1 x.hard[k2].scope.length f1, .slice e2 x.hard[k2].rows.length f2, .slice e3 x.hard[k2].args.length f3] 42)
          have hB2 := hb.trans (hbA.mono (Nat.le_of_lt hbl))
          have HPH := hide (prHard_plain (dec := dec) h3 h5 (ra := e2) (aa := e3) (rn := x.hard[k2].rows.length) (an := x.hard[k2].args.length) (rc := f2) (ac := f3) hkw (unhide HTb _ hB2) hb0 (hp.kept hbA) (fun w' hb' => qb.1.below (unhide HBw w' (hB2.trans hb'))) hc2 (by omega))
          rw [hdt] at HPH
          have HDL := hide hdl
          have HB := hide hB2
          subst hha
          generalize conT dec x.hard[k2] = ct at *
          generalize x.hard[k2].scope.length = n1' at *
          generalize x.hard[k2].rows.length = n2' at *
          generalize x.hard[k2].args.length = n3' at *
          clear hX HX hp hb q0 qb qc qd hbA hB2 hdt hdl hwd hc2 hkk hr har g1 g2 g3
          go_wp2_with fail
          refine (unhide HPH).mono ?_
          rintro e w4 ⟨rfl, hp4, hb4⟩
          have HP4 := hide hp4
          have HB4 := hide ((unhide HB).trans hb4)
          clear hp4 hb4 HPH
          go_wp2
          go_roundw
          case rel => exact ⟨k2 + 1, u2 ++ ct, by omega, by go_num, unhide HP4, unhide HB4, unhide HDL, HX1⟩
          case measure => simp [intOf]; omega
        · have hX := HX.out
          rw [List.drop_eq_nil_of_le (by have := unhide HQ3; omega)] at hX
          have hXu : X = u2 := by rw [hX]; simp [consT]
          have x3 := unhide HXb wr2 hb
          have c2 := x3.cell2
          have hne : u2 ≠ [] := by rw [← hXu]; exact (unhide HNE).1
          have hu3 : u2.length ≤ 100000 := by have : k2 * 300 ≤ qs.length * 300 := Nat.mul_le_mul_right _ hk2; have := unhide HQ3; omega
          have HST := hide (string_any hp hne (by omega))
          have HB := hide (unhide HBw wr2 hb)
          have HXU := hide hXu
          clear hX HX hp hb x3 hXu hne
          go_wp2
          go_loop [42] (fun i => i = .int .i64 0) (fun _ => 0)
          case atStart => rfl
          case round =>
            subst hrel
            go_wp2_with fail
            refine (unhide HST).mono ?_
            rintro e w5 ⟨rfl, hb5⟩
            go_wp2
            go_ret
            exact ⟨by rw [unhide HXU]; rfl, (unhide HB).trans (hb5.mono (by omega))⟩

theorem plain_nil : PlainI ⟨[], [], []⟩ := ⟨by simp, by simp, by simp, by simp, rfl⟩

set_option maxHeartbeats 1000000 in
theorem print_nil {v : Value} {w : World} (h : InsV w v ⟨[], [], []⟩) :
    Calls Tryd.prog 10 #[v] w fun e w' => e = .returned (.string ⟨#[]⟩) ∧ Below w.heap.size w w' := by
  have HR0 := hide (fun W (hb : Below w.heap.size w W) => right_plain (h.below hb) plain_nil)
  obtain ⟨dv, hv, sv, rfl, hdo, ⟨qs, q1, q2, q3, q4⟩, us, s1, s2, s3, s4⟩ := h
  obtain ⟨da, dc, rfl, hdl, hdc⟩ := hdo.form
  obtain ⟨ha, hcc, rfl, hhl, hhc⟩ := q1.form
  obtain ⟨sa, sc, rfl, hsl, hsc⟩ := s1.form
  simp only [List.length_nil] at *
  rw [q3, s3] at HR0 ⊢
  have hb0 := (Below.refl w.heap.size w).alloc (Nat.le_refl _) (.cells #[.slice da 0 dc, .slice ha 0 hcc, .slice sa 0 sc] 27)
  have x0 := Box3.new 27 w (.slice da 0 dc) (.slice ha 0 hcc) (.slice sa 0 sc)
  have HR1 := hide (unhide HR0 _ hb0)
  have X0 := hide x0
  have HB0 := hide hb0
  clear HR0 hdo q1 q2 q3 q4 s1 s2 s3 s4 hb0 x0
  go_enter Tryd.func10, Tryd.ntmps10
  go_wp2_with fail
  refine (unhide HR1).mono ?_
  rintro e w1 ⟨rfl, hb1⟩
  have x1 := (unhide X0).keep (grown_below hb1 none) (by simp)
  have hb2 := (Below.refl w1.heap.size w1).alloc (Nat.le_refl _) (.cells #[.pointer none, .slice none 0 0] 63)
  have x2 := x1.keep (grown_below hb2 none) (by simp)
  have c0 := x2.cell0; have c1 := x2.cell1; have c2 := x2.cell2
  have HST := hide (string_new (heap_alloc_new w1 (.cells #[.pointer none, .slice none 0 0] 63)))
  have HB2 := hide (below_then (below_then (unhide HB0) hb1) hb2)
  clear x1 x2 hb2 hb1 X0 HB0 HR1
  go_wp2
  generalize w1.alloc (.cells #[.pointer none, .slice none 0 0] 63) = W at *
  go_loop [18] (fun i => i = .int .i64 0) (fun _ => 0)
  case atStart => rfl
  case round =>
    subst hrel
    go_wp2
    go_loop [31] (fun i => i = .int .i64 0) (fun _ => 0)
    case atStart => rfl
    case round =>
      subst hrel
      go_wp2
      go_loop [42] (fun i => i = .int .i64 0) (fun _ => 0)
      case atStart => rfl
      case round =>
        subst hrel
        go_wp2_with fail
        refine (unhide HST).mono ?_
        rintro e w5 ⟨rfl, hb5⟩
        go_wp2
        go_ret
        exact ⟨rfl, below_then (unhide HB2) hb5⟩

end Go.Proofs.YtoiokplgkanepaaDoor
