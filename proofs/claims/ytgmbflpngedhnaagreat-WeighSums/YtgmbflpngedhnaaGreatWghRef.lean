/-
  The contracts of the laws' scheme, ref (plain) and number.
-/
import Derived.Test.YtgmbflpngedhnaaGreatWghDocs
import Derived.Test.YtgmbflpngedhnaaGreatSmall3
import Derived.Test.YtgmbflpngedhnaaGreatWghThree
import Derived.Deep.CutRange
namespace Go.Proofs.YtgmbflpngedhnaaGreat
open Go.RowKit
set_option linter.unusedVariables false
set_option linter.unusedSimpArgs false
set_option maxRecDepth 20000

/-- What is handed in: variables, rows, two parts of weights. -/
def PartV (w : World) (v : Value) (sc : List Int) (rows : List (List Int)) (A B : List Int) : Prop := ∃ v0 v1 v2 v3, v = .agg #[v0, v1, v2, v3] ∧ Ints w v0 sc ∧ Tups w v1 rows ∧ Ints w v2 A ∧ Ints w v3 B
theorem PartV.below {w w' : World} {v : Value} {sc : List Int} {rows : List (List Int)} {A B : List Int} (h : PartV w v sc rows A B) (hb : Below w.heap.size w w') : PartV w' v sc rows A B := by
  obtain ⟨v0, v1, v2, v3, rfl, h0, h1, h2, h3⟩ := h
  exact ⟨_, _, _, _, rfl, h0.below hb, h1.below hb, h2.below hb, h3.below hb⟩
theorem PartV.form {w : World} {v : Value} {sc : List Int} {rows : List (List Int)} {A B : List Int} (h : PartV w v sc rows A B) :
    ∃ a ca b cb d cd e ce, v = .agg #[.slice a sc.length ca, .slice b rows.length cb, .slice d A.length cd, .slice e B.length ce] ∧ ca ≤ maxLen ∧ cb ≤ maxLen ∧ cd ≤ maxLen ∧ ce ≤ maxLen ∧ rows.length ≤ cb ∧ A.length ≤ cd ∧ B.length ≤ ce ∧ Ints w (.slice a sc.length ca) sc ∧ Tups w (.slice b rows.length cb) rows ∧ Ints w (.slice d A.length cd) A ∧ Ints w (.slice e B.length ce) B := by
  obtain ⟨v0, v1, v2, v3, rfl, h0, h1, h2, h3⟩ := h
  obtain ⟨a, ca, rfl, _, k0⟩ := h0.form
  obtain ⟨b, cb, rfl, q1, k1⟩ := h1.form
  obtain ⟨d, cd, rfl, q2, k2⟩ := h2.form
  obtain ⟨e, ce, rfl, q3, k3⟩ := h3.form
  exact ⟨_, _, _, _, _, _, _, _, rfl, k0, k1, k2, k3, q1, q2, q3, h0, h1, h2, h3⟩

def BoxQ (w : World) (b : Nat) (x y z u : Value) : Prop := w.heap[b]? = some (.cells #[x, y, z, u] 26 (0, 0))
theorem BoxQ.lt {w : World} {b : Nat} {x y z u : Value} (h : BoxQ w b x y z u) : b < w.heap.size := by
  rcases Nat.lt_or_ge b w.heap.size with hl | hl
  · exact hl
  · unfold BoxQ at h; rw [Array.getElem?_eq_none hl] at h; cases h
theorem BoxQ.cell0 {w : World} {b : Nat} {x y z u : Value} (h : BoxQ w b x y z u) : w.cell? ⟨b, 0, none⟩ = some x := by unfold BoxQ at h; simp only [World.cell?, h]; simp
theorem BoxQ.cell1 {w : World} {b : Nat} {x y z u : Value} (h : BoxQ w b x y z u) : w.cell? ⟨b, 1, none⟩ = some y := by unfold BoxQ at h; simp only [World.cell?, h]; simp
theorem BoxQ.cell2 {w : World} {b : Nat} {x y z u : Value} (h : BoxQ w b x y z u) : w.cell? ⟨b, 2, none⟩ = some z := by unfold BoxQ at h; simp only [World.cell?, h]; simp
theorem BoxQ.cell3 {w : World} {b : Nat} {x y z u : Value} (h : BoxQ w b x y z u) : w.cell? ⟨b, 3, none⟩ = some u := by unfold BoxQ at h; simp only [World.cell?, h]; simp
theorem BoxQ.new (w : World) (x y z u : Value) : BoxQ (w.alloc (.cells #[x, y, z, u] 26)) w.heap.size x y z u := heap_alloc_new w _
theorem BoxQ.below {w w' : World} {b B : Nat} {x y z u : Value} (h : BoxQ w b x y z u) (hb : Below B w w') (hB : b < B) : BoxQ w' b x y z u := by
  unfold BoxQ at *; rw [hb.block b hB]; exact h
theorem BoxQ.belowH {w w' : World} {b : Nat} {x y z u : Value} (h : BoxQ w b x y z u) (hb : Below w.heap.size w w') : BoxQ w' b x y z u := h.below hb h.lt
theorem BoxQ.push {w : World} {b : Nat} {x y z u : Value} (h : BoxQ w b x y z u) (o : Obj) : BoxQ (w.alloc o) b x y z u := h.belowH ((Below.refl _ _).alloc (Nat.le_refl _) o)

set_option maxHeartbeats 4000000 in
theorem scheme4_any {sc : List Int} {vs : Value} {w : World} (hs : Ints w vs sc) :
    Calls Tryz.prog 29 #[vs] w fun e w' => ∃ u, e = .returned u ∧ Ints w' u (smallS3 sc) ∧ Below w.heap.size w w' := by
  obtain ⟨a, ca, rfl, hla, hca⟩ := hs.form
  unfold maxLen at hca
  have HS := hide hs
  clear hs
  go_enter Tryz.func29, Tryz.ntmps29
  go_wp2
  go_loopw [3, 4] (fun v i wr => ∃ k : Nat, k ≤ sc.length ∧ k ≤ 3 ∧ i = .int .i64 k ∧ Ints wr v (riseL ((sc.take k).map (modL 5))) ∧ Below w.heap.size w wr) (fun _ i _ => sc.length - (intOf i).toNat)
  case atStart => exact ⟨0, by omega, by omega, rfl, Seq.nil _ _, Below.refl _ _⟩
  case round =>
    obtain ⟨k, hk, hk4, rfl, hout, hbel⟩ := hrel
    by_cases hkk : k < sc.length ∧ k < 3
    · obtain ⟨hkl, hk4'⟩ := hkk
      obtain ⟨bl, ol, rfl, hcl⟩ := ((unhide HS).below hbel).at hkl
      have HN := hide (show riseL ((sc.take (k + 1)).map (modL 5)) = joinL (riseL ((sc.take k).map (modL 5))) [modL 5 sc[k]] by rw [List.take_succ_eq_append_getElem hkl, List.map_append]; exact riseL_app _ _)
      have hb1 := (Below.refl wr.heap.size wr).alloc (Nat.le_refl _) (.cells #[.int .i64 (modL 5 sc[k])] 3)
      have hrl := riseL_le ((sc.take k).map (modL 5))
      have hrl2 : ((sc.take k).map (modL 5)).length ≤ 3 := by rw [List.length_map]; exact Nat.le_trans (List.length_take_le _ _) hk4
      generalize riseL ((sc.take k).map (modL 5)) = sk at hout HN hrl
      have HJ := hide (refJoin_any (hout.below hb1) (lit_one (W := wr) (modL 5 sc[k])) (by simp; omega))
      obtain ⟨oa, oc, hoe, _, _⟩ := hout.form
      rw [hoe] at HJ ⊢
      rw [show modL 5 sc[k] = (bits .and .i64 sc[k] 65535).tmod 5 from rfl] at HJ HN hb1
      have hz := hbel.size
      clear hout hoe
      go_wp2_with fail
      refine (unhide HJ).mono ?_
      rintro e w2 ⟨u, rfl, hu, hun, hb2⟩
      go_wp2
      go_roundw
      case rel => exact ⟨k + 1, by omega, by omega, by go_num, by rw [unhide HN]; exact hu, hbel.trans ((hb1.trans (hb2.mono (by simp))).mono hz)⟩
      case measure => simp [intOf]; omega
    · have hkd : riseL ((sc.take k).map (modL 5)) = smallS3 sc := by
        unfold smallS3
        rw [show sc.take k = sc.take 3 by rw [List.take_eq_take_iff]; omega]
      rw [hkd] at hout
      obtain ⟨oa, oc, hoe, _, _⟩ := hout.form
      rw [hoe] at hout ⊢
      by_cases hkl : k < sc.length
      case' pos =>
        have hk4' : ¬ k < 3 := fun h => hkk ⟨hkl, h⟩
      all_goals
        clear hkk hkd hoe
        go_wp2
        go_ret
        exact ⟨_, rfl, hout, hbel⟩

/-- A part of a weight, counted round where it is too great. -/
def clampW (most x : Int) : Int := if x < -most ∨ most < x then x.tmod most else x
def refW (A : List Int) (most : Int) (n : Nat) : List (Int × Int) := (List.range n).map fun i => (clampW most (A.getD i 1), 0)
theorem refW_len (A : List Int) (most : Int) (n : Nat) : (refW A most n).length = n := by simp [refW]
theorem refW_succ (A : List Int) (most : Int) (n : Nat) : refW A most (n + 1) = refW A most n ++ [(clampW most (A.getD n 1), 0)] := by simp [refW, List.range_succ]

set_option maxHeartbeats 40000000 in
theorem ref_any {sc A Bl : List Int} {rows : List (List Int)} {v : Value} {most : Int} {w : World} (h : PartV w v sc rows A Bl) (hm : 0 < most) (hm2 : most ≤ 4611686018427387904) :
    Calls Tryz.prog 11 #[v, .int .i64 most, .bool true] w fun e w' => ∃ x y z, e = .returned (.agg #[x, y, z]) ∧ RV w' (.agg #[x, y, z]) (smallS3 sc) (smallR3 sc rows) (refW A most (smallR3 sc rows).length) ∧ (∀ b, b < w.heap.size → y.ownBlock ≠ some b) ∧ Below w.heap.size w w' := by
  obtain ⟨a, ca, b, cb, d, cd, ea, ce, rfl, k1, k2, k3, k4, k5, k6, k7, hs, ht, hA, hBl⟩ := h.form
  unfold maxLen at k1 k2 k3 k4
  obtain ⟨W0, hW0⟩ : ∃ W, W = (w.alloc (.cells #[.slice a sc.length ca, .slice b rows.length cb, .slice d A.length cd, .slice ea Bl.length ce] 26)).alloc (.cells #[.slice none 0 0, .slice none 0 0, .slice none 0 0] 34) := ⟨_, rfl⟩
  have hb0 : Below w.heap.size w W0 := by rw [hW0]; exact b2x w _ _
  have bx : BoxQ W0 w.heap.size (.slice a sc.length ca) (.slice b rows.length cb) (.slice d A.length cd) (.slice ea Bl.length ce) := by rw [hW0]; exact (BoxQ.new w _ _ _ _).push _
  have x2 : BoxF W0 (w.heap.size + 1) (.slice none 0 0) (.slice none 0 0) (.slice none 0 0) := by
    rw [hW0]; have := BoxF.new (w.alloc (.cells #[.slice a sc.length ca, .slice b rows.length cb, .slice d A.length cd, .slice ea Bl.length ce] 26)) (.slice none 0 0) (.slice none 0 0) (.slice none 0 0); simpa using this
  have HSC := hide (scheme4_any (hs.below hb0))
  have HT := hide (fun W (hb : Below w.heap.size w W) => ht.below hb)
  have HA := hide (fun W (hb : Below w.heap.size w W) => hA.below hb)
  have HW0 := hide hW0
  have hzw := hb0.size
  have hS4 := smallS3_len sc
  have HR := hide (show smallR3 sc rows = sortL ((rows.take 12).map (smallT (smallS3 sc).length)) from rfl)
  have hRl := smallR3_len sc rows
  generalize smallR3 sc rows = R at *
  generalize smallS3 sc = s at *
  have c00 := bx.cell0
  clear h hs ht hA hBl hW0
  go_enter Tryz.func11, Tryz.ntmps11
  go_wp2_with fail
  rw [← unhide HW0]
  refine (unhide HSC).mono ?_
  rintro e wA ⟨us, rfl, hout, hb1⟩
  obtain ⟨oa, oc, rfl, _, hoc⟩ := hout.form
  unfold maxLen at hoc
  replace bx := bx.belowH hb1
  replace x2 := x2.belowH hb1
  have hbw := hb0.trans (hb1.mono hzw)
  have hz1 := hbw.size
  have hl2 := x2.lt
  have ht1 := unhide HT _ hbw
  have cb1 := bx.cell1
  clear HSC c00 hb1
  go_wp2
  go_loopw [8, 9, 10, 11] (fun v i _ _ wq => ∃ k : Nat, k ≤ rows.length ∧ k ≤ 12 ∧ i = .int .i64 k ∧ OwnT wA.heap.size wq v ((rows.take k).map (smallT s.length)) ∧ Below wA.heap.size wA wq) (fun _ i _ _ _ => rows.length - (intOf i).toNat)
  case atStart => exact ⟨0, by omega, by omega, rfl, OwnT.nil _ _, Below.refl _ _⟩
  case round =>
    obtain ⟨j, hj, hj20, rfl, hown, hbel2⟩ := hrel
    have cq1 := (bx.belowH hbel2).cell1
    have hz2 := hbel2.size
    by_cases hjj : j < rows.length ∧ j < 12
    · obtain ⟨hjl, hj20'⟩ := hjj
      obtain ⟨bl, ol, ul, rfl, hcl, hiL⟩ := (ht1.below hbel2).at hjl
      obtain ⟨ia, ic, rfl, _, hic⟩ := hiL.form
      unfold maxLen at hic
      have HN := hide (show (rows.take (j + 1)).map (smallT s.length) = (rows.take j).map (smallT s.length) ++ [smallT s.length rows[j]] by rw [List.take_succ_eq_append_getElem hjl, List.map_append]; rfl)
      have hll : ((rows.take j).map (smallT s.length)).length ≤ 12 := by rw [List.length_map]; exact Nat.le_trans (List.length_take_le _ _) hj20
      generalize (rows.take j).map (smallT s.length) = L at hown HN hll
      have HRJ := hide (fun k2 (h1 : k2 ≤ s.length) (h2 : k2 ≤ rows[j].length) (h : ¬ (k2 < s.length ∧ k2 < rows[j].length)) => small_end (n := s.length) (r := rows[j]) h1 h2 h)
      have HST := hide (fun k2 (h1 : k2 < s.length) (h2 : k2 < rows[j].length) => small_set (n := s.length) (r := rows[j]) h1 h2)
      rename World => wB
      go_wp2_with (at_make; refine wp_make_ints rfl _ _ rfl (Nat.le_refl _) rfl rfl (by omega) ?_; intro w3 hown3 hb3)
      go_loopw [11] (fun i wi => ∃ k2 : Nat, k2 ≤ s.length ∧ k2 ≤ rows[j].length ∧ i = .int .i64 k2 ∧ OwnI wB.heap.size wi (.slice (some ⟨wB.heap.size, 0, none⟩) s.length s.length) ((rows[j].take k2).map (modL 3) ++ List.replicate (s.length - k2) 0) ∧ Below wB.heap.size wB wi) (fun i _ => s.length - (intOf i).toNat)
      case atStart => exact ⟨0, by omega, by omega, rfl, by simpa using hown3, hb3⟩
      case round =>
        clear hown3 hb3
        obtain ⟨k2, hk2, hk2r, rfl, howni, hbel3⟩ := hrel
        have hz3 := hbel3.size
        have cq2 := ((bx.belowH hbel2).belowH hbel3).cell1
        by_cases hkk : k2 < s.length ∧ k2 < rows[j].length
        · obtain ⟨hka, hkb⟩ := hkk
          obtain ⟨bi, oi, e1, hci⟩ := (hiL.below hbel3).at hkb
          subst e1
          have hclw := Below.cell_of hbel3 hcl
          obtain ⟨⟨old, hcell⟩, hfr, hset, hbs⟩ := own_setI howni (by simp; omega) (i := k2) hka (modL 3 rows[j][k2])
          rw [unhide HST k2 hka hkb] at hset
          rw [show modL 3 rows[j][k2] = (bits .and .i64 rows[j][k2] 65535).tmod 3 from rfl] at hset hbs
          clear howni hiL hcl ht1 hout HST HRJ
          go_wp2
          go_roundw
          case rel => exact ⟨k2 + 1, by omega, by omega, by go_num, hset, hbel3.trans hbs⟩
          case measure => simp [intOf]; omega
        · have he := unhide HRJ k2 hk2 hk2r hkk
          have hclw := Below.cell_of hbel3 hcl
          have hok : Hid (decide (k2 < s.length) = false ∨ (k2 < s.length ∧ ¬ k2 < rows[j].length)) := hide (by
            by_cases h1 : k2 < s.length
            · exact .inr ⟨h1, fun h2 => hkk ⟨h1, h2⟩⟩
            · exact .inl (by simpa using h1))
          rw [he] at howni
          clear he HST HRJ hiL hkk hcl
          have hti := Seq.of_own howni
          have hnt := New.of_own howni
          have hownL := hown.below hbel3
          have hap := hide (show Sep _ _ from (Sep.of_new hown.new (Nat.le_refl _) hnt).symm)
          have hzz := Nat.le_trans hz2 hz3
          generalize smallT s.length rows[j] = T at howni hti HN
          rcases unhide hok with h1 | ⟨h1, h2⟩
          all_goals
            clear hok hown howni ht1 hout
            go_wp2_with (at_builtin; refine wp_app_tup rfl (.tmp 61) (.tmp 63) rfl hownL hti (fun _ => unhide hap) rfl hzz rfl (by omega) ?_; intro v' w4 hown4 hgrew)
            go_roundw
            case rel => exact ⟨j + 1, by omega, by omega, by go_num, by rw [unhide HN]; exact hown4, (hbel2.trans (hbel3.mono hz2)).trans hgrew.below⟩
            case measure => simp [intOf]; omega
    · have hF : (rows.take j).map (smallT s.length) = (rows.take 12).map (smallT s.length) := by
        rw [show rows.take j = rows.take 12 by rw [List.take_eq_take_iff]; omega]
      rw [hF] at hown
      have hlen20 : ((rows.take 12).map (smallT s.length)).length ≤ 12 := by rw [List.length_map]; exact List.length_take_le _ _
      have HSRT := hide (refSort_any hown.tups (by omega) (fun t ht => by
        obtain ⟨x, _, rfl⟩ := List.mem_map.1 ht
        rw [smallT_len]; omega))
      rw [← unhide HR] at HSRT
      have hok : Hid (decide (j < rows.length) = false ∨ (j < rows.length ∧ ¬ j < 12)) := hide (by
        by_cases h1 : j < rows.length
        · exact .inr ⟨h1, fun h2 => hjj ⟨h1, h2⟩⟩
        · exact .inl (by simpa using h1))
      replace bx := bx.belowH hbel2
      replace x2 := x2.belowH hbel2
      have hl9 := x2.lt
      have hout2 := hout.below hbel2
      obtain ⟨va, vn, vc, hve⟩ := hown.sl
      rw [hve] at HSRT ⊢
      have hbw2 := below_then hbw hbel2
      clear hF hlen20 hown hve hjj ht1 hout cb1
      rcases unhide hok with h1 | ⟨h1, h2⟩
      all_goals
        clear hok
        go_wp2_with fail
        refine (unhide HSRT).mono ?_
        rintro e w5 ⟨u5, rfl, hu5, hun5, hb5⟩
        obtain ⟨ra, rc, hre, _, hrc⟩ := hu5.form
        unfold maxLen at hrc
        rw [hre] at hu5 hun5 ⊢
        replace bx := bx.belowH hb5
        replace x2 := x2.belowH hb5
        have hout3 := hout2.below hb5
        have hbw5 := below_then hbw2 hb5
        have hz5 := hbw5.size
        have hl2 := x2.lt
        have hl0 := bx.lt
        have x4 := BoxF.new w5 (.slice oa s.length oc) (.slice ra R.length rc) (.slice none 0 0)
        have HO3 := hide hout3
        have HU5 := hide hu5
        have HN5 := hide hun5
        have hW5 := hbw2.size
        clear hre hout2 hout3 hu5 hun5 hb5 HSRT
        go_wp2
        go_loopw [13, 14] (fun i _ wr => ∃ (k : Nat) (zv : Value), k ≤ R.length ∧ i = .int .i64 k ∧ BoxF wr w5.heap.size (.slice oa s.length oc) (.slice ra R.length rc) zv ∧ OwnP (w5.heap.size + 1) wr zv (refW A most k) ∧ Below w5.heap.size w5 wr) (fun i _ _ => R.length - (intOf i).toNat)
        case atStart => exact ⟨0, _, by omega, rfl, x4, World.ownsRow_nil _ _ _ _, (Below.refl _ _).alloc (Nat.le_refl _) _⟩
        case round =>
          clear x4
          obtain ⟨k, zv, hk, rfl, y4, hown, hbel⟩ := hrel
          have hz := hbel.size
          have hl4 := y4.lt
          have hbr := hbw5.trans (hbel.mono hz5)
          obtain ⟨za, zn, zc, rfl⟩ := own_sl2 hown
          have c41 := y4.cell1
          by_cases hkl : k < R.length
          · have hne : (Value.slice za zn zc).ownBlock ≠ some w5.heap.size := (own_new2 hown).ne (by omega)
            have hwl := refW_len A most k
            have HSU := hide (refW_succ A most k)
            have hwl2 : (refW A most k).length < 100000 := by omega
            have byq := bx.below hbel hl0
            have q2 : ∀ o, (wr.alloc o).cell? ⟨w.heap.size, 2, none⟩ = some (.slice d A.length cd) := fun o => (byq.push o).cell2
            have q3 : ∀ o, (wr.alloc o).cell? ⟨w.heap.size, 3, none⟩ = some (.slice ea Bl.length ce) := fun o => (byq.push o).cell3
            have hm0 : (most == 0) = false := by rw [beq_eq_false_iff_ne]; omega
            have hm1 : ¬ ((0 : Int) < -most) := by omega
            have hm3 : ¬ (most < (0 : Int)) := by omega
            obtain ⟨y, hy⟩ : ∃ y, y = A.getD k 1 := ⟨_, rfl⟩
            obtain ⟨z, hzc⟩ : ∃ z, z = clampW most y := ⟨_, rfl⟩
            rw [← hy, ← hzc] at HSU
            obtain ⟨q, hq⟩ : ∃ q, q = decide (y < -most ∨ most < y) := ⟨_, rfl⟩
            have HZ := hide (show (y < -most ∧ q = true) ∨ (¬ y < -most ∧ most < y ∧ q = true) ∨ (¬ y < -most ∧ ¬ most < y ∧ q = false) by
              rw [hq]
              by_cases h1 : y < -most
              · exact .inl ⟨h1, by simp [h1]⟩
              · by_cases h2 : most < y
                · exact .inr (.inl ⟨h1, h2, by simp [h2]⟩)
                · exact .inr (.inr ⟨h1, h2, by simp [h1, h2]⟩))
            have HZ2 := hide (show (q = true ∧ z = y.tmod most) ∨ (q = false ∧ z = y) by
              rw [hq, hzc]; unfold clampW
              by_cases h1 : y < -most ∨ most < y
              · exact .inl ⟨by simp [h1], if_pos h1⟩
              · exact .inr ⟨by simp [h1], if_neg h1⟩)
            have HA2 := hide (show (∃ (h : k < A.length), y = A[k]) ∨ (¬ k < A.length ∧ y = 1) by
              by_cases hkA : k < A.length
              · exact .inl ⟨hkA, by rw [hy]; simp [hkA]⟩
              · exact .inr ⟨hkA, by rw [hy, List.getD_eq_getElem?_getD, List.getElem?_eq_none (by omega)]; rfl⟩)
            have HOW := hide hown
            have HY4 := hide y4
            generalize refW A most k = RW at *
            clear hy hzc hq hown y4
            go_upto_if 83 with fail
            go_cut [] from 70 to 142 (fun wx => wx = wr.alloc (.cells #[.int .i64 y, .int .i64 0] 63))
            case first =>
              rcases unhide HA2 with ⟨hkA, hy⟩ | ⟨hkA, hy⟩
              · obtain ⟨bA, oA, hAe, hcA⟩ := (unhide HA _ hbr).at hkA
                subst hAe
                have qA : ∀ o, (wr.alloc o).cell? ⟨bA, oA + k, none⟩ = some (.int .i64 A[k]) := fun o => cell_push hcA o
                go_wp2
                go_meet
                case rel => rw [hy]
              · go_wp2
                go_meet
                case rel => rw [hy]
            case rest =>
              subst hcut
              go_upto_region 19 with fail
              go_cut [98] from 70 to 142 (fun s98 wx => s98 = .bool false ∧ wx = wr.alloc (.cells #[.int .i64 y, .int .i64 0] 63))
              case first =>
                by_cases hkB : k < Bl.length
                · go_wp2
                  go_meet
                  case rel => exact ⟨rfl, rfl⟩
                · go_wp2
                  go_meet
                  case rel => exact ⟨rfl, rfl⟩
              case rest =>
                obtain ⟨rfl, rfl⟩ := hcut
                go_upto_region 21 with fail
                go_cut [115] from 70 to 142 (fun s115 wx => s115 = .bool q ∧ wx = wr.alloc (.cells #[.int .i64 y, .int .i64 0] 63))
                case first =>
                  rcases unhide HZ with ⟨h1, hz1⟩ | ⟨h1, h2, hz1⟩ | ⟨h1, h2, hz1⟩
                  all_goals
                    subst hz1
                    go_wp2
                    go_meet
                    case rel => exact ⟨rfl, rfl⟩
                case rest =>
                obtain ⟨rfl, rfl⟩ := hcut
                go_upto_if 115 with fail
                go_cut [] from 70 to 142 (fun wx => wx = wr.alloc (.cells #[.int .i64 z, .int .i64 0] 63))
                case first =>
                  rcases unhide HZ2 with ⟨h1, hz1⟩ | ⟨h1, hz1⟩
                  · subst h1
                    go_wp2
                    go_meet
                    case rel => rw [hz1]
                  · subst h1
                    go_wp2
                    go_meet
                    case rel => rw [hz1]
                case rest =>
                  subst hcut
                  have hownX := own_below2 (unhide HOW) ((Below.refl _ wr).alloc (Nat.le_refl _) (.cells #[.int .i64 z, .int .i64 0] 63))
                  have y4X := (unhide HY4).push (.cells #[.int .i64 z, .int .i64 0] 63)
                  have c42X := y4X.cell2
                  have hbX := hbel.alloc (show w5.heap.size ≤ wr.heap.size from hz) (.cells #[.int .i64 z, .int .i64 0] 63)
                  have hzX : w5.heap.size + 1 ≤ (wr.alloc (.cells #[.int .i64 z, .int .i64 0] 63)).heap.size := y4X.lt
                  go_wp2_with (at_builtin; refine wp_app_pair2 (y := (z, 0)) rfl (.tmp 138) (.tmp 140) rfl hownX rfl hzX rfl (by simp) (by omega) ?_; intro v' w10 hown10 hgrew; obtain ⟨na, nm, nc, hv10⟩ := own_sl2 hown10; subst hv10; have y5 := y4X.grew hgrew hne; have e0 := y5.cell2; have e1 := y5.frozen 2)
                  have hn4 : (Value.slice na nm nc).ownBlock ≠ some w5.heap.size := (own_new2 hown10).ne (by omega)
                  go_roundw
                  case rel => exact ⟨k + 1, _, by omega, by go_num, y5.set2 _, by rw [unhide HSU]; exact ownsRow_setCell_other hown10 hn4 _, (hbX.trans (hgrew.below.mono (by omega))).setCell (Nat.le_refl _) _⟩
                  case measure => simp [intOf]; omega
          · have hkk : k = R.length := by omega
            subst hkk
            have y2 := x2.below hbel hl2
            have c40 := y4.cell0
            have c42 := y4.cell2
            have hd0 := y2.cell0
            have hd1 := y2.cell1
            have hd2 := y2.cell2
            have hg0 := y2.frozen 0
            have hg1 := y2.frozen 1
            have hg2 := y2.frozen 2
            have HWV : Hid (RV wr (.agg #[.slice oa s.length oc, .slice ra R.length rc, .slice za zn zc]) s R (refW A most R.length)) := hide ⟨_, _, _, rfl, (unhide HO3).below hbel, (unhide HU5).below hbel, hown.pairs⟩
            have hnr : (Value.slice ra R.length rc).ownBlock ≠ some (w.heap.size + 1) := (unhide HN5).ne hl9
            clear hown y4
            go_wp2
            have hfin := rv_store y2.boxS y2 (unhide HWV) hnr
            refine bodyPost_ret (v := .agg #[.slice oa s.length oc, .slice ra R.length rc, .slice za zn zc]) (by simp [results, Tryz.results11, go_sem, hd0, hd1, hd2]) rfl ⟨_, _, _, rfl, hfin, fun b hb => (unhide HN5).ne (by omega), below_store3 hbr (by omega) _ _ _⟩

end Go.Proofs.YtgmbflpngedhnaaGreat
