/-
  Proved: WeighOf answers true for every Part and weight, and leaves what was handed in as it was. No condition.
-/
import Derived.Test.YtafpecdmaogohaaGreatLawSmall
import Derived.Test.YtafpecdmaogohaaGreatJoinMath
import Derived.Test.YtafpecdmaogohaaGreatWghDocs
import Derived.Test.YtafpecdmaogohaaGreatWghThree
import Derived.Deep.CutRange
import Derived.Test.YtafpecdmaogohaaGreatFrame2
import Derived.Lib.SmallJoins
import Derived.Test.YtafpecdmaogohaaGreatWghTwo
import Derived.Test.YtafpecdmaogohaaGreatWghOne
import Derived.Test.YtafpecdmaogohaaGreatWghCombI
import Derived.Deep.RegionLaw
import Derived.BigRegion
import Derived.Test.YtafpecdmaogohaaGreatRelUnit
import Derived.Deep.QuietTactic
import Derived.BigQuiet
namespace Go.Proofs.YtafpecdmaogohaaGreat
set_option linter.unusedVariables false
set_option linter.unusedSimpArgs false

def smallS3 (sc : List Int) : List Int := riseL ((sc.take 3).map (modL 5))
def smallR3 (sc : List Int) (rows : List (List Int)) : List (List Int) := sortL ((rows.take 12).map (smallT (smallS3 sc).length))

theorem smallS3_asc (sc : List Int) : Asc (smallS3 sc) := (riseL_spec _).1
theorem smallS3_len (sc : List Int) : (smallS3 sc).length ≤ 3 := by
  have := riseL_le ((sc.take 3).map (modL 5))
  have h2 : ((sc.take 3).map (modL 5)).length ≤ 3 := by simp; omega
  exact Nat.le_trans this h2
theorem smallS3_mem {sc : List Int} {x : Int} (h : x ∈ smallS3 sc) : 0 ≤ x ∧ x < 5 := by
  rw [smallS3, (riseL_spec _).2] at h
  obtain ⟨y, _, rfl⟩ := List.mem_map.1 h
  exact modL_range (by decide) y
theorem smallR3_asc (sc : List Int) (rows : List (List Int)) : AscL (smallR3 sc rows) := (sortL_spec _).1
theorem smallR3_len (sc : List Int) (rows : List (List Int)) : (smallR3 sc rows).length ≤ 12 := by
  have := sortL_le ((rows.take 12).map (smallT (smallS3 sc).length))
  have h2 : ((rows.take 12).map (smallT (smallS3 sc).length)).length ≤ 12 := by simp; omega
  exact Nat.le_trans this h2
theorem smallR3_wide {sc : List Int} {rows : List (List Int)} {t : List Int} (h : t ∈ smallR3 sc rows) : t.length = (smallS3 sc).length := by
  rw [smallR3, (sortL_spec _).2] at h
  obtain ⟨y, _, rfl⟩ := List.mem_map.1 h
  exact smallT_len _ y

theorem smallT_dig {n : Nat} {r : List Int} {x : Int} (h : x ∈ smallT n r) : 0 ≤ x ∧ x < 10 := by
  unfold smallT at h
  rcases List.mem_append.1 h with h | h
  · obtain ⟨y, _, rfl⟩ := List.mem_map.1 h
    have := modL_range (k := 3) (by decide) y
    omega
  · have := List.eq_of_mem_replicate h
    omega

theorem fine_small (sc : List Int) (rows : List (List Int)) : Fine (smallS3 sc) (smallR3 sc rows) 12 :=
  ⟨smallS3_asc sc, fun x hx => (smallS3_mem hx).1, smallR3_asc sc rows, fun t ht => smallR3_wide ht, by have := smallS3_len sc; omega, smallR3_len sc rows, fun t ht x hx => by
    rw [smallR3, (sortL_spec _).2] at ht
    obtain ⟨y, _, rfl⟩ := List.mem_map.1 ht
    exact smallT_dig hx⟩

end Go.Proofs.YtafpecdmaogohaaGreat

namespace Go.Proofs.YtafpecdmaogohaaGreat
open Go.RowKit
set_option linter.unusedVariables false
set_option linter.unusedSimpArgs false
set_option maxRecDepth 20000

/-- What is handed in: variables, rows, two parts of weights. -/
def PartV (w : World) (v : Value) (sc : List Int) (rows : List (List Int)) (A B : List Int) : Prop := ∃ v0 v1 v2 v3, v = .agg #[v0, v1, v2, v3] ∧ Ints w v0 sc ∧ Tups w v1 rows ∧ Ints w v2 A ∧ Ints w v3 B
theorem PartV.below {w w' : World} {v : Value} {sc : List Int} {rows : List (List Int)} {A B : List Int} (h : PartV w v sc rows A B) (hb : Below w.heap.size w w') : PartV w' v sc rows A B := by
  obtain ⟨v0, v1, v2, v3, rfl, h0, h1, h2, h3⟩ := h
  exact ⟨_, _, _, _, rfl, h0.below hb, h1.below hb, h2.below hb, h3.below hb⟩
theorem PartV.form {w : World} {v : Value} {sc : List Int} {rows : List (List Int)} {A B : List Int} (h : PartV w v sc rows A B) :
    ∃ a ca b cb d cd e ce, v = .agg #[.slice a sc.length ca, .slice b rows.length cb, .slice d A.length cd, .slice e B.length ce] ∧ ca ≤ maxLen ∧ cb ≤ maxLen ∧ cd ≤ maxLen ∧ ce ≤ maxLen ∧ rows.length ≤ cb ∧ A.length ≤ cd ∧ B.length ≤ ce ∧ Ints w (.slice a sc.length ca) sc ∧ Tups w (.slice b rows.length cb) rows ∧ Ints w (.slice d A.length cd) A ∧ Ints w (.slice e B.length ce) B := by
  obtain ⟨v0, v1, v2, v3, rfl, h0, h1, h2, h3⟩ := h
  obtain ⟨a, ca, rfl, _, k0⟩ := h0.form
  obtain ⟨b, cb, rfl, q1, k1⟩ := h1.form
  obtain ⟨d, cd, rfl, q2, k2⟩ := h2.form
  obtain ⟨e, ce, rfl, q3, k3⟩ := h3.form
  exact ⟨_, _, _, _, _, _, _, _, rfl, k0, k1, k2, k3, q1, q2, q3, h0, h1, h2, h3⟩

def BoxQ (w : World) (b : Nat) (x y z u : Value) : Prop := w.heap[b]? = some (.cells #[x, y, z, u] 26 (0, 0))
theorem BoxQ.lt {w : World} {b : Nat} {x y z u : Value} (h : BoxQ w b x y z u) : b < w.heap.size := by
  rcases Nat.lt_or_ge b w.heap.size with hl | hl
  · exact hl
  · unfold BoxQ at h; rw [Array.getElem?_eq_none hl] at h; cases h
theorem BoxQ.cell0 {w : World} {b : Nat} {x y z u : Value} (h : BoxQ w b x y z u) : w.cell? ⟨b, 0, none⟩ = some x := by unfold BoxQ at h; simp only [World.cell?, h]; simp
theorem BoxQ.cell1 {w : World} {b : Nat} {x y z u : Value} (h : BoxQ w b x y z u) : w.cell? ⟨b, 1, none⟩ = some y := by unfold BoxQ at h; simp only [World.cell?, h]; simp
theorem BoxQ.cell2 {w : World} {b : Nat} {x y z u : Value} (h : BoxQ w b x y z u) : w.cell? ⟨b, 2, none⟩ = some z := by unfold BoxQ at h; simp only [World.cell?, h]; simp
theorem BoxQ.cell3 {w : World} {b : Nat} {x y z u : Value} (h : BoxQ w b x y z u) : w.cell? ⟨b, 3, none⟩ = some u := by unfold BoxQ at h; simp only [World.cell?, h]; simp
theorem BoxQ.new (w : World) (x y z u : Value) : BoxQ (w.alloc (.cells #[x, y, z, u] 26)) w.heap.size x y z u := heap_alloc_new w _
theorem BoxQ.below {w w' : World} {b B : Nat} {x y z u : Value} (h : BoxQ w b x y z u) (hb : Below B w w') (hB : b < B) : BoxQ w' b x y z u := by
  unfold BoxQ at *; rw [hb.block b hB]; exact h
theorem BoxQ.belowH {w w' : World} {b : Nat} {x y z u : Value} (h : BoxQ w b x y z u) (hb : Below w.heap.size w w') : BoxQ w' b x y z u := h.below hb h.lt
theorem BoxQ.push {w : World} {b : Nat} {x y z u : Value} (h : BoxQ w b x y z u) (o : Obj) : BoxQ (w.alloc o) b x y z u := h.belowH ((Below.refl _ _).alloc (Nat.le_refl _) o)

set_option maxHeartbeats 4000000 in
theorem scheme4_any {sc : List Int} {vs : Value} {w : World} (hs : Ints w vs sc) :
    Calls Tryz.prog 16 #[vs] w fun e w' => ∃ u, e = .returned u ∧ Ints w' u (smallS3 sc) ∧ Below w.heap.size w w' := by
  obtain ⟨a, ca, rfl, hla, hca⟩ := hs.form
  unfold maxLen at hca
  have HS := hide hs
  clear hs
  go_enter Tryz.func16, Tryz.ntmps16
  go_wp2
  go_loopw [3, 4] (fun v i wr => ∃ k : Nat, k ≤ sc.length ∧ k ≤ 3 ∧ i = .int .i64 k ∧ Ints wr v (riseL ((sc.take k).map (modL 5))) ∧ Below w.heap.size w wr) (fun _ i _ => sc.length - (intOf i).toNat)
  case atStart => exact ⟨0, by omega, by omega, rfl, Seq.nil _ _, Below.refl _ _⟩
  case round =>
    obtain ⟨k, hk, hk4, rfl, hout, hbel⟩ := hrel
    by_cases hkk : k < sc.length ∧ k < 3
    · obtain ⟨hkl, hk4'⟩ := hkk
      obtain ⟨bl, ol, rfl, hcl⟩ := ((unhide HS).below hbel).at hkl
      have HN := hide (show riseL ((sc.take (k + 1)).map (modL 5)) = joinL (riseL ((sc.take k).map (modL 5))) [modL 5 sc[k]] by rw [List.take_succ_eq_append_getElem hkl, List.map_append]; exact riseL_app _ _)
      have hb1 := (Below.refl wr.heap.size wr).alloc (Nat.le_refl _) (.cells #[.int .i64 (modL 5 sc[k])] 3)
      have hrl := riseL_le ((sc.take k).map (modL 5))
      have hrl2 : ((sc.take k).map (modL 5)).length ≤ 3 := by rw [List.length_map]; exact Nat.le_trans (List.length_take_le _ _) hk4
      generalize riseL ((sc.take k).map (modL 5)) = sk at hout HN hrl
      have HJ := hide (refJoin_any (hout.below hb1) (lit_one (W := wr) (modL 5 sc[k])) (by simp; omega))
      obtain ⟨oa, oc, hoe, _, _⟩ := hout.form
      rw [hoe] at HJ ⊢
      rw [show modL 5 sc[k] = (bits .and .i64 sc[k] 65535).tmod 5 from rfl] at HJ HN hb1
      have hz := hbel.size
      clear hout hoe
      go_wp2_with fail
      refine (unhide HJ).mono ?_
      rintro e w2 ⟨u, rfl, hu, hun, hb2⟩
      go_wp2
      go_roundw
      case rel => exact ⟨k + 1, by omega, by omega, by go_num, by rw [unhide HN]; exact hu, hbel.trans ((hb1.trans (hb2.mono (by simp))).mono hz)⟩
      case measure => simp [intOf]; omega
    · have hkd : riseL ((sc.take k).map (modL 5)) = smallS3 sc := by
        unfold smallS3
        rw [show sc.take k = sc.take 3 by rw [List.take_eq_take_iff]; omega]
      rw [hkd] at hout
      obtain ⟨oa, oc, hoe, _, _⟩ := hout.form
      rw [hoe] at hout ⊢
      by_cases hkl : k < sc.length
      case' pos =>
        have hk4' : ¬ k < 3 := fun h => hkk ⟨hkl, h⟩
      all_goals
        clear hkk hkd hoe
        go_wp2
        go_ret
        exact ⟨_, rfl, hout, hbel⟩

/-- A part of a weight, counted round where it is too great. -/
def clampW (most x : Int) : Int := if x < -most ∨ most < x then x.tmod most else x
def refW (A : List Int) (most : Int) (n : Nat) : List (Int × Int) := (List.range n).map fun i => (clampW most (A.getD i 1), 0)
theorem refW_len (A : List Int) (most : Int) (n : Nat) : (refW A most n).length = n := by simp [refW]
theorem refW_succ (A : List Int) (most : Int) (n : Nat) : refW A most (n + 1) = refW A most n ++ [(clampW most (A.getD n 1), 0)] := by simp [refW, List.range_succ]

set_option maxHeartbeats 40000000 in
theorem ref_any {sc A Bl : List Int} {rows : List (List Int)} {v : Value} {most : Int} {w : World} (h : PartV w v sc rows A Bl) (hm : 0 < most) (hm2 : most ≤ 4611686018427387904) :
    Calls Tryz.prog 6 #[v, .int .i64 most, .bool true] w fun e w' => ∃ x y z, e = .returned (.agg #[x, y, z]) ∧ RV w' (.agg #[x, y, z]) (smallS3 sc) (smallR3 sc rows) (refW A most (smallR3 sc rows).length) ∧ (∀ b, b < w.heap.size → y.ownBlock ≠ some b) ∧ Below w.heap.size w w' := by
  obtain ⟨a, ca, b, cb, d, cd, ea, ce, rfl, k1, k2, k3, k4, k5, k6, k7, hs, ht, hA, hBl⟩ := h.form
  unfold maxLen at k1 k2 k3 k4
  obtain ⟨W0, hW0⟩ : ∃ W, W = (w.alloc (.cells #[.slice a sc.length ca, .slice b rows.length cb, .slice d A.length cd, .slice ea Bl.length ce] 26)).alloc (.cells #[.slice none 0 0, .slice none 0 0, .slice none 0 0] 32) := ⟨_, rfl⟩
  have hb0 : Below w.heap.size w W0 := by rw [hW0]; exact b2x w _ _
  have bx : BoxQ W0 w.heap.size (.slice a sc.length ca) (.slice b rows.length cb) (.slice d A.length cd) (.slice ea Bl.length ce) := by rw [hW0]; exact (BoxQ.new w _ _ _ _).push _
  have x2 : BoxF W0 (w.heap.size + 1) (.slice none 0 0) (.slice none 0 0) (.slice none 0 0) := by
    rw [hW0]; have := BoxF.new (w.alloc (.cells #[.slice a sc.length ca, .slice b rows.length cb, .slice d A.length cd, .slice ea Bl.length ce] 26)) (.slice none 0 0) (.slice none 0 0) (.slice none 0 0); simpa using this
  have HSC := hide (scheme4_any (hs.below hb0))
  have HT := hide (fun W (hb : Below w.heap.size w W) => ht.below hb)
  have HA := hide (fun W (hb : Below w.heap.size w W) => hA.below hb)
  have HW0 := hide hW0
  have hzw := hb0.size
  have hS4 := smallS3_len sc
  have HR := hide (show smallR3 sc rows = sortL ((rows.take 12).map (smallT (smallS3 sc).length)) from rfl)
  have hRl := smallR3_len sc rows
  generalize smallR3 sc rows = R at *
  generalize smallS3 sc = s at *
  have c00 := bx.cell0
  clear h hs ht hA hBl hW0
  go_enter Tryz.func6, Tryz.ntmps6
  go_wp2_with fail
  rw [← unhide HW0]
  refine (unhide HSC).mono ?_
  rintro e wA ⟨us, rfl, hout, hb1⟩
  obtain ⟨oa, oc, rfl, _, hoc⟩ := hout.form
  unfold maxLen at hoc
  replace bx := bx.belowH hb1
  replace x2 := x2.belowH hb1
  have hbw := hb0.trans (hb1.mono hzw)
  have hz1 := hbw.size
  have hl2 := x2.lt
  have ht1 := unhide HT _ hbw
  have cb1 := bx.cell1
  clear HSC c00 hb1
  go_wp2
  go_loopw [8, 9, 10, 11] (fun v i _ _ wq => ∃ k : Nat, k ≤ rows.length ∧ k ≤ 12 ∧ i = .int .i64 k ∧ OwnT wA.heap.size wq v ((rows.take k).map (smallT s.length)) ∧ Below wA.heap.size wA wq) (fun _ i _ _ _ => rows.length - (intOf i).toNat)
  case atStart => exact ⟨0, by omega, by omega, rfl, OwnT.nil _ _, Below.refl _ _⟩
  case round =>
    obtain ⟨j, hj, hj20, rfl, hown, hbel2⟩ := hrel
    have cq1 := (bx.belowH hbel2).cell1
    have hz2 := hbel2.size
    by_cases hjj : j < rows.length ∧ j < 12
    · obtain ⟨hjl, hj20'⟩ := hjj
      obtain ⟨bl, ol, ul, rfl, hcl, hiL⟩ := (ht1.below hbel2).at hjl
      obtain ⟨ia, ic, rfl, _, hic⟩ := hiL.form
      unfold maxLen at hic
      have HN := hide (show (rows.take (j + 1)).map (smallT s.length) = (rows.take j).map (smallT s.length) ++ [smallT s.length rows[j]] by rw [List.take_succ_eq_append_getElem hjl, List.map_append]; rfl)
      have hll : ((rows.take j).map (smallT s.length)).length ≤ 12 := by rw [List.length_map]; exact Nat.le_trans (List.length_take_le _ _) hj20
      generalize (rows.take j).map (smallT s.length) = L at hown HN hll
      have HRJ := hide (fun k2 (h1 : k2 ≤ s.length) (h2 : k2 ≤ rows[j].length) (h : ¬ (k2 < s.length ∧ k2 < rows[j].length)) => small_end (n := s.length) (r := rows[j]) h1 h2 h)
      have HST := hide (fun k2 (h1 : k2 < s.length) (h2 : k2 < rows[j].length) => small_set (n := s.length) (r := rows[j]) h1 h2)
      rename World => wB
      go_wp2_with (at_make; refine wp_make_ints rfl _ _ rfl (Nat.le_refl _) rfl rfl (by omega) ?_; intro w3 hown3 hb3)
      go_loopw [11] (fun i wi => ∃ k2 : Nat, k2 ≤ s.length ∧ k2 ≤ rows[j].length ∧ i = .int .i64 k2 ∧ OwnI wB.heap.size wi (.slice (some ⟨wB.heap.size, 0, none⟩) s.length s.length) ((rows[j].take k2).map (modL 3) ++ List.replicate (s.length - k2) 0) ∧ Below wB.heap.size wB wi) (fun i _ => s.length - (intOf i).toNat)
      case atStart => exact ⟨0, by omega, by omega, rfl, by simpa using hown3, hb3⟩
      case round =>
        clear hown3 hb3
        obtain ⟨k2, hk2, hk2r, rfl, howni, hbel3⟩ := hrel
        have hz3 := hbel3.size
        have cq2 := ((bx.belowH hbel2).belowH hbel3).cell1
        by_cases hkk : k2 < s.length ∧ k2 < rows[j].length
        · obtain ⟨hka, hkb⟩ := hkk
          obtain ⟨bi, oi, e1, hci⟩ := (hiL.below hbel3).at hkb
          subst e1
          have hclw := Below.cell_of hbel3 hcl
          obtain ⟨⟨old, hcell⟩, hfr, hset, hbs⟩ := own_setI howni (by simp; omega) (i := k2) hka (modL 3 rows[j][k2])
          rw [unhide HST k2 hka hkb] at hset
          rw [show modL 3 rows[j][k2] = (bits .and .i64 rows[j][k2] 65535).tmod 3 from rfl] at hset hbs
          clear howni hiL hcl ht1 hout HST HRJ
          go_wp2
          go_roundw
          case rel => exact ⟨k2 + 1, by omega, by omega, by go_num, hset, hbel3.trans hbs⟩
          case measure => simp [intOf]; omega
        · have he := unhide HRJ k2 hk2 hk2r hkk
          have hclw := Below.cell_of hbel3 hcl
          have hok : Hid (decide (k2 < s.length) = false ∨ (k2 < s.length ∧ ¬ k2 < rows[j].length)) := hide (by
            by_cases h1 : k2 < s.length
            · exact .inr ⟨h1, fun h2 => hkk ⟨h1, h2⟩⟩
            · exact .inl (by simpa using h1))
          rw [he] at howni
          clear he HST HRJ hiL hkk hcl
          have hti := Seq.of_own howni
          have hnt := New.of_own howni
          have hownL := hown.below hbel3
          have hap := hide (show Sep _ _ from (Sep.of_new hown.new (Nat.le_refl _) hnt).symm)
          have hzz := Nat.le_trans hz2 hz3
          generalize smallT s.length rows[j] = T at howni hti HN
          rcases unhide hok with h1 | ⟨h1, h2⟩
          all_goals
            clear hok hown howni ht1 hout
            go_wp2_with (at_builtin; refine wp_app_tup rfl (.tmp 61) (.tmp 63) rfl hownL hti (fun _ => unhide hap) rfl hzz rfl (by omega) ?_; intro v' w4 hown4 hgrew)
            go_roundw
            case rel => exact ⟨j + 1, by omega, by omega, by go_num, by rw [unhide HN]; exact hown4, (hbel2.trans (hbel3.mono hz2)).trans hgrew.below⟩
            case measure => simp [intOf]; omega
    · have hF : (rows.take j).map (smallT s.length) = (rows.take 12).map (smallT s.length) := by
        rw [show rows.take j = rows.take 12 by rw [List.take_eq_take_iff]; omega]
      rw [hF] at hown
      have hlen20 : ((rows.take 12).map (smallT s.length)).length ≤ 12 := by rw [List.length_map]; exact List.length_take_le _ _
      have HSRT := hide (refSort_any hown.tups (by omega) (fun t ht => by
        obtain ⟨x, _, rfl⟩ := List.mem_map.1 ht
        rw [smallT_len]; omega))
      rw [← unhide HR] at HSRT
      have hok : Hid (decide (j < rows.length) = false ∨ (j < rows.length ∧ ¬ j < 12)) := hide (by
        by_cases h1 : j < rows.length
        · exact .inr ⟨h1, fun h2 => hjj ⟨h1, h2⟩⟩
        · exact .inl (by simpa using h1))
      replace bx := bx.belowH hbel2
      replace x2 := x2.belowH hbel2
      have hl9 := x2.lt
      have hout2 := hout.below hbel2
      obtain ⟨va, vn, vc, hve⟩ := hown.sl
      rw [hve] at HSRT ⊢
      have hbw2 := below_then hbw hbel2
      clear hF hlen20 hown hve hjj ht1 hout cb1
      rcases unhide hok with h1 | ⟨h1, h2⟩
      all_goals
        clear hok
        go_wp2_with fail
        refine (unhide HSRT).mono ?_
        rintro e w5 ⟨u5, rfl, hu5, hun5, hb5⟩
        obtain ⟨ra, rc, hre, _, hrc⟩ := hu5.form
        unfold maxLen at hrc
        rw [hre] at hu5 hun5 ⊢
        replace bx := bx.belowH hb5
        replace x2 := x2.belowH hb5
        have hout3 := hout2.below hb5
        have hbw5 := below_then hbw2 hb5
        have hz5 := hbw5.size
        have hl2 := x2.lt
        have hl0 := bx.lt
        have x4 := BoxF.new w5 (.slice oa s.length oc) (.slice ra R.length rc) (.slice none 0 0)
        have HO3 := hide hout3
        have HU5 := hide hu5
        have HN5 := hide hun5
        have hW5 := hbw2.size
        clear hre hout2 hout3 hu5 hun5 hb5 HSRT
        go_wp2
        go_loopw [13, 14] (fun i _ wr => ∃ (k : Nat) (zv : Value), k ≤ R.length ∧ i = .int .i64 k ∧ BoxF wr w5.heap.size (.slice oa s.length oc) (.slice ra R.length rc) zv ∧ OwnP (w5.heap.size + 1) wr zv (refW A most k) ∧ Below w5.heap.size w5 wr) (fun i _ _ => R.length - (intOf i).toNat)
        case atStart => exact ⟨0, _, by omega, rfl, x4, World.ownsRow_nil _ _ _ _, (Below.refl _ _).alloc (Nat.le_refl _) _⟩
        case round =>
          clear x4
          obtain ⟨k, zv, hk, rfl, y4, hown, hbel⟩ := hrel
          have hz := hbel.size
          have hl4 := y4.lt
          have hbr := hbw5.trans (hbel.mono hz5)
          obtain ⟨za, zn, zc, rfl⟩ := own_sl2 hown
          have c41 := y4.cell1
          by_cases hkl : k < R.length
          · have hne : (Value.slice za zn zc).ownBlock ≠ some w5.heap.size := (own_new2 hown).ne (by omega)
            have hwl := refW_len A most k
            have HSU := hide (refW_succ A most k)
            have hwl2 : (refW A most k).length < 100000 := by omega
            have byq := bx.below hbel hl0
            have q2 : ∀ o, (wr.alloc o).cell? ⟨w.heap.size, 2, none⟩ = some (.slice d A.length cd) := fun o => (byq.push o).cell2
            have q3 : ∀ o, (wr.alloc o).cell? ⟨w.heap.size, 3, none⟩ = some (.slice ea Bl.length ce) := fun o => (byq.push o).cell3
            have hm0 : (most == 0) = false := by rw [beq_eq_false_iff_ne]; omega
            have hm1 : ¬ ((0 : Int) < -most) := by omega
            have hm3 : ¬ (most < (0 : Int)) := by omega
            obtain ⟨y, hy⟩ : ∃ y, y = A.getD k 1 := ⟨_, rfl⟩
            obtain ⟨z, hzc⟩ : ∃ z, z = clampW most y := ⟨_, rfl⟩
            rw [← hy, ← hzc] at HSU
            obtain ⟨q, hq⟩ : ∃ q, q = decide (y < -most ∨ most < y) := ⟨_, rfl⟩
            have HZ := hide (show (y < -most ∧ q = true) ∨ (¬ y < -most ∧ most < y ∧ q = true) ∨ (¬ y < -most ∧ ¬ most < y ∧ q = false) by
              rw [hq]
              by_cases h1 : y < -most
              · exact .inl ⟨h1, by simp [h1]⟩
              · by_cases h2 : most < y
                · exact .inr (.inl ⟨h1, h2, by simp [h2]⟩)
                · exact .inr (.inr ⟨h1, h2, by simp [h1, h2]⟩))
            have HZ2 := hide (show (q = true ∧ z = y.tmod most) ∨ (q = false ∧ z = y) by
              rw [hq, hzc]; unfold clampW
              by_cases h1 : y < -most ∨ most < y
              · exact .inl ⟨by simp [h1], if_pos h1⟩
              · exact .inr ⟨by simp [h1], if_neg h1⟩)
            have HA2 := hide (show (∃ (h : k < A.length), y = A[k]) ∨ (¬ k < A.length ∧ y = 1) by
              by_cases hkA : k < A.length
              · exact .inl ⟨hkA, by rw [hy]; simp [hkA]⟩
              · exact .inr ⟨hkA, by rw [hy, List.getD_eq_getElem?_getD, List.getElem?_eq_none (by omega)]; rfl⟩)
            have HOW := hide hown
            have HY4 := hide y4
            generalize refW A most k = RW at *
            clear hy hzc hq hown y4
            go_upto_if 83 with fail
            go_cut [] from 70 to 142 (fun wx => wx = wr.alloc (.cells #[.int .i64 y, .int .i64 0] 56))
            case first =>
              rcases unhide HA2 with ⟨hkA, hy⟩ | ⟨hkA, hy⟩
              · obtain ⟨bA, oA, hAe, hcA⟩ := (unhide HA _ hbr).at hkA
                subst hAe
                have qA : ∀ o, (wr.alloc o).cell? ⟨bA, oA + k, none⟩ = some (.int .i64 A[k]) := fun o => cell_push hcA o
                go_wp2
                go_meet
                case rel => rw [hy]
              · go_wp2
                go_meet
                case rel => rw [hy]
            case rest =>
              subst hcut
              go_upto_region 19 with fail
              go_cut [98] from 70 to 142 (fun s98 wx => s98 = .bool false ∧ wx = wr.alloc (.cells #[.int .i64 y, .int .i64 0] 56))
              case first =>
                by_cases hkB : k < Bl.length
                · go_wp2
                  go_meet
                  case rel => exact ⟨rfl, rfl⟩
                · go_wp2
                  go_meet
                  case rel => exact ⟨rfl, rfl⟩
              case rest =>
                obtain ⟨rfl, rfl⟩ := hcut
                go_upto_region 21 with fail
                go_cut [115] from 70 to 142 (fun s115 wx => s115 = .bool q ∧ wx = wr.alloc (.cells #[.int .i64 y, .int .i64 0] 56))
                case first =>
                  rcases unhide HZ with ⟨h1, hz1⟩ | ⟨h1, h2, hz1⟩ | ⟨h1, h2, hz1⟩
                  all_goals
                    subst hz1
                    go_wp2
                    go_meet
                    case rel => exact ⟨rfl, rfl⟩
                case rest =>
                obtain ⟨rfl, rfl⟩ := hcut
                go_upto_if 115 with fail
                go_cut [] from 70 to 142 (fun wx => wx = wr.alloc (.cells #[.int .i64 z, .int .i64 0] 56))
                case first =>
                  rcases unhide HZ2 with ⟨h1, hz1⟩ | ⟨h1, hz1⟩
                  · subst h1
                    go_wp2
                    go_meet
                    case rel => rw [hz1]
                  · subst h1
                    go_wp2
                    go_meet
                    case rel => rw [hz1]
                case rest =>
                  subst hcut
                  have hownX := own_below2 (unhide HOW) ((Below.refl _ wr).alloc (Nat.le_refl _) (.cells #[.int .i64 z, .int .i64 0] 56))
                  have y4X := (unhide HY4).push (.cells #[.int .i64 z, .int .i64 0] 56)
                  have c42X := y4X.cell2
                  have hbX := hbel.alloc (show w5.heap.size ≤ wr.heap.size from hz) (.cells #[.int .i64 z, .int .i64 0] 56)
                  have hzX : w5.heap.size + 1 ≤ (wr.alloc (.cells #[.int .i64 z, .int .i64 0] 56)).heap.size := y4X.lt
                  go_wp2_with (at_builtin; refine wp_app_pair2 (y := (z, 0)) rfl (.tmp 138) (.tmp 140) rfl hownX rfl hzX rfl (by simp) (by omega) ?_; intro v' w10 hown10 hgrew; obtain ⟨na, nm, nc, hv10⟩ := own_sl2 hown10; subst hv10; have y5 := y4X.grew hgrew hne; have e0 := y5.cell2; have e1 := y5.frozen 2)
                  have hn4 : (Value.slice na nm nc).ownBlock ≠ some w5.heap.size := (own_new2 hown10).ne (by omega)
                  go_roundw
                  case rel => exact ⟨k + 1, _, by omega, by go_num, y5.set2 _, by rw [unhide HSU]; exact ownsRow_setCell_other hown10 hn4 _, (hbX.trans (hgrew.below.mono (by omega))).setCell (Nat.le_refl _) _⟩
                  case measure => simp [intOf]; omega
          · have hkk : k = R.length := by omega
            subst hkk
            have y2 := x2.below hbel hl2
            have c40 := y4.cell0
            have c42 := y4.cell2
            have hd0 := y2.cell0
            have hd1 := y2.cell1
            have hd2 := y2.cell2
            have hg0 := y2.frozen 0
            have hg1 := y2.frozen 1
            have hg2 := y2.frozen 2
            have HWV : Hid (RV wr (.agg #[.slice oa s.length oc, .slice ra R.length rc, .slice za zn zc]) s R (refW A most R.length)) := hide ⟨_, _, _, rfl, (unhide HO3).below hbel, (unhide HU5).below hbel, hown.pairs⟩
            have hnr : (Value.slice ra R.length rc).ownBlock ≠ some (w.heap.size + 1) := (unhide HN5).ne hl9
            clear hown y4
            go_wp2
            have hfin := rv_store y2.boxS y2 (unhide HWV) hnr
            refine bodyPost_ret (v := .agg #[.slice oa s.length oc, .slice ra R.length rc, .slice za zn zc]) (by simp [results, Tryz.results6, go_sem, hd0, hd1, hd2]) rfl ⟨_, _, _, rfl, hfin, fun b hb => (unhide HN5).ne (by omega), below_store3 hbr (by omega) _ _ _⟩

end Go.Proofs.YtafpecdmaogohaaGreat

namespace Go.Proofs.YtafpecdmaogohaaGreat
open Go.RowKit
set_option linter.unusedVariables false
set_option linter.unusedSimpArgs false

theorem ref_ok {sc A Bl : List Int} {rows : List (List Int)} {v : Value} {most : Int} {w : World} (h : PartV w v sc rows A Bl) (hm : 0 < most) (hm2 : most ≤ 4611686018427387904) :
    Calls Tryz.prog 6 #[v, .int .i64 most, .bool true] w fun e w' => ∃ x, e = .returned x ∧ RV w' x (smallS3 sc) (smallR3 sc rows) (refW A most (smallR3 sc rows).length) ∧ Below w.heap.size w w' := by
  refine (ref_any h hm hm2).mono ?_
  rintro e w' ⟨x, y, z, he, hr, _, hb⟩
  exact ⟨_, he, hr, hb⟩

theorem clamp_in {most x : Int} (hm : 0 < most) : -most ≤ clampW most x ∧ clampW most x ≤ most := by
  unfold clampW
  split
  · have h1 := Int.tmod_lt_of_pos x hm
    have h2 := Int.lt_tmod_of_pos x hm
    omega
  · omega
theorem few_ref (A : List Int) (n : Nat) : Few ((refW A 999 n).map Prod.fst) := by
  intro x hx
  unfold refW at hx
  rw [List.map_map] at hx
  obtain ⟨i, _, rfl⟩ := List.mem_map.1 hx
  have := clamp_in (most := 999) (x := A.getD i 1) (by omega)
  simp only [Function.comp]
  omega
theorem fits_ref (A : List Int) (n : Nat) : ∀ x ∈ (refW A 4611686018427387904 n).map Prod.fst, Fits x := by
  intro x hx
  unfold refW at hx
  rw [List.map_map] at hx
  obtain ⟨i, _, rfl⟩ := List.mem_map.1 hx
  have := clamp_in (most := 4611686018427387904) (x := A.getD i 1) (by omega)
  simp only [Function.comp]
  unfold Fits
  omega

end Go.Proofs.YtafpecdmaogohaaGreat

namespace Go.Proofs.YtafpecdmaogohaaGreat
open Go.RowKit Go.ChangeShapes Go.WideShapes Go.ChangeAt
set_option linter.unusedVariables false
set_option linter.unusedSimpArgs false
set_option maxRecDepth 100000

theorem read_int64 {H : Type} {enc : TypeId × Value → H} {W : World} {v : Value} {d : DataW H} {ps : List MemPlace} {base b0 : Nat} {held : Bool} {r : Reach} (h : DataW.Trod enc Tryz.prog W base (fun _ => true) held 2 v d ps) (hv : Value.okWide Tryz.prog W r b0 2 v) :
    ∃ n, v = .int .i64 n ∧ InI64 n := by
  obtain ⟨n, hv, _, _, hw⟩ := open_int Tryz.underlying2 hv h
  exact ⟨n, hv, wf_in hw⟩

theorem read_i64s {H : Type} {enc : TypeId × Value → H} {W : World} {x : Value} {y : DataW H × List MemPlace} {base fuel : Nat} {held : Bool} (hf : DataW.trod enc Tryz.prog W base (fun _ => true) held fuel 24 [x] = some y) :
    ∃ l, Ints W x l := by
  rcases open_ints Tryz.underlying24 Tryz.underlying2 (by kernel_rfl) hf with ⟨hcs, _⟩ | ⟨x', l, c', zs, hcs, _, hl, hm, hz, _, hcell, hwz⟩
  · cases cells_one hcs
    exact ⟨[], Seq.nil _ _⟩
  · cases cells_one hcs
    exact ⟨zs.take l, ints_of hl hm (by simpa using hz) hcell⟩

theorem part4Fields : (Tryz.prog.underlying 26).map (fun t => match t with | .struct fs => fs.toList.map (fun f => (f.offset, f.type)) | _ => []) = some [(0, 22), (1, 23), (2, 24), (3, 24)] := by kernel_rfl
theorem part4Cells : Tryz.prog.cellsOf 26 = 4 ∧ Tryz.prog.cellsOf 22 = 1 ∧ Tryz.prog.cellsOf 23 = 1 ∧ Tryz.prog.cellsOf 24 = 1 := by refine ⟨?_, ?_, ?_, ?_⟩ <;> kernel_rfl

theorem read_part4 {H : Type} {enc : TypeId × Value → H} {W : World} {v : Value} {d : DataW H} {ps : List MemPlace} {base b0 : Nat} {held : Bool} {r : Reach} (h : DataW.Trod enc Tryz.prog W base (fun _ => true) held 26 v d ps) (hv : Value.okWide Tryz.prog W r b0 26 v) :
    ∃ s ll A B, PartV W v s ll A B := by
  obtain ⟨fs, hu, hfs⟩ : ∃ fs, Tryz.prog.underlying 26 = some (.struct fs) ∧ fs.toList.map (fun f => (f.offset, f.type)) = [(0, 22), (1, 23), (2, 24), (3, 24)] := by
    have h1 := part4Fields
    cases hx : Tryz.prog.underlying 26 with
    | none => rw [hx] at h1; cases h1
    | some t =>
      rw [hx] at h1
      cases t <;> simp at h1
      exact ⟨_, rfl, by simpa using h1⟩
  obtain ⟨f0, f1, f2, f3, rfl⟩ : ∃ f0 f1 f2 f3, fs = #[f0, f1, f2, f3] := by
    have hl := congrArg List.length hfs
    simp at hl
    obtain ⟨l⟩ := fs
    match l, hl with
    | [f0, f1, f2, f3], _ => exact ⟨f0, f1, f2, f3, rfl⟩
  simp at hfs
  obtain ⟨⟨o0, t0⟩, ⟨o1, t1⟩, ⟨o2, t2⟩, o3, t3⟩ := hfs
  obtain ⟨cs, rfl, hsz⟩ := okWide_struct hu hv
  rw [part4Cells.1] at hsz
  obtain ⟨x, y, z, u, rfl⟩ : ∃ x y z u, cs = #[x, y, z, u] := by
    obtain ⟨l⟩ := cs
    match l, hsz with
    | [x, y, z, u], _ => exact ⟨x, y, z, u, rfl⟩
  obtain ⟨fuel, hf⟩ := h
  obtain ⟨y0, y1, y2, y3, n, _, _, h0, h1, h2, h3⟩ := Go.Joins.trod_struct4 hu hf
  rw [o0, t0, part4Cells.2.1] at h0
  rw [o1, t1, part4Cells.2.2.1] at h1
  rw [o2, t2, part4Cells.2.2.2] at h2
  rw [o3, t3, part4Cells.2.2.2] at h3
  simp [Value.cells] at h0 h1 h2 h3
  obtain ⟨s, hs, ms⟩ := read_intsC h0
  obtain ⟨ll, hl, ml⟩ := read_tupsC h1
  obtain ⟨A, hA⟩ := read_i64s h2
  obtain ⟨B, hB⟩ := read_i64s h3
  exact ⟨s, ll, A, B, ⟨x, y, z, u, rfl, hs, hl, hA, hB⟩⟩

end Go.Proofs.YtafpecdmaogohaaGreat

namespace Go.Proofs.YtafpecdmaogohaaGreat
open Go.RowKit
set_option linter.unusedVariables false
set_option linter.unusedSimpArgs false
set_option maxRecDepth 20000

theorem BoxWC.boxS {w : World} {b : Nat} {a a' a'' : Option Addr} {n n' n'' c c' c'' : Nat} (h : BoxWC w b (.slice a n c) (.slice a' n' c') (.slice a'' n'' c'')) : BoxS w b := by
  intro off u hu
  unfold BoxWC at h
  simp only [World.cell?, h] at hu
  match off, hu with
  | 0, hu => simp at hu; exact ⟨_, _, _, hu.symm⟩
  | 1, hu => simp at hu; exact ⟨_, _, _, hu.symm⟩
  | 2, hu => simp at hu; exact ⟨_, _, _, hu.symm⟩
  | off + 3, hu => simp at hu

theorem WVC.sl {w : World} {v : Value} {s : List Int} {ll : List (List Int)} {ws : List (Nat × Nat)} (h : WVC w v s ll ws) : ∃ a n c a' n' c' a'' n'' c'', v = .agg #[.slice a n c, .slice a' n' c', .slice a'' n'' c''] := by
  obtain ⟨a, ca, b, cb, d, cd, e, _⟩ := h.form
  exact ⟨_, _, _, _, _, _, _, _, _, e⟩

/-- A weighted relation that is laid in a box of its own. -/
theorem wv_storeC {w : World} {b : Nat} {p q r : Value} {a a' a'' : Option Addr} {n n' n'' c c' c'' : Nat} {s : List Int} {ll : List (List Int)} {ws : List (Nat × Nat)} (hb : BoxS w b) (hx : BoxWC w b p q r)
    (h : WVC w (.agg #[.slice a n c, .slice a' n' c', .slice a'' n'' c'']) s ll ws) (hne : (Value.slice a' n' c').ownBlock ≠ some b) :
    WVC (((w.setCell ⟨b, 0, none⟩ (.slice a n c)).setCell ⟨b, 1, none⟩ (.slice a' n' c')).setCell ⟨b, 2, none⟩ (.slice a'' n'' c'')) (.agg #[.slice a n c, .slice a' n' c', .slice a'' n'' c'']) s ll ws := by
  obtain ⟨vs, vr, vw, e, h1, h2, h3⟩ := h
  cases e
  have hb1 := hb.setCell hx.cell0 a n c
  have hx1 : (w.setCell ⟨b, 0, none⟩ (.slice a n c)).cell? ⟨b, 1, none⟩ = some q := by
    rw [World.cell?_setCell_other]
    · exact hx.cell1
    · intro e; cases e
  have hb2 := hb1.setCell hx1 a' n' c'
  exact ⟨_, _, _, rfl, ((h1.setBox hb _ _).setBox hb1 _ _).setBox hb2 _ _, ((h2.setBox hb hne _ _).setBox hb1 hne _ _).setBox hb2 hne _ _,
    Seq.setBoxG (fun _ _ _ _ h => by cases h) (Seq.setBoxG (fun _ _ _ _ h => by cases h) (Seq.setBoxG (fun _ _ _ _ h => by cases h) h3 hb _ _) hb1 _ _) hb2 _ _⟩

def wOfC (ll : List (List Int)) (ws : List (Nat × Nat)) (t : List Int) : (Nat × Nat) := ws.getD (lowN ll t) ((0, 0) : Nat × Nat)

/-- What each row of the join weighs, and whether that fits. -/
def combLC (f : (Nat × Nat) → (Nat × Nat) → (Nat × Nat) × Bool) (s : List Int) (la : List (List Int)) (wa : List (Nat × Nat)) (u : List Int) (lb : List (List Int)) (wb : List (Nat × Nat)) : List ((Nat × Nat) × Bool) :=
  (joinR s la u lb).map fun r => f (wOfC la wa (pickL r (idxL (joinL s u) s (joinL s u).length))) (wOfC lb wb (pickL r (idxL (joinL s u) u (joinL s u).length)))

/-- What combine answers. -/
def CombEndsC (B : Nat) (w' : World) (e : Ending) (S : List Int) (J : List (List Int)) (K : List ((Nat × Nat) × Bool)) (c : Nat) (most : Int) : Prop :=
  (most < (c : Int) ∧ e = .returned (.tuple #[.agg #[.slice none 0 0, .slice none 0 0, .slice none 0 0], .int .i64 9])) ∨
  ((c : Int) ≤ most ∧ (∃ x ∈ K, x.2 = false) ∧ e = .returned (.tuple #[.agg #[.slice none 0 0, .slice none 0 0, .slice none 0 0], .int .i64 11])) ∨
  ((c : Int) ≤ most ∧ (∀ x ∈ K, x.2 = true) ∧ ∃ x y z, e = .returned (.tuple #[.agg #[x, y, z], .int .i64 0]) ∧ WVC w' (.agg #[x, y, z]) S J (K.map Prod.fst) ∧ ∀ b, b < B → y.ownBlock ≠ some b)

set_option maxHeartbeats 40000000 in
theorem combineC_any {s u : List Int} {la lb : List (List Int)} {wa wb : List (Nat × Nat)} {n m : Nat} {v v' : Value} {most : Int} {F : FuncId} {f : (Nat × Nat) → (Nat × Nat) → (Nat × Nat) × Bool} {w : World} (h : WVC w v s la wa) (h' : WVC w v' u lb wb) (g : Fine s la n) (g' : Fine u lb m) (hn : n < 100000) (hm : m < 100000) (hnm : n * m < 100000)
    (hF : ∀ t t' W, Calls Tryz.prog F #[encC (wOfC la wa t), encC (wOfC lb wb t')] W fun e w' => e = .returned (.tuple #[encC (f (wOfC la wa t) (wOfC lb wb t')).1, .bool (f (wOfC la wa t) (wOfC lb wb t')).2]) ∧ Below W.heap.size W w') (hFf : ∃ fn c, Tryz.prog.funcs[F]? = some fn ∧ (fn.name == "runtime.NumGoroutine") = false ∧ fn.body = some c) :
    Calls Tryz.prog 27 #[v, v', .int .i64 most, .func (.func F) #[] #[]] w fun e w' => CombEndsC w.heap.size w' e (joinL s u) (joinR s la u lb) (combLC f s la wa u lb wb) (pairR s la u lb).length most ∧ Below w.heap.size w w' := by
  obtain ⟨a, ca, b, cb, d, cd, rfl, k1, k2, k3, k4, hs1, ht1, hw1⟩ := h.form
  obtain ⟨a', ca', b', cb', d', cd', rfl, k1', k2', k3', k4', hs2, ht2, hw2⟩ := h'.form
  obtain ⟨W0, hW0⟩ : ∃ W, W = ((w.alloc (.cells #[.slice a s.length ca, .slice b la.length cb, .slice d wa.length cd] 48)).alloc (.cells #[.slice a' u.length ca', .slice b' lb.length cb', .slice d' wb.length cd'] 48)).alloc (.cells #[.slice none 0 0, .slice none 0 0, .slice none 0 0] 48) := ⟨_, rfl⟩
  have hb0 : Below w.heap.size w W0 := by rw [hW0]; exact (b2x w _ _).alloc (by simp; omega) _
  have x0 : BoxWC W0 w.heap.size (.slice a s.length ca) (.slice b la.length cb) (.slice d wa.length cd) := by rw [hW0]; exact ((BoxWC.new w _ _ _).push _).push _
  have x1 : BoxWC W0 (w.heap.size + 1) (.slice a' u.length ca') (.slice b' lb.length cb') (.slice d' wb.length cd') := by
    rw [hW0]; have := (BoxWC.new (w.alloc (.cells #[.slice a s.length ca, .slice b la.length cb, .slice d wa.length cd] 48)) (.slice a' u.length ca') (.slice b' lb.length cb') (.slice d' wb.length cd')).push (.cells #[.slice none 0 0, .slice none 0 0, .slice none 0 0] 48); simpa using this
  have x2 : BoxWC W0 (w.heap.size + 1 + 1) (.slice none 0 0) (.slice none 0 0) (.slice none 0 0) := by
    rw [hW0]; have := BoxWC.new ((w.alloc (.cells #[.slice a s.length ca, .slice b la.length cb, .slice d wa.length cd] 48)).alloc (.cells #[.slice a' u.length ca', .slice b' lb.length cb', .slice d' wb.length cd'] 48)) (.slice none 0 0) (.slice none 0 0) (.slice none 0 0); simpa using this
  have HJ := hide (joined_any (most := most) (h.below hb0).rel (h'.below hb0).rel g g' hn hm hnm)
  have hsl := g.slen
  have hul := g'.slen
  have hJl := joinS_le 0 g.asc g'.asc
  have hJR := Nat.lt_of_le_of_lt (Nat.le_trans (join_len_le s u la lb) (Nat.mul_le_mul g.llen g'.llen)) hnm
  have hll := Nat.lt_of_le_of_lt g.llen hn
  have hml := Nat.lt_of_le_of_lt g'.llen hm
  have HW0 := hide hW0
  have hzw := hb0.size
  have HA := hide (fun W (hb : Below w.heap.size w W) => h.below hb)
  have HB := hide (fun W (hb : Below w.heap.size w W) => h'.below hb)
  have HSA := hide (fun W (hb : Below w.heap.size w W) => hs1.below hb)
  have HSB := hide (fun W (hb : Below w.heap.size w W) => hs2.below hb)
  have HAS := hide g.asl
  have HBS := hide g'.asl
  have HUA := hide (asc_le g.asc)
  have HUB := hide (asc_le g'.asc)
  have HF := hide hF
  have HCL := hide (show combLC f s la wa u lb wb = (joinR s la u lb).map fun r => f (wOfC la wa (pickL r (idxL (joinL s u) s (joinL s u).length))) (wOfC lb wb (pickL r (idxL (joinL s u) u (joinL s u).length))) from rfl)
  obtain ⟨Ffn, Fc, hF1, hF2, hF3⟩ := hFf
  have HEN := enters (P := Tryz.prog) hF1 hF2 hF3
  generalize combLC f s la wa u lb wb = K at *
  generalize joinR s la u lb = JR at *
  generalize joinL s u = J at *
  generalize (pairR s la u lb).length = cnt at *
  clear h h' hW0 hs1 ht1 hw1 hs2 ht2 hw2 g g' hF hF1 hF2 hF3
  have c00 := x0.cell0
  have c01 := x0.cell1
  have c10 := x1.cell0
  have c11 := x1.cell1
  have HX0 := hide x0
  have HX1 := hide x1
  have HX2 := hide x2
  have HX2L := hide x2.lt
  clear x0 x1 x2
  go_enter Tryz.func27, Tryz.ntmps27
  go_wp2_with fail
  rw [← unhide HW0]
  refine (unhide HJ).mono ?_
  rintro e w1 ⟨hends, hb1⟩
  have x0 := (unhide HX0).belowH hb1
  have x1 := (unhide HX1).belowH hb1
  have x2 := (unhide HX2).belowH hb1
  have hbel1 := hb0.trans (hb1.mono hzw)
  clear HJ c00 c01 c10 c11 HX0 HX1 HX2
  rcases hends with ⟨x, y, rfl, hr, hcnt, hyn⟩ | ⟨rfl, hcnt⟩
  case inr =>
    have hd0 := (x2.push (.cells #[.slice none 0 0, .slice none 0 0] 29)).cell0
    have hd1 := (x2.push (.cells #[.slice none 0 0, .slice none 0 0] 29)).cell1
    have hd2 := (x2.push (.cells #[.slice none 0 0, .slice none 0 0] 29)).cell2
    have hg0 := (x2.push (.cells #[.slice none 0 0, .slice none 0 0] 29)).frozen 0
    have hg1 := (x2.push (.cells #[.slice none 0 0, .slice none 0 0] 29)).frozen 1
    have hg2 := (x2.push (.cells #[.slice none 0 0, .slice none 0 0] 29)).frozen 2
    clear HA HB HSA HSB HF HEN
    go_wp2
    refine bodyPost_ret (v := .tuple #[.agg #[.slice none 0 0, .slice none 0 0, .slice none 0 0], .int .i64 9]) (by simp [results, Tryz.results27, go_sem, hd0, hd1, hd2]) rfl ⟨.inl ⟨hcnt, rfl⟩, ?_⟩
    first | exact hbel1.alloc hbel1.size _ | exact below_store3 (hbel1.alloc hbel1.size _) (by omega) _ _ _
  case inl =>
  obtain ⟨ra, rc, rb, rd, hre, _, hrc, _, hrd, hri, hrt⟩ := hr.form
  cases hre
  unfold maxLen at hrd
  have hb2 := (Below.refl w1.heap.size w1).alloc (Nat.le_refl _) (.cells #[.slice ra J.length rc, .slice rb JR.length rd] 29)
  have x3 := Box.new w1 (.slice ra J.length rc) (.slice rb JR.length rd)
  obtain ⟨W2, hW2⟩ : ∃ W, W = w1.alloc (.cells #[.slice ra J.length rc, .slice rb JR.length rd] 29) := ⟨_, rfl⟩
  rw [← hW2] at hb2 x3
  have HW2 := hide hW2
  replace x0 := x0.belowH hb2
  replace x1 := x1.belowH hb2
  replace x2 := x2.belowH hb2
  have hbel2 := below_then hbel1 hb2
  have hri2 := hri.below hb2
  have HRT := hide (hrt.below hb2)
  have HRI := hide hri2
  have hz2 := hbel2.size
  have HPA := hide (fun W (hb : Below W2.heap.size W2 W) => placesW_any ((unhide HRI).below hb) (unhide HSA _ (hbel2.trans (hb.mono hz2))) (unhide HUA) (by omega) (by omega))
  have HPB := hide (fun W (hb : Below W2.heap.size W2 W) => placesW_any ((unhide HRI).below hb) (unhide HSB _ (hbel2.trans (hb.mono hz2))) (unhide HUB) (by omega) (by omega))
  have HKK := hide (fun W (hb : Below W2.heap.size W2 W) => And.intro (x3.belowH hb).cell0 (And.intro (x0.belowH hb).cell0 (x1.belowH hb).cell0))
  have hbR := Below.refl W2.heap.size W2
  have hiA := idxL_le J s J.length
  have hiB := idxL_le J u J.length
  generalize idxL J s J.length = pA at *
  generalize idxL J u J.length = pB at *
  clear hr hri hrt hri2 hW2 hb1 hbel1
  go_wp2
  rw [← unhide HW2]
  go_region_held3 (fun W => W.cell? ⟨w1.heap.size, 0, none⟩ = some (.slice ra J.length rc) ∧ W.cell? ⟨w.heap.size, 0, none⟩ = some (.slice a s.length ca) ∧ W.cell? ⟨w.heap.size + 1, 0, none⟩ = some (.slice a' u.length ca'))
    (first | exact unhide HKK _ (by first | exact hB2 | exact hB1 | exact hbR | exact below_same rfl rfl rfl rfl))
    (first
      | (go_at_call 32; refine (unhide HPB _ hB1).mono ?_; rintro e w4 ⟨v4, rfl, hp2, _, hb4⟩; obtain ⟨qa, qc, qe, _, _⟩ := hp2.form; rw [qe] at hp2 ⊢; clear qe; have hB2 : Below W2.heap.size W2 w4 := below_then hB1 hb4)
      | (go_at_call 32; refine (unhide HPA _ (by first | exact hbR | exact below_same rfl rfl rfl rfl)).mono ?_; rintro e w3 ⟨v3, rfl, hp1, _, hb3⟩; obtain ⟨pa, pc, pe, _, _⟩ := hp1.form; rw [pe] at hp1 ⊢; clear pe; have hB1 : Below W2.heap.size W2 w3 := below_then (by first | exact hbR | exact below_same rfl rfl rfl rfl) hb3))
  replace hp1 := hp1.below hb4
  replace x0 := x0.belowH hB2
  replace x1 := x1.belowH hB2
  replace x2 := x2.belowH hB2
  replace x3 := x3.belowH hB2
  have hbel4 := below_then hbel2 hB2
  have HRT4 := hide ((unhide HRT).below hB2)
  have HRI4 := hide ((unhide HRI).below hB2)
  have HP1 := hide hp1
  have HP2 := hide hp2
  have hz4 := hbel4.size
  have hl2 := x2.lt
  have c30 := x3.cell0
  have c31 := x3.cell1
  have c31' := (x3.push (.cells #[.slice ra J.length rc, .slice rb JR.length rd, .slice none 0 0] 48)).cell1
  have x4 := BoxWC.new w4 (.slice ra J.length rc) (.slice rb JR.length rd) (.slice none 0 0)
  clear HPA HPB HKK hbR hB1 hB2 hb3 hb4 hp1 hp2 HRT HRI hbel2 hb2
  go_wp2
  go_loopw [16, 17, 18, 49] (fun _ _ _ i wr => ∃ (k : Nat) (zv : Value), k ≤ JR.length ∧ i = .int .i64 k ∧ BoxWC wr w4.heap.size (.slice ra J.length rc) (.slice rb JR.length rd) zv ∧ OwnWC (w4.heap.size + 1) wr zv ((K.take k).map Prod.fst) ∧ (∀ q ∈ K.take k, q.2 = true) ∧ Below w4.heap.size w4 wr) (fun _ _ _ i _ => JR.length - (intOf i).toNat)
  case atStart => exact ⟨0, _, by omega, rfl, x4, World.ownsRow_nil _ _ _ _, by simp, (Below.refl _ _).alloc (Nat.le_refl _) _⟩
  case round =>
    clear x4 c30 c31 c31'
    obtain ⟨k, zv, hk, rfl, y4, hown, hall, hbel⟩ := hrel
    have hz := hbel.size
    have hl4 := y4.lt
    have hbw := hbel4.trans (hbel.mono hz4)
    have hKl : K.length = JR.length := by rw [unhide HCL, List.length_map]
    obtain ⟨za, zn, zc, rfl⟩ := own_sl hown
    by_cases hkl : k < JR.length
    · obtain ⟨bl, ol, ul, hble, hcl0, hiL0⟩ := (unhide HRT4).at hkl
      subst hble
      have hcl := Below.cell_of hbel hcl0
      have hiL := hiL0.below hbel
      obtain ⟨ia, ic, rfl, _, _⟩ := hiL0.form
      have hkK : k < K.length := by omega
      have HKE := hide (show K[k] = f (wOfC la wa (pickL JR[k] pA)) (wOfC lb wb (pickL JR[k] pB)) by have hc := unhide HCL; subst hc; rw [List.getElem_map])
      have HTK := hide (List.take_succ_eq_append_getElem hkK)
      have HPA := hide (fun W (hb : Below wr.heap.size wr W) => pick_any (w := W) (hiL.below hb) (((unhide HP1).below hbel).below hb) (by omega))
      have HPB := hide (fun W (hb : Below wr.heap.size wr W) => pick_any (w := W) (hiL.below hb) (((unhide HP2).below hbel).below hb) (by omega))
      have HWA := hide (fun W (hb : Below wr.heap.size wr W) vt (ht : Ints W vt (pickL JR[k] pA)) => weightOfC_any (unhide HA _ (below_then hbw hb)) ht (unhide HAS) (by omega))
      have HWB := hide (fun W (hb : Below wr.heap.size wr W) vt (ht : Ints W vt (pickL JR[k] pB)) => weightOfC_any (unhide HB _ (below_then hbw hb)) ht (unhide HBS) (by omega))
      have HFF := hide (unhide HF (pickL JR[k] pA) (pickL JR[k] pB))
      generalize pickL JR[k] pA = tA at *
      generalize pickL JR[k] pB = tB at *
      rw [show wa.getD (lowN la tA) ((0, 0) : Nat × Nat) = wOfC la wa tA from rfl] at HWA
      rw [show wb.getD (lowN lb tB) ((0, 0) : Nat × Nat) = wOfC lb wb tB from rfl] at HWB
      generalize wOfC la wa tA = xA at *
      generalize wOfC lb wb tB = xB at *
      generalize f xA xB = q at *
      have y0 := x0.below hbel (by have := x0.lt; exact this)
      have y1 := x1.below hbel (by have := x1.lt; exact this)
      have HKK := hide (fun W (hb : Below wr.heap.size wr W) => And.intro (y0.belowH hb).cell0 (And.intro (y0.belowH hb).cell1 (And.intro (y0.belowH hb).cell2 (And.intro (y1.belowH hb).cell0 (And.intro (y1.belowH hb).cell1 (y1.belowH hb).cell2)))))
      have hbR := Below.refl wr.heap.size wr
      have HY4 := hide y4
      have HOW := hide hown
      have HALL := hide hall
      obtain ⟨q1, q2⟩ := q
      have HEC := hide (show encC q1 = Value.complex .f64 q1.1 q1.2 from rfl)
      clear hcl0 hiL hiL0 y4 hown hall
      go_wp2
      go_region_held3 (fun W => W.cell? ⟨w.heap.size, 0, none⟩ = some (.slice a s.length ca) ∧ W.cell? ⟨w.heap.size, 1, none⟩ = some (.slice b la.length cb) ∧ W.cell? ⟨w.heap.size, 2, none⟩ = some (.slice d wa.length cd) ∧ W.cell? ⟨w.heap.size + 1, 0, none⟩ = some (.slice a' u.length ca') ∧ W.cell? ⟨w.heap.size + 1, 1, none⟩ = some (.slice b' lb.length cb') ∧ W.cell? ⟨w.heap.size + 1, 2, none⟩ = some (.slice d' wb.length cd'))
        (first | exact unhide HKK _ (by first | exact hR5 | exact hR4 | exact hR3 | exact hR2 | exact hR1 | exact hbR | exact below_same rfl rfl rfl rfl))
        (first
          | (have hpv := hR4; refine (unhide HFF _).mono ?_; rintro e w9 ⟨rfl, hb9⟩; have hR5 : Below wr.heap.size wr w9 := below_then hR4 hb9)
          | (go_at_call 44; have hpv := hR3; refine (unhide HWB _ hR3 _ htB).mono ?_; rintro e w8 ⟨rfl, hb8⟩; have hR4 : Below wr.heap.size wr w8 := below_then hR3 hb8)
          | (go_at_call 34; have hpv := hR2; refine (unhide HPB _ hR2).mono ?_; rintro e w7 ⟨u7, rfl, htB, _, hb7⟩; obtain ⟨a7, c7, e7, _, _⟩ := htB.form; rw [e7] at htB ⊢; clear e7; have hR3 : Below wr.heap.size wr w7 := below_then hR2 hb7)
          | (go_at_call 44; have hpv := hR1; refine (unhide HWA _ hR1 _ htA).mono ?_; rintro e w6 ⟨rfl, hb6⟩; have hR2 : Below wr.heap.size wr w6 := below_then hR1 hb6)
          | (go_at_call 34; refine (unhide HPA _ (by first | exact hbR | exact below_same rfl rfl rfl rfl)).mono ?_; rintro e w5 ⟨u5, rfl, htA, _, hb5⟩; obtain ⟨a5, c5, e5, _, _⟩ := htA.form; rw [e5] at htA ⊢; clear e5; have hR1 : Below wr.heap.size wr w5 := below_then (by first | exact hbR | exact below_same rfl rfl rfl rfl) hb5))
      have y2 := (x2.below hbel hl2).belowH hR5
      have y4 := (unhide HY4).belowH hR5
      have hown9 := own_below (unhide HOW) hR5
      have hbw9 := below_then hbw hR5
      have hz9 : w4.heap.size + 1 ≤ w9.heap.size := y4.lt
      have hKk : K[k] = (q1, q2) := unhide HKE
      rw [hKk] at HTK
      clear HPA HPB HWA HWB HFF HKK HKE HY4 HOW hR1 hR2 hR3 hR4 hb5 hb6 hb7 hb8 hb9 htA htB
      cases q2 with
      | false =>
        have hd0 := y2.cell0
        have hd1 := y2.cell1
        have hd2 := y2.cell2
        have hg0 := y2.frozen 0
        have hg1 := y2.frozen 1
        have hg2 := y2.frozen 2
        have HX := hide (show ∃ x ∈ K, x.2 = false from ⟨K[k], List.getElem_mem hkK, by rw [hKk]⟩)
        clear hown9 y4 hKk HTK
        go_wp2
        refine bodyPost_ret (v := .tuple #[.agg #[.slice none 0 0, .slice none 0 0, .slice none 0 0], .int .i64 11]) (by simp [results, Tryz.results27, go_sem, hd0, hd1, hd2]) rfl ⟨.inr (.inl ⟨hcnt, unhide HX, rfl⟩), ?_⟩
        first | exact hbw9 | exact below_store3 hbw9 (by omega) _ _ _
      | true =>
        have c42 := y4.cell2
        have hne : (Value.slice za zn zc).ownBlock ≠ some w4.heap.size := (New.of_own hown9).ne (by omega)
        have hln : ((K.take k).map Prod.fst).length < 100000 := by rw [List.length_map, List.length_take]; omega
        have HTM := hide (show (K.take (k + 1)).map Prod.fst = (K.take k).map Prod.fst ++ [q1] by rw [unhide HTK, List.map_append]; rfl)
        have HTA := hide (show ∀ q ∈ K.take (k + 1), q.2 = true by
          rw [unhide HTK]
          intro q hq
          rcases List.mem_append.1 hq with h | h
          · exact unhide HALL q h
          · rw [List.mem_singleton.1 h])
        have HD := hide y4
        generalize (K.take k).map Prod.fst = KL at *
        rw [unhide HEC]
        clear hKk HTK HALL
        go_wp2_with (at_builtin; refine wp_app_wC (y := q1) rfl (.tmp 72) (.tmp 74) rfl hown9 rfl hz9 rfl (by omega) ?_; intro v' w10 hown10 hgrew; obtain ⟨na, nm, nc, hv10⟩ := own_sl hown10; subst hv10; have y5 := (unhide HD).grew hgrew hne; have e0 := y5.cell2; have e1 := y5.frozen 2)
        have hn4 : (Value.slice na nm nc).ownBlock ≠ some w4.heap.size := (New.of_own hown10).ne (by omega)
        go_roundw
        case rel => exact ⟨k + 1, _, by omega, by go_num, y5.set2 _, by rw [unhide HTM]; exact ownsRow_setCell_other hown10 hn4 _, unhide HTA, ((hbel.trans (hR5.mono hz)).trans (hgrew.below.mono (by omega))).setCell (Nat.le_refl _) _⟩
        case measure => simp [intOf]; omega
    · have hkk : k = JR.length := by omega
      have hKt : K.take k = K := List.take_of_length_le (by omega)
      rw [hKt] at hown hall
      have y2 := x2.below hbel hl2
      have c40 := y4.cell0
      have c41 := y4.cell1
      have c42 := y4.cell2
      have hd0 := y2.cell0
      have hd1 := y2.cell1
      have hd2 := y2.cell2
      have hg0 := y2.frozen 0
      have hg1 := y2.frozen 1
      have hg2 := y2.frozen 2
      have HWV : Hid (WVC wr (.agg #[.slice ra J.length rc, .slice rb JR.length rd, .slice za zn zc]) J JR (K.map Prod.fst)) := hide ⟨_, _, _, rfl, (unhide HRI4).below hbel, (unhide HRT4).below hbel, Seq.of_own hown⟩
      have HY := hide hyn
      have HALL := hide hall
      have hW0z := hb0.size
      have hnr : (Value.slice rb JR.length rd).ownBlock ≠ some (w.heap.size + 1 + 1) := unhide HY _ (by have := unhide HX2L; exact this)
      clear hown hall hyn hKt y4
      go_wp2
      have hfin := wv_storeC y2.boxS y2 (unhide HWV) hnr
      refine bodyPost_ret (v := .tuple #[.agg #[.slice ra J.length rc, .slice rb JR.length rd, .slice za zn zc], .int .i64 0]) (by simp [results, Tryz.results27, go_sem, hd0, hd1, hd2]) rfl ⟨.inr (.inr ⟨hcnt, unhide HALL, _, _, _, rfl, hfin, fun b hb => unhide HY b (by omega)⟩), below_store3 hbw (by omega) _ _ _⟩

end Go.Proofs.YtafpecdmaogohaaGreat

namespace Go.Proofs.YtafpecdmaogohaaGreat
open Go.RowKit
set_option linter.unusedVariables false
set_option linter.unusedSimpArgs false
set_option maxRecDepth 20000


set_option maxHeartbeats 8000000 in
theorem timesC_any {s u : List Int} {la lb : List (List Int)} {wa wb : List (Nat × Nat)} {n m : Nat} {v v' : Value} {most : Int} {mulC : Nat × Nat → Nat × Nat → (Nat × Nat) × Bool} {w : World} (h : WVC w v s la wa) (h' : WVC w v' u lb wb) (g : Fine s la n) (g' : Fine u lb m) (hn : n < 100000) (hm : m < 100000) (hnm : n * m < 100000)
    (hF : ∀ t t' W, Calls Tryz.prog 28 #[encC (wOfC la wa t), encC (wOfC lb wb t')] W fun e w' => e = .returned (.tuple #[encC (mulC (wOfC la wa t) (wOfC lb wb t')).1, .bool (mulC (wOfC la wa t) (wOfC lb wb t')).2]) ∧ Below W.heap.size W w') :
    Calls Tryz.prog 15 #[v, v', .int .i64 most] w fun e w' => CombEndsC w.heap.size w' e (joinL s u) (joinR s la u lb) (combLC mulC s la wa u lb wb) (pairR s la u lb).length most ∧ Below w.heap.size w w' := by
  obtain ⟨a, ca, b, cb, d, cd, rfl, k1, k2, k3, k4, hs1, ht1, hw1⟩ := h.form
  obtain ⟨a', ca', b', cb', d', cd', rfl, k1', k2', k3', k4', hs2, ht2, hw2⟩ := h'.form
  obtain ⟨W0, hW0⟩ : ∃ W, W = ((w.alloc (.cells #[.slice a s.length ca, .slice b la.length cb, .slice d wa.length cd] 48)).alloc (.cells #[.slice a' u.length ca', .slice b' lb.length cb', .slice d' wb.length cd'] 48)).alloc (.cells #[.slice none 0 0, .slice none 0 0, .slice none 0 0] 48) := ⟨_, rfl⟩
  have hb0 : Below w.heap.size w W0 := by rw [hW0]; exact (b2x w _ _).alloc (by simp; omega) _
  have x2 : BoxWC W0 (w.heap.size + 1 + 1) (.slice none 0 0) (.slice none 0 0) (.slice none 0 0) := by
    rw [hW0]; have := BoxWC.new ((w.alloc (.cells #[.slice a s.length ca, .slice b la.length cb, .slice d wa.length cd] 48)).alloc (.cells #[.slice a' u.length ca', .slice b' lb.length cb', .slice d' wb.length cd'] 48)) (.slice none 0 0) (.slice none 0 0) (.slice none 0 0); simpa using this
  have HC := hide (combineC_any (most := most) (F := 28) (f := mulC) (h.below hb0) (h'.below hb0) g g' hn hm hnm hF ⟨_, _, Tryz.func28, by kernel_rfl, rfl⟩)
  have HW0 := hide hW0
  have hzw := hb0.size
  have HL2 := hide x2.lt
  generalize combLC mulC s la wa u lb wb = K at *
  generalize joinR s la u lb = JR at *
  generalize joinL s u = J at *
  generalize (pairR s la u lb).length = cnt at *
  clear h h' hW0 hs1 ht1 hw1 hs2 ht2 hw2 g g'
  go_enter Tryz.func15, Tryz.ntmps15
  go_wp2_with fail
  rw [← unhide HW0]
  refine (unhide HC).mono ?_
  rintro e w1 ⟨hends, hb1⟩
  replace x2 := x2.belowH hb1
  have hbel1 := hb0.trans (hb1.mono hzw)
  have hd0 := x2.cell0
  have hd1 := x2.cell1
  have hd2 := x2.cell2
  have hg0 := x2.frozen 0
  have hg1 := x2.frozen 1
  have hg2 := x2.frozen 2
  have hl2 := x2.lt
  clear HC
  rcases hends with ⟨h1, rfl⟩ | ⟨h1, h2, rfl⟩ | ⟨h1, h2, x, y, z, rfl, hr, hyn⟩
  · go_wp2
    refine bodyPost_ret (v := .tuple #[.agg #[.slice none 0 0, .slice none 0 0, .slice none 0 0], .int .i64 9]) (by simp [results, Tryz.results15, go_sem, hd0, hd1, hd2]) rfl ⟨.inl ⟨h1, rfl⟩, ?_⟩
    first | exact hbel1 | exact below_store3 hbel1 (by omega) _ _ _
  · have H2 := hide h2
    clear h2
    go_wp2
    refine bodyPost_ret (v := .tuple #[.agg #[.slice none 0 0, .slice none 0 0, .slice none 0 0], .int .i64 11]) (by simp [results, Tryz.results15, go_sem, hd0, hd1, hd2]) rfl ⟨.inr (.inl ⟨h1, unhide H2, rfl⟩), ?_⟩
    first | exact hbel1 | exact below_store3 hbel1 (by omega) _ _ _
  · have H2 := hide h2
    have HY := hide hyn
    obtain ⟨xa, xn, xc, xb, xm, xd, xe, xk, xf, hxe⟩ := hr.sl
    cases hxe
    have HR := hide hr
    clear h2 hyn hr
    go_wp2
    have hfin := wv_storeC x2.boxS x2 (unhide HR) (unhide HY _ (unhide HL2))
    refine bodyPost_ret (v := .tuple #[.agg #[.slice xa xn xc, .slice xb xm xd, .slice xe xk xf], .int .i64 0]) (by simp [results, Tryz.results15, go_sem, hd0, hd1, hd2]) rfl ⟨.inr (.inr ⟨h1, unhide H2, _, _, _, rfl, hfin, fun b hb => unhide HY b (by omega)⟩), below_store3 hbel1 (by omega) _ _ _⟩



end Go.Proofs.YtafpecdmaogohaaGreat

namespace Go.Proofs.YtafpecdmaogohaaGreat
open Go.RowKit
set_option linter.unusedVariables false
set_option linter.unusedSimpArgs false
set_option maxRecDepth 20000

set_option maxHeartbeats 16000000 in
theorem ofC_any {s : List Int} {ll : List (List Int)} {q : (Nat × Nat)} {v : Value} {w : World} (h : RelV w v s ll) (hl : ll.length < 100000) (hsl : s.length < 10000) (hrow : ∀ t ∈ ll, t.length < 100000000) :
    Calls Tryz.prog 14 #[v, encC q] w fun e w' => ∃ x y z, e = .returned (.agg #[x, y, z]) ∧ WVC w' (.agg #[x, y, z]) s ll (List.replicate ll.length q) ∧ (∀ b, b < w.heap.size → y.ownBlock ≠ some b) ∧ Below w.heap.size w w' := by
  obtain ⟨a, ca, b, cb, rfl, k1, k2, k3, k4, hs1, ht1⟩ := h.form
  unfold maxLen at k4
  obtain ⟨W0, hW0⟩ : ∃ W, W = (w.alloc (.cells #[.slice a s.length ca, .slice b ll.length cb] 29)).alloc (.cells #[.slice none 0 0, .slice none 0 0, .slice none 0 0] 48) := ⟨_, rfl⟩
  have hb0 : Below w.heap.size w W0 := by rw [hW0]; exact b2x w _ _
  have x0 : Box W0 w.heap.size (.slice a s.length ca) (.slice b ll.length cb) := by rw [hW0]; exact (Box.new w _ _).push _
  have x2 : BoxWC W0 (w.heap.size + 1) (.slice none 0 0) (.slice none 0 0) (.slice none 0 0) := by
    rw [hW0]; have := BoxWC.new (w.alloc (.cells #[.slice a s.length ca, .slice b ll.length cb] 29)) (.slice none 0 0) (.slice none 0 0) (.slice none 0 0); simpa using this
  have HC := hide (cloneI_any (hs1.below hb0) (by omega))
  have HW0 := hide hW0
  have hzw := hb0.size
  have HT := hide (fun W (hb : Below w.heap.size w W) => ht1.below hb)
  have HRW := hide hrow
  rw [show encC q = Value.complex .f64 q.1 q.2 from rfl]
  clear h hW0 hs1 ht1 hrow
  go_enter Tryz.func14, Tryz.ntmps14
  go_wp2_with fail
  rw [← unhide HW0]
  refine (unhide HC).mono ?_
  rintro e w4 ⟨vc, rfl, hvc, hb1⟩
  obtain ⟨sa, sc, hse⟩ := own_form hvc
  rw [hse] at hvc ⊢
  replace x0 := x0.belowH hb1
  replace x2 := x2.belowH hb1
  have hbel4 := hb0.trans (hb1.mono hzw)
  have hz4 := hbel4.size
  have hl2 := x2.lt
  have HSC := hide (Seq.of_own hvc)
  have x4 := BoxWC.new w4 (.slice sa s.length sc) (.slice none 0 0) (.slice none 0 0)
  have c01 := (x0.push (.cells #[.slice sa s.length sc, .slice none 0 0, .slice none 0 0] 48)).cell1
  clear HC hvc hse hb1
  go_wp2
  go_loopw [7, 16] (fun _ i wr => ∃ (k : Nat) (yv zv : Value), k ≤ ll.length ∧ i = .int .i64 k ∧ BoxWC wr w4.heap.size (.slice sa s.length sc) yv zv ∧ OwnS (w4.heap.size + 1) wr yv (ll.take k) ∧ OwnWC (w4.heap.size + 1) wr zv (List.replicate k q) ∧ Below w4.heap.size w4 wr) (fun _ i _ => ll.length - (intOf i).toNat)
  case atStart => exact ⟨0, _, _, by omega, rfl, x4, OwnS.nil _ _, World.ownsRow_nil _ _ _ _, (Below.refl _ _).alloc (Nat.le_refl _) _⟩
  case round =>
    clear x4 c01
    obtain ⟨k, yv, zv, hk, rfl, y4, hrows, hown, hbel⟩ := hrel
    have hz := hbel.size
    have hl4 := y4.lt
    have hbw := hbel4.trans (hbel.mono hz4)
    obtain ⟨za, zn, zc, rfl⟩ := own_sl hown
    obtain ⟨ya, yn, yc, rfl⟩ : ∃ a n c, yv = .slice a n c := by obtain ⟨vs, h1, _⟩ := hrows; exact own_sl h1
    by_cases hkl : k < ll.length
    · obtain ⟨bl, ol, ul, hble, hcl, hiL⟩ := (unhide HT _ hbw).at hkl
      subst hble
      obtain ⟨ia, ic, rfl, _, _⟩ := hiL.form
      have HCL := hide (fun W (hb : Below wr.heap.size wr W) => cloneI_any (w := W) (hiL.below hb) (unhide HRW _ (List.getElem_mem hkl)))
      have HTK := hide (List.take_succ_eq_append_getElem hkl)
      have hlt : (ll.take k).length < 100000 := by rw [List.length_take]; omega
      have hlk : (List.replicate k q).length < 100000 := by rw [List.length_replicate]; omega
      have HRP := hide (show List.replicate (k + 1) q = List.replicate k q ++ [q] from List.replicate_succ')
      have hbR := Below.refl wr.heap.size wr
      have hne : (Value.slice ya yn yc).ownBlock ≠ some w4.heap.size := hrows.new.ne (by omega)
      have hnz : (Value.slice za zn zc).ownBlock ≠ some w4.heap.size := (New.of_own hown).ne (by omega)
      have c41 := y4.cell1
      generalize ll[k] = t at *
      generalize ll.take k = LL at *
      generalize List.replicate k q = QL at *
      clear hiL
      go_wp2
      go_region_law ((first
        | (refine step_of rfl ?_; go_simp; go_at_call 18; refine (unhide HCL _ (by first | exact hbR | exact below_same rfl rfl rfl rfl)).mono ?_; rintro e w8 ⟨u8, rfl, hu8, hb8⟩; obtain ⟨a8, m8, c8, hue⟩ := own_sl hu8; rw [hue] at hu8 ⊢; clear hue; have hB8 : Below wr.heap.size wr w8 := below_then (by first | exact hbR | exact below_same rfl rfl rfl rfl) hb8; have hU8 := own_mono hu8 (show wr.heap.size ≤ _ from by first | exact Nat.le_refl _ | simp); have hcx := (y4.belowH hB8).cell1; have hcy := cell_push hcx; clear hb8)
        | (refine step_of rfl (op_app_src (.tmp 22) (.tmp 25) rfl hrows hB8 hU8 rfl hl4 rfl (by omega) ?_); intro v' w10 hrows10 hgrew; obtain ⟨na, nm, nc, hv10⟩ : ∃ a n c, v' = .slice a n c := (by obtain ⟨vs, h1, _⟩ := hrows10; exact own_sl h1); rw [hv10] at hrows10 hgrew ⊢; clear hv10; have y5 := (y4.belowH hB8).grew hgrew hne; have e0 := y5.cell1; have e1 := y5.frozen 1; have hown5 := own_grew (own_below hown hB8) hgrew ((hrows.below hB8).sepO (own_below hown hB8) (by decide)).or)))
      all_goals
        have y6 := y5.set1 (.slice na nm nc)
        have hrows6 := hrows10.setOther (b := w4.heap.size) (i := 1) (by omega) (.slice na nm nc)
        have hown6 := ownsRow_setCell_other (a := ⟨w4.heap.size, 1, none⟩) hown5 hnz (.slice na nm nc)
        have hbl6 := ((hbel.trans (hB8.mono hz)).trans (hgrew.below.mono (by omega))).setCell (p := ⟨w4.heap.size, 1, none⟩) (Nat.le_refl _) (.slice na nm nc)
        generalize w10.setCell ⟨w4.heap.size, 1, none⟩ (.slice na nm nc) = w11 at *
        clear y5 e0 e1 hcx hcy hrows10 hown5 hgrew hB8 hu8 hU8
        have c62 := y6.cell2
        have hz11 : w4.heap.size + 1 ≤ w11.heap.size := y6.lt
        go_wp2_with (at_builtin; refine wp_app_wC (y := q) rfl (.tmp 30) (.tmp 32) rfl hown6 rfl hz11 rfl (by omega) ?_; intro v' w12 hown12 hgrew; obtain ⟨oa, om, oc, hv12⟩ := own_sl hown12; subst hv12; have y7 := y6.grew hgrew hnz; have e0 := y7.cell2; have e1 := y7.frozen 2)
        have hrows7 := (hrows6.grewO hown6 (by decide) (by decide) hgrew).setOther (b := w4.heap.size) (i := 2) (by omega) (.slice oa om oc)
        have hn7 : (Value.slice oa om oc).ownBlock ≠ some w4.heap.size := (New.of_own hown12).ne (by omega)
        go_roundw
        case rel => exact ⟨k + 1, _, _, by omega, by go_num, y7.set2 _, by rw [unhide HTK]; exact hrows7, by rw [unhide HRP]; exact ownsRow_setCell_other hown12 hn7 _, (hbl6.trans (hgrew.below.mono (by omega))).setCell (Nat.le_refl _) _⟩
        case measure => simp [intOf]; omega
    · have hkk : k = ll.length := by omega
      subst hkk
      rw [List.take_length] at hrows
      have y2 := x2.below hbel hl2
      have c40 := y4.cell0
      have c41 := y4.cell1
      have c42 := y4.cell2
      have hd0 := y2.cell0
      have hd1 := y2.cell1
      have hd2 := y2.cell2
      have hg0 := y2.frozen 0
      have hg1 := y2.frozen 1
      have hg2 := y2.frozen 2
      have HWV : Hid (WVC wr (.agg #[.slice sa s.length sc, .slice ya yn yc, .slice za zn zc]) s ll (List.replicate ll.length q)) := hide ⟨_, _, _, rfl, (unhide HSC).below hbel, hrows.tups, Seq.of_own hown⟩
      have HY := hide hrows.new
      have hnr : (Value.slice ya yn yc).ownBlock ≠ some (w.heap.size + 1) := hrows.new.ne (by omega)
      clear hown hrows y4
      go_wp2
      have hfin := wv_storeC y2.boxS y2 (unhide HWV) hnr
      refine bodyPost_ret (v := .agg #[.slice sa s.length sc, .slice ya yn yc, .slice za zn zc]) (by simp [results, Tryz.results14, go_sem, hd0, hd1, hd2]) rfl ⟨_, _, _, rfl, hfin, fun b hb => (unhide HY).ne (by omega), below_store3 hbw (by omega) _ _ _⟩

end Go.Proofs.YtafpecdmaogohaaGreat

namespace Go.Proofs.YtafpecdmaogohaaGreat
open Go.RowKit
set_option linter.unusedVariables false
set_option linter.unusedSimpArgs false
set_option maxRecDepth 20000

theorem lit_rel4 {W : World} {h1 h2 : Nat} {s : List Int} {ll : List (List Int)} {vs : List Value} (hs : Ints W (.slice (some ⟨h1, 0, none⟩) s.length s.length) s) (hr : W.heap[h2]? = some (.cells vs.toArray 22 (0, 0))) (hl : vs.length = ll.length) (h10 : vs.length ≤ 1000) (hi : ∀ i (h : i < vs.length) (h' : i < ll.length), Ints W vs[i] ll[i]) :
    RelV W (.agg #[.slice (some ⟨h1, 0, none⟩) s.length s.length, .slice (some ⟨h2, 0, none⟩) vs.length vs.length]) s ll :=
  ⟨_, _, rfl, hs, vs, litT_at hr (by simp) rfl (by omega), hl, hi⟩

theorem WVI.lens {w : World} {v : Value} {s : List Int} {ll : List (List Int)} {ws : List Int} (h : WVI w v s ll ws) {n1 n2 n3 : Nat} (e1 : s.length = n1) (e2 : ll.length = n2) (e3 : ws.length = n3) : ∃ a ca b cb d cd, v = .agg #[.slice a n1 ca, .slice b n2 cb, .slice d n3 cd] := by
  subst e1 e2 e3
  obtain ⟨a, ca, b, cb, d, cd, e, _⟩ := h.form
  exact ⟨_, _, _, _, _, _, e⟩
theorem WVC.lens {w : World} {v : Value} {s : List Int} {ll : List (List Int)} {ws : List (Nat × Nat)} (h : WVC w v s ll ws) {n1 n2 n3 : Nat} (e1 : s.length = n1) (e2 : ll.length = n2) (e3 : ws.length = n3) : ∃ a ca b cb d cd, v = .agg #[.slice a n1 ca, .slice b n2 cb, .slice d n3 cd] := by
  subst e1 e2 e3
  obtain ⟨a, ca, b, cb, d, cd, e, _⟩ := h.form
  exact ⟨_, _, _, _, _, _, e⟩
theorem WVI.wts {w : World} {x y z : Value} {s : List Int} {ll : List (List Int)} {ws : List Int} (h : WVI w (.agg #[x, y, z]) s ll ws) : WtsI w z ws := by
  obtain ⟨_, _, _, e, _, _, h3⟩ := h; cases e; exact h3
theorem WVC.wts {w : World} {x y z : Value} {s : List Int} {ll : List (List Int)} {ws : List (Nat × Nat)} (h : WVC w (.agg #[x, y, z]) s ll ws) : WtsC w z ws := by
  obtain ⟨_, _, _, e, _, _, h3⟩ := h; cases e; exact h3

theorem sh_fineU : Fine [] [[]] 1 := fine_unit
theorem sh_joinU : joinL [] [] = [] := joinS_nil List.Pairwise.nil
theorem sh_joinRU : joinR [] [[]] [] [[]] = [[]] := join_unit fine_unit
theorem sh_pairU : (pairR [] [[]] [] [[]]).length = 1 := by decide
theorem sh_wU (t : List Int) : wOfC [[]] [(0, 4611686018427387904)] t = (0, 0) ∨ wOfC [[]] [(0, 4611686018427387904)] t = (0, 4611686018427387904) := by
  unfold wOfC
  rcases Nat.eq_zero_or_pos (lowN [[]] t) with h | h
  · rw [h]; exact .inr rfl
  · rw [List.getD_eq_getElem?_getD, List.getElem?_eq_none (show [((0 : Nat), 4611686018427387904)].length ≤ lowN [[]] t from h)]; exact .inl rfl
theorem sh_mulU : combLC mulC2 [] [[]] [(0, 4611686018427387904)] [] [[]] [(0, 4611686018427387904)] = [((13839561654909534208, 0), true)] := by unfold combLC; rw [sh_joinU, sh_joinRU]; decide

theorem timesC_sh {v v' : Value} {w : World} (h : WVC w v [] [[]] [(0, 4611686018427387904)]) (h' : WVC w v' [] [[]] [(0, 4611686018427387904)]) :
    Calls Tryz.prog 15 #[v, v', .int .i64 1] w fun e w' => ∃ x, e = .returned (.tuple #[x, .int .i64 0]) ∧ WVC w' x [] [[]] [(13839561654909534208, 0)] ∧ Below w.heap.size w w' := by
  refine (timesC_any (mulC := mulC2) h h' fine_unit fine_unit (by omega) (by omega) (by omega) (fun t t' W => product2_any (sh_wU t) (sh_wU t'))).mono ?_
  rw [sh_joinU, sh_joinRU, sh_pairU, sh_mulU]
  rintro e w' ⟨h1 | h1 | h1, hb⟩
  · have := h1.1; omega
  · obtain ⟨_, ⟨x, hx, hx2⟩, _⟩ := h1
    simp at hx
    rw [hx] at hx2; cases hx2
  · obtain ⟨_, _, x, y, z, he, hr, _⟩ := h1
    exact ⟨_, he, hr, hb⟩
theorem ofC_sh {v : Value} {w : World} (h : RelV w v [] [[]]) :
    Calls Tryz.prog 14 #[v, .complex .f64 0 4611686018427387904] w fun e w' => ∃ x, e = .returned x ∧ WVC w' x [] [[]] [(0, 4611686018427387904)] ∧ Below w.heap.size w w' := by
  refine (ofC_any (q := (0, 4611686018427387904)) h (by decide) (by decide) (by decide)).mono ?_
  rintro e w' ⟨x, y, z, he, hr, _, hb⟩
  exact ⟨_, he, hr, hb⟩
theorem of_sh {v : Value} {w : World} (h : RelV w v [0] [[1], [2]]) :
    Calls Tryz.prog 7 #[v, .int .i64 3] w fun e w' => ∃ x, e = .returned x ∧ WVI w' x [0] [[1], [2]] [3, 3] ∧ Below w.heap.size w w' := of_ok h (by decide) (by decide) (by decide)
theorem sum_sh {v : Value} {w : World} (h : WVI w v [0] [[1], [2]] [3, 3]) :
    Calls Tryz.prog 9 #[v, .slice none 0 0] w fun e w' => ∃ x, e = .returned (.tuple #[x, .int .i64 0]) ∧ WVI w' x [] [[]] [6] ∧ Below w.heap.size w w' := by
  have := sums_ok (vars := []) h (Seq.nil _ _) (by decide) (by decide) (by decide) (by decide) sh_fits sh_src (by decide)
  rw [sh_meet, sh_proj] at this
  exact this
theorem min_sh {v : Value} {w : World} (h : WVI w v [0] [[1], [2]] [3, 3]) :
    Calls Tryz.prog 8 #[v, .slice none 0 0] w fun e w' => ∃ x, e = .returned x ∧ WVI w' x [] [[]] [3] ∧ Below w.heap.size w w' := by
  have := mins_ok (vars := []) h (Seq.nil _ _) (by decide) (by decide) (by decide) (by decide) sh_src
  rw [sh_meet, sh_proj] at this
  exact this
theorem times_sh {v : Value} {w : World} (h : WVI w v [0] [[1], [2]] [3, 3]) :
    Calls Tryz.prog 12 #[v, v, .int .i64 10] w fun e w' => ∃ x, e = .returned (.tuple #[x, .int .i64 0]) ∧ WVI w' x [0] [[1], [2]] [9, 9] ∧ Below w.heap.size w w' := by
  have := times_ok (most := 10) h h sh_fine sh_fine (by omega) (by omega) (by omega) sh_fits sh_fits sh_mul (by decide) (by rw [sh_pair]; decide)
  rw [sh_joinS, sh_join] at this
  exact this
theorem plus_sh {v : Value} {w : World} (h : WVI w v [0] [[1], [2]] [3, 3]) :
    Calls Tryz.prog 13 #[v, v, .int .i64 10] w fun e w' => ∃ x, e = .returned (.tuple #[x, .int .i64 0]) ∧ WVI w' x [0] [[1], [2]] [6, 6] ∧ Below w.heap.size w w' := by
  have := plus_ok (most := 10) h h sh_fine sh_fine (by omega) (by omega) (by omega) sh_fits sh_fits sh_add (by decide) (by rw [sh_pair]; decide)
  rw [sh_joinS, sh_join] at this
  exact this
theorem timesN_sh {v : Value} {w : World} (h : WVI w v [0] [[1], [2]] [3, 3]) :
    Calls Tryz.prog 12 #[v, v, .int .i64 1] w fun e w' => e = .returned (.tuple #[.agg #[.slice none 0 0, .slice none 0 0, .slice none 0 0], .int .i64 9]) ∧ Below w.heap.size w w' :=
  times_no (most := 1) h h sh_fine sh_fine (by omega) (by omega) (by omega) sh_fits sh_fits (by rw [sh_pair]; decide)

set_option maxHeartbeats 16000000 in
theorem shown4_any (w : World) : Calls Tryz.prog 5 #[] w fun e w' => e = .returned (.bool true) ∧ Below w.heap.size w w' := by
  obtain ⟨W1, hW1⟩ : ∃ W, W = (((w.alloc (.cells #[.int .i64 0] 3)).alloc (.cells #[.int .i64 1] 3)).alloc (.cells #[.int .i64 2] 3)).alloc (.cells #[.slice (some ⟨w.heap.size + 1, 0, none⟩) 1 1, .slice (some ⟨w.heap.size + 1 + 1, 0, none⟩) 1 1] 22) := ⟨_, rfl⟩
  have hB : Below w.heap.size w W1 := by rw [hW1]; exact ((((Below.refl _ w).alloc (Nat.le_refl _) _).alloc (by simp) _).alloc (by simp; omega) _).alloc (by simp; omega) _
  have at0 : W1.heap[w.heap.size]? = some (.cells #[.int .i64 0] 3 (0, 0)) := by rw [hW1]; simp only [alloc_at, World.size_alloc]; repeat (first | rw [if_pos True.intro] | rw [if_pos rfl] | rw [if_neg (by omega)])
  have at1 : W1.heap[w.heap.size + 1]? = some (.cells #[.int .i64 1] 3 (0, 0)) := by rw [hW1]; simp only [alloc_at, World.size_alloc]; repeat (first | rw [if_pos True.intro] | rw [if_pos rfl] | rw [if_neg (by omega)])
  have at2 : W1.heap[w.heap.size + 1 + 1]? = some (.cells #[.int .i64 2] 3 (0, 0)) := by rw [hW1]; simp only [alloc_at, World.size_alloc]; repeat (first | rw [if_pos True.intro] | rw [if_pos rfl] | rw [if_neg (by omega)])
  have at3 : W1.heap[w.heap.size + 1 + 1 + 1]? = some (.cells #[.slice (some ⟨w.heap.size + 1, 0, none⟩) 1 1, .slice (some ⟨w.heap.size + 1 + 1, 0, none⟩) 1 1] 22 (0, 0)) := by rw [hW1]; simp only [alloc_at, World.size_alloc]; repeat (first | rw [if_pos True.intro] | rw [if_pos rfl] | rw [if_neg (by omega)])
  have RA : RelV W1 (.agg #[.slice (some ⟨w.heap.size, 0, none⟩) 1 1, .slice (some ⟨w.heap.size + 1 + 1 + 1, 0, none⟩) 2 2]) [0] [[1], [2]] :=
    lit_rel4 (s := [0]) (vs := [.slice (some ⟨w.heap.size + 1, 0, none⟩) 1 1, .slice (some ⟨w.heap.size + 1 + 1, 0, none⟩) 1 1]) (litI_at at0 rfl rfl (by simp)) at3 rfl (by simp) (fun i hi hi' => by
      match i, hi, hi' with
      | 0, _, _ => exact litI_at (l := [1]) at1 rfl rfl (by simp)
      | 1, _, _ => exact litI_at (l := [2]) at2 rfl rfl (by simp))
  have HW1 := hide hW1
  have HO := hide (of_sh RA)
  clear hW1 at0 at1 at2 at3 RA
  go_enter Tryz.func5, Tryz.ntmps5
  go_wp2_with fail
  rw [← unhide HW1]
  refine (unhide HO).mono ?_
  rintro e w1 ⟨u, rfl, ra, hb⟩
  obtain ⟨aa, ac, ab, ad, ae, af, rfl⟩ := ra.lens (n1 := 1) (n2 := 2) (n3 := 2) rfl rfl rfl
  replace hB := below_then hB hb
  clear HO hb HW1
  have pb := (Below.refl _ w1).alloc (Nat.le_refl _) (.cells #[.slice aa 1 ac, .slice ab 2 ad, .slice ae 2 af] 35)
  replace ra := ra.below pb
  have xa := BoxWI.new w1 (.slice aa 1 ac) (.slice ab 2 ad) (.slice ae 2 af)
  replace hB := below_then hB pb
  clear pb
  have HC := hide (sum_sh ra)
  have c0_xa := xa.cell0
  have c1_xa := xa.cell1
  have c2_xa := xa.cell2
  go_wp2_with fail
  refine (unhide HC).mono ?_
  rintro e w2 ⟨u, rfl, rs, hb⟩
  replace ra := ra.below hb
  replace xa := xa.belowH hb
  replace hB := below_then hB hb
  clear HC hb c0_xa c1_xa c2_xa
  obtain ⟨sa, sc, sb, sd, se, sf, rfl⟩ := rs.lens (n1 := 0) (n2 := 1) (n3 := 1) rfl rfl rfl
  have pb := (Below.refl _ w2).alloc (Nat.le_refl _) (.cells #[.slice sa 0 sc, .slice sb 1 sd, .slice se 1 sf] 35)
  replace ra := ra.below pb
  replace rs := rs.below pb
  replace xa := xa.push (.cells #[.slice sa 0 sc, .slice sb 1 sd, .slice se 1 sf] 35)
  have xs := BoxWI.new w2 (.slice sa 0 sc) (.slice sb 1 sd) (.slice se 1 sf)
  replace hB := below_then hB pb
  clear pb
  have HC := hide (min_sh ra)
  have c0_xa := xa.cell0
  have c1_xa := xa.cell1
  have c2_xa := xa.cell2
  go_wp2_with fail
  refine (unhide HC).mono ?_
  rintro e w3 ⟨u, rfl, rm, hb⟩
  replace ra := ra.below hb
  replace rs := rs.below hb
  replace xa := xa.belowH hb
  replace xs := xs.belowH hb
  replace hB := below_then hB hb
  clear HC hb c0_xa c1_xa c2_xa
  obtain ⟨ma, mc, mb, md, me, mf, rfl⟩ := rm.lens (n1 := 0) (n2 := 1) (n3 := 1) rfl rfl rfl
  have pb := (Below.refl _ w3).alloc (Nat.le_refl _) (.cells #[.slice ma 0 mc, .slice mb 1 md, .slice me 1 mf] 35)
  replace ra := ra.below pb
  replace rs := rs.below pb
  replace rm := rm.below pb
  replace xa := xa.push (.cells #[.slice ma 0 mc, .slice mb 1 md, .slice me 1 mf] 35)
  replace xs := xs.push (.cells #[.slice ma 0 mc, .slice mb 1 md, .slice me 1 mf] 35)
  have xm := BoxWI.new w3 (.slice ma 0 mc) (.slice mb 1 md) (.slice me 1 mf)
  replace hB := below_then hB pb
  clear pb
  have HC := hide (times_sh ra)
  have c0_xa := xa.cell0
  have c1_xa := xa.cell1
  have c2_xa := xa.cell2
  go_wp2_with fail
  refine (unhide HC).mono ?_
  rintro e w4 ⟨u, rfl, rt, hb⟩
  replace ra := ra.below hb
  replace rs := rs.below hb
  replace rm := rm.below hb
  replace xa := xa.belowH hb
  replace xs := xs.belowH hb
  replace xm := xm.belowH hb
  replace hB := below_then hB hb
  clear HC hb c0_xa c1_xa c2_xa
  obtain ⟨ta, tc, tb, td, te, tf, rfl⟩ := rt.lens (n1 := 1) (n2 := 2) (n3 := 2) rfl rfl rfl
  have pb := (Below.refl _ w4).alloc (Nat.le_refl _) (.cells #[.slice ta 1 tc, .slice tb 2 td, .slice te 2 tf] 35)
  replace ra := ra.below pb
  replace rs := rs.below pb
  replace rm := rm.below pb
  replace rt := rt.below pb
  replace xa := xa.push (.cells #[.slice ta 1 tc, .slice tb 2 td, .slice te 2 tf] 35)
  replace xs := xs.push (.cells #[.slice ta 1 tc, .slice tb 2 td, .slice te 2 tf] 35)
  replace xm := xm.push (.cells #[.slice ta 1 tc, .slice tb 2 td, .slice te 2 tf] 35)
  have xt := BoxWI.new w4 (.slice ta 1 tc) (.slice tb 2 td) (.slice te 2 tf)
  replace hB := below_then hB pb
  clear pb
  have HC := hide (plus_sh ra)
  have c0_xa := xa.cell0
  have c1_xa := xa.cell1
  have c2_xa := xa.cell2
  go_wp2_with fail
  refine (unhide HC).mono ?_
  rintro e w5 ⟨u, rfl, rp, hb⟩
  replace ra := ra.below hb
  replace rs := rs.below hb
  replace rm := rm.below hb
  replace rt := rt.below hb
  replace xa := xa.belowH hb
  replace xs := xs.belowH hb
  replace xm := xm.belowH hb
  replace xt := xt.belowH hb
  replace hB := below_then hB hb
  clear HC hb c0_xa c1_xa c2_xa
  obtain ⟨ka, kc, kb, kd, ke, kf, rfl⟩ := rp.lens (n1 := 1) (n2 := 2) (n3 := 2) rfl rfl rfl
  have pb := (Below.refl _ w5).alloc (Nat.le_refl _) (.cells #[.slice ka 1 kc, .slice kb 2 kd, .slice ke 2 kf] 35)
  replace ra := ra.below pb
  replace rs := rs.below pb
  replace rm := rm.below pb
  replace rt := rt.below pb
  replace rp := rp.below pb
  replace xa := xa.push (.cells #[.slice ka 1 kc, .slice kb 2 kd, .slice ke 2 kf] 35)
  replace xs := xs.push (.cells #[.slice ka 1 kc, .slice kb 2 kd, .slice ke 2 kf] 35)
  replace xm := xm.push (.cells #[.slice ka 1 kc, .slice kb 2 kd, .slice ke 2 kf] 35)
  replace xt := xt.push (.cells #[.slice ka 1 kc, .slice kb 2 kd, .slice ke 2 kf] 35)
  have xp := BoxWI.new w5 (.slice ka 1 kc) (.slice kb 2 kd) (.slice ke 2 kf)
  replace hB := below_then hB pb
  clear pb
  have HC := hide (timesN_sh ra)
  have c0_xa := xa.cell0
  have c1_xa := xa.cell1
  have c2_xa := xa.cell2
  go_wp2_with fail
  refine (unhide HC).mono ?_
  rintro e w6 ⟨rfl, hb⟩
  replace ra := ra.below hb
  replace rs := rs.below hb
  replace rm := rm.below hb
  replace rt := rt.below hb
  replace rp := rp.below hb
  replace xa := xa.belowH hb
  replace xs := xs.belowH hb
  replace xm := xm.belowH hb
  replace xt := xt.belowH hb
  replace xp := xp.belowH hb
  replace hB := below_then hB hb
  clear HC hb c0_xa c1_xa c2_xa
  have pb := (Below.refl _ w6).alloc (Nat.le_refl _) (.cells #[.slice none 0 0, .slice none 0 0, .slice none 0 0] 35)
  replace ra := ra.below pb
  replace rs := rs.below pb
  replace rm := rm.below pb
  replace rt := rt.below pb
  replace rp := rp.below pb
  replace xa := xa.push (.cells #[.slice none 0 0, .slice none 0 0, .slice none 0 0] 35)
  replace xs := xs.push (.cells #[.slice none 0 0, .slice none 0 0, .slice none 0 0] 35)
  replace xm := xm.push (.cells #[.slice none 0 0, .slice none 0 0, .slice none 0 0] 35)
  replace xt := xt.push (.cells #[.slice none 0 0, .slice none 0 0, .slice none 0 0] 35)
  replace xp := xp.push (.cells #[.slice none 0 0, .slice none 0 0, .slice none 0 0] 35)
  have xn := BoxWI.new w6 (.slice none 0 0) (.slice none 0 0) (.slice none 0 0)
  replace hB := below_then hB pb
  clear pb
  clear xn
  obtain ⟨W7, hW7⟩ : ∃ W, W = w6.alloc (.cells #[.slice none 0 0, .slice none 0 0, .slice none 0 0] 35) := ⟨_, rfl⟩
  have hz7 : W7.heap.size = w6.heap.size + 1 := by rw [hW7]; simp
  rw [← hW7] at hB ra rs rm rt rp xa xs xm xt xp
  obtain ⟨W8, hW8⟩ : ∃ W, W = (W7.alloc (.cells #[] 3)).alloc (.cells #[.slice (some ⟨W7.heap.size, 0, none⟩) 0 0] 22) := ⟨_, rfl⟩
  have hb8 : Below W7.heap.size W7 W8 := by rw [hW8]; exact ((Below.refl _ W7).alloc (Nat.le_refl _) _).alloc (by simp) _
  have q0 : W8.heap[W7.heap.size]? = some (.cells #[] 3 (0, 0)) := by rw [hW8]; simp only [alloc_at, World.size_alloc]; repeat (first | rw [if_pos True.intro] | rw [if_pos rfl] | rw [if_neg (by omega)])
  have q1 : W8.heap[W7.heap.size + 1]? = some (.cells #[.slice (some ⟨W7.heap.size, 0, none⟩) 0 0] 22 (0, 0)) := by rw [hW8]; simp only [alloc_at, World.size_alloc]; repeat (first | rw [if_pos True.intro] | rw [if_pos rfl] | rw [if_neg (by omega)])
  have RZ : RelV W8 (.agg #[.slice none 0 0, .slice (some ⟨W7.heap.size + 1, 0, none⟩) 1 1]) [] [[]] :=
    ⟨_, _, rfl, Seq.nil _ _, [.slice (some ⟨W7.heap.size, 0, none⟩) 0 0], litT_at (n := 1) q1 rfl rfl (by simp), rfl, fun i hi hi' => by
      match i, hi, hi' with
      | 0, _, _ => exact litI_at (l := []) q0 rfl rfl (by simp)⟩
  replace ra := ra.below hb8
  replace rs := rs.below hb8
  replace rm := rm.below hb8
  replace rt := rt.below hb8
  replace rp := rp.below hb8
  replace xa := xa.belowH hb8
  replace xs := xs.belowH hb8
  replace xm := xm.belowH hb8
  replace xt := xt.belowH hb8
  replace xp := xp.belowH hb8
  replace hB := below_then hB hb8
  rw [hz7] at RZ
  have HW8 := hide (show W8 = ((w6.alloc (.cells #[.slice none 0 0, .slice none 0 0, .slice none 0 0] 35)).alloc (.cells #[] 3)).alloc (.cells #[.slice (some ⟨w6.heap.size + 1, 0, none⟩) 0 0] 22) by rw [hW8, hz7, hW7])
  clear hb8 q0 q1 hW8 hW7 hz7
  have HC := hide (ofC_sh RZ)
  clear RZ
  go_wp2_with fail
  rw [← unhide HW8]
  refine (unhide HC).mono ?_
  rintro e w9 ⟨u, rfl, rz, hb⟩
  replace ra := ra.below hb
  replace rs := rs.below hb
  replace rm := rm.below hb
  replace rt := rt.below hb
  replace rp := rp.below hb
  replace xa := xa.belowH hb
  replace xs := xs.belowH hb
  replace xm := xm.belowH hb
  replace xt := xt.belowH hb
  replace xp := xp.belowH hb
  replace hB := below_then hB hb
  clear HC hb HW8
  obtain ⟨za, zc, zb, zd, ze, zf, rfl⟩ := rz.lens (n1 := 0) (n2 := 1) (n3 := 1) rfl rfl rfl
  have pb := (Below.refl _ w9).alloc (Nat.le_refl _) (.cells #[.slice za 0 zc, .slice zb 1 zd, .slice ze 1 zf] 48)
  replace ra := ra.below pb
  replace rs := rs.below pb
  replace rm := rm.below pb
  replace rt := rt.below pb
  replace rp := rp.below pb
  replace rz := rz.below pb
  replace xa := xa.push (.cells #[.slice za 0 zc, .slice zb 1 zd, .slice ze 1 zf] 48)
  replace xs := xs.push (.cells #[.slice za 0 zc, .slice zb 1 zd, .slice ze 1 zf] 48)
  replace xm := xm.push (.cells #[.slice za 0 zc, .slice zb 1 zd, .slice ze 1 zf] 48)
  replace xt := xt.push (.cells #[.slice za 0 zc, .slice zb 1 zd, .slice ze 1 zf] 48)
  replace xp := xp.push (.cells #[.slice za 0 zc, .slice zb 1 zd, .slice ze 1 zf] 48)
  have xz := BoxWC.new w9 (.slice za 0 zc) (.slice zb 1 zd) (.slice ze 1 zf)
  replace hB := below_then hB pb
  clear pb
  have HC := hide (timesC_sh rz rz)
  have c0_xz := xz.cell0
  have c1_xz := xz.cell1
  have c2_xz := xz.cell2
  go_wp2_with fail
  refine (unhide HC).mono ?_
  rintro e w10 ⟨u, rfl, ry, hb⟩
  replace ra := ra.below hb
  replace rs := rs.below hb
  replace rm := rm.below hb
  replace rt := rt.below hb
  replace rp := rp.below hb
  replace rz := rz.below hb
  replace xa := xa.belowH hb
  replace xs := xs.belowH hb
  replace xm := xm.belowH hb
  replace xt := xt.belowH hb
  replace xp := xp.belowH hb
  replace xz := xz.belowH hb
  replace hB := below_then hB hb
  clear HC hb c0_xz c1_xz c2_xz
  obtain ⟨ja, jc, jb, jd, je, jf, rfl⟩ := ry.lens (n1 := 0) (n2 := 1) (n3 := 1) rfl rfl rfl
  have pb := (Below.refl _ w10).alloc (Nat.le_refl _) (.cells #[.slice ja 0 jc, .slice jb 1 jd, .slice je 1 jf] 48)
  replace ra := ra.below pb
  replace rs := rs.below pb
  replace rm := rm.below pb
  replace rt := rt.below pb
  replace rp := rp.below pb
  replace rz := rz.below pb
  replace ry := ry.below pb
  replace xa := xa.push (.cells #[.slice ja 0 jc, .slice jb 1 jd, .slice je 1 jf] 48)
  replace xs := xs.push (.cells #[.slice ja 0 jc, .slice jb 1 jd, .slice je 1 jf] 48)
  replace xm := xm.push (.cells #[.slice ja 0 jc, .slice jb 1 jd, .slice je 1 jf] 48)
  replace xt := xt.push (.cells #[.slice ja 0 jc, .slice jb 1 jd, .slice je 1 jf] 48)
  replace xp := xp.push (.cells #[.slice ja 0 jc, .slice jb 1 jd, .slice je 1 jf] 48)
  replace xz := xz.push (.cells #[.slice ja 0 jc, .slice jb 1 jd, .slice je 1 jf] 48)
  have xy := BoxWC.new w10 (.slice ja 0 jc) (.slice jb 1 jd) (.slice je 1 jf)
  replace hB := below_then hB pb
  clear pb
  obtain ⟨bb_s, oo_s, rfl, hs⟩ := rs.wts.at (k := 0) (by decide)
  obtain ⟨bb_m, oo_m, rfl, hm⟩ := rm.wts.at (k := 0) (by decide)
  obtain ⟨bb_t, oo_t, rfl, ht⟩ := rt.wts.at (k := 1) (by decide)
  obtain ⟨bb_p, oo_p, rfl, hp⟩ := rp.wts.at (k := 0) (by decide)
  obtain ⟨bb_y, oo_y, rfl, hy⟩ := ry.wts.at (k := 0) (by decide)
  simp only [List.getElem_cons_zero, List.getElem_cons_succ, Nat.add_zero, encC] at hs hm ht hp hy
  have d_xa := xa.cell2
  have d_xs := xs.cell2
  have d_xm := xm.cell2
  have d_xt := xt.cell2
  have d_xp := xp.cell2
  have d_xy := xy.cell2
  have HB := hide hB
  clear hB ra rs rm rt rp rz ry xa xs xm xt xp xz xy
  go_wp2
  go_ret
  exact ⟨rfl, unhide HB⟩

end Go.Proofs.YtafpecdmaogohaaGreat

namespace Go.Proofs.YtafpecdmaogohaaGreat.weighOf
open Go.RowKit Go.ChangeShapes Go.WideShapes Go.ChangeAt
set_option linter.unusedVariables false
set_option linter.unusedSimpArgs false
set_option maxRecDepth 20000

theorem refSame4 {s : List Int} {ll : List (List Int)} {v v' : Value} {w : World} (h : RelV w v s ll) (h' : RelV w v' s ll) :
    Calls Tryz.prog 10 #[v, v'] w fun e w' => e = .returned (.bool true) ∧ Below w.heap.size w w' := by
  have := refSame_rel h h'
  rwa [sameR_iff.2 ⟨rfl, rfl⟩] at this

theorem run_rel34 (a a' a'' : Option Addr) (n n' n'' c c' c'' : Nat) (w : World) : (Instr.field 32 (.agg #[.slice a n c, .slice a' n' c', .slice a'' n'' c'']) 0).run Tryz.prog w = .ok (.agg #[.slice a n c, .slice a' n' c']) w := by kernel_rfl

theorem least_rep (n : Nat) (q : Int) : leastV (List.replicate (n + 1) q) = q := least_eq (by simp) fun x hx => by rw [List.eq_of_mem_replicate hx]; exact Int.le_refl _
theorem sum_rep : ∀ n : Nat, (List.replicate n (2 : Int)).sum = 2 * n
  | 0 => rfl
  | n + 1 => by rw [List.replicate_succ, List.sum_cons, sum_rep n]; omega

set_option maxHeartbeats 16000000 in
theorem walk {l0 a0 b0 : List Int} {k0 : List (List Int)} {l1 : Int} {v0 v1 : Value} {w : World} (i0 : PartV w v0 l0 k0 a0 b0) (i1 : v1 = .int .i64 l1) (m1 : InI64 l1) :
    Calls Tryz.prog 3 #[v0, v1] w fun e w' => e = .returned (.bool true) ∧ Below w.heap.size w w' := by
  subst i1
  obtain ⟨xa, ca, xb, cb, xd, cd, xe, ce, rfl, _, _, _, _, _, _, _, _, _, _, _⟩ := i0.form
  obtain ⟨W0, hW0⟩ : ∃ W, W = w.alloc (.cells #[.slice xa l0.length ca, .slice xb k0.length cb, .slice xd a0.length cd, .slice xe b0.length ce] 26) := ⟨_, rfl⟩
  have hB : Below w.heap.size w W0 := by rw [hW0]; exact (Below.refl _ _).alloc (Nat.le_refl _) _
  have bx : BoxQ W0 w.heap.size (.slice xa l0.length ca) (.slice xb k0.length cb) (.slice xd a0.length cd) (.slice xe b0.length ce) := by rw [hW0]; exact BoxQ.new w _ _ _ _
  replace i0 := i0.below hB
  have HW0 := hide hW0
  clear hW0
  obtain ⟨q, hq⟩ : ∃ q, q = decide (l1 < -4611686018427387904 ∨ 4611686018427387904 < l1) := ⟨_, rfl⟩
  obtain ⟨z, hz⟩ : ∃ z, z = if l1 < -4611686018427387904 ∨ 4611686018427387904 < l1 then l1.tmod 1000 else l1 := ⟨_, rfl⟩
  have HZ := hide (show (l1 < -4611686018427387904 ∧ q = true) ∨ (¬ l1 < -4611686018427387904 ∧ 4611686018427387904 < l1 ∧ q = true) ∨ (¬ l1 < -4611686018427387904 ∧ ¬ 4611686018427387904 < l1 ∧ q = false) by
    rw [hq]
    by_cases h1 : l1 < -4611686018427387904
    · exact .inl ⟨h1, by simp [h1]⟩
    · by_cases h2 : 4611686018427387904 < l1
      · exact .inr (.inl ⟨h1, h2, by simp [h2]⟩)
      · exact .inr (.inr ⟨h1, h2, by simp [h1, h2]⟩))
  have HZ2 := hide (show (q = true ∧ z = l1.tmod 1000) ∨ (q = false ∧ z = l1) by
    rw [hq, hz]
    by_cases h1 : l1 < -4611686018427387904 ∨ 4611686018427387904 < l1
    · exact .inl ⟨by simp [h1], if_pos h1⟩
    · exact .inr ⟨by simp [h1], if_neg h1⟩)
  have HFZ := hide (show Fits z by
    rw [hz]
    split
    · have h1 := Int.tmod_lt_of_pos l1 (show (0 : Int) < 1000 by omega)
      have h2 := Int.lt_tmod_of_pos l1 (show (0 : Int) < 1000 by omega)
      unfold Fits; omega
    · unfold Fits; omega)
  clear hq hz m1
  go_enter Tryz.func3, Tryz.ntmps3
  have HC := hide (shown4_any W0)
  go_wp2_with fail
  rw [← unhide HW0]
  refine (unhide HC).mono ?_
  rintro e w1 ⟨rfl, hb⟩
  replace i0 := i0.below hb
  replace bx := bx.belowH hb
  replace hB := below_then hB hb
  clear HC hb
  clear HW0
  go_upto_region 2 with fail
  go_cut [18] from 13 (fun s18 wx => s18 = .bool q ∧ wx = w1)
  case first =>
    clear i0 bx
    rcases unhide HZ with ⟨h1, hz1⟩ | ⟨h1, h2, hz1⟩ | ⟨h1, h2, hz1⟩
    all_goals
      subst hz1
      go_wp2
      go_meet
      case rel => first | exact ⟨rfl, rfl⟩ | exact ⟨by rw [decide_eq_false (by omega), decide_eq_false (by omega)]; rfl, rfl⟩ | exact ⟨by simp; omega, rfl⟩
  case rest =>
  obtain ⟨rfl, rfl⟩ := hcut
  go_upto_if 18 with fail
  go_cut [1] from 13 (fun s1 wx => s1 = .int .i64 z ∧ wx = wc)
  case first =>
    clear i0 bx
    rcases unhide HZ2 with ⟨h1, hz1⟩ | ⟨h1, hz1⟩
    all_goals
      subst h1
      subst hz1
      go_wp2
      go_meet
      case rel => exact ⟨rfl, rfl⟩
  case rest =>
  obtain ⟨rfl, hwc⟩ := hcut
  subst hwc
  have HC := hide (ref_ok i0 (most := 5) (by omega) (by omega))
  have c0_bx := bx.cell0
  have c1_bx := bx.cell1
  have c2_bx := bx.cell2
  have c3_bx := bx.cell3
  go_wp2_with fail
  refine (unhide HC).mono ?_
  rintro e w2 ⟨u, rfl, rf, hb⟩
  replace i0 := i0.below hb
  replace bx := bx.belowH hb
  replace hB := below_then hB hb
  clear HC hb c0_bx c1_bx c2_bx c3_bx
  clear i0 bx
  have GF := hide (fine_small l0 k0)
  generalize smallS3 l0 = s at *
  generalize smallR3 l0 k0 = ll at *
  generalize refW a0 5 ll.length = rw0 at *
  obtain ⟨fa, fb, fc, fd, fe, ff, rfl, _, _, _, _, _, _⟩ := rf.form
  replace rf := rf.rel
  have hfld := run_rel34
  have pb := (Below.refl _ w2).alloc (Nat.le_refl _) (.cells #[.slice fa s.length fb, .slice fc ll.length fd] 29)
  replace rf := rf.below pb
  replace hB := below_then hB pb
  have xR := Box.new w2 (.slice fa s.length fb) (.slice fc ll.length fd)
  clear pb
  have hsl := (unhide GF).slen
  have hll := (unhide GF).llen
  have HRW := hide (show ∀ t ∈ ll, t.length < 100000000 from fun t ht => by have := (unhide GF).wide t ht; omega)
  have HC := hide (of_ok (q := z) rf (by omega) (by omega) (unhide HRW))
  have c0_xR := xR.cell0
  have c1_xR := xR.cell1
  go_wp2_with fail
  refine (unhide HC).mono ?_
  rintro e w3 ⟨u, rfl, ra, hb⟩
  replace rf := rf.below hb
  replace xR := xR.belowH hb
  replace hB := below_then hB hb
  clear HC hb c0_xR c1_xR
  clear hfld
  obtain ⟨ws, hws⟩ : ∃ W, W = List.replicate ll.length z := ⟨_, rfl⟩
  rw [← hws] at ra
  have HWL := hide (show ws.length = ll.length by rw [hws]; simp)
  have hwl1 : ws.length ≤ ll.length := by rw [unhide HWL]; exact Nat.le_refl _
  have HWS := hide hws
  clear hws
  obtain ⟨aa, ab, ac, ad, ae, af, rfl, _, _, _, _, _, _, _⟩ := ra.form
  rw [unhide HWL] at ra ⊢
  have pb := (Below.refl _ w3).alloc (Nat.le_refl _) (.cells #[.slice aa s.length ab, .slice ac ll.length ad, .slice ae ll.length af] 35)
  replace rf := rf.below pb
  replace ra := ra.below pb
  replace xR := xR.belowH pb
  replace hB := below_then hB pb
  have xA := BoxWI.new w3 (.slice aa s.length ab) (.slice ac ll.length ad) (.slice ae ll.length af)
  clear pb
  have HC := hide (mins_ok ra (Seq.nil _ _) (unhide GF).asc (by omega) (by omega) (by simp) rfl)
  have c0_xA := xA.cell0
  have c1_xA := xA.cell1
  have c2_xA := xA.cell2
  go_wp2_with fail
  refine (unhide HC).mono ?_
  rintro e w4 ⟨u, rfl, rm, hb⟩
  replace rf := rf.below hb
  replace ra := ra.below hb
  replace xR := xR.belowH hb
  replace xA := xA.belowH hb
  replace hB := below_then hB hb
  clear HC hb c0_xA c1_xA c2_xA
  obtain ⟨S2, hS2⟩ : ∃ S, S = meetL s [] := ⟨_, rfl⟩
  obtain ⟨L2, hL2⟩ : ∃ S, S = projL s ll [] := ⟨_, rfl⟩
  obtain ⟨M2, hM2⟩ : ∃ S, S = (wsrcL s ll ws []).map leastV := ⟨_, rfl⟩
  rw [← hS2, ← hL2, ← hM2] at rm
  have HM2 := hide hM2
  have HS2 := hide hS2
  have HL2 := hide hL2
  clear hM2 hS2 hL2
  obtain ⟨ma, mb, mc, md, me, mf, rfl, _, _, _, _, _, _, _⟩ := rm.form
  have pb := (Below.refl _ w4).alloc (Nat.le_refl _) (.cells #[.slice ma S2.length mb, .slice mc L2.length md, .slice me M2.length mf] 35)
  replace rf := rf.below pb
  replace ra := ra.below pb
  replace rm := rm.below pb
  replace xR := xR.belowH pb
  replace xA := xA.belowH pb
  replace hB := below_then hB pb
  have xM := BoxWI.new w4 (.slice ma S2.length mb) (.slice mc L2.length md) (.slice me M2.length mf)
  clear pb
  have HC := hide (of_ok (q := 2) rf (by omega) (by omega) (unhide HRW))
  have c0_xR := xR.cell0
  have c1_xR := xR.cell1
  go_wp2_with fail
  refine (unhide HC).mono ?_
  rintro e w5 ⟨u, rfl, rb, hb⟩
  replace rf := rf.below hb
  replace ra := ra.below hb
  replace rm := rm.below hb
  replace xR := xR.belowH hb
  replace xA := xA.belowH hb
  replace xM := xM.belowH hb
  replace hB := below_then hB hb
  clear HC hb c0_xR c1_xR
  obtain ⟨wt, hwt⟩ : ∃ W, W = List.replicate ll.length (2 : Int) := ⟨_, rfl⟩
  rw [← hwt] at rb
  have HWTL := hide (show wt.length = ll.length by rw [hwt]; simp)
  have hwtl1 : wt.length ≤ ll.length := by rw [unhide HWTL]; exact Nat.le_refl _
  have HWT := hide hwt
  clear hwt
  have hSO := hide (show (∀ l ∈ wsrcL s ll wt [], sumOk l = true) ∧ (wsrcL s ll wt []).map sumV = (if ll = [] then [] else [2 * (ll.length : Int)]) by
    by_cases hl : ll = []
    · subst hl; exact ⟨(fun l h => by cases h), rfl⟩
    · rw [wsrc_none hl (unhide HWTL), if_neg hl]
      have h1 : ∀ x ∈ wt, x.natAbs ≤ 2 := fun x hx => by rw [unhide HWT] at hx; rw [List.eq_of_mem_replicate hx]; decide
      have h2 := sum_ok_of h1 (by omega)
      refine ⟨fun l h => by rw [List.mem_singleton.1 h]; exact h2.1, ?_⟩
      simp only [List.map_cons, List.map_nil]
      rw [h2.2, unhide HWT, sum_rep])
  have hFT := hide (show ∀ x ∈ wt, Fits x from fun x hx => by rw [unhide HWT] at hx; rw [List.eq_of_mem_replicate hx]; unfold Fits; omega)
  obtain ⟨ba, bb, bc, bd, be, bf, rfl, _, _, _, _, _, _, _⟩ := rb.form
  have HC := hide (sums_ok rb (Seq.nil _ _) (unhide GF).asc (by omega) (by omega) (by simp) (unhide hFT) rfl (unhide hSO).1)
  go_wp2_with fail
  refine (unhide HC).mono ?_
  rintro e w6 ⟨u, rfl, ru, hb⟩
  replace rf := rf.below hb
  replace ra := ra.below hb
  replace rm := rm.below hb
  replace rb := rb.below hb
  replace xR := xR.belowH hb
  replace xA := xA.belowH hb
  replace xM := xM.belowH hb
  replace hB := below_then hB hb
  clear HC hb
  clear rb
  obtain ⟨U2, hU2⟩ : ∃ S, S = (wsrcL s ll wt []).map sumV := ⟨_, rfl⟩
  rw [← unhide HS2, ← unhide HL2, ← hU2] at ru
  have HU2 := hide (hU2.trans (unhide hSO).2)
  clear hU2
  obtain ⟨ua, ub, uc, ud, ue, uf, rfl, _, _, _, _, _, _, _⟩ := ru.form
  have pb := (Below.refl _ w6).alloc (Nat.le_refl _) (.cells #[.slice ua S2.length ub, .slice uc L2.length ud, .slice ue U2.length uf] 35)
  replace rf := rf.below pb
  replace ra := ra.below pb
  replace rm := rm.below pb
  replace ru := ru.below pb
  replace xR := xR.belowH pb
  replace xA := xA.belowH pb
  replace xM := xM.belowH pb
  replace hB := below_then hB pb
  have xU := BoxWI.new w6 (.slice ua S2.length ub) (.slice uc L2.length ud) (.slice ue U2.length uf)
  clear pb
  have HSM := hide (refSame4 (ra.rel) rf)
  have CELLS := hide (And.intro xR (And.intro xA (And.intro xM xU)))
  have hc1 := xR.cell1
  have hc0 := xR.cell0
  have ha2 := xA.cell2
  have ha0 := xA.cell0
  have ha1 := xA.cell1
  by_cases hl : ll.length = 0
  · have hln : ll = [] := List.length_eq_zero_iff.1 hl
    have hM0 : M2.length = 0 := by rw [unhide HM2, hln]; rfl
    have hU0 : U2.length = 0 := by rw [unhide HU2, if_pos hln]; rfl
    have e1 : ((ll.length : Int) == 0) = true := by simp [hl]
    have e2 : ((U2.length : Int) == 0) = true := by simp [hU0]
    have e3 : decide ((0 : Int) < (ll.length : Int)) = false := by simp [hl]
    have e5 : ¬ ((0 : Int) < (ll.length : Int)) := by omega
    clear hl hln hM0 hU0 xR xA xM xU rm ru
    go_wp2_with fail
    refine (unhide HSM).mono ?_
    rintro e w8 ⟨rfl, hb⟩
    obtain ⟨yR, yA, yM, yU⟩ := unhide CELLS
    replace yR := yR.belowH hb
    replace yA := yA.belowH hb
    replace yU := yU.belowH hb
    replace hB := below_then hB hb
    have d1 := yR.cell1
    have d2 := yA.cell2
    have d3 := yU.cell2
    clear hc1 hc0 ha2 ha0 ha1 yM yR yA yU HSM hb
    go_wp2
    go_loopw [11] (fun i wr => i = .int .i64 0 ∧ wr = w8) (fun i _ => 0)
    case atStart => exact ⟨rfl, rfl⟩
    case round =>
      obtain ⟨rfl, rfl⟩ := hrel
      go_wp2
      go_quiet (fail)
      go_wp2
      go_ret
      exact ⟨rfl, Below.drewN1 hB _⟩
  · have hln : ll ≠ [] := by rintro rfl; exact hl rfl
    have hM1 : M2 = [z] := by
      rw [unhide HM2, wsrc_none hln (unhide HWL)]
      simp only [List.map_cons, List.map_nil]
      rw [unhide HWS, show ll.length = (ll.length - 1) + 1 by omega, least_rep]
    have hU1 : U2 = [2 * (ll.length : Int)] := by rw [unhide HU2, if_neg hln]
    have hMl : 0 < M2.length := by rw [hM1]; simp
    have hUl : 0 < U2.length := by rw [hU1]; simp
    obtain ⟨bm, om, rfl, hcm⟩ := rm.wts.at hMl
    obtain ⟨bu, ou, rfl, hcu⟩ := ru.wts.at hUl
    rw [Nat.add_zero] at hcm hcu
    have hm0 : M2[0] = z := by simp only [hM1, List.getElem_cons_zero]
    have hu0 : U2[0] = 2 * (ll.length : Int) := by simp only [hU1, List.getElem_cons_zero]
    rw [hm0] at hcm
    rw [hu0] at hcu
    have e1 : ((ll.length : Int) == 0) = false := by rw [beq_eq_false_iff_ne]; omega
    have HUL := hide (show U2.length = 1 by rw [hU1]; rfl)
    have e3 : ((0 : Int) < (ll.length : Int)) := by omega
    have HML := hide (show M2.length = 1 by rw [hM1]; rfl)
    have e8 : (2 * (ll.length : Int) == 2 * (ll.length : Int)) = true := by simp
    have e9 : (z == z) = true := by simp
    have HR := hide ra.wts
    have HWK := hide (show ∀ k (hk : k < ws.length), ws[k] = z from fun k hk => by have := unhide HWS; subst this; simp)
    clear hl hln hM1 hU1 hMl hUl hm0 hu0 xR xA xM xU rm ru ra
    go_wp2_with fail
    refine (unhide HSM).mono ?_
    rintro e w8 ⟨rfl, hb⟩
    obtain ⟨yR, yA, yM, yU⟩ := unhide CELLS
    replace yR := yR.belowH hb
    replace yA := yA.belowH hb
    replace yM := yM.belowH hb
    replace yU := yU.belowH hb
    replace hB := below_then hB hb
    have d1 := yR.cell1
    have d2 := yA.cell2
    have d3 := yU.cell2
    have d4 := yM.cell2
    rw [unhide HUL] at d3
    rw [unhide HML] at d4
    have gm := Below.cell_of hb hcm
    have gu := Below.cell_of hb hcu
    have HR8 := hide ((unhide HR).below hb)
    clear hc1 hc0 ha2 ha0 ha1 yM yR yA yU HSM hb hcm hcu HR
    go_wp2
    go_loopw [11] (fun i wr => ∃ k : Nat, k ≤ ll.length ∧ i = .int .i64 k ∧ wr = w8) (fun i _ => ll.length - (intOf i).toNat)
    case atStart => exact ⟨0, by omega, rfl, rfl⟩
    case round =>
      obtain ⟨k, hk, rfl, rfl⟩ := hrel
      by_cases hkl : k < ll.length
      · obtain ⟨ba, oa, rfl, hca⟩ := (unhide HR8).at (show k < ws.length by rw [unhide HWL]; exact hkl)
        rw [unhide HWK k _] at hca
        go_wp2
        go_roundw
        case rel => exact ⟨k + 1, by omega, by go_num, by first | trivial | rfl⟩
        case measure => simp [intOf]; omega
      · go_wp2
        go_quiet (fail)
        go_wp2
        go_ret
        exact ⟨rfl, Below.drewN1 hB _⟩

set_option maxRecDepth 100000 in
theorem lifted (os : Os) (started : os.Started) (H : Type) (enc : TypeId × Value → H) :
    ReturnsInHanded {} Tryz.checked os 3 .any (Rows.weighOfSpec.pre6 enc Tryz.prog Tryz.f3 Rows.weighOfRow.domain false) (Rows.weighOfSpec.post enc Tryz.prog Tryz.f3 false true false false) := by
  refine returnsInHanded_of_change (C := Tryz.checked) own started (by kernel_rfl) Tryz.func3
    (ChangeSpec.witness6 (enc := enc) (C := Tryz.checked) false ⟨#[], #[.agg #[.slice none 0 0, .slice none 0 0, .slice none 0 0, .slice none 0 0], .int .i64 0], []⟩ 8 (by kernel_rfl) (by kernel_rfl) (by kernel_rfl) (by kernel_rfl)) ?_
  intro W base args ds gs before hval0 hW hcnd _
  have hval : ∀ (j : Nat) t v, Tryz.f3.params[j]? = some t → args[j]? = some v → Value.okWide Tryz.prog W .any base t v := hval0
  have hW' := hW
  obtain ⟨p, q, hA0, hV, rfl, hfz, hnd⟩ := hW
  have hA : DataW.TrodAll enc Tryz.prog W 0 (fun _ => true) true Tryz.f3.params.toList args.toList ds p := hA0
  rw [Tryz.params3] at hA hval
  obtain ⟨v0, vs0, d0, ds0, p0, q0, hargs, rfl, rfl, h0, r0⟩ := trodAll_cons hA
  obtain ⟨v1, vs1, d1, ds1, p1, q1, rfl, rfl, rfl, h1, r1⟩ := trodAll_cons r0
  obtain ⟨rfl, rfl, rfl⟩ := trodAll_nil r1
  obtain rfl : args = #[v0, v1] := by cases args; simp_all
  obtain ⟨rfl, rfl⟩ := trodVars_none hV
  obtain ⟨l0, k0, a0, b0, i0⟩ := read_part4 h0 (hval 0 26 v0 rfl rfl)
  have lt0 : ∀ x ∈ p0, x.block < W.heap.size := by obtain ⟨m, hm⟩ := h0; exact DataW.trod_lt m _ _ _ hm
  obtain ⟨l1, i1, m1⟩ := read_int64 h1 (hval 1 2 v1 rfl rfl)
  have lt1 : ∀ x ∈ p1, x.block < W.heap.size := by obtain ⟨m, hm⟩ := h1; exact DataW.trod_lt m _ _ _ hm
  clear hA0 hval0
  refine (walk i0 i1 m1).mono fun e W' ⟨he, bel⟩ => ?_
  subst he
  exact ⟨_, rfl, _, _, _, [], _, [], hW', trodAll_mk1 (shut_bool Tryz.underlying4 _), (trodAll_cons_mk (Below.trod laidOut (by kernel_rfl) (of_decide_eq_true (by kernel_rfl)) h0 bel lt0) (trodAll_cons_mk (Below.trod laidOut (by kernel_rfl) (of_decide_eq_true (by kernel_rfl)) h1 bel lt1) trodAll_mk0)), rfl, bel.frame _, fun h => by cases h⟩

theorem over : Rows.weighOfRow.holds Tryz.pinned (OpenSpec.ofChange Rows.weighOfSpec) :=
  OpenClaim.holds_of_wide 3 Tryz.f3 rfl rfl rfl rfl rfl rfl rfl ⟨rfl, rfl, rfl, rfl, rfl⟩ rfl rfl rfl rfl rfl (by kernel_rfl) Tryz.func3 (by kernel_rfl)
    (of_decide_eq_true (by kernel_rfl)) (by unfold Func.isWrapper; first | (rw [if_pos (by decide +kernel)]; kernel_rfl) | (rw [if_neg (by decide +kernel)]; exact ⟨rfl, rfl⟩))
    (fun os started H enc _ => lifted os started H enc)

/-- The statement. -/
theorem proved : Rows.WeighOfSaid := over
#print axioms proved
end Go.Proofs.YtafpecdmaogohaaGreat.weighOf
