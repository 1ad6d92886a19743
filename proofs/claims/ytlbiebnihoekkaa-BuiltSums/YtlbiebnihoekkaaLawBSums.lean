/-
  Proved: BuiltSums answers true for all values, multipliers, and every number, and leaves them as they were. No condition.
-/
import Derived.Test.YtlbiebnihoekkaaFrame
import Derived.Test.YtlbiebnihoekkaaFrame2
import Derived.Test.YtlbiebnihoekkaaShown7
namespace Go.Proofs.Ytlbiebnihoekkaa.builtSums
open Go.RowKit Go.ChangeShapes Go.WideShapes Go.ChangeAt
set_option linter.unusedVariables false
set_option linter.unusedSimpArgs false
set_option maxRecDepth 20000

def digV (l : List Int) (k : Nat) : List Int := (l.take k).map fun x => x.tmod 1000
def one (x : Int) : Int := if x.tmod 1000 = 0 then 1 else x.tmod 1000
def mulV (l : List Int) (k : Nat) : List Int := (l.take k).map one
def rng (k : Nat) : List Int := (List.range k).map fun (n : Nat) => (n : Int)
theorem rng_step (k : Nat) : rng (k + 1) = rng k ++ [(k : Int)] := by simp [rng, List.range_succ]
theorem digV_step {l : List Int} {k : Nat} (h : k < l.length) : digV l (k + 1) = digV l k ++ [l[k].tmod 1000] := by
  unfold digV; rw [List.take_succ_eq_append_getElem h, List.map_append]; rfl
theorem mulV_step {l : List Int} {k : Nat} (h : k < l.length) : mulV l (k + 1) = mulV l k ++ [one l[k]] := by
  unfold mulV; rw [List.take_succ_eq_append_getElem h, List.map_append]; rfl
theorem tmod_thou (x : Int) : -1000 ≤ x.tmod 1000 ∧ x.tmod 1000 ≤ 1000 := by
  have h := Int.natAbs_tmod x 1000
  have : x.natAbs % (1000 : Int).natAbs < 1000 := Nat.mod_lt _ (by decide)
  omega
theorem tmod_mill (x : Int) : -1000000 ≤ x.tmod 1000000 ∧ x.tmod 1000000 ≤ 1000000 := by
  have h := Int.natAbs_tmod x 1000000
  have : x.natAbs % (1000000 : Int).natAbs < 1000000 := Nat.mod_lt _ (by decide)
  omega
theorem one_thou (x : Int) : -1000 ≤ one x ∧ one x ≤ 1000 := by
  unfold one; split
  · omega
  · exact tmod_thou x
theorem mul_thou {x y : Int} (hx : -1000 ≤ x ∧ x ≤ 1000) (hy : -1000 ≤ y ∧ y ≤ 1000) : -1000000 ≤ x * y ∧ x * y ≤ 1000000 := by
  have h1 : (x * y).natAbs ≤ 1000 * 1000 := by rw [Int.natAbs_mul]; exact Nat.mul_le_mul (by omega) (by omega)
  omega

theorem dot_snoc : ∀ (a b : List Int) (x y : Int), a.length = b.length → dotL (a ++ [x]) (b ++ [y]) = dotL a b + x * y
  | [], [], x, y, _ => by simp [dotL]
  | [], _ :: _, _, _, h => by simp at h
  | _ :: _, [], _, _, h => by simp at h
  | p :: a, q :: b, x, y, h => by
    simp only [List.cons_append, dotL]
    rw [dot_snoc a b x y (by simpa using h)]; omega
theorem dot_more : ∀ (a b c : List Int), a.length = b.length → dotL (a ++ c) b = dotL a b
  | [], [], c, _ => by cases c <;> rfl
  | [], _ :: _, _, h => by simp at h
  | _ :: _, [], _, h => by simp at h
  | p :: a, q :: b, c, h => by
    simp only [List.cons_append, dotL]
    rw [dot_more a b c (by simpa using h)]

theorem holds6 {sc A T : List Int} {how n : Int} (h : T.length = sc.length) (h2 : A.length = T.length) :
    holdsB ⟨6, sc, [], A ++ [how, n]⟩ T = (if how = 0 then dotL A T == n else if how = 1 then decide (dotL A T ≤ n) else if how = 2 then dotL A T != n else false) := by
  have e1 : (A ++ [how, n]).length = T.length + 2 := by simp [h2]
  have e2 : (A ++ [how, n]).getD T.length 0 = how := by rw [← h2]; simp [List.getD_eq_getElem?_getD]
  have e3 : (A ++ [how, n]).getD (T.length + 1) 0 = n := by rw [← h2]; simp [List.getD_eq_getElem?_getD]
  have e4 : holdsB ⟨6, sc, [], A ++ [how, n]⟩ T = linB (A ++ [how, n]) T := by simp [holdsB, h]
  rw [e4, linB, if_pos e1, e2, e3, dot_more A T _ h2]

theorem sane6 {sc A : List Int} {how n : Int} (h : sc.length < 1000) (hA : Mill A) (hh : 0 ≤ how ∧ how ≤ 2) (hn : -1000000 ≤ n ∧ n ≤ 1000000) : Sane ⟨6, sc, [], A ++ [how, n]⟩ := ⟨List.Pairwise.nil, by simp, fun x hx => by
  rcases List.mem_append.1 hx with h | h
  · exact hA x h
  · simp at h; omega, h⟩

set_option maxHeartbeats 4000000 in
theorem walk {l0 l1 : List Int} {l2 : Int} {v0 v1 v2 : Value} {w : World} (i0 : Ints w v0 l0) (m0 : ∀ n ∈ l0, InI64 n) (i1 : Ints w v1 l1) (m1 : ∀ n ∈ l1, InI64 n) (i2 : v2 = .int .i64 l2) (m2 : InI64 l2) :
    Calls Try.prog 6 #[v0, v1, v2] w fun e w' => e = .returned (.bool true) ∧ Below w.heap.size w w' := by
  subst i2
  obtain ⟨a, ca, rfl, hla, hca⟩ := i0.form
  obtain ⟨b, cb, rfl, hlb, hcb⟩ := i1.form
  unfold maxLen at hca hcb
  unfold InI64 at m2
  obtain ⟨N, hN⟩ : ∃ N : Nat, min (min (l0.length : Int) (l1.length : Int)) 6 = (N : Int) := ⟨min (min l0.length l1.length) 6, by omega⟩
  have hN6 : N ≤ 6 := by omega
  have hNl : N ≤ l0.length := by omega
  have hNl1 : N ≤ l1.length := by omega
  have hmin : ∀ W ts t, (Builtin.min_ ts t #[.int .i64 (l0.length : Int), .int .i64 (l1.length : Int), .int .i64 6]).run Try.prog W = .ok (.int .i64 (N : Int)) W := fun W ts t => by
    simp [Builtin.min_, Builtin.min2]
    (repeat' split) <;> omega
  obtain ⟨n, hn⟩ : ∃ n, n = l2.tmod 1000000 := ⟨_, rfl⟩
  have hnm := tmod_mill l2
  rw [← hn] at hnm
  have HN := hide hn
  clear hn hN
  go_enter Try.func6, Try.ntmps6
  go_wp2_with fail
  refine (shown7_any _).mono ?_
  rintro e w1 ⟨rfl, hb1⟩
  have j0 := i0.below hb1
  have j1 := i1.below hb1
  clear i0 i1
  by_cases hz : N = 0
  · subst hz
    go_wp2
    go_ret
    exact ⟨rfl, hb1⟩
  · have hz' : ((N : Int) == 0) = false := by rw [beq_eq_false_iff_ne]; omega
    clear hz
    have HB1 := hide hb1
    have hs1 := hb1.size
    clear hb1
    go_wp2
    rw [← unhide HN]
    go_loopw [9, 10, 11, 12, 13, 14] (fun sc t ar s i _ wr => ∃ (k : Nat) (z : Int), k ≤ N ∧ i = .int .i64 k ∧ s = .int .i64 z ∧ OwnI w1.heap.size wr sc (rng k) ∧ OwnI w1.heap.size wr t (digV l0 k) ∧ OwnI w1.heap.size wr ar (mulV l1 k) ∧ Sep sc t ∧ Sep sc ar ∧ Sep t ar ∧ Below w1.heap.size w1 wr ∧ -(k * 1000000 : Int) ≤ z ∧ z ≤ (k * 1000000 : Int) ∧ Hid (z = dotL (mulV l1 k) (digV l0 k))) (fun _ _ _ _ i _ _ => N - (intOf i).toNat)
    case atStart => exact ⟨0, 0, by omega, rfl, rfl, own_nilI _ _, own_nilI _ _, own_nilI _ _, Sep.nil _, Sep.nil _, Sep.nil _, Below.refl _ _, by simp, by simp, hide rfl⟩
    case round =>
      obtain ⟨k, z, hk, rfl, rfl, hos, hot, hoa, hp1, hp2, hp3, hbel, hz1, hz2, HZ⟩ := hrel
      rename World => wr
      have hzz := hbel.size
      by_cases hkl : k < N
      · have hkl0 : k < l0.length := by omega
        have hkl1 : k < l1.length := by omega
        obtain ⟨b1, o1, rfl, hc1⟩ := (j0.below hbel).at hkl0
        obtain ⟨b2, o2, rfl, hc2⟩ := (j1.below hbel).at hkl1
        have hm0 := m0 _ (List.getElem_mem hkl0)
        have hm1 := m1 _ (List.getElem_mem hkl1)
        unfold InI64 at hm0 hm1
        have HC := hide (digV_step hkl0)
        have HD := hide (mulV_step hkl1)
        have HR := hide (rng_step k)
        have hlt : (digV l0 k).length ≤ 6 := by simp [digV]; omega
        have hlr : (mulV l1 k).length ≤ 6 := by simp [mulV]; omega
        have hls : (rng k).length ≤ 6 := by simp [rng]; omega
        have hty := tmod_thou l0[k]
        have hox := one_thou l1[k]
        have hpr := mul_thou hty hox
        have HDT : Hid (dotL (mulV l1 (k + 1)) (digV l0 (k + 1)) = dotL (mulV l1 k) (digV l0 k) + one l1[k] * l0[k].tmod 1000) := hide (by
          rw [digV_step hkl0, mulV_step hkl1, dot_snoc _ _ _ _ (by simp [digV, mulV]; omega)])
        have Hcm : Hid (one l1[k] * l0[k].tmod 1000 = l0[k].tmod 1000 * one l1[k]) := hide (Int.mul_comm _ _)
        have J0 := hide j0
        have J1 := hide j1
        have hA1 : ∀ W, Below w1.heap.size w1 W → W.cell? ⟨b1, o1 + k, none⟩ = some (.int .i64 l0[k]) := fun W hb => by
          obtain ⟨b', o', e, hc⟩ := ((unhide J0).below hb).at hkl0
          cases e; exact hc
        have hA2 : ∀ W, Below w1.heap.size w1 W → W.cell? ⟨b2, o2 + k, none⟩ = some (.int .i64 l1[k]) := fun W hb => by
          obtain ⟨b', o', e, hc⟩ := ((unhide J1).below hb).at hkl1
          cases e; exact hc
        have HA1 := hide hA1
        have HA2 := hide hA2
        have hon : Hid (one l1[k] = if l1[k].tmod 1000 = 0 then 1 else l1[k].tmod 1000) := hide rfl
        generalize l0[k] = x at *
        generalize l1[k] = y at *
        clear m0 m1 hmin j0 j1 hA1 hA2
        generalize hmu : one y = mu at *
        have hon' := unhide hon
        clear hon hmu
        by_cases hy : y.tmod 1000 = 0
        · have hyy : (y.tmod 1000 == 0) = true := by simpa using hy
          rw [if_pos hy] at hon'
          subst hon'
          clear hy
          go_wp2_with (at_builtin; first
            | (refine wp_app_int rfl (.tmp 34) (.tmp 36) rfl hos rfl hzz rfl (by omega) ?_; intro u1 wA hos1 hg1; have hot1 := own_grew hot hg1 hp1.symm.or; have hoa1 := own_grew hoa hg1 hp2.symm.or; have q1 := Sep.grewN hp1.symm (New.of_own hot) hg1; have q2 := Sep.grewN hp2.symm (New.of_own hoa) hg1; have hzA : w1.heap.size ≤ wA.heap.size := Nat.le_trans hzz hg1.by_.size; have hBA := hbel.trans hg1.below; have cA := unhide HA1 _ hBA)
            | (refine wp_app_int rfl (.tmp 38) (.tmp 44) rfl hot1 rfl hzA rfl (by omega) ?_; intro u2 wB hot2 hg2; have hos2 := own_grew hos1 hg2 q1.symm.or; have hoa2 := own_grew hoa1 hg2 hp3.symm.or; have q3 := Sep.grewN q1.symm (New.of_own hos1) hg2; have q4 := Sep.grewN hp3.symm (New.of_own hoa1) hg2; have hzB : w1.heap.size ≤ wB.heap.size := Nat.le_trans hzA hg2.by_.size; have hBB := hBA.trans hg2.below; have cB := unhide HA2 _ hBB)
            | (refine wp_app_int rfl (.tmp 53) (.tmp 55) rfl hoa2 rfl hzB rfl (by omega) ?_; intro u3 wC hoa3 hg3; have hos3 := own_grew hos2 hg3 q2.symm.or; have hot3 := own_grew hot2 hg3 q4.symm.or; have q5 := Sep.grewN q2.symm (New.of_own hos2) hg3; have q6 := Sep.grewN q4.symm (New.of_own hot2) hg3; have hBC := hBB.trans hg3.below; have cC := unhide HA1 _ hBC))
          go_roundw
          case rel => exact ⟨k + 1, z + x.tmod 1000 * 1, by omega, by go_num, by go_num, by rw [unhide HR]; exact hos3, by rw [unhide HC]; exact hot3, by rw [unhide HD]; exact hoa3, q3, q5, q6, hBC, by omega, by omega, hide (by rw [unhide HDT, unhide HZ, unhide Hcm])⟩
          case measure => simp [intOf]; omega

        · have hyy : (y.tmod 1000 == 0) = false := by simpa using hy
          rw [if_neg hy] at hon'
          subst hon'
          clear hy
          go_wp2_with (at_builtin; first
            | (refine wp_app_int rfl (.tmp 34) (.tmp 36) rfl hos rfl hzz rfl (by omega) ?_; intro u1 wA hos1 hg1; have hot1 := own_grew hot hg1 hp1.symm.or; have hoa1 := own_grew hoa hg1 hp2.symm.or; have q1 := Sep.grewN hp1.symm (New.of_own hot) hg1; have q2 := Sep.grewN hp2.symm (New.of_own hoa) hg1; have hzA : w1.heap.size ≤ wA.heap.size := Nat.le_trans hzz hg1.by_.size; have hBA := hbel.trans hg1.below; have cA := unhide HA1 _ hBA)
            | (refine wp_app_int rfl (.tmp 38) (.tmp 44) rfl hot1 rfl hzA rfl (by omega) ?_; intro u2 wB hot2 hg2; have hos2 := own_grew hos1 hg2 q1.symm.or; have hoa2 := own_grew hoa1 hg2 hp3.symm.or; have q3 := Sep.grewN q1.symm (New.of_own hos1) hg2; have q4 := Sep.grewN hp3.symm (New.of_own hoa1) hg2; have hzB : w1.heap.size ≤ wB.heap.size := Nat.le_trans hzA hg2.by_.size; have hBB := hBA.trans hg2.below; have cB := unhide HA2 _ hBB)
            | (refine wp_app_int rfl (.tmp 53) (.tmp 55) rfl hoa2 rfl hzB rfl (by omega) ?_; intro u3 wC hoa3 hg3; have hos3 := own_grew hos2 hg3 q2.symm.or; have hot3 := own_grew hot2 hg3 q4.symm.or; have q5 := Sep.grewN q2.symm (New.of_own hos2) hg3; have q6 := Sep.grewN q4.symm (New.of_own hot2) hg3; have hBC := hBB.trans hg3.below; have cC := unhide HA1 _ hBC))
          go_roundw
          case rel => exact ⟨k + 1, z + x.tmod 1000 * y.tmod 1000, by omega, by go_num, by go_num, by rw [unhide HR]; exact hos3, by rw [unhide HC]; exact hot3, by rw [unhide HD]; exact hoa3, q3, q5, q6, hBC, by omega, by omega, hide (by rw [unhide HDT, unhide HZ, unhide Hcm])⟩
          case measure => simp [intOf]; omega

      · have hke : k = N := by omega
        subst hke
        have htl : (digV l0 k).length = k := by simp [digV]; omega
        have hal : (mulV l1 k).length = k := by simp [mulV]; omega
        have hsl : (rng k).length = k := by simp [rng]
        have htm : Mill (digV l0 k) := fun x hx => by
          obtain ⟨y, _, rfl⟩ := List.mem_map.1 hx
          have := tmod_thou y; omega
        have ham : Mill (mulV l1 k) := fun x hx => by
          obtain ⟨y, _, rfl⟩ := List.mem_map.1 hx
          have := one_thou y; omega
        generalize digV l0 k = T at *
        generalize rng k = S at *
        generalize mulV l1 k = A at *
        have hit := Seq.of_own hot
        have his := Seq.of_own hos
        have hia := Seq.of_own hoa
        obtain ⟨va, vc, rfl, hva, hvc⟩ := hit.form
        obtain ⟨sa, sc, rfl, hsa, hsc⟩ := his.form
        obtain ⟨ra, rc, rfl, hra, hrc⟩ := hia.form
        unfold maxLen at hvc hsc hrc
        have hkk : k < 1000 := by omega
        have HH := hide (fun W (hb : Below wr.heap.size wr W) (how : Int) (u : Value) (h : 0 ≤ how ∧ how ≤ 2) (hu : Ints W u (A ++ [how, n])) => holds_any (c := ⟨6, S, [], A ++ [how, n]⟩) (v := .agg #[.int .i64 6, .slice sa S.length sc, .slice none 0 0, u]) (w := W) ⟨_, _, _, rfl, his.below hb, tups_nilW _, hu⟩ (hit.below hb) (sane6 (by omega) ham h hnm) htm)
        have E0 := hide (holds6 (sc := S) (A := A) (T := T) (how := 0) (n := n) (by omega) (by omega))
        have E1 := hide (holds6 (sc := S) (A := A) (T := T) (how := 1) (n := n) (by omega) (by omega))
        have E2 := hide (holds6 (sc := S) (A := A) (T := T) (how := 2) (n := n) (by omega) (by omega))
        have HIA := hide hia
        have HZ2 := unhide HZ
        have hA6 : A.length ≤ 6 := by omega
        generalize dotL A T = D at *
        subst HZ2
        have HBL := hide hbel
        clear htm ham hp1 hp2 hp3 hos hot hoa hmin hkl m0 m1 j0 j1 his hit hia htl hal hsl hbel HZ hva hra hsa HN hla hlb hNl hNl1
        have hbr := Below.refl wr.heap.size wr
        have hA1 := hbr.alloc hbr.size (.cells #[] 3)
        have IA1 := (unhide HIA).below hA1
        go_wp2_with (at_builtin; first
          | (refine wp_app_ints rfl (.tmp 67) (.tmp 68) rfl (B := wr.heap.size) (l := []) (own_litI hbr.size) rfl (by have := hbr.size; simp <;> omega) IA1 rfl (by simp <;> omega) ?_; intro u1 wa1 ho1 hg1; have hz1 : wr.heap.size ≤ wa1.heap.size := Nat.le_trans (Nat.le_trans hbr.size (by simp)) hg1.by_.size; have hba1 := hA1.trans hg1.below; have hol1 := own_below ho1 ((Below.refl _ wa1).alloc (Nat.le_refl _) (.cells #[.int .i64 0, .int .i64 n] 3)))
          | (refine wp_app_ints rfl (.tmp 69) (.tmp 71) rfl (B := wr.heap.size) hol1 rfl (by simp <;> omega) (m := [0, n]) (litI_at (c := #[.int .i64 0, .int .i64 n]) (e := 3) (fr := (0, 0)) (heap_alloc_new _ _) rfl rfl (by simp)) rfl (by simp <;> omega) ?_; intro x1 wb1 hp1 hh1; have hbb1 := (hba1.alloc hz1 (.cells #[.int .i64 0, .int .i64 n] 3)).trans hh1.below; have hix1 := Seq.of_own hp1; rw [List.nil_append] at hix1; obtain ⟨y1, z1, rfl, _, _⟩ := hix1.form)
          | fail)
        rw [show (A ++ [0, n]).length = A.length + 2 by simp] at hix1
        refine (unhide HH _ hbb1 0 _ (by omega) hix1).mono ?_
        rintro e wc1 ⟨rfl, hbc1⟩
        rw [unhide E0]
        have hbd1 := below_then hbb1 hbc1
        clear hA1 IA1 hbb1 hix1 hbc1 hp1 hh1 hba1 hol1 ho1 hg1 hz1
        have hA2 := hbd1.alloc hbd1.size (.cells #[] 3)
        have IA2 := (unhide HIA).below hA2
        go_wp2_with (at_builtin; first
          | (refine wp_app_ints rfl (.tmp 77) (.tmp 78) rfl (B := wr.heap.size) (l := []) (own_litI hbd1.size) rfl (by have := hbd1.size; simp <;> omega) IA2 rfl (by simp <;> omega) ?_; intro u2 wa2 ho2 hg2; have hz2 : wr.heap.size ≤ wa2.heap.size := Nat.le_trans (Nat.le_trans hbd1.size (by simp)) hg2.by_.size; have hba2 := hA2.trans hg2.below; have hol2 := own_below ho2 ((Below.refl _ wa2).alloc (Nat.le_refl _) (.cells #[.int .i64 1, .int .i64 n] 3)))
          | (refine wp_app_ints rfl (.tmp 79) (.tmp 81) rfl (B := wr.heap.size) hol2 rfl (by simp <;> omega) (m := [1, n]) (litI_at (c := #[.int .i64 1, .int .i64 n]) (e := 3) (fr := (0, 0)) (heap_alloc_new _ _) rfl rfl (by simp)) rfl (by simp <;> omega) ?_; intro x2 wb2 hp2 hh2; have hbb2 := (hba2.alloc hz2 (.cells #[.int .i64 1, .int .i64 n] 3)).trans hh2.below; have hix2 := Seq.of_own hp2; rw [List.nil_append] at hix2; obtain ⟨y2, z2, rfl, _, _⟩ := hix2.form)
          | fail)
        rw [show (A ++ [1, n]).length = A.length + 2 by simp] at hix2
        refine (unhide HH _ hbb2 1 _ (by omega) hix2).mono ?_
        rintro e wc2 ⟨rfl, hbc2⟩
        rw [unhide E1]
        have hbd2 := below_then hbb2 hbc2
        clear hA2 IA2 hbb2 hix2 hbc2 hp2 hh2 hba2 hol2 ho2 hg2 hz2
        have hA3 := hbd2.alloc hbd2.size (.cells #[] 3)
        have IA3 := (unhide HIA).below hA3
        go_wp2_with (at_builtin; first
          | (refine wp_app_ints rfl (.tmp 87) (.tmp 88) rfl (B := wr.heap.size) (l := []) (own_litI hbd2.size) rfl (by have := hbd2.size; simp <;> omega) IA3 rfl (by simp <;> omega) ?_; intro u3 wa3 ho3 hg3; have hz3 : wr.heap.size ≤ wa3.heap.size := Nat.le_trans (Nat.le_trans hbd2.size (by simp)) hg3.by_.size; have hba3 := hA3.trans hg3.below; have hol3 := own_below ho3 ((Below.refl _ wa3).alloc (Nat.le_refl _) (.cells #[.int .i64 2, .int .i64 n] 3)))
          | (refine wp_app_ints rfl (.tmp 89) (.tmp 91) rfl (B := wr.heap.size) hol3 rfl (by simp <;> omega) (m := [2, n]) (litI_at (c := #[.int .i64 2, .int .i64 n]) (e := 3) (fr := (0, 0)) (heap_alloc_new _ _) rfl rfl (by simp)) rfl (by simp <;> omega) ?_; intro x3 wb3 hp3 hh3; have hbb3 := (hba3.alloc hz3 (.cells #[.int .i64 2, .int .i64 n] 3)).trans hh3.below; have hix3 := Seq.of_own hp3; rw [List.nil_append] at hix3; obtain ⟨y3, z3, rfl, _, _⟩ := hix3.form)
          | fail)
        rw [show (A ++ [2, n]).length = A.length + 2 by simp] at hix3
        refine (unhide HH _ hbb3 2 _ (by omega) hix3).mono ?_
        rintro e wc3 ⟨rfl, hbc3⟩
        rw [unhide E2]
        have hbd3 := below_then hbb3 hbc3
        clear hA3 IA3 hbb3 hix3 hbc3 hp3 hh3 hba3 hol3 ho3 hg3 hz3
        have hfin := (unhide HB1).trans (((unhide HBL).trans (hbd3.mono hzz)).mono hs1)
        clear hbd1 hbd2 hbd3 hbr
        go_wp2
        go_ret
        exact ⟨by simp [bne], hfin⟩

set_option maxRecDepth 100000 in
theorem lifted (os : Os) (started : os.Started) (H : Type) (enc : TypeId × Value → H) :
    ReturnsInHanded {} Try.checked os 6 .any (Rows.builtSumsSpec.pre6 enc Try.prog Try.f6 Rows.builtSumsRow.domain false) (Rows.builtSumsSpec.post enc Try.prog Try.f6 false true false false) := by
  refine returnsInHanded_of_change (C := Try.checked) own started (by kernel_rfl) Try.func6
    (ChangeSpec.witness6 (enc := enc) (C := Try.checked) false ⟨#[], #[.slice none 0 0, .slice none 0 0, .int .i64 0], []⟩ 8 (by kernel_rfl) (by kernel_rfl) (by kernel_rfl) (by kernel_rfl)) ?_
  intro W base args ds gs before hval0 hW hcnd _
  have hval : ∀ (j : Nat) t v, Try.f6.params[j]? = some t → args[j]? = some v → Value.okWide Try.prog W .any base t v := hval0
  have hW' := hW
  obtain ⟨p, q, hA0, hV, rfl, hfz, hnd⟩ := hW
  have hA : DataW.TrodAll enc Try.prog W 0 (fun _ => true) true Try.f6.params.toList args.toList ds p := hA0
  rw [Try.params6] at hA hval
  obtain ⟨v0, vs0, d0, ds0, p0, q0, hargs, rfl, rfl, h0, r0⟩ := trodAll_cons hA
  obtain ⟨v1, vs1, d1, ds1, p1, q1, rfl, rfl, rfl, h1, r1⟩ := trodAll_cons r0
  obtain ⟨v2, vs2, d2, ds2, p2, q2, rfl, rfl, rfl, h2, r2⟩ := trodAll_cons r1
  obtain ⟨rfl, rfl, rfl⟩ := trodAll_nil r2
  obtain rfl : args = #[v0, v1, v2] := by cases args; simp_all
  obtain ⟨rfl, rfl⟩ := trodVars_none hV
  obtain ⟨l0, i0, m0⟩ := read_ints h0 (okWide_slice Try.underlying29 (hval 0 29 v0 rfl rfl))
  have lt0 : ∀ x ∈ p0, x.block < W.heap.size := by obtain ⟨m, hm⟩ := h0; exact DataW.trod_lt m _ _ _ hm
  obtain ⟨l1, i1, m1⟩ := read_ints h1 (okWide_slice Try.underlying29 (hval 1 29 v1 rfl rfl))
  have lt1 : ∀ x ∈ p1, x.block < W.heap.size := by obtain ⟨m, hm⟩ := h1; exact DataW.trod_lt m _ _ _ hm
  obtain ⟨l2, i2, m2⟩ := read_int h2 (hval 2 3 v2 rfl rfl)
  have lt2 : ∀ x ∈ p2, x.block < W.heap.size := by obtain ⟨m, hm⟩ := h2; exact DataW.trod_lt m _ _ _ hm
  clear hA0 hval0
  refine (walk i0 m0 i1 m1 i2 m2).mono fun e W' ⟨he, bel⟩ => ?_
  subst he
  exact ⟨_, rfl, _, _, _, [], _, [], hW', trodAll_mk1 (shut_bool Try.underlying4 _), (trodAll_cons_mk (Below.trod laidOut (by kernel_rfl) (of_decide_eq_true (by kernel_rfl)) h0 bel lt0) (trodAll_cons_mk (Below.trod laidOut (by kernel_rfl) (of_decide_eq_true (by kernel_rfl)) h1 bel lt1) (trodAll_cons_mk (Below.trod laidOut (by kernel_rfl) (of_decide_eq_true (by kernel_rfl)) h2 bel lt2) trodAll_mk0))), rfl, bel.frame _, fun h => by cases h⟩

theorem over : Rows.builtSumsRow.holds Try.pinned (OpenSpec.ofChange Rows.builtSumsSpec) :=
  OpenClaim.holds_of_wide 6 Try.f6 rfl rfl rfl rfl rfl rfl rfl ⟨rfl, rfl, rfl, rfl, rfl⟩ rfl rfl rfl rfl rfl (by kernel_rfl) Try.func6 (by kernel_rfl)
    (of_decide_eq_true (by kernel_rfl)) (by unfold Func.isWrapper; first | (rw [if_pos (by decide +kernel)]; kernel_rfl) | (rw [if_neg (by decide +kernel)]; exact ⟨rfl, rfl⟩))
    (fun os started H enc _ => lifted os started H enc)

/-- The statement. -/
theorem proved : Rows.BuiltSumsSaid := over
#print axioms proved
end Go.Proofs.Ytlbiebnihoekkaa.builtSums
