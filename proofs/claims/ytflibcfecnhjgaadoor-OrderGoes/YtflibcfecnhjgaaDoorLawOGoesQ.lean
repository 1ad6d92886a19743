/-
  Proved: by Fill and Degree a point goes that is the least, each time.
-/
import Derived.Test.YtflibcfecnhjgaaDoorORefOf2
import Derived.Test.YtflibcfecnhjgaaDoorOValid
import Derived.Test.YtflibcfecnhjgaaDoorFrameT
import Derived.Test.YtflibcfecnhjgaaDoorFrameN
import Derived.Test.YtflibcfecnhjgaaDoorFrameB
import Derived.Test.YtflibcfecnhjgaaDoorOShown
import Derived.Test.YtflibcfecnhjgaaDoorOMade
namespace Go.Proofs.YtflibcfecnhjgaaDoor
set_option linter.unusedVariables false
set_option linter.unusedSimpArgs false

theorem nextS_o {how : Int} (h3 : how ≠ 3) (s : Srch) : (nextS how s).o = s.o ++ [leastL (worthW how s.g s.t) s.t] := by
  unfold nextS takeS; rw [if_neg h3]

theorem runS_pre {how : Int} (h3 : how ≠ 3) (s : Srch) (k j : Nat) : (runS how s (k + j)).o.take (runS how s k).o.length = (runS how s k).o := by
  induction j with
  | zero => exact List.take_length
  | succ j ih =>
    have e : runS how s (k + (j + 1)) = nextS how (runS how s (k + j)) := rfl
    have hle : (runS how s k).o.length ≤ (runS how s (k + j)).o.length := by
      have := congrArg List.length ih
      rw [List.length_take] at this
      omega
    rw [e, nextS_o h3, List.take_append_of_le_length hle]
    exact ih

theorem ofL_take {how : Int} (h3 : how ≠ 3) {g : List Nat} (hr : RightG g) {k : Nat} (hk : k ≤ g.length) : (runS how (begS g) k).o = (ofL how g).take k := by
  have h1 := runS_pre h3 (begS g) k (g.length - k)
  rw [Nat.add_sub_cancel' hk, ((begS_ok hr).run (how := how) hk).olen] at h1
  exact h1.symm

theorem ofL_at {how : Int} (h3 : how ≠ 3) {g : List Nat} (hr : RightG g) {k : Nat} (hk : k < g.length) (hk' : k < (ofL how g).length) :
    (ofL how g)[k] = leastL (worthW how (runS how (begS g) k).g (runS how (begS g) k).t) (runS how (begS g) k).t := by
  have h1 := ofL_take h3 hr (show k + 1 ≤ g.length from hk)
  have h2 := ofL_take h3 hr (show k ≤ g.length by omega)
  have e : runS how (begS g) (k + 1) = nextS how (runS how (begS g) k) := rfl
  rw [e, nextS_o h3, h2, List.take_succ_eq_append_getElem hk'] at h1
  have := List.append_cancel_left h1
  injection this with this _
  exact this.symm

/-- Who is marked stands in the order so far, and the other way round. -/
theorem runS_got {how : Int} {g : List Nat} (hr : RightG g) {k : Nat} (hk : k ≤ g.length) (i : Nat) : (runS how (begS g) k).t.getD i false = true ↔ (i : Int) ∈ (runS how (begS g) k).o := by
  induction k generalizing i with
  | zero =>
    simp only [runS, begS]
    rw [List.getD_eq_getElem?_getD, List.getElem?_replicate]
    split <;> simp
  | succ k ih =>
    have hok := (begS_ok hr).run (how := how) (show k ≤ g.length by omega)
    have hl := least_ok (f := worthW how (runS how (begS g) k).g (runS how (begS g) k).t) (t := (runS how (begS g) k).t) (by have := hok.left; omega)
    have e : runS how (begS g) (k + 1) = takeS how (runS how (begS g) k) (leastL (worthW how (runS how (begS g) k).g (runS how (begS g) k).t) (runS how (begS g) k).t) := rfl
    have ih2 := ih (by omega)
    rw [e]
    generalize leastL (worthW how (runS how (begS g) k).g (runS how (begS g) k).t) (runS how (begS g) k).t = a at *
    have htl := hok.tlen
    generalize runS how (begS g) k = s at *
    have ht : (takeS how s a).t = s.t.set a.toNat true := by unfold takeS; split <;> rfl
    have hmem : ∀ x, x ∈ (takeS how s a).o ↔ x = a ∨ x ∈ s.o := fun x => by
      unfold takeS
      split
      · simp
      · simp [or_comm]
    rw [ht, getD_set (by omega), hmem, ih2]
    constructor
    · rintro (h | h)
      · exact .inr h
      · exact .inl (by omega)
    · rintro (h | h)
      · exact .inr (by omega)
      · exact .inl h

/-- What the law asks of two points of the order. -/
structure Goes (s : Srch) (f : Int → Int) (a x : Nat) : Prop where
  ta : s.t.getD a false = false
  tx : s.t.getD x false = false
  le : f a < f x ∨ (f a = f x ∧ a ≤ x)

theorem goes_ok {how : Int} (h3 : how ≠ 3) {g : List Nat} (hr : RightG g) {i k : Nat} (hik : i ≤ k) (hk : k < g.length) :
    ∃ (a x : Nat) (hi' : i < (ofL how g).length) (hk' : k < (ofL how g).length), (ofL how g)[i] = (a : Int) ∧ (ofL how g)[k] = (x : Int) ∧ a < g.length ∧ x < g.length ∧ Goes (runS how (begS g) i) (worthW how (runS how (begS g) i).g (runS how (begS g) i).t) a x ∧ runS how (begS g) (i + 1) = takeS how (runS how (begS g) i) (a : Int) := by
  have hlen := ofL_len (how := how) hr
  have hi' : i < (ofL how g).length := by omega
  have hk' : k < (ofL how g).length := by omega
  have hord := ordB_iff.1 (ofL_ord (how := how) hr)
  have hok := (begS_ok hr).run (how := how) (show i ≤ g.length by omega)
  have hl := least_ok (f := worthW how (runS how (begS g) i).g (runS how (begS g) i).t) (t := (runS how (begS g) i).t) (by have := hok.left; omega)
  have hla := leastUp_least (worthW how (runS how (begS g) i).g (runS how (begS g) i).t) (runS how (begS g) i).t (runS how (begS g) i).t.length hl.1
  have hat := ofL_at h3 hr (show i < g.length by omega) hi'
  have hx := hord.2.1 _ (List.getElem_mem hk')
  obtain ⟨x, hx2⟩ : ∃ x : Nat, (ofL how g)[k] = (x : Int) := ⟨((ofL how g)[k]).toNat, by omega⟩
  obtain ⟨a, ha⟩ : ∃ a : Nat, (a : Int) = leastL (worthW how (runS how (begS g) i).g (runS how (begS g) i).t) (runS how (begS g) i).t := ⟨_, Int.toNat_of_nonneg hl.1⟩
  have hrun : runS how (begS g) (i + 1) = takeS how (runS how (begS g) i) (leastL (worthW how (runS how (begS g) i).g (runS how (begS g) i).t) (runS how (begS g) i).t) := rfl
  have hlaE : (leastUp (worthW how (runS how (begS g) i).g (runS how (begS g) i).t) (runS how (begS g) i).t (runS how (begS g) i).t.length).1 = (a : Int) := ha.symm
  rw [← ha] at hat hl hrun
  rw [hlaE] at hla
  have htx : (runS how (begS g) i).t.getD x false = false := by
    rw [Bool.eq_false_iff]
    intro h
    rw [runS_got hr (by omega), ofL_take h3 hr (by omega)] at h
    obtain ⟨j, hj, e⟩ := List.getElem_of_mem h
    rw [List.length_take] at hj
    rw [List.getElem_take, ← hx2] at e
    exact (List.pairwise_iff_getElem.1 hord.2.2) j k (by omega) hk' (by omega) e
  have hta : (runS how (begS g) i).t.getD a false = false := by simpa using hl.2.2
  have htl := hok.tlen
  refine ⟨a, x, hi', hk', hat, hx2, by omega, by omega, ⟨hta, htx, ?_⟩, hrun⟩
  have h5 := hla.2 x (by omega) htx
  rcases h5 with h5 | ⟨h5, h6⟩
  · exact .inl h5
  · exact .inr ⟨h5, by omega⟩

end Go.Proofs.YtflibcfecnhjgaaDoor

namespace Go.Proofs.YtflibcfecnhjgaaDoor
open Go.RowKit
set_option linter.unusedVariables false
set_option linter.unusedSimpArgs false
set_option maxRecDepth 20000

/-- How many of l are points ahead of k. -/
def headN (l : List Int) (k : Nat) : Nat := l.countP fun x => decide (0 ≤ x ∧ x < (k : Int))
theorem headN_zero (l : List Int) : headN l 0 = 0 := by
  unfold headN
  rw [List.countP_eq_zero]
  intro x _
  simp
theorem headN_succ (l : List Int) (k : Nat) : headN l (k + 1) = headN l k + l.count (k : Int) := by
  unfold headN
  induction l with
  | nil => rfl
  | cons x r ih =>
    rw [List.countP_cons, List.countP_cons, List.count_cons, ih]
    have e : (if decide (0 ≤ x ∧ x < ((k + 1 : Nat) : Int)) = true then 1 else 0) = (if decide (0 ≤ x ∧ x < (k : Int)) = true then 1 else 0) + (if (x == (k : Int)) = true then 1 else 0) := by
      simp only [decide_eq_true_eq, beq_iff_eq]
      split <;> split <;> split <;> omega
    omega

theorem headN_ones {l : List Int} {k : Nat} (h : ∀ j : Nat, j < k → l.count (j : Int) = 1) : headN l k = k := by
  induction k with
  | zero => exact headN_zero l
  | succ k ih => rw [headN_succ, ih (fun j hj => h j (by omega)), h k (by omega)]

theorem headN_few {l : List Int} (hnd : ∀ a, l.count a ≤ 1) (k : Nat) : headN l k ≤ k ∧ ((∃ j : Nat, j < k ∧ l.count (j : Int) ≠ 1) → headN l k < k) := by
  induction k with
  | zero => exact ⟨by rw [headN_zero]; omega, fun ⟨j, hj, _⟩ => by omega⟩
  | succ k ih =>
    have h1 := hnd (k : Int)
    rw [headN_succ]
    refine ⟨by omega, fun ⟨j, hj, h2⟩ => ?_⟩
    by_cases hjk : j < k
    · have := ih.2 ⟨j, hjk, h2⟩
      omega
    · obtain rfl : j = k := by omega
      omega

/-- An order has each point just once. -/
theorem ord_counts {l : List Int} : ordB (l.length : Int) l = true ↔ ∀ j : Nat, j < l.length → l.count (j : Int) = 1 := by
  rw [ordB_iff]
  constructor
  · rintro ⟨_, h1, h2⟩ j hj
    have hc : ∀ a, l.count a ≤ 1 := fun a => List.nodup_iff_count.1 h2 a
    have hall : headN l l.length = l.length := by
      unfold headN
      rw [List.countP_eq_length]
      intro x hx
      simpa using h1 x hx
    by_cases h3 : l.count (j : Int) = 1
    · exact h3
    · have := (headN_few hc l.length).2 ⟨j, hj, h3⟩
      omega
  · intro h
    have hs := headN_ones h
    have hall : ∀ x ∈ l, 0 ≤ x ∧ x < (l.length : Int) := by
      unfold headN at hs
      rw [List.countP_eq_length] at hs
      intro x hx
      simpa using hs x hx
    refine ⟨rfl, hall, List.nodup_iff_count.2 fun a => ?_⟩
    by_cases ha : a ∈ l
    · have h1 := hall a ha
      have h2 := h a.toNat (by omega)
      have e : ((a.toNat : Nat) : Int) = a := by omega
      rw [e] at h2
      omega
    · rw [List.count_eq_zero.2 ha]; omega

theorem count_take {l : List Int} {m : Nat} (hm : m < l.length) (a : Int) : (l.take (m + 1)).count a = if l[m] = a then (l.take m).count a + 1 else (l.take m).count a := by
  rw [List.take_succ_eq_append_getElem hm, List.count_append, List.count_singleton]
  simp only [beq_iff_eq]
  split <;> omega

set_option maxHeartbeats 4000000 in
theorem refValid_any {n : Int} {l : List Int} {v : Value} {w : World} (hl : Ints w v l) (hlen : l.length < 100000000000) :
    Calls Tryd.prog 23 #[.int .i64 n, v] w fun e w' => e = .returned (.bool (ordB n l)) ∧ Below w.heap.size w w' := by
  obtain ⟨a, c, rfl, hla, hca⟩ := hl.form
  unfold maxLen at hca
  have HL := hide hl
  clear hl
  by_cases hn : (l.length : Int) = n
  · subst hn
    go_enter Tryd.func23, Tryd.ntmps23
    go_wp2
    go_loop [5] (fun i => ∃ k : Nat, k ≤ l.length ∧ i = .int .i64 k ∧ Hid (∀ j : Nat, j < k → l.count (j : Int) = 1)) (fun i => l.length - (intOf i).toNat)
    case atStart => exact ⟨0, by omega, rfl, hide (fun j hj => by omega)⟩
    case round =>
      obtain ⟨k, hk, rfl, HK⟩ := hrel
      by_cases hkl : k < l.length
      · go_wp2
        go_loop [6, 7] (fun t i => ∃ m : Nat, m ≤ l.length ∧ i = .int .i64 m ∧ t = .int .i64 ((l.take m).count (k : Int) : Nat)) (fun _ i => l.length - (intOf i).toNat)
        case atStart => exact ⟨0, by omega, rfl, by simp⟩
        case round =>
          obtain ⟨m, hm, rfl, rfl⟩ := hrel
          by_cases hml : m < l.length
          · obtain ⟨bl, ol, e1, q1⟩ := (unhide HL).at hml
            subst e1
            have hct := count_take hml (k : Int)
            have hle : (l.take m).count (k : Int) ≤ m := Nat.le_trans List.count_le_length (by rw [List.length_take]; omega)
            obtain ⟨C, hC⟩ : ∃ C, C = (l.take m).count (k : Int) := ⟨_, rfl⟩
            obtain ⟨C', hC'⟩ : ∃ C, C = (l.take (m + 1)).count (k : Int) := ⟨_, rfl⟩
            rw [← hC, ← hC'] at hct
            rw [← hC] at hle ⊢
            have HC' := hide hC'
            generalize l[m] = x at *
            clear hC hC'
            by_cases hx : x = (k : Int)
            · rw [if_pos hx] at hct
              subst hx
              have HCT := hide hct
              clear hct
              go_wp2
              go_round
              case rel => exact ⟨m + 1, by omega, by go_num, by rw [← unhide HC', unhide HCT]; go_num⟩
              case measure => simp [intOf]; omega
            · rw [if_neg hx] at hct
              have hne : (x == (k : Int)) = false := by simpa using hx
              have HCT := hide hct
              clear hct
              go_wp2
              go_round
              case rel => exact ⟨m + 1, by omega, by go_num, by rw [← unhide HC', unhide HCT]⟩
              case measure => simp [intOf]; omega
          · have e : l.take m = l := List.take_of_length_le (by omega)
            rw [e]
            by_cases h1 : l.count (k : Int) = 1
            · have HK2 := hide (show ∀ j : Nat, j < k + 1 → l.count (j : Int) = 1 from fun j hj => by
                rcases Nat.lt_or_ge j k with h2 | h2
                · exact unhide HK j h2
                · obtain rfl : j = k := by omega
                  exact h1)
              rw [h1]
              clear h1
              go_wp2
              go_round
              case rel => exact ⟨k + 1, by omega, by go_num, HK2⟩
              case measure => simp [intOf]; omega
            · have HF := hide (show ordB (l.length : Int) l = false from by
                rw [Bool.eq_false_iff]
                intro h
                exact h1 (ord_counts.1 h k hkl))
              have hne : (((l.count (k : Int) : Nat) : Int) != 1) = true := by simp; omega
              go_wp2
              go_ret
              exact ⟨by rw [unhide HF]; rfl, Below.refl _ _⟩
      · obtain rfl : k = l.length := by omega
        have HV := hide (ord_counts.2 (unhide HK))
        go_wp2
        go_ret
        exact ⟨by rw [unhide HV]; rfl, Below.refl _ _⟩
  · have hv : ordB n l = false := by
      rw [Bool.eq_false_iff]
      intro h
      exact hn (ordB_iff.1 h).1
    rw [hv]
    have hne : ((l.length : Int) == n) = false := by simpa using hn
    go_enter Tryd.func23, Tryd.ntmps23
    go_wp2
    go_ret
    exact ⟨rfl, Below.refl _ _⟩

end Go.Proofs.YtflibcfecnhjgaaDoor

namespace Go.Proofs.YtflibcfecnhjgaaDoor.orderGoes
open Go.RowKit Go.ChangeShapes Go.WideShapes Go.ChangeAt
set_option linter.unusedVariables false
set_option linter.unusedSimpArgs false
set_option maxRecDepth 20000

set_option maxHeartbeats 8000000 in
theorem walkF {l0 : Int} {l1 : List (List Int)} {v1 : Value} {w : World} (hT : TabD w) (i1 : Tups w v1 l1) :
    Calls Tryd.prog 6 #[.int .i64 l0, v1, .bool true] w fun e w' => e = .returned (.bool true) ∧ Below w.heap.size w w' := by
  have HT := hide (fun W (hb : Below w.heap.size w W) => hT.below hb)
  have HI := hide (fun W (hb : Below w.heap.size w W) => i1.below hb)
  have HSH := hide (shown9_any hT)
  obtain ⟨a0, c0, rfl, hl0, hc0⟩ := i1.form
  clear hT i1
  go_enter Tryd.func6, Tryd.ntmps6
  go_wp2_with fail
  refine (unhide HSH).mono ?_
  rintro e w1 ⟨rfl, hb1⟩
  have HB1 := hide hb1
  have HMD := hide (made9_any (n := l0) (unhide HI w1 hb1))
  have hz1 := hb1.size
  clear hb1 HSH HI
  go_wp2_with fail
  refine (unhide HMD).mono ?_
  rintro e w2 ⟨u, M, bs0, rfl, hM2, hok, hMl, hb2⟩
  have hN := rndN_lt (x := l0) (n := 10) (by decide)
  rw [← hMl] at hN
  have HRG := hide (refGraph_any hM2 (by omega))
  have hG := graphR_right hok (by omega)
  have HG := hide hG
  have hGl := graphR_len M
  have hC2 := MatC.of hM2
  obtain ⟨bs, hbs⟩ : ∃ bs, bs = bs0.map fun b => (b, M.length) := ⟨_, rfl⟩
  rw [← hbs] at hC2
  obtain ⟨au, cu, rfl, hul, hum⟩ := hC2.form
  have HCC := hide (fun W (hb : Below w2.heap.size w2 W) => hC2.below hb)
  have HLT := hide (fun (p : Nat × Nat) (hp : p ∈ bs) => hC2.lt hp)
  have HSS := hide (SameS.start hok)
  unfold maxLen at hum
  have HB2 := hide ((unhide HB1).trans (hb2.mono hz1))
  have hz2 := (unhide HB2).size
  have hz12 := hb2.size
  have HGO := hide (fun (i k : Nat) (hik : i ≤ k) (hk : k < M.length) => goes_ok (how := 1) (by decide) hG hik (by rw [hGl]; exact hk))
  have HOKK := hide (fun (i : Nat) (hi : i ≤ M.length) => (begS_ok hG).run (how := 1) (show i ≤ (graphR M).length by rw [hGl]; exact hi))
  have HB0 := hide (show runS 1 (begS (graphR M)) 0 = begS (graphR M) from rfl)
  have hor := ofL_ord (how := 1) hG
  rw [hGl] at hor
  have HOR := hide hor
  clear hM2 hok hMl hb2 HMD hC2 hbs hG hor
  go_wp2_with fail
  refine (unhide HRG).mono ?_
  rintro e w3 ⟨x, rfl, hown3, hb3⟩
  have HG3 := hide (Seq.of_own hown3)
  have HB3 := hide hb3
  have hB3 := (unhide HB2).trans (hb3.mono hz2)
  have HT3 := hide (unhide HT w3 hB3)
  have HBW3 := hide hB3
  have hzw3 := hB3.size
  have hz3 := hb3.size
  have HOF := hide (of_any (how := 1) (unhide HG3) (unhide HG) (unhide HT3) (by decide) (by decide))
  clear hown3 hb3 hB3 HRG HT HB2
  obtain ⟨G, hGG⟩ : ∃ G, G = graphR M := ⟨_, rfl⟩
  rw [← hGG] at HOF HGO HOKK HB0 HOR HSS HG hGl
  have HGG := hide hGG
  obtain ⟨o, hoo⟩ : ∃ o, o = ofL 1 G := ⟨_, rfl⟩
  rw [← hoo] at HOF HOR HGO
  have hol : o.length = M.length := by have := (ordB_iff.1 (unhide HOR)).1; omega
  have HOL := hide hol
  have HGL := hide hGl
  clear hGG hoo hol hGl
  go_wp2_with fail
  refine (unhide HOF).mono ?_
  rintro e w4 ⟨v4, rfl, ho4, hb4⟩
  obtain ⟨a4, c4, rfl, hc4, hm4⟩ := (Seq.of_own ho4).form
  unfold maxLen at hm4
  rw [unhide HOL] at hc4
  have hol4 : o.length < 100000000000 := by rw [unhide HOL]; omega
  have HV := hide (refValid_any (n := (M.length : Int)) (Seq.of_own ho4) hol4)
  rw [unhide HOR] at HV
  have hHO : OwnI w3.heap.size w4 (.slice a4 o.length c4) o := ho4
  have HO4 := hide hHO
  have HB4 := hide ((unhide HBW3).trans (hb4.mono hzw3))
  have HB34 := hide ((unhide HB3).trans (hb4.mono hz3))
  have hz4 := (unhide HB4).size
  clear ho4 hb4 HOF hHO hol4
  go_wp2_with fail
  refine (unhide HV).mono ?_
  rintro e w5 ⟨rfl, hb5⟩
  have hO5 : OwnI w3.heap.size w5 (.slice a4 o.length c4) o := own_below (unhide HO4) hb5
  have HO5 := hide hO5
  have HC5 := hide (unhide HCC w5 ((unhide HB34).trans (hb5.mono (unhide HB34).size)))
  have HB5 := hide ((unhide HB4).trans (hb5.mono hz4))
  have h25 : w2.heap.size ≤ w3.heap.size := hz3
  have h35 : w2.heap.size ≤ w5.heap.size := ((unhide HB34).trans (hb5.mono (unhide HB34).size)).size
  rw [unhide HOL] at HO5 ⊢
  clear hO5 hb5 HV HO4 HB4 HB34 HCC
  go_wp2
  go_loopw [12] (fun i wr => ∃ (k : Nat) (M' : List (List Bool)), k ≤ M.length ∧ i = .int .i64 k ∧ MatC w1.heap.size wr (.slice au M.length cu) M.length M' bs ∧ Hid (SameS (runS 1 (begS G) k) M') ∧ OwnI w3.heap.size wr (.slice a4 M.length c4) o ∧ Below w.heap.size w wr ∧ w2.heap.size ≤ wr.heap.size) (fun i _ => M.length - (intOf i).toNat)
  case atStart => exact ⟨0, M, by omega, rfl, unhide HC5, hide (by rw [unhide HB0]; exact unhide HSS), unhide HO5, unhide HB5, h35⟩
  case round =>
    clear HC5 HO5 HB5 h35
    obtain ⟨i, M', hi, rfl, hC, HS, ho, hbel, h2r⟩ := hrel
    rename World => wr
    have hzr := hbel.size
    have hM'l : M'.length = M.length := by rw [(unhide HS).len, (unhide HOKK i hi).glen, unhide HGL]
    have HML := hide hM'l
    by_cases hin : i < M.length
    · have hM' : MatOk M' := (unhide HS).ok
      have HNB := hide (fun W (a : Int) (hb : Below wr.heap.size wr W) => refNbC_any (a := a) (show MatC w1.heap.size W (.slice au M.length cu) M'.length M' bs from by rw [hM'l]; exact hC.below hb) (by omega))
      have HMS := hide (fun W (a : Int) (hb : Below wr.heap.size wr W) => refMissing_any (a := a) (show MatC w1.heap.size W (.slice au M.length cu) M'.length M' bs from by rw [hM'l]; exact hC.below hb) hM' (by omega))
      have HOW := hide (fun W (hb : Below wr.heap.size wr W) => (Seq.of_own (own_below ho hb)))
      have HALL := hide (And.intro hC (And.intro ho hbel))
      clear hC ho hbel hM'l
      go_wp2
      go_loopw [13] (fun k wq => ∃ q : Nat, q ≤ M.length ∧ i < q ∧ k = .int .i64 q ∧ Below wr.heap.size wr wq) (fun k _ => M.length - (intOf k).toNat)
      case atStart => exact ⟨i + 1, by omega, by omega, by go_num, Below.refl _ _⟩
      case round =>
        obtain ⟨q, hq, hiq, rfl, hbq⟩ := hrel
        rename World => wq
        have hzq := hbq.size
        by_cases hqn : q < M.length
        · obtain ⟨a, x, hi', hk', ha, hx, hal, hxl, hgo, _⟩ := unhide HGO i q (by omega) hqn
          have hta := hgo.ta
          have htx := hgo.tx
          have hle := hgo.le
          have hwa := (unhide HS).worth hta true
          have hwx := (unhide HS).worth htx true
          rw [show (if true = true then (1 : Int) else 2) = 1 from rfl] at hwa hwx
          obtain ⟨b4, o4, e4, q1⟩ := (unhide HOW wq hbq).at hi'
          subst e4
          obtain ⟨_, _, e4, q2⟩ := (unhide HOW wq hbq).at hk'
          cases e4
          rw [ha] at q1
          rw [hx] at q2
          have HQ := hide (fun W (hb : Below wq.heap.size wq W) => And.intro (Below.cell_of hb q1) (Below.cell_of hb q2))
          rw [← hwa, ← hwx] at hle
          have hle2 : Hid ((docW true M' (a : Int) : Nat) < docW true M' (x : Int) ∨ ((docW true M' (a : Int) : Nat) = docW true M' (x : Int) ∧ a ≤ x)) := hide (by omega)
          have H1 := hide (unhide HNB wq (a : Int) hbq)
          have H2 := hide (fun W (hb : Below wq.heap.size wq W) => unhide HNB W (x : Int) (hbq.trans (hb.mono hzq)))
          have H3 := hide (fun W (hb : Below wq.heap.size wq W) => unhide HMS W (a : Int) (hbq.trans (hb.mono hzq)))
          have H4 := hide (fun W (hb : Below wq.heap.size wq W) => unhide HMS W (x : Int) (hbq.trans (hb.mono hzq)))
          have HBQ := hide hbq
          have hiI : (i : Int) < (M.length : Int) := by omega
          have hqI : (q : Int) < (M.length : Int) := by omega
          clear hle hwa hwx ha hx hgo hta htx hbq
          unfold docW at hle2
          rw [if_pos rfl, if_pos rfl] at hle2
          go_wp2_with fail
          refine (unhide H1).mono ?_
          rintro e w6 ⟨vn, rfl, hn6, hb6⟩
          obtain ⟨an, cn, rfl, _, _⟩ := (Seq.of_own hn6).form
          obtain ⟨q3, q4⟩ := unhide HQ w6 hb6
          have HB6 := hide hb6
          have hz6 := hb6.size
          have H26 := hide (unhide H2 w6 hb6)
          clear hn6 hb6 H1 H2 q1 q2
          go_wp2_with fail
          refine (unhide H26).mono ?_
          rintro e w7 ⟨vx, rfl, hn7, hb7⟩
          obtain ⟨ax7, cx7, rfl, _, _⟩ := (Seq.of_own hn7).form
          have HB7 := hide ((unhide HB6).trans (hb7.mono hz6))
          obtain ⟨q5, q6⟩ := unhide HQ w7 (unhide HB7)
          have hz7 := (unhide HB7).size
          clear hn7 hb7 H26 q3 q4
          have H37 := hide (unhide H3 w7 (unhide HB7))
          clear H3
          go_wp2_with fail
          refine (unhide H37).mono ?_
          rintro e w8 ⟨rfl, hb8⟩
          have HB8 := hide ((unhide HB7).trans (hb8.mono hz7))
          obtain ⟨q7, q8⟩ := unhide HQ w8 (unhide HB8)
          have hz8 := (unhide HB8).size
          have H48 := hide (unhide H4 w8 (unhide HB8))
          clear hb8 H37 H4 q5 q6
          go_wp2_with fail
          refine (unhide H48).mono ?_
          rintro e w9 ⟨rfl, hb9⟩
          have HB9 := hide ((unhide HB8).trans (hb9.mono hz8))
          obtain ⟨r1, r2⟩ := unhide HQ w9 (unhide HB9)
          have HBF := hide ((unhide HBQ).trans ((unhide HB9).mono hzq))
          clear hb9 H48 q7 q8 HQ HB6 HB7 HB8 HB9
          generalize missN (graphR M') (a : Int) = fa at *
          generalize missN (graphR M') (x : Int) = fx at *
          rcases unhide hle2 with h1 | ⟨h1, h2⟩
          · have t1 : decide (fx < fa) = false := by simp; omega
            have t2 : ((fx : Int) == (fa : Int)) = false := by simp; omega
            have t1' : ¬ (fx : Int) < (fa : Int) := by omega
            clear hle2 h1
            go_wp2
            go_quiet (fail)
            go_wp2
            go_roundw
            case rel => exact ⟨q + 1, by omega, by omega, by go_num, Below.drewN1 (unhide HBF) _⟩
            case measure => simp [intOf]; omega
          · subst h1
            have t1' : ¬ (x : Int) < (a : Int) := by omega
            clear hle2 h2
            go_wp2
            go_quiet (fail)
            go_wp2
            go_roundw
            case rel => exact ⟨q + 1, by omega, by omega, by go_num, Below.drewN1 (unhide HBF) _⟩
            case measure => simp [intOf]; omega
        · obtain rfl : q = M.length := by omega
          obtain ⟨a, _, hi', _, ha, _, hal, _, hgo, hrun⟩ := unhide HGO i i (by omega) hin
          have hta := hgo.ta
          have hall := unhide HALL
          have hCq : MatC w1.heap.size wq (.slice au M.length cu) M'.length M' bs := by rw [unhide HML]; exact hall.1.below hbq
          have HOQ := hide (own_below hall.2.1 hbq)
          have HBQ := hide (hall.2.2.trans (hbq.mono hzr))
          have hGOK := (unhide HOKK i hi)
          have HSG := hide (fun M'' (h : GoOk M' M'' a) => (show SameS (runS 1 (begS G) (i + 1)) M'' from by rw [hrun]; exact (unhide HS).go hGOK.right h (by rw [hGOK.glen]; omega) hta (by decide)))
          have h1q : w1.heap.size ≤ wq.heap.size := by omega
          have HGG2 := hide (refGo_any hCq hM' (by rw [unhide HML]; omega) (by rw [unhide HML, ← unhide HGL]; exact hal : a < M'.length) h1q)
          rw [unhide HML] at HGG2
          obtain ⟨b4, o4, e4, q1⟩ := (Seq.of_own (unhide HOQ)).at hi'
          subst e4
          rw [ha] at q1
          have hiI : (i : Int) < (M.length : Int) := by omega
          have h2q : w2.heap.size ≤ wq.heap.size := by omega
          clear hall hCq hrun hgo hta hGOK HNB HMS HALL hbq ha
          go_wp2_with fail
          refine (unhide HGG2).mono ?_
          rintro e w8 ⟨M2, rfl, hC8, hgo8, hk8⟩
          have ho8 := own_keeps (unhide HOQ) hk8 (fun g hg ⟨p, hp, e⟩ => by
            have h5 := ((unhide HOQ).lt g hg).1
            have h6 := (unhide HLT p hp).2
            omega)
          have hb8 : Below w1.heap.size wq w8 := hk8.to (fun g ⟨p, hp, e⟩ => by rw [← e]; exact (unhide HLT p hp).1) h1q
          have HF := hide (show MatC w1.heap.size w8 (.slice au M.length cu) M.length M2 bs ∧ SameS (runS 1 (begS G) (i + 1)) M2 ∧ OwnI w3.heap.size w8 (.slice (some ⟨b4, o4, none⟩) M.length c4) o ∧ Below w.heap.size w w8 ∧ w2.heap.size ≤ w8.heap.size from
            ⟨hC8, unhide HSG M2 hgo8, ho8, (unhide HBQ).trans (hb8.mono hz1), by have := hk8.size; omega⟩)
          clear hC8 hgo8 hk8 ho8 hb8 HSG HOQ HBQ HGG2 HS
          go_wp2
          go_roundw
          case rel => exact ⟨i + 1, M2, by omega, by go_num, (unhide HF).1, hide (unhide HF).2.1, (unhide HF).2.2.1, (unhide HF).2.2.2.1, (unhide HF).2.2.2.2⟩
          case measure => simp [intOf]; omega
    · obtain rfl : i = M.length := by omega
      clear hC ho
      go_wp2
      go_ret
      exact ⟨rfl, hbel⟩

set_option maxHeartbeats 8000000 in
theorem walkD {l0 : Int} {l1 : List (List Int)} {v1 : Value} {w : World} (hT : TabD w) (i1 : Tups w v1 l1) :
    Calls Tryd.prog 6 #[.int .i64 l0, v1, .bool false] w fun e w' => e = .returned (.bool true) ∧ Below w.heap.size w w' := by
  have HT := hide (fun W (hb : Below w.heap.size w W) => hT.below hb)
  have HI := hide (fun W (hb : Below w.heap.size w W) => i1.below hb)
  have HSH := hide (shown9_any hT)
  obtain ⟨a0, c0, rfl, hl0, hc0⟩ := i1.form
  clear hT i1
  go_enter Tryd.func6, Tryd.ntmps6
  go_wp2_with fail
  refine (unhide HSH).mono ?_
  rintro e w1 ⟨rfl, hb1⟩
  have HB1 := hide hb1
  have HMD := hide (made9_any (n := l0) (unhide HI w1 hb1))
  have hz1 := hb1.size
  clear hb1 HSH HI
  go_wp2_with fail
  refine (unhide HMD).mono ?_
  rintro e w2 ⟨u, M, bs0, rfl, hM2, hok, hMl, hb2⟩
  have hN := rndN_lt (x := l0) (n := 10) (by decide)
  rw [← hMl] at hN
  have HRG := hide (refGraph_any hM2 (by omega))
  have hG := graphR_right hok (by omega)
  have HG := hide hG
  have hGl := graphR_len M
  have hC2 := MatC.of hM2
  obtain ⟨bs, hbs⟩ : ∃ bs, bs = bs0.map fun b => (b, M.length) := ⟨_, rfl⟩
  rw [← hbs] at hC2
  obtain ⟨au, cu, rfl, hul, hum⟩ := hC2.form
  have HCC := hide (fun W (hb : Below w2.heap.size w2 W) => hC2.below hb)
  have HLT := hide (fun (p : Nat × Nat) (hp : p ∈ bs) => hC2.lt hp)
  have HSS := hide (SameS.start hok)
  unfold maxLen at hum
  have HB2 := hide ((unhide HB1).trans (hb2.mono hz1))
  have hz2 := (unhide HB2).size
  have hz12 := hb2.size
  have HGO := hide (fun (i k : Nat) (hik : i ≤ k) (hk : k < M.length) => goes_ok (how := 2) (by decide) hG hik (by rw [hGl]; exact hk))
  have HOKK := hide (fun (i : Nat) (hi : i ≤ M.length) => (begS_ok hG).run (how := 2) (show i ≤ (graphR M).length by rw [hGl]; exact hi))
  have HB0 := hide (show runS 2 (begS (graphR M)) 0 = begS (graphR M) from rfl)
  have hor := ofL_ord (how := 2) hG
  rw [hGl] at hor
  have HOR := hide hor
  clear hM2 hok hMl hb2 HMD hC2 hbs hG hor
  go_wp2_with fail
  refine (unhide HRG).mono ?_
  rintro e w3 ⟨x, rfl, hown3, hb3⟩
  have HG3 := hide (Seq.of_own hown3)
  have HB3 := hide hb3
  have hB3 := (unhide HB2).trans (hb3.mono hz2)
  have HT3 := hide (unhide HT w3 hB3)
  have HBW3 := hide hB3
  have hzw3 := hB3.size
  have hz3 := hb3.size
  have HOF := hide (of_any (how := 2) (unhide HG3) (unhide HG) (unhide HT3) (by decide) (by decide))
  clear hown3 hb3 hB3 HRG HT HB2
  obtain ⟨G, hGG⟩ : ∃ G, G = graphR M := ⟨_, rfl⟩
  rw [← hGG] at HOF HGO HOKK HB0 HOR HSS HG hGl
  have HGG := hide hGG
  obtain ⟨o, hoo⟩ : ∃ o, o = ofL 2 G := ⟨_, rfl⟩
  rw [← hoo] at HOF HOR HGO
  have hol : o.length = M.length := by have := (ordB_iff.1 (unhide HOR)).1; omega
  have HOL := hide hol
  have HGL := hide hGl
  clear hGG hoo hol hGl
  go_wp2_with fail
  refine (unhide HOF).mono ?_
  rintro e w4 ⟨v4, rfl, ho4, hb4⟩
  obtain ⟨a4, c4, rfl, hc4, hm4⟩ := (Seq.of_own ho4).form
  unfold maxLen at hm4
  rw [unhide HOL] at hc4
  have hol4 : o.length < 100000000000 := by rw [unhide HOL]; omega
  have HV := hide (refValid_any (n := (M.length : Int)) (Seq.of_own ho4) hol4)
  rw [unhide HOR] at HV
  have hHO : OwnI w3.heap.size w4 (.slice a4 o.length c4) o := ho4
  have HO4 := hide hHO
  have HB4 := hide ((unhide HBW3).trans (hb4.mono hzw3))
  have HB34 := hide ((unhide HB3).trans (hb4.mono hz3))
  have hz4 := (unhide HB4).size
  clear ho4 hb4 HOF hHO hol4
  go_wp2_with fail
  refine (unhide HV).mono ?_
  rintro e w5 ⟨rfl, hb5⟩
  have hO5 : OwnI w3.heap.size w5 (.slice a4 o.length c4) o := own_below (unhide HO4) hb5
  have HO5 := hide hO5
  have HC5 := hide (unhide HCC w5 ((unhide HB34).trans (hb5.mono (unhide HB34).size)))
  have HB5 := hide ((unhide HB4).trans (hb5.mono hz4))
  have h25 : w2.heap.size ≤ w3.heap.size := hz3
  have h35 : w2.heap.size ≤ w5.heap.size := ((unhide HB34).trans (hb5.mono (unhide HB34).size)).size
  rw [unhide HOL] at HO5 ⊢
  clear hO5 hb5 HV HO4 HB4 HB34 HCC
  go_wp2
  go_loopw [12] (fun i wr => ∃ (k : Nat) (M' : List (List Bool)), k ≤ M.length ∧ i = .int .i64 k ∧ MatC w1.heap.size wr (.slice au M.length cu) M.length M' bs ∧ Hid (SameS (runS 2 (begS G) k) M') ∧ OwnI w3.heap.size wr (.slice a4 M.length c4) o ∧ Below w.heap.size w wr ∧ w2.heap.size ≤ wr.heap.size) (fun i _ => M.length - (intOf i).toNat)
  case atStart => exact ⟨0, M, by omega, rfl, unhide HC5, hide (by rw [unhide HB0]; exact unhide HSS), unhide HO5, unhide HB5, h35⟩
  case round =>
    clear HC5 HO5 HB5 h35
    obtain ⟨i, M', hi, rfl, hC, HS, ho, hbel, h2r⟩ := hrel
    rename World => wr
    have hzr := hbel.size
    have hM'l : M'.length = M.length := by rw [(unhide HS).len, (unhide HOKK i hi).glen, unhide HGL]
    have HML := hide hM'l
    by_cases hin : i < M.length
    · have hM' : MatOk M' := (unhide HS).ok
      have HNB := hide (fun W (a : Int) (hb : Below wr.heap.size wr W) => refNbC_any (a := a) (show MatC w1.heap.size W (.slice au M.length cu) M'.length M' bs from by rw [hM'l]; exact hC.below hb) (by omega))
      have HMS := hide (fun W (a : Int) (hb : Below wr.heap.size wr W) => refMissing_any (a := a) (show MatC w1.heap.size W (.slice au M.length cu) M'.length M' bs from by rw [hM'l]; exact hC.below hb) hM' (by omega))
      have HOW := hide (fun W (hb : Below wr.heap.size wr W) => (Seq.of_own (own_below ho hb)))
      have HALL := hide (And.intro hC (And.intro ho hbel))
      clear hC ho hbel hM'l
      go_wp2
      go_loopw [13] (fun k wq => ∃ q : Nat, q ≤ M.length ∧ i < q ∧ k = .int .i64 q ∧ Below wr.heap.size wr wq) (fun k _ => M.length - (intOf k).toNat)
      case atStart => exact ⟨i + 1, by omega, by omega, by go_num, Below.refl _ _⟩
      case round =>
        obtain ⟨q, hq, hiq, rfl, hbq⟩ := hrel
        rename World => wq
        have hzq := hbq.size
        by_cases hqn : q < M.length
        · obtain ⟨a, x, hi', hk', ha, hx, hal, hxl, hgo, _⟩ := unhide HGO i q (by omega) hqn
          have hta := hgo.ta
          have htx := hgo.tx
          have hle := hgo.le
          have hwa := (unhide HS).worth hta false
          have hwx := (unhide HS).worth htx false
          rw [show (if false = true then (1 : Int) else 2) = 2 from rfl] at hwa hwx
          obtain ⟨b4, o4, e4, q1⟩ := (unhide HOW wq hbq).at hi'
          subst e4
          obtain ⟨_, _, e4, q2⟩ := (unhide HOW wq hbq).at hk'
          cases e4
          rw [ha] at q1
          rw [hx] at q2
          have HQ := hide (fun W (hb : Below wq.heap.size wq W) => And.intro (Below.cell_of hb q1) (Below.cell_of hb q2))
          rw [← hwa, ← hwx] at hle
          have hle2 : Hid ((docW false M' (a : Int) : Nat) < docW false M' (x : Int) ∨ ((docW false M' (a : Int) : Nat) = docW false M' (x : Int) ∧ a ≤ x)) := hide (by omega)
          have H1 := hide (unhide HNB wq (a : Int) hbq)
          have H2 := hide (fun W (hb : Below wq.heap.size wq W) => unhide HNB W (x : Int) (hbq.trans (hb.mono hzq)))
          have H3 := hide (fun W (hb : Below wq.heap.size wq W) => unhide HMS W (a : Int) (hbq.trans (hb.mono hzq)))
          have H4 := hide (fun W (hb : Below wq.heap.size wq W) => unhide HMS W (x : Int) (hbq.trans (hb.mono hzq)))
          have HBQ := hide hbq
          have hiI : (i : Int) < (M.length : Int) := by omega
          have hqI : (q : Int) < (M.length : Int) := by omega
          clear hle hwa hwx ha hx hgo hta htx hbq
          unfold docW at hle2
          rw [if_neg (by decide), if_neg (by decide)] at hle2
          go_wp2_with fail
          refine (unhide H1).mono ?_
          rintro e w6 ⟨vn, rfl, hn6, hb6⟩
          obtain ⟨an, cn, rfl, _, _⟩ := (Seq.of_own hn6).form
          obtain ⟨q3, q4⟩ := unhide HQ w6 hb6
          have HB6 := hide hb6
          have hz6 := hb6.size
          have H26 := hide (unhide H2 w6 hb6)
          clear hn6 hb6 H1 H2 q1 q2
          go_wp2_with fail
          refine (unhide H26).mono ?_
          rintro e w7 ⟨vx, rfl, hn7, hb7⟩
          obtain ⟨ax7, cx7, rfl, _, _⟩ := (Seq.of_own hn7).form
          have HB7 := hide ((unhide HB6).trans (hb7.mono hz6))
          obtain ⟨q5, q6⟩ := unhide HQ w7 (unhide HB7)
          have hz7 := (unhide HB7).size
          clear hn7 hb7 H26 q3 q4
          obtain ⟨r1, r2⟩ := unhide HQ w7 (unhide HB7)
          have HBF := hide ((unhide HBQ).trans ((unhide HB7).mono hzq))
          clear HQ HB6 HB7 q5 q6 H3 H4
          generalize (nbL (graphR M') (a : Int)) = La at *
          generalize (nbL (graphR M') (x : Int)) = Lx at *
          generalize La.length = fa at *
          generalize Lx.length = fx at *
          rcases unhide hle2 with h1 | ⟨h1, h2⟩
          · have t1 : decide (fx < fa) = false := by simp; omega
            have t2 : ((fx : Int) == (fa : Int)) = false := by simp; omega
            have t1' : ¬ (fx : Int) < (fa : Int) := by omega
            clear hle2 h1
            go_wp2
            go_quiet (fail)
            go_wp2
            go_roundw
            case rel => exact ⟨q + 1, by omega, by omega, by go_num, Below.drewN1 (unhide HBF) _⟩
            case measure => simp [intOf]; omega
          · subst h1
            have t1' : ¬ (x : Int) < (a : Int) := by omega
            clear hle2 h2
            go_wp2
            go_quiet (fail)
            go_wp2
            go_roundw
            case rel => exact ⟨q + 1, by omega, by omega, by go_num, Below.drewN1 (unhide HBF) _⟩
            case measure => simp [intOf]; omega
        · obtain rfl : q = M.length := by omega
          obtain ⟨a, _, hi', _, ha, _, hal, _, hgo, hrun⟩ := unhide HGO i i (by omega) hin
          have hta := hgo.ta
          have hall := unhide HALL
          have hCq : MatC w1.heap.size wq (.slice au M.length cu) M'.length M' bs := by rw [unhide HML]; exact hall.1.below hbq
          have HOQ := hide (own_below hall.2.1 hbq)
          have HBQ := hide (hall.2.2.trans (hbq.mono hzr))
          have hGOK := (unhide HOKK i hi)
          have HSG := hide (fun M'' (h : GoOk M' M'' a) => (show SameS (runS 2 (begS G) (i + 1)) M'' from by rw [hrun]; exact (unhide HS).go hGOK.right h (by rw [hGOK.glen]; omega) hta (by decide)))
          have h1q : w1.heap.size ≤ wq.heap.size := by omega
          have HGG2 := hide (refGo_any hCq hM' (by rw [unhide HML]; omega) (by rw [unhide HML, ← unhide HGL]; exact hal : a < M'.length) h1q)
          rw [unhide HML] at HGG2
          obtain ⟨b4, o4, e4, q1⟩ := (Seq.of_own (unhide HOQ)).at hi'
          subst e4
          rw [ha] at q1
          have hiI : (i : Int) < (M.length : Int) := by omega
          have h2q : w2.heap.size ≤ wq.heap.size := by omega
          clear hall hCq hrun hgo hta hGOK HNB HMS HALL hbq ha
          go_wp2_with fail
          refine (unhide HGG2).mono ?_
          rintro e w8 ⟨M2, rfl, hC8, hgo8, hk8⟩
          have ho8 := own_keeps (unhide HOQ) hk8 (fun g hg ⟨p, hp, e⟩ => by
            have h5 := ((unhide HOQ).lt g hg).1
            have h6 := (unhide HLT p hp).2
            omega)
          have hb8 : Below w1.heap.size wq w8 := hk8.to (fun g ⟨p, hp, e⟩ => by rw [← e]; exact (unhide HLT p hp).1) h1q
          have HF := hide (show MatC w1.heap.size w8 (.slice au M.length cu) M.length M2 bs ∧ SameS (runS 2 (begS G) (i + 1)) M2 ∧ OwnI w3.heap.size w8 (.slice (some ⟨b4, o4, none⟩) M.length c4) o ∧ Below w.heap.size w w8 ∧ w2.heap.size ≤ w8.heap.size from
            ⟨hC8, unhide HSG M2 hgo8, ho8, (unhide HBQ).trans (hb8.mono hz1), by have := hk8.size; omega⟩)
          clear hC8 hgo8 hk8 ho8 hb8 HSG HOQ HBQ HGG2 HS
          go_wp2
          go_roundw
          case rel => exact ⟨i + 1, M2, by omega, by go_num, (unhide HF).1, hide (unhide HF).2.1, (unhide HF).2.2.1, (unhide HF).2.2.2.1, (unhide HF).2.2.2.2⟩
          case measure => simp [intOf]; omega
    · obtain rfl : i = M.length := by omega
      clear hC ho
      go_wp2
      go_ret
      exact ⟨rfl, hbel⟩

theorem walk {l0 : Int} {v0 : Value} {l1 : List (List Int)} {v1 : Value} {l2 : Bool} {v2 : Value} {w : World} (hT : TabD w) (i0 : v0 = .int .i64 l0) (m0 : InI64 l0) (i1 : Tups w v1 l1) (m1 : ∀ l ∈ l1, ∀ n ∈ l, InI64 n) (i2 : v2 = .bool l2) :
    Calls Tryd.prog 6 #[v0, v1, v2] w fun e w' => e = .returned (.bool true) ∧ Below w.heap.size w w' := by
  subst i0 i2
  cases l2 with
  | true => exact walkF hT i1
  | false => exact walkD hT i1

set_option maxRecDepth 100000 in
theorem lifted (os : Os) (started : os.Started) (H : Type) (enc : TypeId × Value → H) :
    ReturnsInHanded {} Tryd.checked os 6 .any (fun w args => (Rows.orderGoesSpec.pre enc Tryd.prog Tryd.f6 [] false w args ∧ laidMetH Tryd.prog laidIn w) ∧ sizedMet enc Tryd.prog Tryd.f6 (OpenSpec.ofChange Rows.orderGoesSpec) false w args)
      (Rows.orderGoesSpec.post enc Tryd.prog Tryd.f6 false true false false) := by
  refine returnsInHanded_of_change_and (C := Tryd.checked) (X := fun w _ => laidMetH Tryd.prog laidIn w) (fun _ _ _ hh h => h.of_heap hh) own started (by kernel_rfl) Tryd.func6
    (ChangeSpec.witness_shaped (enc := enc) (C := Tryd.checked) (os := os) (X := fun w _ => laidMetH Tryd.prog laidIn w) false (World.doorLaid Tryd.prog doorN os) #[.int .i64 0, .slice none 0 0, .bool false] 8 rfl (World.shaped_of_RefB (by kernel_rfl) (by kernel_rfl)) (by kernel_rfl) (by kernel_rfl) (by kernel_rfl) (door_met os _)) ?_
  intro W base args ds gs before hval0 hW _ _ hL _
  have hval : ∀ (j : Nat) t v, Tryd.f6.params[j]? = some t → args[j]? = some v → Value.okWide Tryd.prog W .any base t v := hval0
  have hW' := hW
  obtain ⟨p, q, hA0, hV, rfl, hfz, hnd⟩ := hW
  have hA : DataW.TrodAll enc Tryd.prog W 0 (fun _ => true) true Tryd.f6.params.toList args.toList ds p := hA0
  rw [Tryd.params6] at hA hval
  obtain ⟨v0, vs0, d0, ds0, p0, q0, hargs, rfl, rfl, h0, r0⟩ := trodAll_cons hA
  obtain ⟨v1, vs1, d1, ds1, p1, q1, rfl, rfl, rfl, h1, r1⟩ := trodAll_cons r0
  obtain ⟨v2, vs2, d2, ds2, p2, q2, rfl, rfl, rfl, h2, r2⟩ := trodAll_cons r1
  obtain ⟨rfl, rfl, rfl⟩ := trodAll_nil r2
  obtain rfl : args = #[v0, v1, v2] := by cases args; simp_all
  obtain ⟨rfl, rfl⟩ := trodVars_none hV
  obtain ⟨l0, i0, m0⟩ := read_int h0 (hval 0 3 v0 rfl rfl)
  have lt0 : ∀ x ∈ p0, x.block < W.heap.size := by obtain ⟨m, hm⟩ := h0; exact DataW.trod_lt m _ _ _ hm
  obtain ⟨l1, i1, m1⟩ := read_tups h1 (okWide_slice Tryd.underlying22 (hval 1 22 v1 rfl rfl))
  have lt1 : ∀ x ∈ p1, x.block < W.heap.size := by obtain ⟨m, hm⟩ := h1; exact DataW.trod_lt m _ _ _ hm
  obtain ⟨l2, i2⟩ := read_bool h2 (hval 2 4 v2 rfl rfl)
  have lt2 : ∀ x ∈ p2, x.block < W.heap.size := by obtain ⟨m, hm⟩ := h2; exact DataW.trod_lt m _ _ _ hm
  clear hA0 hval0
  refine (walk (tabs_of hL) i0 m0 i1 m1 i2).mono fun e W' ⟨he, bel⟩ => ?_
  subst he
  exact ⟨_, rfl, _, _, _, [], _, [], hW', trodAll_mk1 (shut_bool Tryd.underlying4 _), (trodAll_cons_mk (Below.trod laidOut (by kernel_rfl) (of_decide_eq_true (by kernel_rfl)) h0 bel lt0) (trodAll_cons_mk (Below.trod laidOut (by kernel_rfl) (of_decide_eq_true (by kernel_rfl)) h1 bel lt1) (trodAll_cons_mk (Below.trod laidOut (by kernel_rfl) (of_decide_eq_true (by kernel_rfl)) h2 bel lt2) trodAll_mk0))), rfl, bel.frame _, fun h => by cases h⟩

theorem over : Rows.orderGoesRow.holds Tryd.pinned (OpenSpec.ofChange Rows.orderGoesSpec) :=
  OpenClaim.holds_of_wide 6 Tryd.f6 rfl rfl rfl rfl rfl rfl rfl ⟨rfl, rfl, rfl, rfl, rfl⟩ rfl rfl rfl rfl rfl (by kernel_rfl) Tryd.func6 (by kernel_rfl)
    (of_decide_eq_true (by kernel_rfl)) (by unfold Func.isWrapper; first | (rw [if_pos (by decide +kernel)]; kernel_rfl) | (rw [if_neg (by decide +kernel)]; exact ⟨rfl, rfl⟩))
    (fun os started H enc _ => lifted os started H enc)

/-- The statement: the tied card. -/
theorem proved : Rows.OrderGoesCardSaid :=
  Claim7.holds_tied_plain_at .later [] [.data] true (true, "8f2d994e21dbfdcf108bf958dff57fcf320e77d1f440c1e17c51dcce542cbe3a") false
    over (fun _ h => by cases h) (by kernel_rfl) (fun _ h => by cases h) orderGoes_row_tie rfl ⟨rfl, rfl⟩ (by kernel_rfl) rfl
    (fun f fn hf hfn => by
      obtain rfl : f = 6 := Option.some.inj ((show Tryd.prog.funcNamed "arborist/arboristlaw09.OrderGoes" = some 6 by kernel_rfl).symm.trans hf) |>.symm
      obtain rfl : fn = Tryd.f6 := (Option.some.inj (Tryd.func6.symm.trans hfn)).symm
      exact ⟨by kernel_rfl, fun j t ht => by
        rw [Tryd.params6] at ht
        have hm : t ∈ [3, 22, 4] := by simpa using Array.mem_of_getElem? ht
        have hall : ([3, 22, 4].all fun u => !Tryd.prog.wantsStandIn u) = true := by kernel_rfl
        exact (show Tryd.prog.wantsStandIn t = false by simpa using List.all_eq_true.1 hall t hm)⟩)
    (by kernel_rfl)

#print axioms proved
end Go.Proofs.YtflibcfecnhjgaaDoor.orderGoes
