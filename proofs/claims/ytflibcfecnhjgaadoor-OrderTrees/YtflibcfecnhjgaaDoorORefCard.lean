/-
  The contracts of the document's card, and Of.
-/
import Derived.Test.YtflibcfecnhjgaaDoorORefOf
namespace Go.Proofs.YtflibcfecnhjgaaDoor
open Go.RowKit
set_option linter.unusedVariables false
set_option linter.unusedSimpArgs false
set_option maxRecDepth 20000

theorem runS3_g (s : Srch) (k : Nat) : (runS 3 s k).g = s.g := by
  induction k with
  | zero => rfl
  | succ k ih =>
    show (takeS 3 (runS 3 s k) _).g = s.g
    exact ih

/-- How many of those ahead of m are beside v, and chosen. -/
def cntUp (g : List Nat) (t : List Bool) (v m : Nat) : Nat := ((List.range m).filter fun k => besB g v k && t.getD k false).length
theorem cntUp_succ (g : List Nat) (t : List Bool) (v m : Nat) : cntUp g t v (m + 1) = if (besB g v m && t.getD m false) = true then cntUp g t v m + 1 else cntUp g t v m := by
  unfold cntUp
  rw [List.range_succ, List.filter_append, List.length_append, List.filter_cons, List.filter_nil]
  by_cases h : (besB g v m && t.getD m false) = true
  · rw [if_pos h, if_pos h]; rfl
  · rw [if_neg h, if_neg h]; rfl
theorem cntUp_le (g : List Nat) (t : List Bool) (v m : Nat) : cntUp g t v m ≤ m := Nat.le_trans (List.length_filter_le _ _) (by simp)
theorem cntUp_all {g : List Nat} {t : List Bool} {v : Nat} (hv : v < g.length) : cntUp g t v g.length = (besT g t (v : Int) true).length := by
  unfold cntUp besT nbL
  rw [if_pos (by rw [ptB_nat]; simpa using hv), List.filter_map, List.length_map, List.filter_filter]
  simp only [Int.toNat_natCast]
  congr 1
  refine List.filter_congr (fun k hk => ?_)
  simp only [Function.comp]
  have : (Int.ofNat k).toNat = k := rfl
  rw [this]
  cases t.getD k false <;> simp

theorem cardW_eq {g : List Nat} {t : List Bool} {v : Nat} (hv : v < g.length) : cardW g t (v : Int) = -(cntUp g t v g.length : Int) := by
  rw [cntUp_all hv]; rfl

set_option maxHeartbeats 8000000 in
theorem refCard_any {B0 : Nat} {M : List (List Bool)} {bs : List (Nat × Nat)} {v : Value} {w : World} (hM : MatC B0 w v M.length M bs) (hm : MatOk M) (hl : M.length ≤ 40) :
    Calls Tryd.prog 47 #[v] w fun e w' => ∃ u, e = .returned u ∧ OwnI w.heap.size w' u (ofL 3 (graphR M)) ∧ Below w.heap.size w w' := by
  have HM := hide (fun W (hb : Below w.heap.size w W) => hM.below hb)
  have hr := graphR_right hm hl
  have hgl := graphR_len M
  have HAT := hide (fun x y => graphR_at hm.wide x y)
  have HOK := hide (fun k (hk : k ≤ (graphR M).length) => (begS_ok hr).run (how := 3) hk)
  have HSU := hide (fun k => (show runS 3 (begS (graphR M)) (k + 1) = nextS 3 (runS 3 (begS (graphR M)) k) from rfl))
  have HOF := hide (show ofL 3 (graphR M) = (runS 3 (begS (graphR M)) (graphR M).length).o from rfl)
  have HB0 := hide (show runS 3 (begS (graphR M)) 0 = begS (graphR M) from rfl)
  have HGG := hide (fun k => (show (runS 3 (begS (graphR M)) k).g = graphR M from runS3_g _ _))
  obtain ⟨av, cv, rfl, hvl, hvm⟩ := hM.form
  unfold maxLen at hvm
  rw [unhide HOF]
  obtain ⟨n, hn⟩ : ∃ n, n = M.length := ⟨_, rfl⟩
  have hMn : M.length = n := hn.symm
  rw [hgl] at HOK HOF ⊢
  rw [hMn] at HM HOK HOF hl hvl hgl ⊢
  have HBT := hide (show (begS (graphR M)).t = List.replicate n false ∧ (begS (graphR M)).o = [] from ⟨by simp [begS, hgl], rfl⟩)
  have HGL := hide hgl
  have HMN := hide hMn
  generalize graphR M = G at *
  clear hM hm hn hMn hgl hr
  go_enter Tryd.func47, Tryd.ntmps47
  go_wp2_with (at_make; refine wp_make_bools rfl _ _ rfl (B := w.heap.size) (Nat.le_refl _) rfl rfl (by omega) ?_; intro w2 ho2 hb2; have hob := own_litI (B := w.heap.size) (w := w2) hb2.size; have hba := (Below.refl w2.heap.size w2).alloc (Nat.le_refl _) (.cells #[] 3); have hz2 := hb2.size; have hgl2 := (ho2.lt w.heap.size rfl).2; have HST := hide (And.intro (own_below ho2 hba) (And.intro hob (hb2.trans (hba.mono hz2)))); clear ho2 hob hba hb2)
  go_loopw [4] (fun ov wr => ∃ (k : Nat), k ≤ n ∧ OwnI w.heap.size wr ov (runS 3 (begS G) k).o ∧ OwnB w.heap.size wr (.slice (some ⟨w.heap.size, 0, none⟩) n n) (runS 3 (begS G) k).t ∧ ov.ownBlock ≠ some w.heap.size ∧ Below w.heap.size w wr) (fun ov _ => n - slen ov)
  case atStart =>
    refine ⟨0, by omega, ?_, ?_, ?_, (unhide HST).2.2⟩
    · rw [unhide HB0, (unhide HBT).2]; exact (unhide HST).2.1
    · rw [unhide HB0, (unhide HBT).1]; exact (unhide HST).1
    · intro e
      injection e with e
      have e2 : w2.heap.size = w.heap.size := e
      omega
  case round =>
    clear HST hgl2 hz2
    obtain ⟨k, hk, ho, hg, hsep, hbel⟩ := hrel
    rename World => wr
    have hzr := hbel.size
    have hok := unhide HOK k hk
    have holn := hok.olen
    obtain ⟨ao, co, rfl, hoc, hom⟩ := (Seq.of_own ho).form
    rw [holn] at hoc hsep ho ⊢
    unfold maxLen at hom
    by_cases hkn : k < n
    · have hlo := least_ok (f := worthW 3 (runS 3 (begS G) k).g (runS 3 (begS G) k).t) (t := (runS 3 (begS G) k).t) (by have := hok.left; omega)
      have hsu := unhide HSU k
      unfold nextS at hsu
      have hsg := unhide HGG k
      obtain ⟨s, hs⟩ : ∃ s, s = runS 3 (begS G) k := ⟨_, rfl⟩
      rw [← hs] at hlo hsu hok ho hg holn hsg
      obtain ⟨f, hf⟩ : ∃ f, f = worthW 3 s.g s.t := ⟨_, rfl⟩
      rw [← hf] at hlo hsu
      have hstl : s.t.length = n := hok.tlen
      have HFW := hide (fun (j : Nat) (hj : j < n) => (show f (j : Int) = -(cntUp G s.t j n : Int) from by
        have h := cardW_eq (g := G) (t := s.t) (v := j) (by rw [unhide HGL]; exact hj)
        rw [unhide HGL] at h
        rw [hf, hsg]
        exact h))
      have hgs := Seq.of_own hg
      have HMR := hide (unhide HM wr hbel)
      have HALL := hide (And.intro hg (And.intro ho hbel))
      have HHS := hide hs
      have HSU2 := hide hsu
      have HLO := hide hlo
      clear hg ho hbel hok hlo hsu hf hs hsg
      go_wp2
      go_loop [5, 6, 7] (fun p q i => ∃ j : Nat, j ≤ n ∧ i = .int .i64 j ∧ p = .int .i64 (leastUp f s.t j).1 ∧ q = .int .i64 (-(leastUp f s.t j).2)) (fun _ _ i => n - (intOf i).toNat)
      case atStart => exact ⟨0, by omega, rfl, rfl, rfl⟩
      case round =>
        obtain ⟨j, hj, rfl, rfl, rfl⟩ := hrel
        by_cases hjn : j < n
        · go_wp2
          go_loop [8, 9] (fun c i => ∃ m : Nat, m ≤ n ∧ i = .int .i64 m ∧ c = .int .i64 (cntUp G s.t j m : Nat)) (fun _ i => n - (intOf i).toNat)
          case atStart => exact ⟨0, by omega, rfl, rfl⟩
          case round =>
            obtain ⟨m, hmm, rfl, rfl⟩ := hrel
            by_cases hmn : m < n
            · obtain ⟨bv, ov, r, e2, c1, c2, c3⟩ := (unhide HMR).at (i := j) (k := m) (by rw [unhide HMN]; exact hjn) hmn
              subst e2
              obtain ⟨_, _, e1, q1⟩ := hgs.at (by omega : m < s.t.length)
              cases e1
              rw [Nat.zero_add] at q1
              have e3 : s.t.getD m false = s.t[m] := by rw [List.getD_eq_getElem?_getD, List.getElem?_eq_getElem (by omega)]; rfl
              have hcs := cntUp_succ G s.t j m
              have hcl := cntUp_le G s.t j m
              have e4 : (M.getD j []).getD m false = besB G j m := (unhide HAT j m).symm
              rw [e4] at c2
              rw [e3] at hcs
              generalize s.t[m] = tm at *
              generalize besB G j m = bm at *
              obtain ⟨C, hC⟩ : ∃ C, C = cntUp G s.t j m := ⟨_, rfl⟩
              obtain ⟨C', hC'⟩ : ∃ C, C = cntUp G s.t j (m + 1) := ⟨_, rfl⟩
              rw [← hC, ← hC'] at hcs
              rw [← hC] at hcl ⊢
              have HC' := hide hC'
              clear hC hC' e3 e4 c3
              cases bm <;> cases tm
              all_goals
                simp at hcs
                have HCS := hide hcs
                clear hcs
                go_wp2
                go_round
                case rel => exact ⟨m + 1, by omega, by go_num, by rw [← unhide HC', unhide HCS] <;> first | rfl | go_num⟩
                case measure => simp [intOf]; omega
            · obtain rfl : m = n := by omega
              obtain ⟨_, _, e1, q1⟩ := hgs.at (by omega : j < s.t.length)
              cases e1
              rw [Nat.zero_add] at q1
              have e3 : s.t.getD j false = s.t[j] := by rw [List.getD_eq_getElem?_getD, List.getElem?_eq_getElem (by omega)]; rfl
              have HY := hide (fun (h : s.t[j] = true) => leastUp_yes (f := f) (e3.trans h))
              have HNW := hide (fun (h : s.t[j] = false) => leastUp_new (f := f) (e3.trans h))
              have HOL := hide (fun (h : s.t[j] = false) => leastUp_old (f := f) (e3.trans h))
              have hfw := unhide HFW j hjn
              clear e3
              generalize s.t[j] = tj at *
              cases tj with
              | true =>
                have HE := hide (unhide HY rfl)
                clear HY HNW HOL hfw
                go_wp2
                go_round
                case rel => exact ⟨j + 1, by omega, by go_num, by rw [unhide HE], by rw [unhide HE]⟩
                case measure => simp [intOf]; omega
              | false =>
                have HE1 := hide (unhide HNW rfl)
                have HE2 := hide (unhide HOL rfl)
                clear HY HNW HOL
                generalize leastUp f s.t j = P at *
                obtain ⟨p1, p2⟩ := P
                generalize f (j : Int) = fk at *
                have hcl := cntUp_le G s.t j m
                generalize cntUp G s.t j m = C at *
                obtain ⟨q2, hq2⟩ : ∃ q2, q2 = -p2 := ⟨_, rfl⟩
                have hp2 : p2 = -q2 := by omega
                have HQ2 := hide hp2
                dsimp only at HE1 HE2 ⊢
                rw [← hq2]
                rw [hfw, hp2] at HE1
                rw [hfw, hp2] at HE2
                clear hfw hp2 hq2
                by_cases h1 : p1 < 0
                · have HE := hide (unhide HE1 (.inl h1))
                  clear HE1 HE2
                  go_wp2
                  go_round
                  case rel => exact ⟨j + 1, by omega, by go_num, by rw [unhide HE], by rw [unhide HE]; simp⟩
                  case measure => simp [intOf]; omega
                · by_cases h2 : q2 < (C : Int)
                  · have HE := hide (unhide HE1 (.inr (by omega)))
                    clear HE1 HE2
                    go_wp2
                    go_round
                    case rel => exact ⟨j + 1, by omega, by go_num, by rw [unhide HE], by rw [unhide HE]; simp⟩
                    case measure => simp [intOf]; omega
                  · have HE := hide (unhide HE2 (fun h => h.elim h1 (fun h => h2 (by omega))))
                    clear HE1 HE2
                    go_wp2
                    go_round
                    case rel => exact ⟨j + 1, by omega, by go_num, by rw [unhide HE], by rw [unhide HE]; simp⟩
                    case measure => simp [intOf]; omega
        · obtain rfl : j = n := by omega
          have hlo := unhide HLO
          obtain ⟨a, ha⟩ : ∃ a : Nat, (a : Int) = leastL f s.t := ⟨_, Int.toNat_of_nonneg hlo.1⟩
          have hsu := unhide HSU2
          rw [← ha] at hlo hsu
          have hbest : (leastUp f s.t j).1 = (a : Int) := by rw [ha]; unfold leastL; rw [hstl]
          have haj : a < j := by omega
          have hto : (takeS 3 s (a : Int)).o = (a : Int) :: s.o ∧ (takeS 3 s (a : Int)).t = s.t.set a true := ⟨rfl, rfl⟩
          rw [← hsu] at hto
          have hall := unhide HALL
          have HTO := hide hto
          generalize leastUp f s.t j = P at *
          obtain ⟨p1, p2⟩ := P
          dsimp only at hbest ⊢
          subst hbest
          obtain ⟨⟨u8, hc8⟩, hf8, hg9, hb9⟩ := own_setB hall.1 hstl.symm (by omega : a < j) true
          have hgl8 : w.heap.size < wr.heap.size := (hall.1.lt _ rfl).2
          have ho9 : OwnI w.heap.size (wr.setCell ⟨w.heap.size, a, none⟩ (.bool true)) (.slice ao k co) s.o := own_same hall.2.1 (fun b hb => (grown_setG wr w.heap.size a (.bool true)).block b (hall.2.1.lt b hb).2 (fun e => hsep (by rw [hb, e])))
          obtain ⟨W9, hW9⟩ : ∃ W, W = wr.setCell ⟨w.heap.size, a, none⟩ (.bool true) := ⟨_, rfl⟩
          rw [← hW9] at hg9 hb9 ho9
          have hsz9 : W9.heap.size = wr.heap.size := by rw [hW9]; simp
          have hoA : OwnI W9.heap.size (W9.alloc (.cells #[.int .i64 (a : Int)] 3)) (.slice (some ⟨W9.heap.size, 0, none⟩) 1 1) [(a : Int)] := own_oneI (Nat.le_refl _) _
          have hbA := (Below.refl W9.heap.size W9).alloc (Nat.le_refl _) (.cells #[.int .i64 (a : Int)] 3)
          have HGA := hide (own_below hg9 hbA)
          have HOA := hide hoA
          have HO9 := hide (Seq.of_own (own_below ho9 hbA))
          have HBA := hide (hall.2.2.trans (hb9.trans (hbA.mono (by omega))))
          have hzA : W9.heap.size ≤ (W9.alloc (.cells #[.int .i64 (a : Int)] 3)).heap.size := hbA.size
          have haI : (a : Int) < (j : Int) := by omega
          have HW9 := hide hW9
          have HSZ9 := hide hsz9
          have hlk : [(a : Int)].length + s.o.length < 100000000000 := by rw [holn]; simp; omega
          clear ha hlo hsu hto hall HLO HSU2 HALL HFW hgs hg9 hb9 ho9 hW9 hsz9 hoA hbA
          go_wp2_with (at_builtin; rw [← unhide HW9, ← unhide HSZ9]; refine wp_app_ints rfl (.tmp 66) (.tmp 67) rfl (B := W9.heap.size) (unhide HOA) rfl hzA (unhide HO9) rfl hlk ?_; intro v10 w10 ho10 hg10)
          have HF := hide (show OwnI w.heap.size w10 v10 (runS 3 (begS G) (k + 1)).o ∧ OwnB w.heap.size w10 (.slice (some ⟨w.heap.size, 0, none⟩) j j) (runS 3 (begS G) (k + 1)).t ∧ v10.ownBlock ≠ some w.heap.size ∧ Below w.heap.size w w10 from by
            have hz9 := unhide HSZ9
            have hzz : w.heap.size ≤ W9.heap.size := by omega
            refine ⟨by rw [(unhide HTO).1]; exact own_mono ho10 hzz, ?_, ?_, ?_⟩
            · rw [(unhide HTO).2]
              exact (unhide HGA).kept hg10.by_ (.inr (fun e => by
                have e2 : w.heap.size = W9.heap.size := by injection e
                omega))
            · intro e
              have := (ho10.lt _ e).1
              omega
            · exact (unhide HBA).trans (hg10.below.mono hzz))
          have hl10 : slen v10 = k + 1 := by
            obtain ⟨a10, c10, e10, _, _⟩ := (Seq.of_own ho10).form
            rw [e10]
            simp [slen, holn]
          clear ho10 hg10 HO9 HOA HGA HBA
          go_wp2
          go_roundw
          case rel => exact ⟨k + 1, by omega, (unhide HF).1, (unhide HF).2.1, (unhide HF).2.2.1, (unhide HF).2.2.2⟩
          case measure => rw [hl10]; show j - (k + 1) < j - k; omega
    · obtain rfl : k = n := by omega
      have HO := hide ho
      clear ho hg
      go_wp2
      go_ret
      exact ⟨_, rfl, unhide HO, hbel⟩

end Go.Proofs.YtflibcfecnhjgaaDoor
