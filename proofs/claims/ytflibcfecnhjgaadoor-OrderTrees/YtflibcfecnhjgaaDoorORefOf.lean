/-
  The contracts of the document's goes, by Fill and Degree.
-/
import Derived.Test.YtflibcfecnhjgaaDoorOGoM
import Derived.Test.YtflibcfecnhjgaaDoorORefGo
import Derived.Test.YtflibcfecnhjgaaDoorOLeast
namespace Go.Proofs.YtflibcfecnhjgaaDoor
open Go.RowKit
set_option linter.unusedVariables false
set_option linter.unusedSimpArgs false
set_option maxRecDepth 20000

def slen : Value → Nat
  | .slice _ n _ => n
  | _ => 0

theorem MatC.belowB {B0 B : Nat} {w w' : World} {v : Value} {n : Nat} {M : List (List Bool)} {bs : List (Nat × Nat)} (h : MatC B0 w v n M bs) (hb : Below B w w') (hr : ∀ p ∈ bs, p.1 < B) (ho : ∀ g, v.ownBlock = some g → g < B) : MatC B0 w' v n M bs :=
  ⟨h.len, own_same h.outer (fun b e => hb.block b (ho b e)), fun i hi hi' => own_same (h.rows i hi hi') (fun b e => hb.block b (by
    have h1 : bs[i].1 = b := by injection e
    rw [← h1]
    exact hr _ (List.getElem_mem _))), h.wide, h.nod, h.apart⟩

theorem own_keeps {B : Nat} {e : TypeId} {X : Nat → Prop} {w w' : World} {v : Value} {n : Nat} {xs : List Value} (h : w.ownsRow B e 1 v n xs) (hk : Keeps X w w') (hx : ∀ g, v.ownBlock = some g → ¬ X g) : w'.ownsRow B e 1 v n xs :=
  own_same h (fun b e => hk.block b (h.lt b e).2 (hx b e))

theorem refNbLen {g : List Nat} (hn : g.length ≤ 40) (a : Int) : (nbL g a).length ≤ 40 := Nat.le_trans (nbL_len g a) hn

set_option maxHeartbeats 8000000 in
theorem goes_any {B0 : Nat} {M : List (List Bool)} {bs : List (Nat × Nat)} {v : Value} {fill : Bool} {how : Int} {w : World} (hM : MatC B0 w v M.length M bs) (hm : MatOk M) (hl : M.length ≤ 40) (hhow : how = if fill = true then 1 else 2) :
    Calls Tryd.prog 48 #[v, .bool fill] w fun e w' => ∃ u, e = .returned u ∧ OwnI w.heap.size w' u (ofL how (graphR M)) ∧ Below w.heap.size w w' := by
  have HCP := hide (copy_any hM hl)
  have hh3 : how ≠ 3 := by rw [hhow]; split <;> decide
  have HWO := hide (fun (s : Srch) (M' : List (List Bool)) (h : SameS s M') (a : Nat) (ha : s.t.getD a false = false) => (show (docW fill M' (a : Int) : Int) = worthW how s.g s.t (a : Int) from by rw [hhow]; exact h.worth ha fill))
  have hr := graphR_right hm hl
  have hgl := graphR_len M
  have HSS := hide (SameS.start hm)
  have HOK := hide (fun k (hk : k ≤ (graphR M).length) => (begS_ok hr).run (how := how) hk)
  have HSU := hide (fun k => (show runS how (begS (graphR M)) (k + 1) = nextS how (runS how (begS (graphR M)) k) from rfl))
  have HOF := hide (show ofL how (graphR M) = (runS how (begS (graphR M)) (graphR M).length).o from rfl)
  have HB0 := hide (show runS how (begS (graphR M)) 0 = begS (graphR M) from rfl)
  obtain ⟨av, cv, rfl, hvl, hvm⟩ := hM.form
  rw [unhide HOF]
  obtain ⟨n, hn⟩ : ∃ n, n = M.length := ⟨_, rfl⟩
  have hMn : M.length = n := hn.symm
  rw [hgl] at HOK HOF ⊢
  rw [hMn] at HCP HOK HOF hl ⊢
  have HBT := hide (show (begS (graphR M)).t = List.replicate n false ∧ (begS (graphR M)).o = [] from ⟨by simp [begS, hgl, hMn], rfl⟩)
  have HMN := hide hMn
  rw [hMn] at hM hvl
  generalize graphR M = G at *
  clear hM hm hvl hvm hn hMn hgl hr hhow
  go_enter Tryd.func48, Tryd.ntmps48
  go_wp2_with fail
  refine (unhide HCP).mono ?_
  rintro e w1 ⟨u, cs, rfl, hC1, hb1⟩
  obtain ⟨au, cu, e9, hul, hum⟩ := hC1.form
  rw [unhide HMN] at e9 hul
  subst e9
  unfold maxLen at hum
  have HC1 := hide hC1
  have HLT := hide (fun (p : Nat × Nat) (hp : p ∈ cs) => (hC1.lt hp))
  have HOU := hide (fun g (hg : (Value.slice au n cu).ownBlock = some g) => (hC1.outer.lt g hg).2)
  have HB1 := hide hb1
  have hz1 := hb1.size
  clear hC1 hb1 HCP
  go_wp2_with (at_make; refine wp_make_bools rfl _ _ rfl (B := w1.heap.size) (Nat.le_refl _) rfl rfl (by omega) ?_; intro w2 ho2 hb2; have hob := own_litI (B := w1.heap.size) (w := w2) hb2.size; have hba := (Below.refl w2.heap.size w2).alloc (Nat.le_refl _) (.cells #[] 3); have hz2 := hb2.size; have hgl2 := (ho2.lt w1.heap.size rfl).2; have HST := hide (And.intro (own_below ho2 hba) (And.intro hob (hb2.trans (hba.mono hz2)))); clear ho2 hob hba hb2)
  go_loopw [6] (fun ov wr => ∃ (k : Nat) (M' : List (List Bool)), k ≤ n ∧ OwnI w1.heap.size wr ov (runS how (begS G) k).o ∧ MatC w.heap.size wr (.slice au n cu) n M' cs ∧ OwnB w1.heap.size wr (.slice (some ⟨w1.heap.size, 0, none⟩) n n) (runS how (begS G) k).t ∧ Hid (SameS (runS how (begS G) k) M') ∧ ov.ownBlock ≠ some w1.heap.size ∧ w1.heap.size ≤ wr.heap.size ∧ Below w.heap.size w wr) (fun ov _ => n - slen ov)
  case atStart =>
    refine ⟨0, M, by omega, ?_, ?_, ?_, ?_, ?_, (unhide HST).2.2.size, (unhide HB1).trans ((unhide HST).2.2.mono hz1)⟩
    · rw [unhide HB0, (unhide HBT).2]; exact (unhide HST).2.1
    · exact (unhide HC1).below (unhide HST).2.2
    · rw [unhide HB0, (unhide HBT).1]; exact (unhide HST).1
    · exact hide (by rw [unhide HB0]; exact unhide HSS)
    · intro e
      injection e with e
      have e2 : w2.heap.size = w1.heap.size := e
      omega
  case round =>
    clear HST HC1 hgl2 hz2
    obtain ⟨k, M', hk, ho, hC, hg, HS, hsep, hzr, hbel⟩ := hrel
    rename World => wr
    have hok := unhide HOK k hk
    have holn := hok.olen
    obtain ⟨ao, co, rfl, hoc, hom⟩ := (Seq.of_own ho).form
    rw [holn] at hoc hsep ho ⊢
    unfold maxLen at hom
    have hM'l : M'.length = n := by rw [(unhide HS).len, hok.glen]
    by_cases hkn : k < n
    · have hlo := least_ok (f := worthW how (runS how (begS G) k).g (runS how (begS G) k).t) (t := (runS how (begS G) k).t) (by have := hok.left; omega)
      have hsu := unhide HSU k
      unfold nextS at hsu
      obtain ⟨s, hs⟩ : ∃ s, s = runS how (begS G) k := ⟨_, rfl⟩
      rw [← hs] at hlo hsu hok ho hg HS holn
      obtain ⟨f, hf⟩ : ∃ f, f = worthW how s.g s.t := ⟨_, rfl⟩
      rw [← hf] at hlo hsu
      have htl := hok.tlen
      have hstl : s.t.length = n := htl
      have hstG := hok.right
      have hsgl := hok.glen
      have hMM : MatOk M' := (unhide HS).ok
      have HNB := hide (fun W (a : Int) (hb : Below wr.heap.size wr W) => refNbC_any (a := a) (show MatC w.heap.size W (.slice au n cu) M'.length M' cs from by rw [hM'l]; exact hC.below hb) (by omega))
      have HMS := hide (fun W (a : Int) (hb : Below wr.heap.size wr W) => refMissing_any (a := a) (show MatC w.heap.size W (.slice au n cu) M'.length M' cs from by rw [hM'l]; exact hC.below hb) hMM (by omega))
      have HWF := hide (fun (a : Nat) (ha : s.t.getD a false = false) => (show (docW fill M' (a : Int) : Int) = f (a : Int) from by rw [hf]; exact unhide HWO s M' (unhide HS) a ha))
      have HGV := hide (fun W (hb : Below wr.heap.size wr W) => Seq.of_own (own_below hg hb))
      have HGL := hide (show ∀ a : Int, (nbL (graphR M') a).length ≤ 40 from fun a => refNbLen (by rw [graphR_len]; omega) a)
      have HALL := hide (And.intro hC (And.intro hg (And.intro ho hbel)))
      have HHF := hide hf
      have HHS := hide hs
      have HSU2 := hide hsu
      have HLO := hide hlo
      have HOKK := hide hok
      have HML := hide hM'l
      clear hC hg ho hbel hok hlo hsu hf hs htl
      go_wp2
      go_loopw [7, 8, 9] (fun p q i wq => ∃ j : Nat, j ≤ n ∧ i = .int .i64 j ∧ p = .int .i64 (leastUp f s.t j).1 ∧ q = .int .i64 (leastUp f s.t j).2 ∧ Below wr.heap.size wr wq) (fun _ _ i _ => n - (intOf i).toNat)
      case atStart => exact ⟨0, by omega, rfl, rfl, rfl, Below.refl _ _⟩
      case round =>
        obtain ⟨j, hj, rfl, rfl, rfl, hbq⟩ := hrel
        rename World => wq
        have hzq := hbq.size
        by_cases hjn : j < n
        · have hjt : j < s.t.length := by omega
          obtain ⟨_, _, e1, q1⟩ := (unhide HGV wq hbq).at hjt
          cases e1
          rw [Nat.zero_add] at q1
          have e3 : s.t.getD j false = s.t[j] := by rw [List.getD_eq_getElem?_getD, List.getElem?_eq_getElem hjt]; rfl
          have HY := hide (fun (h : s.t[j] = true) => leastUp_yes (f := f) (e3.trans h))
          have HNW := hide (fun (h : s.t[j] = false) => leastUp_new (f := f) (e3.trans h))
          have HOL := hide (fun (h : s.t[j] = false) => leastUp_old (f := f) (e3.trans h))
          have HFW := hide (fun (h : s.t[j] = false) => unhide HWF j (e3.trans h))
          have HCN := hide (unhide HNB wq (j : Int) hbq)
          have HCM := hide (fun W (hb : Below wq.heap.size wq W) => unhide HMS W (j : Int) (hbq.trans (hb.mono hzq)))
          have HNL := hide (unhide HGL (j : Int))
          have HBE := hide hbq
          clear e3 hbq
          generalize s.t[j] = tj at *
          cases tj with
          | true =>
            have HE := hide (unhide HY rfl)
            clear HY HNW HOL HFW HCN HCM
            go_wp2
            go_roundw
            case rel => exact ⟨j + 1, by omega, by go_num, by rw [unhide HE], by rw [unhide HE], unhide HBE⟩
            case measure => simp [intOf]; omega
          | false =>
            have HE1 := hide (unhide HNW rfl)
            have HE2 := hide (unhide HOL rfl)
            have HFW2 := unhide HFW rfl
            have hnl := unhide HNL
            clear HY HNW HOL HFW HNL
            generalize leastUp f s.t j = P at *
            obtain ⟨p1, p2⟩ := P
            generalize f (j : Int) = fk at *
            unfold docW at HFW2
            cases fill with
            | true =>
              rw [if_pos rfl] at HFW2
              generalize missN (graphR M') (j : Int) = ms at *
              go_wp2_with fail
              refine (unhide HCN).mono ?_
              rintro e w6 ⟨vn, rfl, hn6, hb6⟩
              obtain ⟨an, cn, rfl, _, _⟩ := (Seq.of_own hn6).form
              have HCM6 := hide (unhide HCM w6 hb6)
              have HB6 := hide ((unhide HBE).trans (hb6.mono hzq))
              have hz6 := hb6.size
              clear hn6 hb6 HCN HCM q1
              go_wp2_with fail
              refine (unhide HCM6).mono ?_
              rintro e w7 ⟨rfl, hb7⟩
              have HB7 := hide ((unhide HB6).trans (hb7.mono (by omega)))
              rw [HFW2]
              clear hb7 HCM6 HB6 hnl
              by_cases h1 : p1 < 0
              · have HE := hide (unhide HE1 (.inl h1))
                clear HE1 HE2
                go_wp2
                go_roundw
                case rel => exact ⟨j + 1, by omega, by go_num, by rw [unhide HE], by rw [unhide HE], unhide HB7⟩
                case measure => simp [intOf]; omega
              · by_cases h2 : fk < p2
                · have HE := hide (unhide HE1 (.inr h2))
                  clear HE1 HE2
                  go_wp2
                  go_roundw
                  case rel => exact ⟨j + 1, by omega, by go_num, by rw [unhide HE], by rw [unhide HE], unhide HB7⟩
                  case measure => simp [intOf]; omega
                · have HE := hide (unhide HE2 (fun h => h.elim h1 h2))
                  clear HE1 HE2
                  go_wp2
                  go_roundw
                  case rel => exact ⟨j + 1, by omega, by go_num, by rw [unhide HE], by rw [unhide HE], unhide HB7⟩
                  case measure => simp [intOf]; omega
            | false =>
              rw [if_neg (by decide)] at HFW2
              go_wp2_with fail
              refine (unhide HCN).mono ?_
              rintro e w6 ⟨vn, rfl, hn6, hb6⟩
              obtain ⟨an, cn, rfl, _, _⟩ := (Seq.of_own hn6).form
              have HB6 := hide ((unhide HBE).trans (hb6.mono hzq))
              generalize nbL (graphR M') (j : Int) = N at *
              clear hn6 hb6 HCN HCM q1 hnl
              by_cases h1 : p1 < 0
              · have HE := hide (unhide HE1 (.inl h1))
                clear HE1 HE2
                go_wp2
                go_roundw
                case rel => exact ⟨j + 1, by omega, by go_num, by rw [unhide HE], by rw [unhide HE], unhide HB6⟩
                case measure => simp [intOf]; omega
              · by_cases h2 : fk < p2
                · have HE := hide (unhide HE1 (.inr h2))
                  clear HE1 HE2
                  go_wp2
                  go_roundw
                  case rel => exact ⟨j + 1, by omega, by go_num, by rw [unhide HE], by rw [unhide HE], unhide HB6⟩
                  case measure => simp [intOf]; omega
                · have HE := hide (unhide HE2 (fun h => h.elim h1 h2))
                  clear HE1 HE2
                  go_wp2
                  go_roundw
                  case rel => exact ⟨j + 1, by omega, by go_num, by rw [unhide HE], by rw [unhide HE], unhide HB6⟩
                  case measure => simp [intOf]; omega
        · obtain rfl : j = n := by omega
          have hlo := unhide HLO
          obtain ⟨a, ha⟩ : ∃ a : Nat, (a : Int) = leastL f s.t := ⟨_, Int.toNat_of_nonneg hlo.1⟩
          have hsu := unhide HSU2
          rw [← ha] at hlo hsu
          have hbest : (leastUp f s.t j).1 = (a : Int) := by rw [ha]; unfold leastL; rw [hstl]
          have haj : a < j := by omega
          have hta : s.t.getD a false = false := by simpa using hlo.2.2
          have hto : (takeS how s (a : Int)).o = s.o ++ [(a : Int)] ∧ (takeS how s (a : Int)).t = s.t.set a true := by
            unfold takeS; rw [if_neg hh3]; exact ⟨rfl, rfl⟩
          rw [← hsu] at hto
          have HSG := hide (fun M'' (hgo : GoOk M' M'' a) => (show SameS (runS how (begS G) (k + 1)) M'' from by rw [hsu]; exact (unhide HS).go hstG hgo (by omega) hta hh3))
          have hall := unhide HALL
          have hCq : MatC w.heap.size wq (.slice au j cu) M'.length M' cs := by rw [hM'l]; exact hall.1.below hbq
          have hgq := own_below hall.2.1 hbq
          have hoq := own_below hall.2.2.1 hbq
          have HBQ := hide (hall.2.2.2.trans (hbq.mono (by have := hall.2.2.2.size; omega)))
          have hzwq := (unhide HBQ).size
          have HGO := hide (refGo_any hCq hMM (by omega) (by omega : a < M'.length) hzwq)
          rw [hM'l] at HGO
          have HGQ := hide hgq
          have HOQ := hide hoq
          have HTO := hide hto
          have hs1 : w1.heap.size ≤ wq.heap.size := by omega
          generalize leastUp f s.t j = P at *
          obtain ⟨p1, p2⟩ := P
          dsimp only at hbest
          subst hbest
          clear ha hlo hsu hto hall hCq hgq hoq HLO HSU2 HALL HNB HMS HWF hbq
          go_wp2_with fail
          refine (unhide HGO).mono ?_
          rintro e w8 ⟨M2, rfl, hC8, hgo, hk8⟩
          have hoff : ∀ g, w1.heap.size ≤ g → ¬ RowX cs g := fun g hg ⟨p, hp, e⟩ => by have := (unhide HLT p hp).2; omega
          have hg8 := own_keeps (unhide HGQ) hk8 (fun g hg => hoff g ((unhide HGQ).lt g hg).1)
          have ho8 := own_keeps (unhide HOQ) hk8 (fun g hg => hoff g ((unhide HOQ).lt g hg).1)
          have hb8 : Below w.heap.size wq w8 := hk8.to (fun g ⟨p, hp, e⟩ => by rw [← e]; exact (unhide HLT p hp).1) hzwq
          have hg8' : OwnB w1.heap.size w8 (.slice (some ⟨w1.heap.size, 0, none⟩) j j) s.t := hg8
          obtain ⟨⟨u8, hc8⟩, hf8, hg9, hb9⟩ := own_setB hg8' hstl.symm (by omega : a < j) true
          have hz8 := hk8.size
          have hgl8 : w1.heap.size < w8.heap.size := (hg8.lt _ rfl).2
          have ho9 : OwnI w1.heap.size (w8.setCell ⟨w1.heap.size, a, none⟩ (.bool true)) (.slice ao k co) s.o := own_same ho8 (fun b hb => (grown_setG w8 w1.heap.size a (.bool true)).block b (ho8.lt b hb).2 (fun e => hsep (by rw [hb, e])))
          obtain ⟨W9, hW9⟩ : ∃ W, W = w8.setCell ⟨w1.heap.size, a, none⟩ (.bool true) := ⟨_, rfl⟩
          rw [← hW9] at hg9 hb9 ho9
          have HSZ9 := hide (show W9.heap.size = w8.heap.size from by rw [hW9]; simp)
          have HW9 := hide hW9
          have HG9 := hide hg9
          have HO9 := hide ho9
          have hz9 : w1.heap.size ≤ W9.heap.size := by have := unhide HSZ9; omega
          clear hW9
          have HC8 := hide hC8
          have HB8 := hide (And.intro hb8 hb9)
          have HSS2 := hide (unhide HSG M2 hgo)
          have haI : (a : Int) < (j : Int) := by omega
          clear hC8 hk8 hg8 hg8' ho8 hb8 hg9 hb9 ho9 hgo HGO HGQ HOQ HSG
          go_wp2_with (at_builtin; rw [← unhide HW9, ← unhide HSZ9]; refine wp_app_int rfl (.tmp 55) (.tmp 57) rfl (B := w1.heap.size) (unhide HO9) rfl hz9 rfl (by omega) ?_; intro v10 w10 ho10 hg10)
          have HF := hide (show OwnI w1.heap.size w10 v10 (runS how (begS G) (k + 1)).o ∧ MatC w.heap.size w10 (.slice au j cu) j M2 cs ∧ OwnB w1.heap.size w10 (.slice (some ⟨w1.heap.size, 0, none⟩) j j) (runS how (begS G) (k + 1)).t ∧ v10.ownBlock ≠ some w1.heap.size ∧ w1.heap.size ≤ w10.heap.size ∧ Below w.heap.size w w10 from by
            have hb := unhide HB8
            have hz9 : w8.heap.size ≤ w10.heap.size := by have := hg10.by_.size; have := unhide HSZ9; omega
            refine ⟨by rw [(unhide HTO).1]; exact ho10, ?_, ?_, ?_, by omega, ?_⟩
            · exact (unhide HC8).belowB (hb.2.trans hg10.below) (fun p hp => (unhide HLT p hp).2) (fun g hg => unhide HOU g hg)
            · rw [(unhide HTO).2]
              exact own_grew (unhide HG9) hg10 (.inr (fun e => hsep e.symm))
            · rcases hg10.at_ with e | ⟨g, e, hg⟩
              · rw [e]; exact hsep
              · rw [e]
                intro e2
                injection e2 with e2
                have := unhide HSZ9
                omega
            · exact (unhide HBQ).trans (hb.1.trans ((hb.2.trans hg10.below).mono hz1)))
          have hl10 : slen v10 = k + 1 := by
            obtain ⟨a10, c10, e10, _, _⟩ := (Seq.of_own ho10).form
            rw [e10]
            simp [slen, holn]
          clear ho10 hg10 HO9 HG9 HC8 HB8 HBQ
          go_wp2
          go_roundw
          case rel => exact ⟨k + 1, M2, by omega, (unhide HF).1, (unhide HF).2.1, (unhide HF).2.2.1, HSS2, (unhide HF).2.2.2.1, (unhide HF).2.2.2.2.1, (unhide HF).2.2.2.2.2⟩
          case measure => rw [hl10]; show j - (k + 1) < j - k; omega
    · obtain rfl : k = n := by omega
      have HO := hide ho
      clear ho hC hg
      go_wp2
      go_ret
      exact ⟨_, rfl, own_mono (unhide HO) hz1, hbel⟩

end Go.Proofs.YtflibcfecnhjgaaDoor
