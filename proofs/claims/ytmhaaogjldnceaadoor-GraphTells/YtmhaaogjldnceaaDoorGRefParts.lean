/-
  The document's Parts.
-/
import Derived.Test.YtmhaaogjldnceaaDoorGRefP
import Derived.Test.YtmhaaogjldnceaaDoorGRefG
import Derived.Test.YtmhaaogjldnceaaDoorGParts
namespace Go.Proofs.YtmhaaogjldnceaaDoor
open Go.RowKit
set_option linter.unusedVariables false
set_option linter.unusedSimpArgs false
set_option maxRecDepth 20000

theorem own_boolAt {B : Nat} {w : World} {g n c : Nat} {l : List Bool} (h : OwnB B w (.slice (some ⟨g, 0, none⟩) n c) l) (hn : l.length = n) {i : Nat} (hi : i < n) : w.cell? ⟨g, i, none⟩ = some (.bool (l.getD i false)) := by
  subst hn
  obtain ⟨bs, os, e3, q4⟩ := (Seq.of_own h).at (k := i) hi
  cases e3
  rw [Nat.zero_add] at q4
  rw [q4, List.getD_eq_getElem?_getD, List.getElem?_eq_getElem hi]
  rfl

theorem OwnTG.lit {N B : Nat} {w : World} (hB : B ≤ w.heap.size) : OwnTG N B (w.alloc (.cells #[] 34)) (.slice (some ⟨w.heap.size, 0, none⟩) 0 0) [] := ⟨[], own_litV hB, rfl, fun i h => by simp at h⟩

set_option maxHeartbeats 4000000 in
theorem refParts_any {B0 : Nat} {M : List (List Bool)} {v : Value} {bs : List Nat} {w : World} (hM : OwnMat B0 w v M.length M bs) (hm : MatOk M) (hl : M.length ≤ 40) :
    Calls Tryd.prog 26 #[v] w fun e w' => ∃ u, e = .returned u ∧ OwnT w.heap.size w' u (partsL (graphR M)) ∧ Below w.heap.size w w' := by
  have hr := graphR_right hm hl
  have hGl := graphR_len M
  obtain ⟨av, cv, rfl, hvl, hvm⟩ := hM.form
  unfold maxLen at hvm
  have HC : Hid (∀ W, Below w.heap.size w W → ∀ a b, a < M.length → b < M.length → ∃ bo o r, av = some ⟨bo, o, none⟩ ∧ W.cell? ⟨bo, o + a, none⟩ = some (rowV M.length r) ∧ W.cell? ⟨r, b, none⟩ = some (.bool (besB (graphR M) a b))) := hide (fun W hb a b ha hb' => by
    obtain ⟨bo, o, r, e, c1, c2, _⟩ := (hM.below hb).at ha hb'
    refine ⟨bo, o, r, e, c1, ?_⟩
    rw [c2, graphR_bes]
    simp [hb']; rfl)
  clear hm hM
  obtain ⟨G, hG⟩ : ∃ G, G = graphR M := ⟨_, rfl⟩
  rw [← hG] at hGl hr HC ⊢
  obtain ⟨n, hn⟩ : ∃ n, n = M.length := ⟨_, rfl⟩
  rw [← hn] at hGl HC hvl hl ⊢
  clear hG hn
  have HGL := hide hGl
  have HR := hide hr
  clear hr hGl
  unfold partsL
  rw [unhide HGL]
  go_enter Tryd.func26, Tryd.ntmps26
  go_wp2_with (at_make; refine wp_make_bools rfl _ _ rfl (B := w.heap.size) (Nat.le_refl _) rfl rfl (by omega) ?_; intro w2 hown2 hb2)
  have hlt2 : w.heap.size < w2.heap.size := (hown2.lt _ rfl).2
  have hb3 : Below w.heap.size w (w2.alloc (.cells #[] 34)) := hb2.alloc (by omega) _
  have ho3 := own_below hown2 (((Below.refl _ _).alloc (Nat.le_refl _) _ : Below w2.heap.size w2 (w2.alloc (.cells #[] 34))))
  have hT3 : OwnTG (w.heap.size + 1) w.heap.size (w2.alloc (.cells #[] 34)) (.slice (some ⟨w2.heap.size, 0, none⟩) 0 0) [] := OwnTG.lit (by omega)
  have hne3 : (Value.slice (some ⟨w2.heap.size, 0, none⟩) 0 0).ownBlock ≠ some w.heap.size := by simp [Value.ownBlock]; omega
  have hS3 := hide (SeenTo.start G)
  rw [unhide HGL] at hS3
  clear hown2 hb2
  go_loopw [5, 6] (fun v i wr => ∃ (k : Nat) (S : List Bool), i = .int .i64 k ∧ k ≤ n ∧ OwnTG (w.heap.size + 1) w.heap.size wr v (partsUp G k) ∧ OwnB w.heap.size wr (.slice (some ⟨w.heap.size, 0, none⟩) n n) S ∧ v.ownBlock ≠ some w.heap.size ∧ Hid (SeenTo G S k) ∧ Below w.heap.size w wr) (fun _ i _ => n - (intOf i).toNat)
  case atStart => exact ⟨0, List.replicate n false, rfl, by omega, hT3, ho3, hne3, hS3, hb3⟩
  case round =>
    clear hT3 ho3 hne3 hS3 hb3
    obtain ⟨k, S, rfl, hk, hoT, hoB, hvne, HS, hbel⟩ := hrel
    rename World => wr
    have hzr := hbel.size
    have hSl := (unhide HS).1
    rw [unhide HGL] at hSl
    have hwr1 : w.heap.size < wr.heap.size := (hoB.lt _ rfl).2
    obtain ⟨pa, pc, rfl, hpl, hpc⟩ := hoT.ownT.tups.form
    unfold maxLen at hpc
    have hplen := partsUp_len G k
    by_cases hkn : k < n
    · have q4 := own_boolAt hoB hSl hkn
      cases hsb : S.getD k false with
      | true =>
        rw [hsb] at q4
        have hnf := ((unhide HS).first (unhide HR)).1 hsb
        have HNX := hide (partsUp_no hnf)
        have HSK := hide ((unhide HS).skip (unhide HR) hsb)
        have HOT := hide hoT
        have HOB := hide hoB
        clear hnf hsb HS hoT hoB
        go_wp2
        go_roundw
        case rel => exact ⟨k + 1, S, by go_num, by omega, by rw [unhide HNX]; exact unhide HOT, unhide HOB, hvne, HSK, hbel⟩
        case measure => simp [intOf]; omega
      | false =>
        rw [hsb] at q4
        have hf : First G k := Classical.byContradiction (fun hn => by rw [((unhide HS).first (unhide HR)).2 hn] at hsb; cases hsb)
        have HNX := hide (partsUp_yes hf)
        have HOT := hide hoT
        have HOB := hide hoB
        have HT0 := hide (Turned.start (g := G) (i := k) (by rw [unhide HGL]; exact hkn))
        rw [unhide HGL] at HT0
        clear hf hsb hoT hoB
        go_wp2_with (at_make; refine wp_make_bools rfl _ _ rfl (B := wr.heap.size) (Nat.le_refl _) rfl rfl (by omega) ?_; intro w4 hown4 hb4; obtain ⟨⟨u4, hc4⟩, hf4, ho5, hb5⟩ := own_setB hown4 (by simp) (i := k) hkn true)
        have hb5' := hb4.trans hb5
        clear hown4 hb4 hb5 hc4 hf4 q4
        go_loopw [8] (fun i wq => ∃ (t : Nat) (L : List Bool), i = .int .i64 t ∧ t ≤ n ∧ OwnB wr.heap.size wq (.slice (some ⟨wr.heap.size, 0, none⟩) n n) L ∧ Hid (Turned G k L t) ∧ Below wr.heap.size wr wq) (fun i _ => n - (intOf i).toNat)
        case atStart => exact ⟨0, _, rfl, by omega, ho5, HT0, hb5'⟩
        case round =>
          clear ho5 HT0 hb5'
          obtain ⟨t, L, rfl, ht, hoL, HL, hbq⟩ := hrel
          rename World => wq
          have hzq := hbq.size
          by_cases htn : t < n
          · have HTU := hide (unhide HL).turn
            have HO := hide hoL
            have HBQ := hide hbq
            clear hoL hbq
            go_wp2
            go_loopw [9] (fun i wq => ∃ (a : Nat) (L1 : List Bool), i = .int .i64 a ∧ a ≤ n ∧ OwnB wr.heap.size wq (.slice (some ⟨wr.heap.size, 0, none⟩) n n) L1 ∧ Hid (Turning G k L L1 a 0) ∧ Below wr.heap.size wr wq) (fun i _ => n - (intOf i).toNat)
            case atStart => exact ⟨0, L, rfl, by omega, unhide HO, HTU, unhide HBQ⟩
            case round =>
              clear HO HTU HBQ hzq
              obtain ⟨a, L1, rfl, ha, hoL, HL1, hbq⟩ := hrel
              rename World => wq1
              have hzq := hbq.size
              by_cases han : a < n
              · have HO := hide hoL
                have HBQ := hide hbq
                clear hoL hbq
                go_wp2
                go_loopw [10] (fun i wq => ∃ (b : Nat) (L2 : List Bool), i = .int .i64 b ∧ b ≤ n ∧ OwnB wr.heap.size wq (.slice (some ⟨wr.heap.size, 0, none⟩) n n) L2 ∧ Hid (Turning G k L L2 a b) ∧ Below wr.heap.size wr wq) (fun i _ => n - (intOf i).toNat)
                case atStart => exact ⟨0, L1, rfl, by omega, unhide HO, HL1, unhide HBQ⟩
                case round =>
                  clear HO HL1 HBQ hzq
                  obtain ⟨b, L2, rfl, hb, hoL, HL2, hbq⟩ := hrel
                  rename World => wq2
                  have hzq := hbq.size
                  have hL2l := (unhide HL2).len
                  rw [unhide HGL] at hL2l
                  by_cases hbn : b < n
                  · obtain ⟨bo, o, r, e, c1, c2⟩ := unhide HC wq2 (hbel.trans (hbq.mono (by omega))) a b han hbn
                    subst e
                    have c3 := own_boolAt hoL hL2l hbn
                    have c4 := own_boolAt hoL hL2l han
                    have HNE := hide (fun v hv => (unhide HL2).next (b := b) (by rw [unhide HGL]; exact hbn) (v := v) hv)
                    obtain ⟨y, hy⟩ : ∃ y, y = (L2.getD b false || (L2.getD a false && besB G a b)) := ⟨_, rfl⟩
                    have HN2 := hide (unhide HNE y hy)
                    obtain ⟨_, hf5, ho6, hb6⟩ := own_setB hoL hL2l.symm (i := b) hbn y
                    have HF := hide (And.intro ho6 (hbq.trans hb6))
                    generalize besB G a b = cm at *
                    generalize L2.getD b false = cb at *
                    generalize L2.getD a false = ca at *
                    clear HNE ho6 hb6 hoL hbq HL2
                    cases cb
                    · cases ca
                      · have ey : y = false := by simpa using hy
                        subst ey
                        clear hy
                        go_wp2
                        go_roundw
                        case rel => exact ⟨b + 1, _, by go_num, by omega, (unhide HF).1, HN2, (unhide HF).2⟩
                        case measure => simp [intOf]; omega
                      · have ey : y = cm := by simpa using hy
                        subst ey
                        clear hy
                        go_wp2
                        go_roundw
                        case rel => exact ⟨b + 1, _, by go_num, by omega, (unhide HF).1, HN2, (unhide HF).2⟩
                        case measure => simp [intOf]; omega
                    · have ey : y = true := by simpa using hy
                      subst ey
                      clear hy
                      go_wp2
                      go_roundw
                      case rel => exact ⟨b + 1, _, by go_num, by omega, (unhide HF).1, HN2, (unhide HF).2⟩
                      case measure => simp [intOf]; omega
                  · have hbn' : b = n := by omega
                    subst hbn'
                    have HN2 : Hid (Turning G k L L2 (a + 1) 0) := hide (by
                      have h := unhide HL2
                      rw [← unhide HGL] at h
                      exact h.row (unhide HR))
                    clear HL2
                    go_wp2
                    go_roundw
                    case rel => exact ⟨a + 1, _, by go_num, by omega, hoL, HN2, hbq⟩
                    case measure => simp [intOf]; omega
              · have han' : a = n := by omega
                subst han'
                have HN2 : Hid (Turned G k L1 (t + 1)) := hide (by
                  have h := unhide HL1
                  rw [← unhide HGL] at h
                  exact h.done (unhide HL))
                clear HL1
                go_wp2
                go_roundw
                case rel => exact ⟨t + 1, _, by go_num, by omega, hoL, HN2, hbq⟩
                case measure => simp [intOf]; omega
          · have htn' : t = n := by omega
            subst htn'
            have hHL := unhide HL
            rw [← unhide HGL] at hHL
            have HL5 := hide hHL
            have hLl := hHL.len
            rw [unhide HGL] at hLl
            have hlq := (hoL.lt _ rfl).2
            have hlq1 : wr.heap.size < wq.heap.size := hlq
            have hb6 : Below wr.heap.size wr (wq.alloc (.cells #[] 3)) := hbq.alloc (by omega) _
            have ho6 := own_below hoL (((Below.refl _ _).alloc (Nat.le_refl _) _ : Below wq.heap.size wq (wq.alloc (.cells #[] 3))))
            have hP6 : OwnI (wr.heap.size + 1) (wq.alloc (.cells #[] 3)) (.slice (some ⟨wq.heap.size, 0, none⟩) 0 0) [] := own_litI (by omega)
            have hS6 := own_below (unhide HOB) hb6
            have hk6 := Keeps.belowW (X := fun b => b = w.heap.size) hb6
            have HSU := hide (SeenUp.start S L)
            clear hHL hoL hbq hb6 HL hlq
            go_wp2
            go_loopw [11, 12] (fun v i ws => ∃ (m : Nat) (S' : List Bool), i = .int .i64 m ∧ m ≤ t ∧ OwnI (wr.heap.size + 1) ws v (inL L m) ∧ OwnB w.heap.size ws (.slice (some ⟨w.heap.size, 0, none⟩) t t) S' ∧ OwnB wr.heap.size ws (.slice (some ⟨wr.heap.size, 0, none⟩) t t) L ∧ Hid (SeenUp S L S' m) ∧ Keeps (fun b => b = w.heap.size) wr ws) (fun _ i _ => t - (intOf i).toNat)
            case atStart => exact ⟨0, S, rfl, by omega, hP6, hS6, ho6, HSU, hk6⟩
            case round =>
              clear hP6 hS6 ho6 HSU hk6
              obtain ⟨m, S', rfl, hm, hown, hoS, hoL, HSU, hkp⟩ := hrel
              rename World => ws
              have hzs := hkp.size
              have hSl' := (unhide HSU).1
              rw [hSl] at hSl'
              have hil := inL_len L m
              obtain ⟨qa, qc, rfl, hql, hqc⟩ := (Seq.of_own hown).form
              unfold maxLen at hqc
              by_cases hmt : m < t
              · have c3 := own_boolAt hoL hLl hmt
                cases hlm : L.getD m false with
                | false =>
                  rw [hlm] at c3
                  have HNX := hide (inL_no hlm)
                  have HSN := hide ((unhide HSU).no hlm)
                  have HO := hide hown
                  have HS' := hide hoS
                  have HLL := hide hoL
                  clear hlm hown hoS hoL HSU
                  go_wp2
                  go_roundw
                  case rel => exact ⟨m + 1, S', by go_num, by omega, by rw [unhide HNX]; exact unhide HO, unhide HS', unhide HLL, HSN, hkp⟩
                  case measure => simp [intOf]; omega
                | true =>
                  rw [hlm] at c3
                  have HNX := hide (inL_yes hlm)
                  have HSN := hide ((unhide HSU).yes (by omega) hlm)
                  obtain ⟨⟨u8, hc8⟩, hf8, ho8, _⟩ := own_setB hoS hSl'.symm (i := m) hmt true
                  have gr := grown_setG ws w.heap.size m (.bool true)
                  have hP8 : OwnI (wr.heap.size + 1) (ws.setCell ⟨w.heap.size, m, none⟩ (.bool true)) (.slice qa (inL L m).length qc) (inL L m) := own_same hown (fun b' hb' => gr.block b' (hown.lt b' hb').2 (fun e => by injection e with e; have := (hown.lt b' hb').1; omega))
                  have hL8 : OwnB wr.heap.size (ws.setCell ⟨w.heap.size, m, none⟩ (.bool true)) (.slice (some ⟨wr.heap.size, 0, none⟩) t t) L := own_same hoL (fun b' hb' => gr.block b' (hoL.lt b' hb').2 (fun e => by injection e with e; have := (hoL.lt b' hb').1; omega))
                  have hk8 := hkp.then (Keeps.grown (X := fun b => b = w.heap.size) gr (fun b e => by injection e with e; exact e.symm))
                  have hz8 : (ws.setCell ⟨w.heap.size, m, none⟩ (.bool true)).heap.size = ws.heap.size := by simp
                  have hls : wr.heap.size + 1 ≤ ws.heap.size := (hoL.lt _ rfl).2
                  have HP8 := hide hP8
                  have HL8 := hide hL8
                  have HK8 := hide hk8
                  have HS8 := hide ho8
                  clear hlm hown hoS hoL HSU gr hP8 hL8 hk8 ho8 hkp
                  go_wp2_with (at_builtin; refine wp_app_int rfl (.tmp 82) (.tmp 84) rfl (B := wr.heap.size + 1) (unhide HP8) rfl (by omega) (by rw [hz8]; rfl) (by omega) ?_; intro v9 w9 hown9 hg9)
                  go_roundw
                  case rel => exact ⟨m + 1, S'.set m true, by go_num, by omega, by rw [unhide HNX]; exact hown9, own_same (unhide HS8) (fun b' hb' => hg9.below.block b' (by simp [Value.ownBlock] at hb'; omega)), own_same (unhide HL8) (fun b' hb' => hg9.below.block b' (by simp [Value.ownBlock] at hb'; omega)), HSN, (unhide HK8).thenB (hg9.below.mono (by omega))⟩
                  case measure => simp [intOf]; omega
              · have hmt' : m = t := by omega
                subst hmt'
                have hcomp : inL L m = compL G k := by
                  have := inL_comp (unhide HL5)
                  rwa [unhide HGL] at this
                rw [hcomp] at hown hil hql ⊢
                have HNEXT : Hid (SeenTo G S' (k + 1)) := hide (by
                  have hsu := unhide HSU
                  rw [← unhide HGL] at hsu
                  exact (unhide HS).next (by rw [hSl', unhide HGL]) (hsu.done (unhide HL5) (unhide HR)))
                have hapc : Apart (.slice qa (compL G k).length qc) (compL G k) (.slice pa (partsUp G k).length pc) := fun _ b h1 h2 => by
                  have := (hown.lt b h1).1
                  have := ((unhide HOT).lt b h2).2
                  omega
                have hT4 := (unhide HOT).keeps hkp (by omega) hvne
                have hI4 := Seq.of_own hown
                have HN4 := hide (fun b hb => (hown.lt b hb).1)
                have hB4 : Below w.heap.size w ws := hbel.trans (hkp.to (B := w.heap.size) (fun b hb => by have hb : b = w.heap.size := hb; omega) (by omega))
                have HT4 := hide hT4
                have HI4 := hide hI4
                have HAC := hide hapc
                have HS4 := hide hoS
                have HB4 := hide hB4
                clear hT4 hI4 hapc hoS hB4 hown hoL HSU HL5 HOT HOB HS hkp
                go_wp2_with (at_builtin; refine wp_app_tupG rfl (.tmp 86) (.tmp 88) rfl (B := w.heap.size) (N := w.heap.size + 1) (unhide HT4) (unhide HI4) (unhide HAC) (fun b hb => by have := unhide HN4 b hb; omega) rfl (by omega) rfl (by omega) ?_; intro v6 w6 hown6 hg6)
                go_roundw
                case rel =>
                  have hat : v6.ownBlock ≠ some w.heap.size := by
                    rcases hg6.at_ with h | ⟨b, h, hle⟩
                    · rw [h]; exact hvne
                    · rw [h]; intro e; injection e with e; omega
                  exact ⟨k + 1, S', by go_num, by omega, by rw [unhide HNX]; exact hown6, own_same (unhide HS4) (fun b hb => hg6.by_.block b ((unhide HS4).lt b hb).2 (fun e => hvne (by rw [← e]; simp [Value.ownBlock] at hb; rw [hb]))), hat, HNEXT, (unhide HB4).trans hg6.below⟩
                case measure => simp [intOf]; omega
    · have hkn' : k = n := by omega
      subst hkn'
      have HOT := hide hoT.ownT
      clear hoT hoB HS
      go_wp2
      go_ret
      exact ⟨_, rfl, unhide HOT, hbel⟩

end Go.Proofs.YtmhaaogjldnceaaDoor
