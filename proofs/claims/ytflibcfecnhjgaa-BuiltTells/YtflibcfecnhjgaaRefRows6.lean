/-
  The contract of the document's rows (layer 6): may rows be, over a scope that may be?
-/
import Derived.Test.YtflibcfecnhjgaaRefRight6
import Derived.Test.YtflibcfecnhjgaaBGath
namespace Go.Proofs.Ytflibcfecnhjgaa
open Go.RowKit
set_option linter.unusedVariables false
set_option linter.unusedSimpArgs false
set_option maxRecDepth 20000

def entB (doms : List (List Int)) (l t : List Int) : Bool := decide (∀ k, k < l.length → t.getD k 0 ∈ domL doms (l.getD k 0))
def rowOk (doms : List (List Int)) (l : List Int) (ll : List (List Int)) (i : Nat) : Bool :=
  decide ((ll.getD i []).length = l.length) && (decide (i = 0) || decide (cmpL (ll.getD (i - 1) []) (ll.getD i []) < 0)) && entB doms l (ll.getD i [])
def rowsB (doms : List (List Int)) (l : List Int) (ll : List (List Int)) : Bool := decide (∀ i, i < ll.length → rowOk doms l ll i = true)

theorem rowOk_at {doms : List (List Int)} {l : List Int} {ll : List (List Int)} {i : Nat} (h : i < ll.length) :
    rowOk doms l ll i = (decide (ll[i].length = l.length) && (decide (i = 0) || decide (cmpL (ll[i - 1]'(by omega)) ll[i] < 0)) && entB doms l ll[i]) := by
  unfold rowOk
  have h1 : ll.getD i [] = ll[i] := by simp [h]
  have h2 : ll.getD (i - 1) [] = ll[i - 1]'(by omega) := by simp [show i - 1 < ll.length by omega]
  rw [h1, h2]

theorem inQ {l : List Int} (x : Int) {v : Value} {w : World} (h : Ints w v l) :
    Calls Try.prog 25 #[v, .int .i64 x] w fun e w' => e = .returned (.bool (decide (x ∈ l))) ∧ ∃ n, w' = w.drewN n :=
  (refIn_any x h).mono fun e w' ⟨h1, h2⟩ => ⟨h1, 0, by rw [h2]; rfl⟩

set_option maxHeartbeats 4000000 in
theorem rows6_any {doms : List (List Int)} {l : List Int} {ll : List (List Int)} {a0 a1 a2 : Option Addr} {c0 c1 c2 n1 n2 : Nat} {v vr : Value} {w : World} (hd : Tups w (.slice a0 doms.length c0) doms) (h : Ints w v l) (hr : Tups w vr ll) (hin : ∀ x ∈ l, 0 ≤ x ∧ x < (doms.length : Int)) :
    Calls Try.prog 43 #[.agg #[.slice a0 doms.length c0, .slice a1 n1 c1, .slice a2 n2 c2], v, vr] w fun e w' => e = .returned (.bool (rowsB doms l ll)) ∧ Below w.heap.size w w' := by
  obtain ⟨a, ca, rfl, hla, hca⟩ := h.form
  obtain ⟨b, cb, rfl, hlb, hcb⟩ := hr.form
  have hdf := hd.form
  obtain ⟨_, _, e, hdl, hdc⟩ := hdf
  cases e
  unfold maxLen at hca hcb hdc
  have hb0 := (Below.refl w.heap.size w).alloc (Nat.le_refl _) (.cells #[.slice a0 doms.length c0, .slice a1 n1 c1, .slice a2 n2 c2] 26)
  have hcx : (w.alloc (.cells #[.slice a0 doms.length c0, .slice a1 n1 c1, .slice a2 n2 c2] 26)).cell? ⟨w.heap.size, 0, none⟩ = some (.slice a0 doms.length c0) := by unfold World.cell?; rw [heap_alloc_new]; rfl
  obtain ⟨q, hq⟩ : ∃ q, q = rowsB doms l ll := ⟨_, rfl⟩
  rw [← hq]
  have HQ := hide hq
  have hs1 := h.below hb0
  have ht1 := hr.below hb0
  have hd1 := hd.below hb0
  obtain ⟨W1, hW1⟩ : ∃ W, W = w.alloc (.cells #[.slice a0 doms.length c0, .slice a1 n1 c1, .slice a2 n2 c2] 26) := ⟨_, rfl⟩
  rw [← hW1] at hb0 hcx hs1 ht1 hd1
  have HW1 := hide hW1
  have HB := hide hb0
  have HIN := hide hin
  clear hq h hr hd hW1 hin hb0
  go_enter Try.func43, Try.ntmps43
  go_wp2
  rw [← unhide HW1]
  clear HW1
  go_loopw [7, 8, 9] (fun i _ _ wr => ∃ k n : Nat, k ≤ ll.length ∧ i = .int .i64 k ∧ wr = W1.drewN n ∧ Hid (∀ j, j < k → rowOk doms l ll j = true)) (fun i _ _ _ => ll.length - (intOf i).toNat)
  case atStart => exact ⟨0, 0, by omega, rfl, rfl, hide (fun j h => by omega)⟩
  case round =>
    obtain ⟨k, n, hk, rfl, rfl, HC⟩ := hrel
    by_cases hkl : k < ll.length
    · obtain ⟨bl, ol, ul, e1, hcl, hiL⟩ := ht1.at hkl
      subst e1
      obtain ⟨ia, ic, rfl, _, hic⟩ := hiL.form
      unfold maxLen at hic
      have HRK := hide (rowOk_at (doms := doms) (l := l) hkl)
      have HF := hide (fun (hno : rowOk doms l ll k = false) => show q = false by
        rw [unhide HQ]; unfold rowsB; rw [decide_eq_false_iff_not]; intro hall; rw [hall k hkl] at hno; cases hno)
      by_cases hw : ll[k].length = l.length
      · have hw1 : ((ll[k].length : Int) != (l.length : Int)) = false := by simp [hw]
        -- behind the first test
        have HNX := hide (fun (hno : entB doms l ll[k] = true) (hz : decide (k = 0) || decide (cmpL (ll[k - 1]'(by omega)) ll[k] < 0)) => show ∀ j, j < k + 1 → rowOk doms l ll j = true from fun j hj => by
          rcases Nat.lt_or_ge j k with h1 | h1
          · exact unhide HC j h1
          · obtain rfl : j = k := by omega
            rw [unhide HRK, decide_eq_true hw, hz, hno]; rfl)
        have HNE := hide (fun (hno : entB doms l ll[k] = false) => unhide HF (by rw [unhide HRK, hno, Bool.and_false]))
        have HNZ := hide (fun (hno : (decide (k = 0) || decide (cmpL (ll[k - 1]'(by omega)) ll[k] < 0)) = false) => unhide HF (by rw [unhide HRK, hno, Bool.and_false, Bool.false_and]))
        have HEN : Hid (entB doms l ll[k] = decide (∀ m, m < l.length → ll[k].getD m 0 ∈ domL doms (l.getD m 0))) := hide rfl
        have hiLL := hiL
        by_cases hk0 : 0 < k
        · have hk1 : k - 1 < ll.length := by omega
          obtain ⟨bl', ol', up, e2, hcp, hip⟩ := ht1.at hk1
          cases e2
          obtain ⟨pa, pc, rfl, _, _⟩ := hip.form
          have HCMP := hide (fun n => refCompare_any (Seq.drewN hip n) (Seq.drewN hiL n))
          have hkp : (1 : Int) ≤ (k : Int) := by omega
          have hkn : decide (k = 0) = false := by rw [decide_eq_false_iff_not]; omega
          rw [hkn] at HNX HNZ
          simp only [Bool.false_or] at HNX HNZ
          generalize cmpL (ll[k - 1]'(by omega)) ll[k] = z at HCMP HNX HNZ
          by_cases hz : z < 0
          · have HNX' := hide (fun h => unhide HNX h (by simpa using hz))
            have hiT := hiL
            have HWT := hide hw
            generalize ll[k] = t at *
            clear HNX HNZ HF HRK hw hip hiLL hiL hkn
            go_wp2
            go_quiet ((go_at_call 29; exact Calls.quiet_add (unhide HCMP _)))
            go_wp2
            go_loopw [8, 9] (fun i _ wr => ∃ m n2 : Nat, m ≤ l.length ∧ i = .int .i64 m ∧ wr = W1.drewN n2 ∧ Hid (∀ j, j < m → t.getD j 0 ∈ domL doms (l.getD j 0))) (fun i _ _ => l.length - (intOf i).toNat)
            case atStart => exact ⟨0, _, by omega, rfl, by first | rfl | (simp only [World.drewN_drewN]; rfl), hide (fun j h => by omega)⟩
            case round =>
              obtain ⟨m, n2, hm, rfl, rfl, HM⟩ := hrel
              by_cases hml : m < l.length
              · have hmt : m < t.length := by have := unhide HWT; omega
                obtain ⟨b3, o3, e3, hc3⟩ := hs1.at hml
                subst e3
                obtain ⟨b4, o4, e4, hc4⟩ := hiT.at hmt
                subst e4
                obtain ⟨h0, hdl2⟩ := unhide HIN _ (List.getElem_mem hml)
                obtain ⟨dm, hdm⟩ : ∃ dm : Nat, l[m] = (dm : Int) := ⟨l[m].toNat, by omega⟩
                have hdml : dm < doms.length := by omega
                obtain ⟨b5, o5, u5, e5, hc5, hi5⟩ := hd1.at hdml
                subst e5
                obtain ⟨a6, c6, rfl, _, _⟩ := hi5.form
                have hdom : domL doms (l.getD m 0) = doms[dm] := by
                  rw [show l.getD m 0 = l[m] by simp [List.getD_eq_getElem?_getD, hml], hdm]
                  unfold domL; simp [List.getD_eq_getElem?_getD, hdml]
                have htg : t.getD m 0 = t[m] := by simp [List.getD_eq_getElem?_getD, hmt]
                have HINC := hide (fun n => inQ t[m] (Seq.drewN hi5 n))
                rw [hdm] at hc3
                have hdmi : (dm : Int) < (doms.length : Int) := by omega
                have HIF : Hid (t[m] ∈ doms[dm] ↔ t.getD m 0 ∈ domL doms (l.getD m 0)) := hide (by rw [hdom, htg])
                have hml2 : m < t.length := hmt
                generalize hD : doms[dm] = D at *
                generalize hX : t[m] = x at *
                by_cases hin : x ∈ D
                · have HM2 : Hid (∀ j, j < m + 1 → t.getD j 0 ∈ domL doms (l.getD j 0)) := hide (fun j hj => by
                    rcases Nat.lt_or_ge j m with h1 | h1
                    · exact unhide HM j h1
                    · obtain rfl : j = m := by omega
                      exact (unhide HIF).1 hin)
                  rw [decide_eq_true hin] at HINC
                  clear hdom htg hD hX hi5 hin HM HIF hiT ht1 hs1 hd1 h0 hdl2 hdm HQ HNX' HNE HC
                  go_wp2
                  go_quiet ((go_at_call 25; exact Calls.quiet_add (unhide HINC _)))
                  go_wp2
                  go_roundw
                  case rel => exact ⟨m + 1, _, by omega, by go_num, by first | rfl | (simp only [World.drewN_drewN]; rfl), HM2⟩
                  case measure => simp [intOf]; omega
                · have HFF := hide (unhide HNE (by rw [unhide HEN, decide_eq_false_iff_not]; intro hall; exact hin ((unhide HIF).2 (hall m hml))))
                  rw [decide_eq_false hin] at HINC
                  clear hdom htg hD hX hi5 hin HM HIF hiT ht1 hs1 hd1 h0 hdl2 hdm HQ HNX' HNE HC
                  go_wp2
                  go_quiet ((go_at_call 25; exact Calls.quiet_add (unhide HINC _)))
                  go_wp2
                  go_ret
                  exact ⟨ret_bool (unhide HFF).symm, by first | exact Below.drewN1 (unhide HB) _ | (simp only [World.drewN_drewN]; exact Below.drewN1 (unhide HB) _)⟩
              · have HC2 := hide (unhide HNX' (by rw [unhide HEN, decide_eq_true_eq]; exact fun j hj => unhide HM j (by omega)))
                clear hiT ht1 hs1 hd1 HQ HNX' HNE HC hcl HM
                go_wp2
                go_roundw
                case rel => exact ⟨k + 1, n2, by omega, by go_num, rfl, HC2⟩
                case measure => simp [intOf]; omega
          · have HFF := hide (unhide HNZ (by simpa using hz))
            clear HNX HNZ HNE HF HRK HQ hw hip hiLL hiL hkn ht1 hs1 hd1 HC
            go_wp2
            go_quiet ((go_at_call 29; exact Calls.quiet_add (unhide HCMP _)))
            go_wp2
            go_ret
            exact ⟨ret_bool (unhide HFF).symm, by first | exact Below.drewN1 (unhide HB) _ | (simp only [World.drewN_drewN]; exact Below.drewN1 (unhide HB) _)⟩
        · have hk0' : decide ((0 : Int) < (k : Int)) = false := by simpa using hk0
          have hkz : decide (k = 0) = true := by rw [decide_eq_true_eq]; omega
          rw [hkz] at HNX HNZ
          simp only [Bool.true_or] at HNX HNZ
          have HNX' := hide (fun h => unhide HNX h trivial)
          have hiT := hiL
          have HWT := hide hw
          generalize ll[k] = t at *
          clear HNX HNZ HF HRK hw hiLL hiL hkz
          go_wp2
          go_quiet (fail)
          go_wp2
          go_loopw [8, 9] (fun i _ wr => ∃ m n2 : Nat, m ≤ l.length ∧ i = .int .i64 m ∧ wr = W1.drewN n2 ∧ Hid (∀ j, j < m → t.getD j 0 ∈ domL doms (l.getD j 0))) (fun i _ _ => l.length - (intOf i).toNat)
          case atStart => exact ⟨0, _, by omega, rfl, by first | rfl | (simp only [World.drewN_drewN]; rfl), hide (fun j h => by omega)⟩
          case round =>
            obtain ⟨m, n2, hm, rfl, rfl, HM⟩ := hrel
            by_cases hml : m < l.length
            · have hmt : m < t.length := by have := unhide HWT; omega
              obtain ⟨b3, o3, e3, hc3⟩ := hs1.at hml
              subst e3
              obtain ⟨b4, o4, e4, hc4⟩ := hiT.at hmt
              subst e4
              obtain ⟨h0, hdl2⟩ := unhide HIN _ (List.getElem_mem hml)
              obtain ⟨dm, hdm⟩ : ∃ dm : Nat, l[m] = (dm : Int) := ⟨l[m].toNat, by omega⟩
              have hdml : dm < doms.length := by omega
              obtain ⟨b5, o5, u5, e5, hc5, hi5⟩ := hd1.at hdml
              subst e5
              obtain ⟨a6, c6, rfl, _, _⟩ := hi5.form
              have hdom : domL doms (l.getD m 0) = doms[dm] := by
                rw [show l.getD m 0 = l[m] by simp [List.getD_eq_getElem?_getD, hml], hdm]
                unfold domL; simp [List.getD_eq_getElem?_getD, hdml]
              have htg : t.getD m 0 = t[m] := by simp [List.getD_eq_getElem?_getD, hmt]
              have HINC := hide (fun n => inQ t[m] (Seq.drewN hi5 n))
              rw [hdm] at hc3
              have hdmi : (dm : Int) < (doms.length : Int) := by omega
              have HIF : Hid (t[m] ∈ doms[dm] ↔ t.getD m 0 ∈ domL doms (l.getD m 0)) := hide (by rw [hdom, htg])
              have hml2 : m < t.length := hmt
              generalize hD : doms[dm] = D at *
              generalize hX : t[m] = x at *
              by_cases hin : x ∈ D
              · have HM2 : Hid (∀ j, j < m + 1 → t.getD j 0 ∈ domL doms (l.getD j 0)) := hide (fun j hj => by
                  rcases Nat.lt_or_ge j m with h1 | h1
                  · exact unhide HM j h1
                  · obtain rfl : j = m := by omega
                    exact (unhide HIF).1 hin)
                rw [decide_eq_true hin] at HINC
                clear hdom htg hD hX hi5 hin HM HIF hiT ht1 hs1 hd1 h0 hdl2 hdm HQ HNX' HNE HC
                go_wp2
                go_quiet ((go_at_call 25; exact Calls.quiet_add (unhide HINC _)))
                go_wp2
                go_roundw
                case rel => exact ⟨m + 1, _, by omega, by go_num, by first | rfl | (simp only [World.drewN_drewN]; rfl), HM2⟩
                case measure => simp [intOf]; omega
              · have HFF := hide (unhide HNE (by rw [unhide HEN, decide_eq_false_iff_not]; intro hall; exact hin ((unhide HIF).2 (hall m hml))))
                rw [decide_eq_false hin] at HINC
                clear hdom htg hD hX hi5 hin HM HIF hiT ht1 hs1 hd1 h0 hdl2 hdm HQ HNX' HNE HC
                go_wp2
                go_quiet ((go_at_call 25; exact Calls.quiet_add (unhide HINC _)))
                go_wp2
                go_ret
                exact ⟨ret_bool (unhide HFF).symm, by first | exact Below.drewN1 (unhide HB) _ | (simp only [World.drewN_drewN]; exact Below.drewN1 (unhide HB) _)⟩
            · have HC2 := hide (unhide HNX' (by rw [unhide HEN, decide_eq_true_eq]; exact fun j hj => unhide HM j (by omega)))
              clear hiT ht1 hs1 hd1 HQ HNX' HNE HC hcl HM
              go_wp2
              go_roundw
              case rel => exact ⟨k + 1, n2, by omega, by go_num, rfl, HC2⟩
              case measure => simp [intOf]; omega
      · have hw1 : ((ll[k].length : Int) != (l.length : Int)) = true := by simp; omega
        have HFF := hide (unhide HF (by rw [unhide HRK, decide_eq_false hw]; rfl))
        clear HC hw hiL ht1 hd1 hs1 HF HRK HQ
        go_wp2
        go_quiet (fail)
        go_wp2
        go_ret
        exact ⟨ret_bool (unhide HFF).symm, by first | exact Below.drewN1 (unhide HB) _ | (simp only [World.drewN_drewN]; exact Below.drewN1 (unhide HB) _)⟩
    · have HT : Hid (q = true) := hide (by rw [unhide HQ]; unfold rowsB; rw [decide_eq_true_eq]; exact fun j hj => unhide HC j (by omega))
      clear ht1 hs1 hd1 HC HQ
      go_wp2
      go_ret
      exact ⟨ret_bool (unhide HT).symm, Below.drewN1 (unhide HB) _⟩

end Go.Proofs.Ytflibcfecnhjgaa
