/-
  The contract of least: the first point that is worth least.
-/
import Derived.Test.YtcglbopmfdilfaaDoorOSrch
namespace Go.Proofs.YtcglbopmfdilfaaDoor
open Go.RowKit
set_option linter.unusedVariables false
set_option linter.unusedSimpArgs false
set_option maxRecDepth 20000

theorem leastUp_yes {f : Int → Int} {t : List Bool} {k : Nat} (h : t.getD k false = true) : leastUp f t (k + 1) = leastUp f t k := by
  show (if t.getD k false = true then _ else _) = _
  rw [if_pos h]
theorem leastUp_new {f : Int → Int} {t : List Bool} {k : Nat} (h : t.getD k false = false) (h2 : (leastUp f t k).1 < 0 ∨ f (k : Int) < (leastUp f t k).2) : leastUp f t (k + 1) = ((k : Int), f (k : Int)) := by
  show (if t.getD k false = true then _ else _) = _
  rw [if_neg (by rw [h]; decide), if_pos h2]
theorem leastUp_old {f : Int → Int} {t : List Bool} {k : Nat} (h : t.getD k false = false) (h2 : ¬ ((leastUp f t k).1 < 0 ∨ f (k : Int) < (leastUp f t k).2)) : leastUp f t (k + 1) = leastUp f t k := by
  show (if t.getD k false = true then _ else _) = _
  rw [if_neg (by rw [h]; decide), if_neg h2]

set_option maxHeartbeats 4000000 in
theorem leastS_any {w : World} {b : Nat} {s : Srch} {x y z : Value} {F : FuncId} {f : Int → Int} (h : StV w b s x y z) (hn : s.t.length ≤ 64)
    (hF : ∀ a W, Below w.heap.size w W → Calls Tryd.prog F #[.pointer (some ⟨b, 0, none⟩), .int .i64 a] W fun e w' => e = .returned (.int .i64 (f a)) ∧ Below W.heap.size W w') (hFf : ∃ fn c, Tryd.prog.funcs[F]? = some fn ∧ (fn.name == "runtime.NumGoroutine") = false ∧ fn.body = some c) :
    Calls Tryd.prog 42 #[.pointer (some ⟨b, 0, none⟩), .func (.func F) #[.pointer (some ⟨b, 0, none⟩)] #[]] w fun e w' => e = .returned (.int .i64 (leastL f s.t)) ∧ Below w.heap.size w w' := by
  obtain ⟨fn, c, hF1, hF2, hF3⟩ := hFf
  have HEN := enters (P := Tryd.prog) hF1 hF2 hF3
  have HF := hide hF
  have HS := hide (fun W (hb : Below w.heap.size w W) => h.t.below hb)
  obtain ⟨y0, y1, y2⟩ := h.box.cells
  obtain ⟨ay, cy, rfl, hyl, hyc⟩ := h.t.form
  unfold maxLen at hyc
  unfold leastL
  clear h hF
  go_enter Tryd.func42, Tryd.ntmps42
  go_wp2
  go_loopw [5, 6, 15] (fun p q i wr => ∃ k : Nat, k ≤ s.t.length ∧ i = .int .i64 k ∧ p = .int .i64 (leastUp f s.t k).1 ∧ q = .int .i64 (leastUp f s.t k).2 ∧ Below w.heap.size w wr) (fun _ _ i _ => s.t.length - (intOf i).toNat)
  case atStart => exact ⟨0, by omega, rfl, rfl, rfl, Below.refl _ _⟩
  case round =>
    clear y0 y1 y2
    obtain ⟨k, hk, rfl, rfl, rfl, hbel⟩ := hrel
    rename World => wr
    have hzr := hbel.size
    by_cases hkl : k < s.t.length
    · obtain ⟨bt, ot, e1, q1⟩ := (unhide HS wr hbel).at hkl
      subst e1
      have e3 : s.t.getD k false = s.t[k] := by rw [List.getD_eq_getElem?_getD, List.getElem?_eq_getElem hkl]; rfl
      have HY := hide (fun (h : s.t[k] = true) => leastUp_yes (f := f) (e3.trans h))
      have HNW := hide (fun (h : s.t[k] = false) => leastUp_new (f := f) (e3.trans h))
      have HOL := hide (fun (h : s.t[k] = false) => leastUp_old (f := f) (e3.trans h))
      have HC := hide (unhide HF (k : Int) wr hbel)
      have HBE := hide hbel
      clear e3 hbel
      generalize s.t[k] = tk at *
      obtain ⟨n, hn'⟩ : ∃ n, n = s.t.length := ⟨_, rfl⟩
      cases tk with
      | true =>
        have HE := hide (unhide HY rfl)
        clear HY HNW HOL HC
        go_wp2
        go_roundw
        case rel => exact ⟨k + 1, by omega, by go_num, by rw [unhide HE], by rw [unhide HE], unhide HBE⟩
        case measure => simp [intOf]; omega
      | false =>
        have HE1 := hide (unhide HNW rfl)
        have HE2 := hide (unhide HOL rfl)
        clear HY HNW HOL
        generalize leastUp f s.t k = P at *
        obtain ⟨p1, p2⟩ := P
        generalize f (k : Int) = fk at *
        by_cases h1 : p1 < 0
        · have HE := hide (unhide HE1 (.inl h1))
          clear HE1 HE2
          go_wp2_with fail
          refine (unhide HC).mono ?_
          rintro e w3 ⟨rfl, hb3⟩
          have HBE3 := hide ((unhide HBE).trans (hb3.mono hzr))
          clear hb3 HC q1
          go_wp2
          go_roundw
          case rel => exact ⟨k + 1, by omega, by go_num, by rw [unhide HE], by rw [unhide HE], unhide HBE3⟩
          case measure => simp [intOf]; omega
        · by_cases h2 : fk < p2
          · have HE := hide (unhide HE1 (.inr h2))
            clear HE1 HE2
            go_wp2_with fail
            refine (unhide HC).mono ?_
            rintro e w3 ⟨rfl, hb3⟩
            have HBE3 := hide ((unhide HBE).trans (hb3.mono hzr))
            clear hb3 HC q1
            go_wp2
            go_roundw
            case rel => exact ⟨k + 1, by omega, by go_num, by rw [unhide HE], by rw [unhide HE], unhide HBE3⟩
            case measure => simp [intOf]; omega
          · have HE := hide (unhide HE2 (fun h => h.elim h1 h2))
            clear HE1 HE2
            go_wp2_with fail
            refine (unhide HC).mono ?_
            rintro e w3 ⟨rfl, hb3⟩
            have HBE3 := hide ((unhide HBE).trans (hb3.mono hzr))
            clear hb3 HC q1
            go_wp2
            go_roundw
            case rel => exact ⟨k + 1, by omega, by go_num, by rw [unhide HE], by rw [unhide HE], unhide HBE3⟩
            case measure => simp [intOf]; omega
    · obtain rfl : k = s.t.length := by omega
      go_wp2
      go_ret
      exact ⟨rfl, hbel⟩

end Go.Proofs.YtcglbopmfdilfaaDoor
