/-
  The contracts of all, at each type that Right asks of.
-/
import Derived.Test.YtoiokplgkanepaaDoorReadT
import Derived.Test.YtoiokplgkanepaaDoorTupSets
namespace Go.Proofs.YtoiokplgkanepaaDoor
open Go.RowKit
set_option linter.unusedVariables false
set_option linter.unusedSimpArgs false
set_option maxRecDepth 20000

set_option maxHeartbeats 1000000 in
theorem allI0 {l : List Int} {v : Value} {w : World} (h : Ints w v l) {F : FuncId} {fn : Func} {code : Code} (hF1 : Tryd.prog.funcs[F]? = some fn) (hF2 : (fn.name == "runtime.NumGoroutine") = false) (hF3 : fn.body = some code) (p : Int → Bool)
    (hF : ∀ i (hi : i < l.length) u W, Below w.heap.size w W → u = .int .i64 l[i] → Calls Tryd.prog F #[u] W fun e w' => e = .returned (.bool (p l[i])) ∧ Below W.heap.size W w') :
    Calls Tryd.prog 47 #[v, .func (.func F) #[] #[]] w fun e w' => e = .returned (.bool (l.all p)) ∧ Below w.heap.size w w' := by
  have HEN := enters (P := Tryd.prog) hF1 hF2 hF3
  obtain ⟨a, ca, rfl, hla, hca⟩ := h.form
  unfold maxLen at hca
  obtain ⟨q, hq⟩ : ∃ q, q = l.all p := ⟨_, rfl⟩
  rw [← hq]
  have HF := hide hF
  have HH := hide h
  have HQ : Hid (q = (l.drop 0).all p) := hide hq
  clear hF1 hF2 hF3 hF h hq
  go_enter Tryd.func47, Tryd.ntmps47
  go_wp2
  go_loopw [9] (fun i wr => ∃ k : Nat, k ≤ l.length ∧ i = .int .i64 k ∧ Below w.heap.size w wr ∧ Hid (q = (l.drop k).all p)) (fun i _ => l.length - (intOf i).toNat)
  case atStart => exact ⟨0, by omega, rfl, Below.refl _ _, HQ⟩
  case round =>
    clear HQ
    obtain ⟨k, hk, rfl, hb, HQ⟩ := hrel
    rename World => wr
    by_cases hlt : k < l.length
    · have hQ := HQ.out
      rw [List.drop_eq_getElem_cons hlt, List.all_cons] at hQ
      have hh := unhide HH
      obtain ⟨bb, oo, rfl, hc⟩ := (hh.below hb).at hlt
      have HC := hide (unhide HF k hlt (.int .i64 l[k]) wr hb rfl)
      have HB := hide hb
      generalize hpl : p l[k] = b at *
      have HQ2 := hide hQ
      clear hpl hQ HQ hb hh
      cases b with
      | true =>
        go_wp2_with (refine (unhide HC).mono ?_; rintro e w1 ⟨rfl, hb1⟩)
        go_roundw
        case rel => exact ⟨k + 1, by omega, by go_num, (unhide HB).trans (hb1.mono (unhide HB).size), by simpa using HQ2⟩
        case measure => simp [intOf]; omega
      | false =>
        go_wp2_with (refine (unhide HC).mono ?_; rintro e w1 ⟨rfl, hb1⟩)
        go_ret
        exact ⟨ret_bool (by rw [unhide HQ2]; simp), (unhide HB).trans (hb1.mono (unhide HB).size)⟩
    · have hQ := HQ.out
      rw [List.drop_eq_nil_of_le (by omega)] at hQ
      have HQ2 := hide hQ
      clear hQ HQ
      go_wp2
      go_ret
      exact ⟨ret_bool (by rw [unhide HQ2]; rfl), hb⟩

set_option maxHeartbeats 1000000 in
theorem allI1 {l : List Int} {v : Value} {w : World} {cp : Value} (h : Ints w v l) {F : FuncId} {fn : Func} {code : Code} (hF1 : Tryd.prog.funcs[F]? = some fn) (hF2 : (fn.name == "runtime.NumGoroutine") = false) (hF3 : fn.body = some code) (p : Int → Bool)
    (hF : ∀ i (hi : i < l.length) u W, Below w.heap.size w W → u = .int .i64 l[i] → Calls Tryd.prog F #[u, cp] W fun e w' => e = .returned (.bool (p l[i])) ∧ Below W.heap.size W w') :
    Calls Tryd.prog 47 #[v, .func (.func F) #[] #[cp]] w fun e w' => e = .returned (.bool (l.all p)) ∧ Below w.heap.size w w' := by
  have HEN := enters (P := Tryd.prog) hF1 hF2 hF3
  obtain ⟨a, ca, rfl, hla, hca⟩ := h.form
  unfold maxLen at hca
  obtain ⟨q, hq⟩ : ∃ q, q = l.all p := ⟨_, rfl⟩
  rw [← hq]
  have HF := hide hF
  have HH := hide h
  have HQ : Hid (q = (l.drop 0).all p) := hide hq
  clear hF1 hF2 hF3 hF h hq
  go_enter Tryd.func47, Tryd.ntmps47
  go_wp2
  go_loopw [9] (fun i wr => ∃ k : Nat, k ≤ l.length ∧ i = .int .i64 k ∧ Below w.heap.size w wr ∧ Hid (q = (l.drop k).all p)) (fun i _ => l.length - (intOf i).toNat)
  case atStart => exact ⟨0, by omega, rfl, Below.refl _ _, HQ⟩
  case round =>
    clear HQ
    obtain ⟨k, hk, rfl, hb, HQ⟩ := hrel
    rename World => wr
    by_cases hlt : k < l.length
    · have hQ := HQ.out
      rw [List.drop_eq_getElem_cons hlt, List.all_cons] at hQ
      have hh := unhide HH
      obtain ⟨bb, oo, rfl, hc⟩ := (hh.below hb).at hlt
      have HC := hide (unhide HF k hlt (.int .i64 l[k]) wr hb rfl)
      have HB := hide hb
      generalize hpl : p l[k] = b at *
      have HQ2 := hide hQ
      clear hpl hQ HQ hb hh
      cases b with
      | true =>
        go_wp2_with (refine (unhide HC).mono ?_; rintro e w1 ⟨rfl, hb1⟩)
        go_roundw
        case rel => exact ⟨k + 1, by omega, by go_num, (unhide HB).trans (hb1.mono (unhide HB).size), by simpa using HQ2⟩
        case measure => simp [intOf]; omega
      | false =>
        go_wp2_with (refine (unhide HC).mono ?_; rintro e w1 ⟨rfl, hb1⟩)
        go_ret
        exact ⟨ret_bool (by rw [unhide HQ2]; simp), (unhide HB).trans (hb1.mono (unhide HB).size)⟩
    · have hQ := HQ.out
      rw [List.drop_eq_nil_of_le (by omega)] at hQ
      have HQ2 := hide hQ
      clear hQ HQ
      go_wp2
      go_ret
      exact ⟨ret_bool (by rw [unhide HQ2]; rfl), hb⟩

set_option maxHeartbeats 1000000 in
theorem allT0 {l : List (List Int)} {v : Value} {w : World} (h : Tups w v l) {F : FuncId} {fn : Func} {code : Code} (hF1 : Tryd.prog.funcs[F]? = some fn) (hF2 : (fn.name == "runtime.NumGoroutine") = false) (hF3 : fn.body = some code) (p : (List Int) → Bool)
    (hF : ∀ i (hi : i < l.length) u W, Below w.heap.size w W → Ints W u l[i] → Calls Tryd.prog F #[u] W fun e w' => e = .returned (.bool (p l[i])) ∧ Below W.heap.size W w') :
    Calls Tryd.prog 23 #[v, .func (.func F) #[] #[]] w fun e w' => e = .returned (.bool (l.all p)) ∧ Below w.heap.size w w' := by
  have HEN := enters (P := Tryd.prog) hF1 hF2 hF3
  obtain ⟨a, ca, rfl, hla, hca⟩ := h.form
  unfold maxLen at hca
  obtain ⟨q, hq⟩ : ∃ q, q = l.all p := ⟨_, rfl⟩
  rw [← hq]
  have HF := hide hF
  have HH := hide h
  have HQ : Hid (q = (l.drop 0).all p) := hide hq
  clear hF1 hF2 hF3 hF h hq
  go_enter Tryd.func23, Tryd.ntmps23
  go_wp2
  go_loopw [9] (fun i wr => ∃ k : Nat, k ≤ l.length ∧ i = .int .i64 k ∧ Below w.heap.size w wr ∧ Hid (q = (l.drop k).all p)) (fun i _ => l.length - (intOf i).toNat)
  case atStart => exact ⟨0, by omega, rfl, Below.refl _ _, HQ⟩
  case round =>
    clear HQ
    obtain ⟨k, hk, rfl, hb, HQ⟩ := hrel
    rename World => wr
    by_cases hlt : k < l.length
    · have hQ := HQ.out
      rw [List.drop_eq_getElem_cons hlt, List.all_cons] at hQ
      have hh := unhide HH
      obtain ⟨bb, oo, u, rfl, hc, hu⟩ := (hh.below hb).at hlt
      obtain ⟨ua, uc, rfl, _, _⟩ := hu.form
      have HC := hide (unhide HF k hlt _ wr hb hu)
      have HB := hide hb
      generalize hpl : p l[k] = b at *
      have HQ2 := hide hQ
      clear hpl hQ HQ hb hh
      cases b with
      | true =>
        go_wp2_with (refine (unhide HC).mono ?_; rintro e w1 ⟨rfl, hb1⟩)
        go_roundw
        case rel => exact ⟨k + 1, by omega, by go_num, (unhide HB).trans (hb1.mono (unhide HB).size), by simpa using HQ2⟩
        case measure => simp [intOf]; omega
      | false =>
        go_wp2_with (refine (unhide HC).mono ?_; rintro e w1 ⟨rfl, hb1⟩)
        go_ret
        exact ⟨ret_bool (by rw [unhide HQ2]; simp), (unhide HB).trans (hb1.mono (unhide HB).size)⟩
    · have hQ := HQ.out
      rw [List.drop_eq_nil_of_le (by omega)] at hQ
      have HQ2 := hide hQ
      clear hQ HQ
      go_wp2
      go_ret
      exact ⟨ret_bool (by rw [unhide HQ2]; rfl), hb⟩

end Go.Proofs.YtoiokplgkanepaaDoor
