/-
  The contracts of isDomain, isScope, and of isHard where there are neither rows nor args.
-/
import Derived.Test.YtoiokplgkanepaaDoorRightA
namespace Go.Proofs.YtoiokplgkanepaaDoor
open Go.RowKit
set_option linter.unusedVariables false
set_option linter.unusedSimpArgs false
set_option maxRecDepth 20000

def domB (l : List Int) : Bool := ((decide (1 ≤ (l.length : Int)) && decide ((l.length : Int) ≤ 16)) && risB l) && l.all smallB
def scopeB (m : Nat) (l : List Int) : Bool := ((decide (1 ≤ (l.length : Int)) && decide ((l.length : Int) ≤ 6)) && risB l) && l.all (fun v => decide (0 ≤ v) && decide (v < (m : Int)))

theorem quiet_below {P : Program} {f : FuncId} {args : Array Value} {w : World} {q : Bool} (h : Calls P f args w fun e w' => e = .returned (.bool q) ∧ ∃ n, w' = w.drewN n) : Calls P f args w fun e w' => e = .returned (.bool q) ∧ Below w.heap.size w w' := Calls.toBelow h

set_option maxHeartbeats 1000000 in
theorem isDomain_any {l : List Int} {v : Value} {w : World} (h : Ints w v l) (hn : ∀ n ∈ l, -9223372036854775808 ≤ n ∧ n ≤ 9223372036854775807) :
    Calls Tryd.prog 24 #[v] w fun e w' => e = .returned (.bool (domB l)) ∧ Below w.heap.size w w' := by
  have HRI := hide (quiet_below (rising_any h))
  have HAL := hide (fun W (hb : Below w.heap.size w W) => allI0 (h.below hb) Tryd.func48 (by kernel_rfl) rfl smallB (fun i hi u W2 hb2 hu => by
    subst hu
    exact (isValue_any l[i] W2 (hn _ (List.getElem_mem hi)).1 (hn _ (List.getElem_mem hi)).2).mono fun e w' ⟨h1, h2⟩ => ⟨h1, by rw [h2]; exact Below.refl _ _⟩))
  obtain ⟨a, ca, rfl, hla, hca⟩ := h.form
  unfold maxLen at hca
  clear h hn
  unfold domB
  by_cases h1 : 1 ≤ (l.length : Int)
  · have h1' : decide (1 ≤ (l.length : Int)) = true := by simpa using h1
    by_cases h2 : (l.length : Int) ≤ 16
    · have h2' : decide ((l.length : Int) ≤ 16) = true := by simpa using h2
      rw [h1', h2']
      generalize risB l = q1 at *
      generalize l.all smallB = q2 at *
      cases q1 with
      | true =>
        go_enter Tryd.func24, Tryd.ntmps24
        go_wp2_with fail
        refine (unhide HRI).mono ?_
        rintro e w1 ⟨rfl, hb1⟩
        go_wp2_with fail
        refine (unhide HAL _ hb1).mono ?_
        rintro e w2 ⟨rfl, hb2⟩
        go_wp2
        go_ret
        exact ⟨rfl, below_then hb1 hb2⟩
      | false =>
        go_enter Tryd.func24, Tryd.ntmps24
        go_wp2_with fail
        refine (unhide HRI).mono ?_
        rintro e w1 ⟨rfl, hb1⟩
        go_wp2
        go_ret
        exact ⟨rfl, hb1⟩
    · have h2' : decide ((l.length : Int) ≤ 16) = false := by simpa using h2
      rw [h1', h2']
      go_enter Tryd.func24, Tryd.ntmps24
      go_wp2
      go_ret
      exact ⟨rfl, Below.refl _ _⟩
  · have h1' : decide (1 ≤ (l.length : Int)) = false := by simpa using h1
    rw [h1']
    go_enter Tryd.func24, Tryd.ntmps24
    go_wp2
    go_ret
    exact ⟨rfl, Below.refl _ _⟩

set_option maxHeartbeats 1000000 in
theorem isScope1_any {a : Option Addr} {m c b : Nat} {n : Int} {w : World} (hm : m ≤ 9223372036854775807) (hc : w.cell? ⟨b, 0, none⟩ = some (.slice a m c)) :
    Calls Tryd.prog 73 #[.int .i64 n, .pointer (some ⟨b, 0, none⟩)] w fun e w' => e = .returned (.bool (decide (0 ≤ n) && decide (n < (m : Int)))) ∧ w' = w := by
  have HV := hide (isVariable_any (a := a) (m := m) (c := c) (n := n) (w := w) hm)
  generalize (decide (0 ≤ n) && decide (n < (m : Int))) = q at *
  go_enter Tryd.func73, Tryd.ntmps73
  go_wp2_with fail
  refine (unhide HV).mono ?_
  rintro e w1 ⟨rfl, rfl⟩
  go_wp2
  go_ret
  exact ⟨rfl, rfl⟩

set_option maxHeartbeats 1000000 in
theorem isScope_any {l : List Int} {v : Value} {w : World} {da : Option Addr} {m dc : Nat} (h : Ints w v l) (hm : m ≤ 9223372036854775807) :
    Calls Tryd.prog 49 #[.slice da m dc, v] w fun e w' => e = .returned (.bool (scopeB m l)) ∧ Below w.heap.size w w' := by
  have hmf : ∀ (fn : Fn) (first cap : Array Value) (w : World), (Instr.makeFunc fn first cap).run Tryd.prog w = .ok (.func fn first cap) w := fun _ _ _ _ => rfl
  have hb0 := (Below.refl w.heap.size w).alloc (Nat.le_refl _) (.cells #[.slice da m dc] 23)
  have x0 := Box1.new 23 w (.slice da m dc)
  have HRI := hide (quiet_below (rising_any (h.below hb0)))
  have HAL := hide (fun W (hb : Below (w.alloc (.cells #[.slice da m dc] 23)).heap.size (w.alloc (.cells #[.slice da m dc] 23)) W) => allI1 (cp := .pointer (some ⟨w.heap.size, 0, none⟩)) ((h.below hb0).below hb) Tryd.func73 (by kernel_rfl) rfl (fun v => decide (0 ≤ v) && decide (v < (m : Int))) (fun i hi u W2 hb2 hu => by
    subst hu
    exact (isScope1_any hm (Below.cell_of hb2 (Below.cell_of hb x0.cell0))).mono fun e w' ⟨h1, h2⟩ => ⟨h1, by rw [h2]; exact Below.refl _ _⟩))
  have HB0 := hide hb0
  obtain ⟨a, ca, rfl, hla, hca⟩ := h.form
  unfold maxLen at hca
  clear h x0 hb0
  unfold scopeB
  by_cases h1 : 1 ≤ (l.length : Int)
  · have h1' : decide (1 ≤ (l.length : Int)) = true := by simpa using h1
    by_cases h2 : (l.length : Int) ≤ 6
    · have h2' : decide ((l.length : Int) ≤ 6) = true := by simpa using h2
      rw [h1', h2']
      generalize risB l = q1 at *
      generalize (l.all fun v => decide (0 ≤ v) && decide (v < (m : Int))) = q2 at *
      cases q1 with
      | true =>
        go_enter Tryd.func49, Tryd.ntmps49
        go_wp2_with fail
        refine (unhide HRI).mono ?_
        rintro e w1 ⟨rfl, hb1⟩
        go_wp2_with fail
        refine (unhide HAL _ hb1).mono ?_
        rintro e w2 ⟨rfl, hb2⟩
        go_wp2
        go_ret
        exact ⟨rfl, below_then (below_then (unhide HB0) hb1) hb2⟩
      | false =>
        go_enter Tryd.func49, Tryd.ntmps49
        go_wp2_with fail
        refine (unhide HRI).mono ?_
        rintro e w1 ⟨rfl, hb1⟩
        go_wp2
        go_ret
        exact ⟨rfl, below_then (unhide HB0) hb1⟩
    · have h2' : decide ((l.length : Int) ≤ 6) = false := by simpa using h2
      rw [h1', h2']
      go_enter Tryd.func49, Tryd.ntmps49
      go_wp2
      go_ret
      exact ⟨rfl, unhide HB0⟩
  · have h1' : decide (1 ≤ (l.length : Int)) = false := by simpa using h1
    rw [h1']
    go_enter Tryd.func49, Tryd.ntmps49
    go_wp2
    go_ret
    exact ⟨rfl, unhide HB0⟩

set_option maxHeartbeats 1000000 in
theorem areRows_nil {dv sv : Value} {a : Option Addr} {c : Nat} {w : World} (hd : dv.oneCell' = true) :
    Calls Tryd.prog 50 #[dv, sv, .slice a 0 c] w fun e w' => e = .returned (.bool true) ∧ Below w.heap.size w w' := by
  go_enter Tryd.func50, Tryd.ntmps50
  go_wp2
  go_loop [11] (fun i => i = .int .i64 0) (fun _ => 0)
  case atStart => rfl
  case round =>
    subst hrel
    go_wp2
    go_ret
    exact ⟨rfl, Below.refl _ _⟩

set_option maxHeartbeats 1000000 in
theorem areArgs_plain {k : Nat} (hk : k ≠ 6) {sv rv : Value} {a : Option Addr} {n c : Nat} {w : World} (hs : sv.oneCell' = true) (hr : rv.oneCell' = true) :
    Calls Tryd.prog 51 #[.agg #[.int .i64 (k : Int), sv, rv, .slice a n c]] w fun e w' => e = .returned (.bool ((n : Int) == 0)) ∧ Below w.heap.size w w' := by
  have hk' : ((k : Int) != 6) = true := by simp; omega
  have HB0 := hide ((Below.refl w.heap.size w).alloc (Nat.le_refl _) (.cells #[.int .i64 (k : Int), sv, rv, .slice a n c] 42))
  clear hk
  go_enter Tryd.func51, Tryd.ntmps51
  go_wp2
  go_ret
  exact ⟨rfl, unhide HB0⟩

end Go.Proofs.YtoiokplgkanepaaDoor
