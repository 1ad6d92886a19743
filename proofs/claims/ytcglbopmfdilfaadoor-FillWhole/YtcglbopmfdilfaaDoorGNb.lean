/-
  The contracts of TrailingZeros64 and Neighbors.
-/
import Derived.Test.YtcglbopmfdilfaaDoorGThree
import Derived.Test.YtcglbopmfdilfaaDoorSets
import Derived.Lib.TrailingZeros
namespace Go.Proofs.YtcglbopmfdilfaaDoor
open Go.RowKit
set_option linter.unusedVariables false
set_option linter.unusedSimpArgs false
set_option maxRecDepth 20000

/-- The library's table lies where the program has it. -/
def TabD (w : World) : Prop := ∀ j, j < 64 → w.cell? ⟨0, j, none⟩ = some (.int .u8 ((Lib.deBruijn64tab.getD j 0 : Nat) : Int))
theorem TabD.below {w w' : World} (h : TabD w) (hb : Below w.heap.size w w') : TabD w' := fun i hi => Below.cell_of hb (h i hi)
theorem TabD.lt {w : World} (h : TabD w) : 0 < w.heap.size := cell_lt (h 0 (by decide))
theorem TabD.belowB {w w' : World} {B : Nat} (h : TabD w) (hb : Below B w w') (hB : 0 < B) : TabD w' := fun i hi => by
  rw [hb.cell hB]; exact h i hi

theorem tz_key (x a : Nat) (hx : x < 18446744073709551616) (hx0 : x ≠ 0) (hlow : x &&& (18446744073709551616 - x) = a) :
    IntKind.u64.wrap (bits BinOp.and IntKind.u64 (x : Int) (IntKind.u64.wrap (-(x : Int))) * 285870213051353865) / 288230376151711744 = ((a * 285870213051353865 % 18446744073709551616 / 288230376151711744 : Nat) : Int) := by
  have e1 : IntKind.u64.wrap (-(x : Int)) = ((18446744073709551616 - x : Nat) : Int) := by rw [IntKind.wrap_u64]; omega
  rw [e1, u64_and_nat x _ hx (by omega), hlow, IntKind.wrap_u64]
  omega

set_option maxHeartbeats 1000000 in
theorem tz_core (x k idx : Nat) (w : World) (hx0 : ((x : Int) == 0) = false)
    (key : IntKind.u64.wrap (bits BinOp.and IntKind.u64 (x : Int) (IntKind.u64.wrap (-(x : Int))) * 285870213051353865) / 288230376151711744 = (idx : Int))
    (hi : idx < 64) (hk : k < 64) (hcell : w.cell? ⟨0, idx, none⟩ = some (.int .u8 k)) :
    Calls Tryd.prog 57 #[.int .u64 x] w fun e w' => e = .returned (.int .i64 k) ∧ w' = w := by
  go_enter Tryd.func57, Tryd.ntmps57
  go_wp2_with (simp only [key])
  go_ret
  exact ⟨rfl, rfl⟩

theorem tz_zero (w : World) : Calls Tryd.prog 57 #[.int .u64 0] w fun e w' => e = .returned (.int .i64 64) ∧ w' = w := by
  go_enter Tryd.func57, Tryd.ntmps57
  go_wp2
  go_ret
  exact ⟨rfl, rfl⟩

theorem tz_any {x : Nat} {w : World} (hx : x < 18446744073709551616) (hx0 : x ≠ 0) (hT : TabD w) :
    Calls Tryd.prog 57 #[.int .u64 x] w fun e w' => e = .returned (.int .i64 (Lib.ctz 64 x : Nat)) ∧ w' = w := by
  obtain ⟨hlow, hk⟩ := Lib.lowest_bit 64 x hx0 hx
  obtain ⟨hi, htab⟩ := Lib.deBruijn64_at _ hk
  have hcell := hT _ hi
  rw [htab] at hcell
  exact tz_core x _ _ w (by simp; omega) (tz_key x _ hx hx0 hlow) hi hk hcell

theorem ctz_spec {x : Nat} (hx0 : x ≠ 0) (hx : x < 18446744073709551616) : Lib.ctz 64 x < 64 ∧ x.testBit (Lib.ctz 64 x) = true ∧ (∀ i, i < Lib.ctz 64 x → x.testBit i = false) ∧
    (x &&& (x - 1)) < x ∧ ∀ i, (x &&& (x - 1)).testBit i = (decide (Lib.ctz 64 x < i) && x.testBit i) := by
  have e0 : Lib.ctz 64 x = Lib.ctzFrom 64 x := by unfold Lib.ctz; rw [if_neg hx0]
  obtain ⟨m, hm, hk⟩ := Lib.ctzFrom_spec 64 x (by omega) (by simpa using hx)
  rw [e0]
  generalize Lib.ctzFrom 64 x = k at *
  have hp : 0 < 2 ^ k := Nat.two_pow_pos k
  have d1 : x / 2 ^ k = 2 * m + 1 := by rw [hm]; exact Nat.mul_div_cancel_left _ hp
  have d2 : (x - 1) / 2 ^ k = 2 * m := by
    have h1 : x - 1 = 2 ^ k * (2 * m) + (2 ^ k - 1) := by rw [hm, Nat.mul_add, Nat.mul_one]; omega
    rw [h1, Nat.mul_add_div hp, Nat.div_eq_of_lt (by omega), Nat.add_zero]
  have hlow : ∀ i, i < k → x.testBit i = false := fun i hi => by
    rw [hm, Nat.testBit_eq_decide_div_mod_eq, decide_eq_false_iff_not]
    have e : 2 ^ k * (2 * m + 1) = 2 ^ i * (2 * (2 ^ (k - i - 1) * (2 * m + 1))) := by
      have : 2 ^ k = 2 ^ i * (2 * 2 ^ (k - i - 1)) := by rw [← Nat.pow_succ', ← Nat.pow_add]; congr 1; omega
      rw [this]; simp [Nat.mul_assoc]
    rw [e, Nat.mul_div_cancel_left _ (Nat.two_pow_pos i)]
    omega
  have up : ∀ (y i : Nat), k ≤ i → y.testBit i = (y / 2 ^ k).testBit (i - k) := fun y i hi => by
    rw [Nat.testBit_div_two_pow]; congr 1; omega
  have hbit : x.testBit k = true := by
    rw [up x k (Nat.le_refl _), d1, Nat.sub_self, Nat.testBit_eq_decide_div_mod_eq]
    simp
  refine ⟨hk, hbit, hlow, ?_, fun i => ?_⟩
  · have : x &&& (x - 1) ≤ x - 1 := Nat.and_le_right
    omega
  · rw [Nat.testBit_and]
    rcases Nat.lt_trichotomy i k with h | h | h
    · rw [hlow i h]; simp
    · subst h
      rw [up (x - 1) i (Nat.le_refl _), d2, Nat.sub_self, Nat.testBit_eq_decide_div_mod_eq]
      simp
    · rw [up (x - 1) i (by omega), up x i (by omega), d1, d2]
      have e : i - k = (i - k - 1) + 1 := by omega
      rw [e, Nat.testBit_succ, Nat.testBit_succ]
      have e1 : 2 * m / 2 = m := by omega
      have e2 : (2 * m + 1) / 2 = m := by omega
      rw [e1, e2]
      simp [h]

/-- The points ahead of m that are beside a. -/
def nbUp (g : List Nat) (a : Nat) (m : Nat) : List Int := ((List.range m).filter fun i => decide (i < g.length) && besB g a i).map Int.ofNat

theorem mem_nbUp {g : List Nat} {a m : Nat} {x : Int} : x ∈ nbUp g a m ↔ ∃ k : Nat, k < m ∧ k < g.length ∧ besB g a k = true ∧ x = (k : Int) := by
  unfold nbUp
  simp only [List.mem_map, List.mem_filter, List.mem_range, Bool.and_eq_true, decide_eq_true_eq]
  constructor
  · rintro ⟨k, ⟨h1, h2, h3⟩, rfl⟩
    exact ⟨k, h1, h2, h3, rfl⟩
  · rintro ⟨k, h1, h2, h3, rfl⟩
    exact ⟨k, ⟨h1, h2, h3⟩, rfl⟩

theorem nbUp_asc (g : List Nat) (a m : Nat) : Asc (nbUp g a m) := by
  unfold nbUp Asc
  rw [List.pairwise_map]
  refine List.Pairwise.filter _ (List.pairwise_lt_range.imp ?_)
  intro a b h
  exact Int.ofNat_lt.2 h

theorem nbUp_len (g : List Nat) (a m : Nat) : (nbUp g a m).length ≤ m := by
  unfold nbUp
  rw [List.length_map]
  exact Nat.le_trans (List.length_filter_le _ _) (by simp)

theorem nbUp_next {g : List Nat} {a m k : Nat} (hmk : m ≤ k) (hz : ∀ i, m ≤ i → i < k → besB g a i = false) (hb : besB g a k = true) :
    nbUp g a (k + 1) = if k < g.length then nbUp g a m ++ [(k : Int)] else nbUp g a m := by
  split
  · rename_i hkl
    refine Asc.ext (nbUp_asc _ _ _) ?_ (fun x => ?_)
    · refine List.pairwise_append.2 ⟨nbUp_asc _ _ _, List.pairwise_singleton _ _, fun x hx y hy => ?_⟩
      obtain ⟨j, h1, _, _, rfl⟩ := mem_nbUp.1 hx
      rw [List.mem_singleton] at hy
      subst hy
      omega
    · rw [List.mem_append, List.mem_singleton, mem_nbUp, mem_nbUp]
      constructor
      · rintro ⟨j, h1, h2, h3, rfl⟩
        rcases Nat.lt_or_ge j m with h | h
        · exact .inl ⟨j, h, h2, h3, rfl⟩
        · rcases Nat.lt_or_ge j k with h' | h'
          · rw [hz j h h'] at h3; cases h3
          · right; omega
      · rintro (⟨j, h1, h2, h3, rfl⟩ | rfl)
        · exact ⟨j, by omega, h2, h3, rfl⟩
        · exact ⟨k, by omega, hkl, hb, rfl⟩
  · rename_i hkl
    refine Asc.ext (nbUp_asc _ _ _) (nbUp_asc _ _ _) (fun x => ?_)
    rw [mem_nbUp, mem_nbUp]
    constructor
    · rintro ⟨j, h1, h2, h3, rfl⟩
      rcases Nat.lt_or_ge j m with h | h
      · exact ⟨j, h, h2, h3, rfl⟩
      · rw [hz j h (by omega)] at h3; cases h3
    · rintro ⟨j, h1, h2, h3, rfl⟩
      exact ⟨j, by omega, h2, h3, rfl⟩

theorem nbUp_end {g : List Nat} {a m : Nat} (ha : a < g.length) (hz : ∀ i, m ≤ i → besB g a i = false) : nbUp g a m = nbL g (a : Int) := by
  refine Asc.ext (nbUp_asc _ _ _) (nbL_asc _ _) (fun x => ?_)
  rw [mem_nbUp, mem_nbL]
  constructor
  · rintro ⟨k, h1, h2, h3, rfl⟩
    exact ⟨by rw [ptB_nat]; simpa using ha, k, h2, by simpa using h3, rfl⟩
  · rintro ⟨_, k, h2, h3, rfl⟩
    have h3 : besB g a k = true := by simpa using h3
    rcases Nat.lt_or_ge k m with h | h
    · exact ⟨k, h, h2, h3, rfl⟩
    · rw [hz k h] at h3; cases h3

/-- What is left of x from bit m on. -/
def LeftN (x m left : Nat) : Prop := ∀ i, left.testBit i = (decide (m ≤ i) && x.testBit i)

theorem LeftN.start (x : Nat) : LeftN x 0 x := fun i => by simp
theorem LeftN.step {x m left : Nat} (h : LeftN x m left) (h0 : left ≠ 0) (hl : left < 18446744073709551616) :
    m ≤ Lib.ctz 64 left ∧ Lib.ctz 64 left < 64 ∧ x.testBit (Lib.ctz 64 left) = true ∧ (∀ i, m ≤ i → i < Lib.ctz 64 left → x.testBit i = false) ∧ left &&& (left - 1) < left ∧ LeftN x (Lib.ctz 64 left + 1) (left &&& (left - 1)) := by
  obtain ⟨h1, h2, h3, h4, h5⟩ := ctz_spec h0 hl
  generalize Lib.ctz 64 left = k at *
  have h6 := h2
  rw [h k, Bool.and_eq_true, decide_eq_true_eq] at h6
  refine ⟨h6.1, h1, h6.2, fun i hi hik => ?_, h4, fun i => ?_⟩
  · have := h3 i hik
    rw [h i] at this
    simpa [hi] using this
  · rw [h5, h i, ← Bool.and_assoc]
    congr 1
    rw [Bool.eq_iff_iff]
    simp only [Bool.and_eq_true, decide_eq_true_eq]
    omega

theorem LeftN.done {x m : Nat} (h : LeftN x m 0) : ∀ i, m ≤ i → x.testBit i = false := fun i hi => by
  have := h i
  rw [Nat.zero_testBit] at this
  simpa [hi] using this.symm

end Go.Proofs.YtcglbopmfdilfaaDoor
