/-
  The contract of Small.
-/
import Derived.Test.YtafpecdmaogohaaGreatRelBox
import Derived.Laws.BitsLemmas
namespace Go.Proofs.YtafpecdmaogohaaGreat
open Go.RowKit
set_option linter.unusedVariables false
set_option linter.unusedSimpArgs false
set_option maxRecDepth 20000

theorem and65535 (n : Int) : bits .and .i64 n 65535 = n % 65536 := by
  have h1 : (BitVec.ofInt 64 65535).toNat = 2 ^ 16 - 1 := by decide
  have key : (BitVec.ofInt 64 n &&& BitVec.ofInt 64 65535).toNat = (n % ((2 ^ 64 : Nat) : Int)).toNat % 2 ^ 16 := by
    rw [BitVec.toNat_and, BitVec.toNat_ofInt, h1, Nat.and_two_pow_sub_one_eq_mod]
  show IntKind.i64.wrap ((BitVec.ofInt 64 n &&& BitVec.ofInt 64 65535).toNat : Nat) = n % 65536
  rw [key, IntKind.wrap_i64]
  omega

/-- A number, counted round. -/
def modL (k x : Int) : Int := (bits .and .i64 x 65535).tmod k

theorem modL_range {k : Int} (hk : 0 < k) (x : Int) : 0 ≤ modL k x ∧ modL k x < k := by
  unfold modL
  rw [and65535, Int.tmod_eq_emod_of_nonneg (Int.emod_nonneg _ (by decide))]
  exact ⟨Int.emod_nonneg _ (by omega), Int.emod_lt_of_pos _ hk⟩

def smallS (sc : List Int) : List Int := riseL ((sc.take 4).map (modL 6))
def smallT (n : Nat) (r : List Int) : List Int := (r.take n).map (modL 3) ++ List.replicate (n - r.length) 0
def smallR (sc : List Int) (rows : List (List Int)) : List (List Int) := sortL ((rows.take 20).map (smallT (smallS sc).length))

theorem smallT_len (n : Nat) (r : List Int) : (smallT n r).length = n := by simp [smallT]; omega
theorem smallS_asc (sc : List Int) : Asc (smallS sc) := (riseL_spec _).1
theorem smallS_len (sc : List Int) : (smallS sc).length ≤ 4 := by
  have := riseL_le ((sc.take 4).map (modL 6))
  have h2 : ((sc.take 4).map (modL 6)).length ≤ 4 := by simp; omega
  exact Nat.le_trans this h2
theorem smallS_mem {sc : List Int} {x : Int} (h : x ∈ smallS sc) : 0 ≤ x ∧ x < 6 := by
  rw [smallS, (riseL_spec _).2] at h
  obtain ⟨y, _, rfl⟩ := List.mem_map.1 h
  exact modL_range (by decide) y
theorem smallR_asc (sc : List Int) (rows : List (List Int)) : AscL (smallR sc rows) := (sortL_spec _).1
theorem smallR_len (sc : List Int) (rows : List (List Int)) : (smallR sc rows).length ≤ 20 := by
  have := sortL_le ((rows.take 20).map (smallT (smallS sc).length))
  have h2 : ((rows.take 20).map (smallT (smallS sc).length)).length ≤ 20 := by simp; omega
  exact Nat.le_trans this h2
theorem smallR_wide {sc : List Int} {rows : List (List Int)} {t : List Int} (h : t ∈ smallR sc rows) : t.length = (smallS sc).length := by
  rw [smallR, (sortL_spec _).2] at h
  obtain ⟨y, _, rfl⟩ := List.mem_map.1 h
  exact smallT_len _ y

theorem small_set {n : Nat} {r : List Int} {k : Nat} (hk : k < n) (hr : k < r.length) :
    ((r.take k).map (modL 3) ++ List.replicate (n - k) 0).set k (modL 3 r[k]) = (r.take (k + 1)).map (modL 3) ++ List.replicate (n - (k + 1)) 0 := by
  have e : n - k = (n - (k + 1)) + 1 := by omega
  rw [e, List.replicate_succ, List.take_succ_eq_append_getElem hr, List.map_append, List.set_append_right _ _ (by simp; omega)]
  simp [Nat.min_eq_left (Nat.le_of_lt hr)]

theorem small_end {n : Nat} {r : List Int} {k : Nat} (h1 : k ≤ n) (h2 : k ≤ r.length) (h : ¬ (k < n ∧ k < r.length)) : (r.take k).map (modL 3) ++ List.replicate (n - k) 0 = smallT n r := by
  unfold smallT
  have e1 : r.take k = r.take n := by rw [List.take_eq_take_iff]; omega
  have e2 : n - k = n - r.length := by omega
  rw [e1, e2]

end Go.Proofs.YtafpecdmaogohaaGreat
