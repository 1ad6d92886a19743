/-
  Plain mathematics of what small makes: few variables, few rows of few values.
-/
import Derived.Test.YtgmbflpngedhnaaGreatLawSmall
import Derived.Test.YtgmbflpngedhnaaGreatJoinMath
namespace Go.Proofs.YtgmbflpngedhnaaGreat
set_option linter.unusedVariables false
set_option linter.unusedSimpArgs false

def smallS3 (sc : List Int) : List Int := riseL ((sc.take 3).map (modL 5))
def smallR3 (sc : List Int) (rows : List (List Int)) : List (List Int) := sortL ((rows.take 12).map (smallT (smallS3 sc).length))

theorem smallS3_asc (sc : List Int) : Asc (smallS3 sc) := (riseL_spec _).1
theorem smallS3_len (sc : List Int) : (smallS3 sc).length ≤ 3 := by
  have := riseL_le ((sc.take 3).map (modL 5))
  have h2 : ((sc.take 3).map (modL 5)).length ≤ 3 := by simp; omega
  exact Nat.le_trans this h2
theorem smallS3_mem {sc : List Int} {x : Int} (h : x ∈ smallS3 sc) : 0 ≤ x ∧ x < 5 := by
  rw [smallS3, (riseL_spec _).2] at h
  obtain ⟨y, _, rfl⟩ := List.mem_map.1 h
  exact modL_range (by decide) y
theorem smallR3_asc (sc : List Int) (rows : List (List Int)) : AscL (smallR3 sc rows) := (sortL_spec _).1
theorem smallR3_len (sc : List Int) (rows : List (List Int)) : (smallR3 sc rows).length ≤ 12 := by
  have := sortL_le ((rows.take 12).map (smallT (smallS3 sc).length))
  have h2 : ((rows.take 12).map (smallT (smallS3 sc).length)).length ≤ 12 := by simp; omega
  exact Nat.le_trans this h2
theorem smallR3_wide {sc : List Int} {rows : List (List Int)} {t : List Int} (h : t ∈ smallR3 sc rows) : t.length = (smallS3 sc).length := by
  rw [smallR3, (sortL_spec _).2] at h
  obtain ⟨y, _, rfl⟩ := List.mem_map.1 h
  exact smallT_len _ y

theorem smallT_dig {n : Nat} {r : List Int} {x : Int} (h : x ∈ smallT n r) : 0 ≤ x ∧ x < 10 := by
  unfold smallT at h
  rcases List.mem_append.1 h with h | h
  · obtain ⟨y, _, rfl⟩ := List.mem_map.1 h
    have := modL_range (k := 3) (by decide) y
    omega
  · have := List.eq_of_mem_replicate h
    omega

theorem fine_small (sc : List Int) (rows : List (List Int)) : Fine (smallS3 sc) (smallR3 sc rows) 12 :=
  ⟨smallS3_asc sc, fun x hx => (smallS3_mem hx).1, smallR3_asc sc rows, fun t ht => smallR3_wide ht, by have := smallS3_len sc; omega, smallR3_len sc rows, fun t ht x hx => by
    rw [smallR3, (sortL_spec _).2] at ht
    obtain ⟨y, _, rfl⟩ := List.mem_map.1 ht
    exact smallT_dig hx⟩

end Go.Proofs.YtgmbflpngedhnaaGreat
