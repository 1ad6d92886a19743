/-
  The contract of round (layer 7's laws): n numbers, counted round 16.
-/
import Derived.Test.YtlbiebnihoekkaaApp3
import Derived.Laws.BitsLemmas
namespace Go.Proofs.Ytlbiebnihoekkaa
open Go.RowKit
set_option linter.unusedVariables false
set_option linter.unusedSimpArgs false
set_option maxRecDepth 20000

theorem and15_eq (n : Int) : bits .and .i64 n 15 = n % 16 := by
  have h1 : (BitVec.ofInt 64 15).toNat = 2 ^ 4 - 1 := by decide
  have key : (BitVec.ofInt 64 n &&& BitVec.ofInt 64 15).toNat = (n % ((2 ^ 64 : Nat) : Int)).toNat % 2 ^ 4 := by
    rw [BitVec.toNat_and, BitVec.toNat_ofInt, h1, Nat.and_two_pow_sub_one_eq_mod]
  show IntKind.i64.wrap ((BitVec.ofInt 64 n &&& BitVec.ofInt 64 15).toNat : Nat) = n % 16
  rw [key, IntKind.wrap_i64]
  omega

theorem and7_eq (n : Int) : bits .and .i64 n 7 = n % 8 := by
  have h1 : (BitVec.ofInt 64 7).toNat = 2 ^ 3 - 1 := by decide
  have key : (BitVec.ofInt 64 n &&& BitVec.ofInt 64 7).toNat = (n % ((2 ^ 64 : Nat) : Int)).toNat % 2 ^ 3 := by
    rw [BitVec.toNat_and, BitVec.toNat_ofInt, h1, Nat.and_two_pow_sub_one_eq_mod]
  show IntKind.i64.wrap ((BitVec.ofInt 64 n &&& BitVec.ofInt 64 7).toNat : Nat) = n % 8
  rw [key, IntKind.wrap_i64]
  omega

theorem andW_eq (n : Int) : bits .and .i64 n 65535 = n % 65536 := by
  have h1 : (BitVec.ofInt 64 65535).toNat = 2 ^ 16 - 1 := by decide
  have key : (BitVec.ofInt 64 n &&& BitVec.ofInt 64 65535).toNat = (n % ((2 ^ 64 : Nat) : Int)).toNat % 2 ^ 16 := by
    rw [BitVec.toNat_and, BitVec.toNat_ofInt, h1, Nat.and_two_pow_sub_one_eq_mod]
  show IntKind.i64.wrap ((BitVec.ofInt 64 n &&& BitVec.ofInt 64 65535).toNat : Nat) = n % 65536
  rw [key, IntKind.wrap_i64]
  omega

def r16 (x : Int) : Int := bits .and .i64 x 15
theorem r16_eq (x : Int) : r16 x = x % 16 := and15_eq x

/-- n numbers, counted round 16; 0, where there are none. -/
def rndL (t : List Int) (n : Nat) : List Int := (t.take n).map r16 ++ List.replicate (n - t.length) 0
theorem rnd_len (t : List Int) (n : Nat) : (rndL t n).length = n := by simp [rndL]; omega
theorem rnd_range {t : List Int} {n : Nat} {x : Int} (h : x ∈ rndL t n) : 0 ≤ x ∧ x < 16 := by
  unfold rndL at h
  rcases List.mem_append.1 h with h | h
  · obtain ⟨y, _, rfl⟩ := List.mem_map.1 h
    rw [r16_eq]; omega
  · have := List.eq_of_mem_replicate h
    omega
theorem rnd_set {n : Nat} {r : List Int} {k : Nat} (hk : k < n) (hr : k < r.length) :
    ((r.take k).map r16 ++ List.replicate (n - k) 0).set k (r16 r[k]) = (r.take (k + 1)).map r16 ++ List.replicate (n - (k + 1)) 0 := by
  have e : n - k = (n - (k + 1)) + 1 := by omega
  rw [e, List.replicate_succ, List.take_succ_eq_append_getElem hr, List.map_append, List.set_append_right _ _ (by simp; omega)]
  simp [Nat.min_eq_left (Nat.le_of_lt hr)]
theorem rnd_end {n : Nat} {r : List Int} {k : Nat} (h1 : k ≤ n) (h2 : k ≤ r.length) (h : ¬ (k < n ∧ k < r.length)) : (r.take k).map r16 ++ List.replicate (n - k) 0 = rndL r n := by
  unfold rndL
  have e1 : r.take k = r.take n := by rw [List.take_eq_take_iff]; omega
  have e2 : n - k = n - r.length := by omega
  rw [e1, e2]

set_option maxHeartbeats 2000000 in
theorem round_any {t : List Int} {n : Nat} {v : Value} {w : World} (h : Ints w v t) (hn : n < 1000) :
    Calls Try.prog 22 #[v, .int .i64 (n : Int)] w fun e w' => ∃ u, e = .returned u ∧ OwnI w.heap.size w' u (rndL t n) ∧ Below w.heap.size w w' := by
  obtain ⟨a, ca, rfl, hla, hca⟩ := h.form
  unfold maxLen at hca
  go_enter Try.func22, Try.ntmps22
  go_wp2_with (at_make; refine wp_make_ints rfl _ _ rfl (Nat.le_refl _) rfl rfl (by omega) ?_; intro w1 hown1 hb1)
  go_loopw [6] (fun i wr => ∃ k : Nat, k ≤ n ∧ k ≤ t.length ∧ i = .int .i64 k ∧ OwnI w.heap.size wr (.slice (some ⟨w.heap.size, 0, none⟩) n n) ((t.take k).map r16 ++ List.replicate (n - k) 0) ∧ Below w.heap.size w wr) (fun i _ => n - (intOf i).toNat)
  case atStart => exact ⟨0, by omega, by omega, rfl, by simpa using hown1, hb1⟩
  case round =>
    clear hown1 hb1
    obtain ⟨k, hk, hkt, rfl, hown, hbel⟩ := hrel
    by_cases hkk : k < n ∧ k < t.length
    · obtain ⟨hka, hkb⟩ := hkk
      obtain ⟨bi, oi, e1, hci⟩ := (h.below hbel).at hkb
      subst e1
      obtain ⟨⟨old, hcell⟩, hfr, hset, hbs⟩ := own_setI hown (by simp; omega) (i := k) hka (r16 t[k])
      rw [rnd_set hka hkb] at hset
      rw [show r16 t[k] = bits .and .i64 t[k] 15 from rfl] at hset hbs
      clear hown h
      go_wp2
      go_roundw
      case rel => exact ⟨k + 1, by omega, by omega, by go_num, hset, hbel.trans hbs⟩
      case measure => simp [intOf]; omega
    · have he := rnd_end hk hkt hkk
      have hok : Hid (decide (k < n) = false ∨ (k < n ∧ ¬ k < t.length)) := hide (by
        by_cases h1 : k < n
        · exact .inr ⟨h1, fun h2 => hkk ⟨h1, h2⟩⟩
        · exact .inl (by simpa using h1))
      rw [he] at hown
      clear he hkk h
      rcases unhide hok with h1 | ⟨h1, h2⟩
      all_goals
        clear hok
        go_wp2
        go_ret
        exact ⟨_, rfl, hown, hbel⟩

end Go.Proofs.Ytlbiebnihoekkaa
