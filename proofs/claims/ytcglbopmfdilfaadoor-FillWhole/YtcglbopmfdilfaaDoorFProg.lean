/-
  The contracts of left, joined: who is left, and what they join.
-/
import Derived.Test.YtcglbopmfdilfaaDoorFMath
import Derived.Test.YtcglbopmfdilfaaDoorGBox
import Derived.Test.YtcglbopmfdilfaaDoorOSrch
namespace Go.Proofs.YtcglbopmfdilfaaDoor
open Go.RowKit
set_option linter.unusedVariables false
set_option linter.unusedSimpArgs false
set_option maxRecDepth 20000

set_option maxHeartbeats 2000000 in
theorem left_any {N : List Int} {t : List Bool} {vn vt : Value} {w : World} (hn : Ints w vn N) (hnl : N.length ≤ 1000) (ht : Seq Value.bool w vt t) (hm : ∀ i (hi : i < N.length), ∃ j : Nat, j < t.length ∧ N[i] = (j : Int)) :
    Calls Tryd.prog 45 #[vn, vt] w fun e w' => ∃ v, e = .returned v ∧ OwnI w.heap.size w' v (N.filter fun b => t.getD b.toNat false == false) ∧ Below w.heap.size w w' := by
  obtain ⟨an, cn, rfl, hnl', hnc⟩ := hn.form
  obtain ⟨ay, cy, rfl, hyl, hyc⟩ := ht.form
  unfold maxLen at hyc hnc
  have HNV := hide (fun W (hb : Below w.heap.size w W) => hn.below hb)
  have HTV := hide (fun W (hb : Below w.heap.size w W) => ht.below hb)
  have HM := hide hm
  clear hn ht hm
  go_enter Tryd.func45, Tryd.ntmps45
  go_wp2
  go_loopw [5, 10] (fun v i wr => ∃ k : Nat, k ≤ N.length ∧ i = .int .i64 k ∧ OwnI w.heap.size wr v ((N.take k).filter fun b => t.getD b.toNat false == false) ∧ Below w.heap.size w wr) (fun _ i _ => N.length - (intOf i).toNat)
  case atStart => exact ⟨0, by omega, rfl, own_nilI _ _, Below.refl _ _⟩
  case round =>
    obtain ⟨k, hk, rfl, hown, hbel⟩ := hrel
    rename World => wr
    have hzr := hbel.size
    by_cases hkl : k < N.length
    · obtain ⟨j, hj, hjN⟩ := unhide HM k hkl
      obtain ⟨bt, ot, e1, q1⟩ := (unhide HTV wr hbel).at hj
      subst e1
      obtain ⟨bn, on, e2, q2⟩ := (unhide HNV wr hbel).at hkl
      subst e2
      have e3 : t.getD j false = t[j] := by rw [List.getD_eq_getElem?_getD, List.getElem?_eq_getElem hj]; rfl
      have hfs := filter_snoc (p := fun b => t.getD b.toNat false == false) hkl hjN (q := t[j] == false) (by simp only [Int.toNat_natCast]; rw [e3])
      rw [hjN] at q2
      have hfl : ((N.take k).filter fun b => t.getD b.toNat false == false).length ≤ k := Nat.le_trans (List.length_filter_le _ _) (by rw [List.length_take]; omega)
      generalize t[j] = tj at *
      obtain ⟨F, hF⟩ : ∃ F, F = (N.take k).filter fun b => t.getD b.toNat false == false := ⟨_, rfl⟩
      obtain ⟨F', hF'⟩ : ∃ F, F = (N.take (k + 1)).filter fun b => t.getD b.toNat false == false := ⟨_, rfl⟩
      rw [← hF, ← hF'] at hfs
      rw [← hF] at hown hfl
      have HF' := hide hF'
      have HO := hide hown
      have HBE := hide hbel
      have hyj : j < t.length := hj
      clear hF hF' hown hbel hjN e3
      generalize t.length = n at *
      cases tj
      all_goals
        simp only [beq_self_eq_true, cond_true, cond_false, show (true == false) = false from rfl] at hfs
        have HFS := hide hfs
        clear hfs
        first
        | (go_wp2_with (at_builtin; refine wp_app_int rfl (.tmp 19) (.tmp 21) rfl (B := w.heap.size) (unhide HO) rfl (by omega) rfl (by omega) ?_; intro v5 w5 hown5 hg5)
           go_roundw
           case rel => exact ⟨k + 1, by omega, by go_num, by rw [← unhide HF', unhide HFS]; exact hown5, (unhide HBE).trans hg5.below⟩
           case measure => simp [intOf]; omega)
        | (go_wp2
           go_roundw
           case rel => exact ⟨k + 1, by omega, by go_num, by rw [← unhide HF', unhide HFS]; exact unhide HO, unhide HBE⟩
           case measure => simp [intOf]; omega)
    · have e : N.take k = N := List.take_of_length_le (by omega)
      rw [e] at hown
      go_wp2
      go_ret
      exact ⟨_, rfl, hown, hbel⟩

/-- Pairs of a list, so far, are joined. -/
structure JoinG (g : List Nat) (N : List Int) (i k : Nat) (G : List Nat) : Prop where
  right : RightG G
  len : G.length = g.length
  bes : ∀ x y : Nat, besB G x y = true ↔ besB g x y = true ∨ (x ≠ y ∧ ∃ p q : Nat, q < p ∧ (p < i ∨ (p = i ∧ q < k)) ∧ p < N.length ∧ (((x : Int) = N.getD p 0 ∧ (y : Int) = N.getD q 0) ∨ ((y : Int) = N.getD p 0 ∧ (x : Int) = N.getD q 0)))

theorem JoinG.start {g : List Nat} (hr : RightG g) (N : List Int) : JoinG g N 0 0 g := by
  refine ⟨hr, rfl, fun x y => ?_⟩
  constructor
  · exact fun h => .inl h
  · rintro (h | ⟨_, p, q, h1, h2, _⟩)
    · exact h
    · omega
theorem JoinG.row {g : List Nat} {N : List Int} {i : Nat} {G : List Nat} (h : JoinG g N i i G) : JoinG g N (i + 1) 0 G := by
  refine ⟨h.right, h.len, fun x y => ?_⟩
  rw [h.bes]
  have e : ∀ p q : Nat, (q < p ∧ (p < i ∨ p = i ∧ q < i)) ↔ (q < p ∧ (p < i + 1 ∨ p = i + 1 ∧ q < 0)) := fun p q => by omega
  constructor
  · rintro (h | ⟨h0, p, q, h1, h2, h3⟩)
    · exact .inl h
    · exact .inr ⟨h0, p, q, h1, by omega, h3⟩
  · rintro (h | ⟨h0, p, q, h1, h2, h3⟩)
    · exact .inl h
    · exact .inr ⟨h0, p, q, h1, by omega, h3⟩
theorem JoinG.skip {g : List Nat} {N : List Int} {i k : Nat} {G : List Nat} {a b : Nat} (h : JoinG g N i k G) (ha : N.getD i 0 = (a : Int)) (hb : N.getD k 0 = (b : Int)) (hki : k < i) (hi : i < N.length) (hbe : besB G a b = true) : JoinG g N i (k + 1) G := by
  refine ⟨h.right, h.len, fun x y => ?_⟩
  constructor
  · intro hx
    rcases (h.bes x y).1 hx with h1 | ⟨h0, p, q, h1, h2, h3⟩
    · exact .inl h1
    · exact .inr ⟨h0, p, q, h1, by omega, h3⟩
  · rintro (h1 | ⟨h0, p, q, h1, h2, h3, h4⟩)
    · exact (h.bes x y).2 (.inl h1)
    · by_cases hq : p = i ∧ q = k
      · obtain ⟨rfl, rfl⟩ := hq
        rw [ha, hb] at h4
        rcases h4 with ⟨e1, e2⟩ | ⟨e1, e2⟩
        · rw [show x = a by omega, show y = b by omega]; exact hbe
        · rw [show x = b by omega, show y = a by omega]; exact h.right.sym _ _ hbe
      · exact (h.bes x y).2 (.inr ⟨h0, p, q, h1, by omega, h3, h4⟩)
theorem JoinG.join {g : List Nat} {N : List Int} {i k : Nat} {G : List Nat} {a b : Nat} (h : JoinG g N i k G) (ha : N.getD i 0 = (a : Int)) (hb : N.getD k 0 = (b : Int)) (hki : k < i) (hi : i < N.length) (hal : a < g.length) (hbl : b < g.length) : JoinG g N i (k + 1) (joinN G [(a : Int), (b : Int)]) := by
  refine ⟨right_join h.right _, by rw [joinN_len]; exact h.len, fun x y => ?_⟩
  rw [joinN_bes (by have := h.right.few; omega), Bool.or_eq_true, decide_eq_true_eq, h.bes, h.len]
  simp only [List.mem_cons, List.not_mem_nil, or_false]
  constructor
  · rintro ((h1 | ⟨h0, p, q, h1, h2, h3⟩) | ⟨h1, h2, h3, h4, h5⟩)
    · exact .inl h1
    · exact .inr ⟨h0, p, q, h1, by omega, h3⟩
    · refine .inr ⟨h5, i, k, hki, by omega, hi, ?_⟩
      rw [ha, hb]
      rcases h3 with h3 | h3 <;> rcases h4 with h4 | h4
      · omega
      · exact .inl ⟨h3, h4⟩
      · exact .inr ⟨h4, h3⟩
      · omega
  · rintro (h1 | ⟨h0, p, q, h1, h2, h3, h4⟩)
    · exact .inl (.inl h1)
    · by_cases hq : p = i ∧ q = k
      · obtain ⟨rfl, rfl⟩ := hq
        rw [ha, hb] at h4
        refine .inr ?_
        rcases h4 with ⟨e1, e2⟩ | ⟨e1, e2⟩
        · exact ⟨by omega, by omega, .inl e1, .inr e2, h0⟩
        · exact ⟨by omega, by omega, .inr e2, .inl e1, h0⟩
      · exact .inl (.inr ⟨h0, p, q, h1, by omega, h3, h4⟩)
theorem JoinG.all {g : List Nat} {N : List Int} {G : List Nat} (hr : RightG g) (h : JoinG g N N.length 0 G) (hp : ∀ x ∈ N, 0 ≤ x ∧ x < (g.length : Int)) : G = joinN g N := by
  refine graph_ext (by rw [h.len, joinN_len]) (fun x y => ?_)
  rw [Bool.eq_iff_iff, h.bes, joinN_bes (by have := hr.few; omega), Bool.or_eq_true, decide_eq_true_eq]
  have eg : ∀ (p : Nat) (hp : p < N.length), N.getD p 0 = N[p] := fun p hp => by rw [List.getD_eq_getElem?_getD, List.getElem?_eq_getElem hp]; rfl
  constructor
  · rintro (h1 | ⟨h0, p, q, h1, h2, h3, h4⟩)
    · exact .inl h1
    · rw [eg p h3, eg q (by omega)] at h4
      have m1 := List.getElem_mem h3
      have m2 := List.getElem_mem (show q < N.length by omega)
      have b1 := hp _ m1
      have b2 := hp _ m2
      refine .inr ?_
      rcases h4 with ⟨e1, e2⟩ | ⟨e1, e2⟩
      · exact ⟨by omega, by omega, by rw [e1]; exact m1, by rw [e2]; exact m2, h0⟩
      · exact ⟨by omega, by omega, by rw [e2]; exact m2, by rw [e1]; exact m1, h0⟩
  · rintro (h1 | ⟨h1, h2, h3, h4, h5⟩)
    · exact .inl h1
    · obtain ⟨p, hp, e1⟩ := List.getElem_of_mem h3
      obtain ⟨q, hq, e2⟩ := List.getElem_of_mem h4
      have hne : p ≠ q := fun e => by subst e; exact h5 (by omega)
      refine .inr ⟨h5, ?_⟩
      rcases Nat.lt_or_ge q p with h6 | h6
      · exact ⟨p, q, h6, .inl hp, hp, by rw [eg p hp, eg q hq]; exact .inl ⟨e1.symm, e2.symm⟩⟩
      · exact ⟨q, p, by omega, .inl hq, hq, by rw [eg p hp, eg q hq]; exact .inr ⟨e2.symm, e1.symm⟩⟩

end Go.Proofs.YtcglbopmfdilfaaDoor
