/-
  The graph in which each of some lists is joined whole: mathematics, and the document's join.
-/
import Derived.Test.YtflibcfecnhjgaaDoorORefGoM
namespace Go.Proofs.YtflibcfecnhjgaaDoor
open Go.RowKit
set_option linter.unusedVariables false
set_option linter.unusedSimpArgs false
set_option maxRecDepth 20000

/-- Each list is joined, one after another. -/
def joinsN (g : List Nat) (L : List (List Int)) : List Nat := L.foldl joinN g
theorem joinsN_snoc (g : List Nat) (L : List (List Int)) (l : List Int) : joinsN g (L ++ [l]) = joinN (joinsN g L) l := by simp [joinsN, List.foldl_append]
theorem joinsN_len (g : List Nat) (L : List (List Int)) : (joinsN g L).length = g.length := by
  unfold joinsN
  induction L generalizing g with
  | nil => rfl
  | cons l L ih => rw [List.foldl_cons, ih, joinN_len]
theorem joinsN_w64 {g : List Nat} (hw : W64 g) (hn : g.length ≤ 64) (L : List (List Int)) : W64 (joinsN g L) := by
  unfold joinsN
  induction L generalizing g with
  | nil => exact hw
  | cons l L ih => rw [List.foldl_cons]; exact ih (joinN_w64 hw hn l) (by rw [joinN_len]; exact hn)
theorem joinsN_bes {g : List Nat} (hn : g.length ≤ 64) (L : List (List Int)) (a b : Nat) :
    besB (joinsN g L) a b = true ↔ besB g a b = true ∨ (a < g.length ∧ b < g.length ∧ a ≠ b ∧ ∃ l ∈ L, (a : Int) ∈ l ∧ (b : Int) ∈ l) := by
  unfold joinsN
  induction L generalizing g with
  | nil => simp
  | cons l L ih =>
    rw [List.foldl_cons, ih (by rw [joinN_len]; exact hn), joinN_bes hn, joinN_len, Bool.or_eq_true, decide_eq_true_eq]
    constructor
    · rintro ((h | ⟨h1, h2, h3, h4, h5⟩) | ⟨h1, h2, h3, l', h4, h5⟩)
      · exact .inl h
      · exact .inr ⟨h1, h2, h5, l, by simp, h3, h4⟩
      · exact .inr ⟨h1, h2, h3, l', by simp [h4], h5⟩
    · rintro (h | ⟨h1, h2, h3, l', h4, h5⟩)
      · exact .inl (.inl h)
      · rcases List.mem_cons.1 h4 with h4 | h4
        · subst h4
          exact .inl (.inr ⟨h1, h2, h5.1, h5.2, h3⟩)
        · exact .inr ⟨h1, h2, h3, l', h4, h5⟩

theorem nodupI_inj {l : List Int} (h : l.Nodup) {i j : Nat} (hi : i < l.length) (hj : j < l.length) (e : l[i] = l[j]) : i = j := by
  have hp := List.pairwise_iff_getElem.1 h
  rcases Nat.lt_trichotomy i j with h1 | h1 | h1
  · exact absurd e (hp i j hi hj h1)
  · exact h1
  · exact absurd e.symm (hp j i hj hi h1)

/-- Of n points those are beside each other that lie in one of the lists. -/
structure PrimM (n : Nat) (L : List (List Int)) (M : List (List Bool)) : Prop where
  len : M.length = n
  wide : ∀ r ∈ M, r.length = n
  iff : ∀ a b : Nat, atM M a b = true ↔ a ≠ b ∧ ∃ l ∈ L, (a : Int) ∈ l ∧ (b : Int) ∈ l

theorem PrimM.nil (n : Nat) : PrimM n [] (falses n n) :=
  ⟨by simp [falses], fun r hr => by have := List.eq_of_mem_replicate hr; subst this; simp, fun a b => by rw [atM_falses]; simp⟩
theorem PrimM.ok {n : Nat} {L : List (List Int)} {M : List (List Bool)} (h : PrimM n L M) : MatOk M := by
  refine ⟨fun r hr => by rw [h.len]; exact h.wide r hr, fun a => ?_, fun a b hab => ?_⟩
  · rw [← Bool.not_eq_true]; exact fun e => ((h.iff a a).1 e).1 rfl
  · obtain ⟨h1, l, h2, h3, h4⟩ := (h.iff a b).1 hab
    exact (h.iff b a).2 ⟨fun e => h1 e.symm, l, h2, h4, h3⟩
theorem PrimM.snoc {n : Nat} {L : List (List Int)} {l : List Int} {M M' : List (List Bool)} (h : PrimM n L M) (hd : l.Nodup) (hj : JoinTo M M' l l.length 0) : PrimM n (L ++ [l]) M' := by
  refine ⟨hj.1.trans h.len, fun r hr => (hj.2.1 r hr).trans h.len, fun a b => ?_⟩
  rw [hj.2.2 a b, h.iff a b]
  constructor
  · rintro (⟨h1, l', h2, h3⟩ | ⟨p, q, hp, hq, hne, h1, h2, h3⟩)
    · exact ⟨h1, l', by simp [h2], h3⟩
    · refine ⟨fun e => hne ?_, l, by simp, h1 ▸ List.getElem_mem hp, h2 ▸ List.getElem_mem hq⟩
      subst e
      exact nodupI_inj hd hp hq (h1.trans h2.symm)
  · rintro ⟨h1, l', h2, h3, h4⟩
    rcases List.mem_append.1 h2 with h2 | h2
    · exact .inl ⟨h1, l', h2, h3, h4⟩
    · rw [List.mem_singleton] at h2
      subst h2
      obtain ⟨p, hp, e1⟩ := List.getElem_of_mem h3
      obtain ⟨q, hq, e2⟩ := List.getElem_of_mem h4
      exact .inr ⟨p, q, hp, hq, fun e => h1 (by subst e; omega), e1, e2, .inl hp⟩
theorem PrimM.graph {n : Nat} {L : List (List Int)} {M : List (List Bool)} (h : PrimM n L M) (hn : n ≤ 40) (hr : ∀ l ∈ L, ∀ x ∈ l, 0 ≤ x ∧ x < (n : Int)) : graphR M = joinsN (List.replicate n 0) L := by
  refine graph_ext (by rw [graphR_len, joinsN_len, List.length_replicate, h.len]) (fun a b => ?_)
  rw [Bool.eq_iff_iff, graphR_at h.ok.wide, joinsN_bes (by rw [List.length_replicate]; omega), bes_replicate, h.iff, List.length_replicate]
  constructor
  · rintro ⟨h1, l, h2, h3, h4⟩
    have := hr l h2 _ h3
    have := hr l h2 _ h4
    exact .inr ⟨by omega, by omega, h1, l, h2, h3, h4⟩
  · rintro (h1 | ⟨_, _, h1, h2⟩)
    · cases h1
    · exact ⟨h1, h2⟩

/-- Each of the lists is a clique. -/
theorem joins_clq {n : Nat} {L : List (List Int)} (hn : n ≤ 40) (hr : ∀ l ∈ L, ∀ x ∈ l, 0 ≤ x ∧ x < (n : Int)) {l : List Int} (hl : l ∈ L) : clqB (joinsN (List.replicate n 0) L) l = true := by
  unfold clqB
  rw [List.all_eq_true]
  intro a ha
  have h1 := hr l hl a ha
  rw [Bool.and_eq_true, List.all_eq_true]
  refine ⟨ptB_iff.2 ⟨h1.1, by rw [joinsN_len, List.length_replicate]; exact h1.2⟩, fun b hb => ?_⟩
  have h2 := hr l hl b hb
  by_cases e : a = b
  · simp [e]
  · rw [Bool.or_eq_true]
    refine .inr ((joinsN_bes (by rw [List.length_replicate]; omega) L _ _).2 (.inr ?_))
    rw [List.length_replicate]
    exact ⟨by omega, by omega, by omega, l, hl, by rw [Int.toNat_of_nonneg h1.1]; exact ha, by rw [Int.toNat_of_nonneg h2.1]; exact hb⟩

set_option maxHeartbeats 4000000 in
theorem refJoin_any {B : Nat} {M : List (List Bool)} {bs : List Nat} {v vl : Value} {L : List Int} {w : World} (hM : OwnMat B w v M.length M bs) (hr : ∀ x ∈ L, 0 ≤ x ∧ x < (M.length : Int)) (hB : B ≤ w.heap.size)
    (hI : ∀ W, Below B w W → Ints W vl L) :
    Calls Tryd.prog 39 #[v, vl] w fun e w' => ∃ M', e = .returned (.tuple #[]) ∧ OwnMat B w' v M.length M' bs ∧ JoinTo M M' L L.length 0 ∧ Below B w w' := by
  have HNM := hide (fun (i : Nat) (hi : i < L.length) => (show ∃ j : Nat, j < M.length ∧ L[i] = (j : Int) from by
    have := hr L[i] (List.getElem_mem hi)
    exact ⟨L[i].toNat, by omega, by omega⟩))
  have HST := hide (JoinTo.start (L := L) hM.wide)
  obtain ⟨av, cv, rfl, hvl, hvm⟩ := hM.form
  unfold maxLen at hvm
  obtain ⟨al, cl, rfl, hll, hlm⟩ := (hI w (Below.refl _ _)).form
  unfold maxLen at hlm
  have HI := hide hI
  have HMM := hide hM
  obtain ⟨n, hn⟩ : ∃ n, n = M.length := ⟨_, rfl⟩
  have hMn : M.length = n := hn.symm
  rw [hMn] at hvl HNM HMM ⊢
  have HMN := hide hMn
  have HB0 := hide (Below.refl B w)
  clear hM hn hMn hr hI
  go_enter Tryd.func39, Tryd.ntmps39
  go_wp2
  go_loopw [4] (fun i wr => ∃ (k : Nat) (M1 : List (List Bool)), k ≤ L.length ∧ i = .int .i64 k ∧ OwnMat B wr (.slice av n cv) n M1 bs ∧ Hid (JoinTo M M1 L k 0) ∧ Below B w wr) (fun i _ => L.length - (intOf i).toNat)
  case atStart => exact ⟨0, M, by omega, rfl, unhide HMM, HST, unhide HB0⟩
  case round =>
    clear HMM HB0 HST
    obtain ⟨k, M1, hk, rfl, hown, HJ, hbel⟩ := hrel
    rename World => wr
    by_cases hkl : k < L.length
    · have HO := hide hown
      have HBE := hide hbel
      clear hown hbel
      go_wp2
      go_loopw [5] (fun j wq => ∃ (q : Nat) (M2 : List (List Bool)), q ≤ L.length ∧ j = .int .i64 q ∧ OwnMat B wq (.slice av n cv) n M2 bs ∧ Hid (JoinTo M M2 L k q) ∧ Below B w wq) (fun j _ => L.length - (intOf j).toNat)
      case atStart => exact ⟨0, M1, by omega, rfl, unhide HO, HJ, unhide HBE⟩
      case round =>
        clear HO HBE HJ
        obtain ⟨q, M2, hq, rfl, hown, HJ, hbel⟩ := hrel
        rename World => wq
        by_cases hql : q < L.length
        · by_cases hkq : k = q
          · subst hkq
            have HJ2 := hide (unhide HJ).skip
            have HF := hide (And.intro hown hbel)
            have hne : ((k : Int) != (k : Int)) = false := by simp
            clear hown hbel HJ
            go_wp2
            go_roundw
            case rel => exact ⟨k + 1, M2, by omega, by go_num, (unhide HF).1, HJ2, (unhide HF).2⟩
            case measure => simp [intOf]; omega
          · have hne : ((k : Int) != (q : Int)) = true := by simp; omega
            obtain ⟨x, hx, hLx⟩ := unhide HNM k hkl
            obtain ⟨y, hy, hLy⟩ := unhide HNM q hql
            have hM2l : M2.length = n := by rw [(unhide HJ).1, unhide HMN]
            have HJ2 := hide ((unhide HJ).put hkl hql hkq hLx hLy (by rw [unhide HMN]; exact hx) (by rw [unhide HMN]; exact hy))
            obtain ⟨bl, ol, e1, q1⟩ := (unhide HI wq hbel).at hkl
            subst e1
            obtain ⟨_, _, e1, q2⟩ := (unhide HI wq hbel).at hql
            cases e1
            rw [hLx] at q1
            rw [hLy] at q2
            obtain ⟨bv, ov, r, e2, c1, c2, c3⟩ := hown.at (i := x) (k := y) (by omega) hy
            subst e2
            obtain ⟨⟨u1, d1⟩, f1, hown2, hb2⟩ := hown.setv (i := x) (k := y) (by omega) hy c3 true
            have HF := hide (And.intro hown2 (hbel.trans hb2))
            have hxI : (x : Int) < (n : Int) := by omega
            have hyI : (y : Int) < (n : Int) := by omega
            clear hown hown2 hb2 hbel c2 HJ hM2l
            go_wp2
            refine wp_region_till (st := 12) (S := fun U => U.cell? ⟨bl, ol + k, none⟩ = some (.int .i64 (x : Int)) ∧ U.cell? ⟨bl, ol + q, none⟩ = some (.int .i64 (y : Int)) ∧ U.cell? ⟨bv, ov + x, none⟩ = some (rowV n r)) (by kernel_rfl) ?_
            have hS0 : wq.drew.cell? ⟨bl, ol + k, none⟩ = some (.int .i64 (x : Int)) ∧ wq.drew.cell? ⟨bl, ol + q, none⟩ = some (.int .i64 (y : Int)) ∧ wq.drew.cell? ⟨bv, ov + x, none⟩ = some (rowV n r) := ⟨q1, q2, c1⟩
            refine till_take (i := 0) (v := ?_) rfl (by kernel_rfl) (by kernel_rfl) (by kernel_rfl) (by kernel_rfl) (fun _ _ _ h => h) (Or.inl ⟨by kernel_rfl, ?_⟩) (by assumption) ?_
            rotate_left
            · intro W hSW; obtain ⟨hS1, hS2, hS3⟩ := hSW; go_simp; first | done | rfl
            simp only [Act.put, List.setIfInBounds_toArray, List.set_cons_zero, List.set_cons_succ]
            refine till_take (i := 1) (v := ?_) rfl (by kernel_rfl) (by kernel_rfl) (by kernel_rfl) (by kernel_rfl) (fun _ _ _ h => h) (Or.inl ⟨by kernel_rfl, ?_⟩) (by assumption) ?_
            rotate_left
            · intro W hSW; obtain ⟨hS1, hS2, hS3⟩ := hSW; go_simp; first | done | rfl
            simp only [Act.put, List.setIfInBounds_toArray, List.set_cons_zero, List.set_cons_succ]
            refine till_take (i := 2) (v := ?_) rfl (by kernel_rfl) (by kernel_rfl) (by kernel_rfl) (by kernel_rfl) (fun _ _ _ h => h) (Or.inl ⟨by kernel_rfl, ?_⟩) (by assumption) ?_
            rotate_left
            · intro W hSW; obtain ⟨hS1, hS2, hS3⟩ := hSW; go_simp; first | done | rfl
            simp only [Act.put, List.setIfInBounds_toArray, List.set_cons_zero, List.set_cons_succ]
            refine till_take (i := 3) (v := ?_) rfl (by kernel_rfl) (by kernel_rfl) (by kernel_rfl) (by kernel_rfl) (fun _ _ _ h => h) (Or.inl ⟨by kernel_rfl, ?_⟩) (by assumption) ?_
            rotate_left
            · intro W hSW; obtain ⟨hS1, hS2, hS3⟩ := hSW; go_simp; first | done | rfl
            simp only [Act.put, List.setIfInBounds_toArray, List.set_cons_zero, List.set_cons_succ]
            refine till_take (i := 4) (v := ?_) rfl (by kernel_rfl) (by kernel_rfl) (by kernel_rfl) (by kernel_rfl) (fun _ _ _ h => h) (Or.inl ⟨by kernel_rfl, ?_⟩) (by assumption) ?_
            rotate_left
            · intro W hSW; obtain ⟨hS1, hS2, hS3⟩ := hSW; go_simp; first | done | rfl
            simp only [Act.put, List.setIfInBounds_toArray, List.set_cons_zero, List.set_cons_succ]
            refine till_take (i := 5) (v := ?_) rfl (by kernel_rfl) (by kernel_rfl) (by kernel_rfl) (by kernel_rfl) (fun _ _ _ h => h) (Or.inl ⟨by kernel_rfl, ?_⟩) (by assumption) ?_
            rotate_left
            · intro W hSW; obtain ⟨hS1, hS2, hS3⟩ := hSW; go_simp; first | done | rfl
            simp only [Act.put, List.setIfInBounds_toArray, List.set_cons_zero, List.set_cons_succ]
            refine till_take (i := 6) (v := ?_) rfl (by kernel_rfl) (by kernel_rfl) (by kernel_rfl) (by kernel_rfl) (fun _ _ _ h => h) (Or.inl ⟨by kernel_rfl, ?_⟩) (by assumption) ?_
            rotate_left
            · intro W hSW; obtain ⟨hS1, hS2, hS3⟩ := hSW; go_simp; first | done | rfl
            simp only [Act.put, List.setIfInBounds_toArray, List.set_cons_zero, List.set_cons_succ]
            refine till_take (i := 7) (v := ?_) rfl (by kernel_rfl) (by kernel_rfl) (by kernel_rfl) (by kernel_rfl) (fun _ _ _ h => h) (Or.inl ⟨by kernel_rfl, ?_⟩) (by assumption) ?_
            rotate_left
            · intro W hSW; obtain ⟨hS1, hS2, hS3⟩ := hSW; go_simp; first | done | rfl
            simp only [Act.put, List.setIfInBounds_toArray, List.set_cons_zero, List.set_cons_succ]
            refine till_take (i := 8) (v := ?_) rfl (by kernel_rfl) (by kernel_rfl) (by kernel_rfl) (by kernel_rfl) (fun _ _ _ h => h) (Or.inl ⟨by kernel_rfl, ?_⟩) (by assumption) ?_
            rotate_left
            · intro W hSW; obtain ⟨hS1, hS2, hS3⟩ := hSW; go_simp; first | done | rfl
            simp only [Act.put, List.setIfInBounds_toArray, List.set_cons_zero, List.set_cons_succ]
            refine till_take (i := 9) (v := ?_) rfl (by kernel_rfl) (by kernel_rfl) (by kernel_rfl) (by kernel_rfl) (fun _ _ _ h => h) (Or.inl ⟨by kernel_rfl, ?_⟩) (by assumption) ?_
            rotate_left
            · intro W hSW; obtain ⟨hS1, hS2, hS3⟩ := hSW; go_simp; first | done | rfl
            simp only [Act.put, List.setIfInBounds_toArray, List.set_cons_zero, List.set_cons_succ]
            refine till_take (i := 10) (v := ?_) rfl (by kernel_rfl) (by kernel_rfl) (by kernel_rfl) (by kernel_rfl) (fun _ _ _ h => h) (Or.inl ⟨by kernel_rfl, ?_⟩) (by assumption) ?_
            rotate_left
            · intro W hSW; obtain ⟨hS1, hS2, hS3⟩ := hSW; go_simp; first | done | rfl
            simp only [Act.put, List.setIfInBounds_toArray, List.set_cons_zero, List.set_cons_succ]
            refine till_take (i := 11) (v := ?_) rfl (by kernel_rfl) (by kernel_rfl) (by kernel_rfl) (by kernel_rfl) (fun _ _ _ h => h) (Or.inl ⟨by kernel_rfl, ?_⟩) (by assumption) ?_
            rotate_left
            · intro W hSW; obtain ⟨hS1, hS2, hS3⟩ := hSW; go_simp; first | done | rfl
            simp only [Act.put, List.setIfInBounds_toArray, List.set_cons_zero, List.set_cons_succ]
            refine till_last (by kernel_rfl) rfl rfl (by kernel_rfl) (fun K hK => ?_)
            go_simp
            refine hK.out _ _ ?_
            clear hK K d1 f1 q1 q2 c1 hS0
            try simp only [Act.put, List.setIfInBounds_toArray, List.set_cons_zero, List.set_cons_succ]
            obtain ⟨W5, hW5⟩ : ∃ W, W = (wq.setCell ⟨r, y, none⟩ (.bool true)).drew := ⟨_, rfl⟩
            have HF2 := hide (show OwnMat B W5 (.slice (some ⟨bv, ov, none⟩) n cv) n (setMv M2 x y true) bs ∧ Below B w W5 from by
              rw [hW5]
              have h := unhide HF
              exact ⟨⟨h.1.len, h.1.outer, h.1.rows, h.1.wide, h.1.nod, h.1.apart⟩, h.2.drew⟩)
            rw [← hW5]
            clear hW5 HF
            go_wp2
            go_roundw
            case rel => exact ⟨q + 1, _, by omega, by go_num, (unhide HF2).1, HJ2, (unhide HF2).2⟩
            case measure => simp [intOf]; omega
        · obtain rfl : q = L.length := by omega
          have HJ2 := hide (unhide HJ).row
          have HF := hide (And.intro hown hbel)
          clear hown hbel HJ
          go_wp2
          go_roundw
          case rel => exact ⟨k + 1, M2, by omega, by go_num, (unhide HF).1, HJ2, (unhide HF).2⟩
          case measure => simp [intOf]; omega
    · obtain rfl : k = L.length := by omega
      go_wp2
      go_end0
      exact ⟨M1, rfl, hown, unhide HJ, hbel⟩

end Go.Proofs.YtflibcfecnhjgaaDoor
