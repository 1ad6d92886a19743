/-
  What a right instance of few assignments tells of its constraints. Nothing of the program is spoken of here.
-/
import Derived.Test.YtflibcfecnhjgaaRefFew7
import Derived.Test.YtflibcfecnhjgaaBHolds
import Derived.Test.YtflibcfecnhjgaaSortMath
namespace Go.Proofs.Ytflibcfecnhjgaa
open Go.RowKit
set_option linter.unusedVariables false
set_option linter.unusedSimpArgs false
set_option maxRecDepth 20000

theorem cmpL_self : ∀ l : List Int, cmpL l l = 0
  | [] => by simp [cmpL]
  | x :: r => by simp [cmpL, cmpL_self r]

theorem nodup_le {α : Type} [DecidableEq α] : ∀ (l m : List α), l.Nodup → (∀ x ∈ l, x ∈ m) → l.length ≤ m.length
  | [], m, _, _ => by simp
  | x :: r, m, hn, hm => by
    obtain ⟨h1, h2⟩ := List.nodup_cons.1 hn
    have hx := hm x (by simp)
    have ih := nodup_le r (m.erase x) h2 (fun y hy => (List.mem_erase_of_ne (fun e => h1 (by subst e; exact hy))).2 (hm y (by simp [hy])))
    rw [List.length_erase_of_mem hx] at ih
    have := List.length_pos_of_mem hx
    simp; omega

theorem rows_asc {doms : List (List Int)} {l : List Int} {ll : List (List Int)} (h : rowsB doms l ll = true) : AscL ll := by
  unfold rowsB at h
  simp only [decide_eq_true_eq] at h
  have step : ∀ i (h1 : i + 1 < ll.length), cmpL (ll[i]'(by omega)) ll[i + 1] < 0 := by
    intro i h1
    have := h (i + 1) h1
    rw [rowOk_at h1] at this
    simp at this
    exact this.1.2
  refine List.pairwise_iff_getElem.2 fun i j hi hj hij => ?_
  obtain ⟨d, rfl⟩ : ∃ d, j = i + 1 + d := ⟨j - i - 1, by omega⟩
  clear hij
  induction d with
  | zero => exact step i hj
  | succ d ih => exact cmpL_trans (ih (by omega)) (step (i + 1 + d) hj)

theorem rows_in {doms : List (List Int)} {l : List Int} {ll : List (List Int)} (h : rowsB doms l ll = true) : ∀ t ∈ ll, t ∈ fullL (l.map (domL doms)) := by
  unfold rowsB at h
  simp only [decide_eq_true_eq] at h
  intro t ht
  obtain ⟨i, hi, rfl⟩ := List.getElem_of_mem ht
  have := h i hi
  rw [rowOk_at hi] at this
  simp only [Bool.and_eq_true, decide_eq_true_eq] at this
  obtain ⟨⟨h1, _⟩, h3⟩ := this
  unfold entB at h3
  simp only [decide_eq_true_eq] at h3
  refine (mem_full _ _).2 ⟨by simp [h1], fun k hk hk' => ?_⟩
  have hkl : k < l.length := by simpa using hk'
  have := h3 k hkl
  simpa [List.getD_eq_getElem?_getD, hk, hkl] using this

theorem prod_sub : ∀ {a b : List (List Int)}, List.Sublist a b → (∀ d ∈ b, 1 ≤ d.length) → prodN a ≤ prodN b := by
  intro a b h
  induction h with
  | slnil => intro _; exact Nat.le_refl _
  | cons d h ih =>
    intro hb
    have h1 := ih (fun x hx => hb x (by simp [hx]))
    have h2 := hb d (by simp)
    exact Nat.le_trans h1 (by simpa [prodN] using Nat.mul_le_mul_right (prodN _) h2)
  | cons_cons d h ih =>
    intro hb
    have h1 := ih (fun x hx => hb x (by simp [hx]))
    exact Nat.mul_le_mul_left _ h1

/-- The domains of rising variables are a part of the domains. -/
theorem doms_sub : ∀ (doms : List (List Int)) (l : List Int) (o : Nat), Asc l → (∀ x ∈ l, (o : Int) ≤ x ∧ x < (o : Int) + doms.length) → List.Sublist (l.map fun x => doms.getD (x.toNat - o) []) doms
  | doms, [], o, _, _ => by simp
  | [], x :: r, o, _, hx => by have := hx x (by simp); simp at this; omega
  | d :: ds, x :: r, o, ha, hx => by
    have h0 := hx x (by simp)
    obtain ⟨ha1, ha2⟩ := List.pairwise_cons.1 ha
    have shift : ∀ y : Int, (o : Int) + 1 ≤ y → (d :: ds).getD (y.toNat - o) [] = ds.getD (y.toNat - (o + 1)) [] := by
      intro y hy
      have : y.toNat - o = (y.toNat - (o + 1)) + 1 := by omega
      rw [this]; simp
    by_cases e : x = o
    · subst e
      have ih := doms_sub ds r (o + 1) ha2 (fun y hy => by have h1 := ha1 y hy; have h2 := hx y (by simp [hy]); simp at h2; omega)
      rw [List.map_cons]
      have e0 : (d :: ds).getD ((o : Int).toNat - o) [] = d := by simp
      rw [e0, List.map_congr_left (fun y hy => shift y (by have := ha1 y hy; omega))]
      exact List.Sublist.cons_cons d ih
    · have ih := doms_sub ds (x :: r) (o + 1) ha (fun y hy => by
        have h2 := hx y hy
        simp at h2
        have : x ≤ y := by
          rcases List.mem_cons.1 hy with rfl | hy'
          · omega
          · have := ha1 y hy'; omega
        omega)
      rw [List.map_congr_left (fun y hy => shift y (by
        rcases List.mem_cons.1 hy with rfl | hy'
        · omega
        · have := ha1 y hy'; omega))]
      exact List.Sublist.cons d ih

theorem doms_sub0 {doms : List (List Int)} {l : List Int} (ha : Asc l) (hx : ∀ x ∈ l, 0 ≤ x ∧ x < (doms.length : Int)) : List.Sublist (l.map (domL doms)) doms := by
  have := doms_sub doms l 0 ha (fun x h => by have := hx x h; simp; omega)
  exact this

theorem FewP.prod {x : Ins} (h : FewP x) {l : List Int} (hl : scopeB x.doms.length l = true) (i : Nat) : prodN ((l.take i).map (domL x.doms)) ≤ 2000 := by
  obtain ⟨h1, h2, h3, h4⟩ := scopeB_in hl
  refine Nat.le_trans (prod_sub (doms_sub0 (List.Pairwise.sublist (List.take_sublist i l) h4) (fun y hy => h1 y (List.mem_of_mem_take hy))) (fun d hd => ?_)) h.2
  obtain ⟨k, hk, rfl⟩ := List.getElem_of_mem hd
  exact (h.1.doms k hk).lo
theorem FewP.full {x : Ins} (h : FewP x) {l : List Int} (hl : scopeB x.doms.length l = true) : (fullL (l.map (domL x.doms))).length ≤ 2000 := by
  rw [full_count]
  have := h.prod hl l.length
  rwa [List.take_length] at this
theorem FewP.rows {x : Ins} (h : FewP x) {l : List Int} {ll : List (List Int)} (hl : scopeB x.doms.length l = true) (hr : rowsB x.doms l ll = true) : ll.length ≤ 2000 := by
  have ha := rows_asc hr
  have hn : ll.Nodup := List.Pairwise.imp (fun {a b} hab e => by subst e; rw [cmpL_self] at hab; omega) ha
  exact Nat.le_trans (nodup_le _ _ hn (rows_in hr)) (h.full hl)

theorem upM_iff {n m : Int} : upM n m = true ↔ -m ≤ n ∧ n ≤ m := by simp [upM]

theorem DomP.mill {d : List Int} (h : DomP d) : Mill d := by
  intro y hy
  have ha := (risB_iff d).1 h.rise
  obtain ⟨i, hi, rfl⟩ := List.getElem_of_mem hy
  have h1 := upM_iff.1 h.first
  have h2 := upM_iff.1 h.last
  have hl := h.lo
  have e1 : d.getD 0 0 = d[0]'(by omega) := by simp [List.getD_eq_getElem?_getD, show 0 < d.length by omega]
  have e2 : d.getD (d.length - 1) 0 = d[d.length - 1]'(by omega) := by simp [List.getD_eq_getElem?_getD, show d.length - 1 < d.length by omega]
  rw [e1] at h1
  rw [e2] at h2
  have g1 : d[0]'(by omega) ≤ d[i] := by
    rcases Nat.eq_zero_or_pos i with rfl | hp
    · exact Int.le_refl _
    · have := (List.pairwise_iff_getElem.1 ha) 0 i (by omega) hi hp; omega
  have g2 : d[i] ≤ d[d.length - 1]'(by omega) := by
    rcases Nat.lt_or_ge i (d.length - 1) with hp | hp
    · have := (List.pairwise_iff_getElem.1 ha) i (d.length - 1) hi (by omega) hp; omega
    · have : i = d.length - 1 := by omega
      subst this; exact Int.le_refl _
  omega
theorem RightP.mill {x : Ins} (h : RightP x) : ∀ d ∈ x.doms, Mill d := fun d hd => by
  obtain ⟨k, hk, rfl⟩ := List.getElem_of_mem hd
  exact (h.doms k hk).mill
theorem RightP.short {x : Ins} (h : RightP x) : ∀ d ∈ x.doms, d.length ≤ 16 := fun d hd => by
  obtain ⟨k, hk, rfl⟩ := List.getElem_of_mem hd
  exact (h.doms k hk).hi

theorem FewP.sane {x : Ins} (h : FewP x) {i : Nat} (hi : i < x.hard.length) : Sane x.hard[i] := by
  have hc := h.1.hard i hi
  obtain ⟨h1, h2, h3, h4⟩ := scopeB_in hc.scope
  refine ⟨rows_asc hc.rows, by have := h.rows hc.scope hc.rows; omega, ?_, by omega⟩
  by_cases hk : x.hard[i].kind = 6
  · have ha := hc.alen hk
    have hh := hc.how hk
    have hn := upM_iff.1 (hc.num hk)
    intro y hy
    obtain ⟨j, hj, rfl⟩ := List.getElem_of_mem hy
    have e : ∀ q, q < x.hard[i].args.length → ∀ hq : q < x.hard[i].args.length, x.hard[i].args.getD q 0 = x.hard[i].args[q] := fun q _ hq => by simp [List.getD_eq_getElem?_getD, hq]
    rcases Nat.lt_trichotomy j x.hard[i].scope.length with hq | hq | hq
    · have := (hc.mul hk j hq).2
      rw [e j hj hj] at this
      exact upM_iff.1 this
    · rw [← hq, e j hj hj] at hh; omega
    · have hq2 : j = x.hard[i].scope.length + 1 := by omega
      rw [← hq2, e j hj hj] at hn; exact hn
  · rw [hc.noargs hk]; intro y hy; simp at hy

end Go.Proofs.Ytflibcfecnhjgaa
