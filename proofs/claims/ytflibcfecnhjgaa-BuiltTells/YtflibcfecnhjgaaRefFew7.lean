/-
  The contracts of the document's Few, and of few: instances that are right, with few assignments.
-/
import Derived.Test.YtflibcfecnhjgaaRefIns6
import Derived.Test.YtflibcfecnhjgaaBuiltMath
namespace Go.Proofs.Ytflibcfecnhjgaa
open Go.RowKit
set_option linter.unusedVariables false
set_option linter.unusedSimpArgs false
set_option maxRecDepth 20000

theorem prod_app : ∀ a b : List (List Int), prodN (a ++ b) = prodN a * prodN b
  | [], b => by simp [prodN]
  | d :: a, b => by simp only [List.cons_append, prodN, prod_app a b, Nat.mul_assoc]
theorem prod_pos : ∀ {a : List (List Int)}, (∀ d ∈ a, 1 ≤ d.length) → 1 ≤ prodN a
  | [], _ => by simp [prodN]
  | d :: a, h => by
    have h1 := h d (by simp)
    have h2 := prod_pos fun x hx => h x (List.mem_cons_of_mem d hx)
    exact Nat.mul_le_mul h1 h2
theorem prod_take {a : List (List Int)} {k : Nat} (h : k < a.length) : prodN (a.take (k + 1)) = prodN (a.take k) * a[k].length := by
  rw [List.take_succ_eq_append_getElem h, prod_app]; simp [prodN]
theorem prod_le_all {a : List (List Int)} (h : ∀ d ∈ a, 1 ≤ d.length) (k : Nat) : prodN (a.take k) ≤ prodN a := by
  have e : prodN a = prodN (a.take k) * prodN (a.drop k) := by rw [← prod_app, List.take_append_drop]
  rw [e]
  have := prod_pos (a := a.drop k) fun d hd => h d (List.mem_of_mem_drop hd)
  exact Nat.le_mul_of_pos_right _ this

set_option maxHeartbeats 2000000 in
theorem refFew_any {x : Ins} {v : Value} {w : World} (h : InsV w v x) (hd : ∀ d ∈ x.doms, 1 ≤ d.length ∧ d.length ≤ 16) :
    Calls Try.prog 17 #[v, .int .i64 2000] w fun e w' => Asks e (prodN x.doms ≤ 2000) ∧ Below w.heap.size w w' := by
  obtain ⟨ds, hs, ss⟩ := x
  obtain ⟨vd, vh, vs, rfl, h1, h2, h3⟩ := h
  simp only [] at h1 h2 h3 hd ⊢
  obtain ⟨a0, c0, rfl, hl3, hc3⟩ := h1.form
  obtain ⟨a1, c1, rfl, hl4, hc4⟩ := h2.form
  obtain ⟨a2, c2, rfl, hl5, hc5⟩ := h3.form
  unfold maxLen at hc3
  have hb0 := (Below.refl w.heap.size w).alloc (Nat.le_refl _) (.cells #[.slice a0 ds.length c0, .slice a1 hs.length c1, .slice a2 ss.length c2] 26)
  have hx : (w.alloc (.cells #[.slice a0 ds.length c0, .slice a1 hs.length c1, .slice a2 ss.length c2] 26)).cell? ⟨w.heap.size, 0, none⟩ = some (.slice a0 ds.length c0) := by unfold World.cell?; rw [heap_alloc_new]; rfl
  have hd1 := h1.below hb0
  have HB := hide hb0
  have HP : Hid (∀ b : Bool, (b = true ↔ prodN ds ≤ 2000) → Asks (.returned (.bool b)) (prodN ds ≤ 2000)) := hide (fun b h => ⟨b, rfl, h⟩)
  have HDD := hide hd
  clear h1 h2 h3 hd hb0
  go_enter Try.func17, Try.ntmps17
  go_wp2
  go_loop [5, 6] (fun s i => ∃ k p : Nat, k ≤ ds.length ∧ i = .int .i64 k ∧ s = .int .i64 p ∧ p ≤ 2000 ∧ Hid (p = prodN (ds.take k))) (fun _ i => ds.length - (intOf i).toNat)
  case atStart => exact ⟨0, 1, by omega, rfl, rfl, by omega, hide (by simp [prodN])⟩
  case round =>
    obtain ⟨k, p, hk, rfl, rfl, hp, HQ⟩ := hrel
    by_cases hkl : k < ds.length
    · obtain ⟨bl, ol, ul, e1, hcl, hiL⟩ := hd1.at hkl
      subst e1
      obtain ⟨ia, ic, rfl, _, _⟩ := hiL.form
      obtain ⟨g1, g2⟩ := unhide HDD _ (List.getElem_mem hkl)
      have hst := prod_take hkl
      rw [← unhide HQ] at hst
      have HST := hide hst
      have hle := hide (prod_le_all (fun d hd => (unhide HDD d hd).1) (k + 1))
      generalize ds[k].length = n at *
      obtain ⟨m, hm⟩ : ∃ m : Nat, m = p * n := ⟨_, rfl⟩
      have hm2 : m ≤ 32000 := by rw [hm]; exact Nat.le_trans (Nat.mul_le_mul hp g2) (by decide)
      have hmi : (p : Int) * (n : Int) = (m : Int) := by rw [hm]; simp
      have hmb : -1 ≤ (p : Int) * (n : Int) ∧ (p : Int) * (n : Int) ≤ 32000 := by rw [hmi]; omega
      obtain ⟨hmb1, hmb2⟩ := hmb
      have HMI := hide hmi
      have HST2 : Hid (m = prodN (ds.take (k + 1))) := hide (by rw [unhide HST, hm])
      clear hst hm hiL HST
      by_cases hg : m ≤ 2000
      · have f1 : decide ((2000 : Int) < (p : Int) * (n : Int)) = false := by rw [hmi]; simp; omega
        clear hmi hd1
        go_wp2
        go_round
        case rel => exact ⟨k + 1, m, by omega, by go_num, by rw [← unhide HMI], hg, HST2⟩
        case measure => simp [intOf]; omega
      · have f1 : decide ((2000 : Int) < (p : Int) * (n : Int)) = true := by rw [hmi]; simp; omega
        have HF := hide (unhide HP false ⟨fun h => Bool.noConfusion h, fun h => by have := unhide hle; rw [← unhide HST2] at this; omega⟩)
        clear hmi hd1
        go_wp2
        go_ret
        exact ⟨unhide HF, unhide HB⟩
    · have hke : k = ds.length := by omega
      subst hke
      have HF := hide (unhide HP true ⟨fun _ => by have := unhide HQ; rw [List.take_length] at this; omega, fun _ => rfl⟩)
      clear hd1
      go_wp2
      go_ret
      exact ⟨unhide HF, unhide HB⟩

/-- An instance that is right, and has few assignments. -/
def FewP (x : Ins) : Prop := RightP x ∧ prodN x.doms ≤ 2000

set_option maxHeartbeats 2000000 in
theorem few7_any {x : Ins} {v : Value} {w : World} (h : InsV w v x) :
    Calls Try.prog 5 #[v] w fun e w' => Asks e (FewP x) ∧ Below w.heap.size w w' := by
  have h0 := h
  obtain ⟨vd, vh, vs, rfl, h1, h2, h3⟩ := h0
  obtain ⟨a0, c0, rfl, hl3, hc3⟩ := h1.form
  obtain ⟨a1, c1, rfl, hl4, hc4⟩ := h2.form
  obtain ⟨a2, c2, rfl, hl5, hc5⟩ := h3.form
  have hb0 := (Below.refl w.heap.size w).alloc (Nat.le_refl _) (.cells #[.slice a0 x.doms.length c0, .slice a1 x.hard.length c1, .slice a2 x.soft.length c2] 26)
  obtain ⟨W1, hW1⟩ : ∃ W, W = w.alloc (.cells #[.slice a0 x.doms.length c0, .slice a1 x.hard.length c1, .slice a2 x.soft.length c2] 26) := ⟨_, rfl⟩
  have x0 : W1.heap[w.heap.size]? = some (.cells #[.slice a0 x.doms.length c0, .slice a1 x.hard.length c1, .slice a2 x.soft.length c2] 26) := by rw [hW1]; exact heap_alloc_new _ _
  have hs1 : W1.heap.size = w.heap.size + 1 := by rw [hW1]; simp
  rw [← hW1] at hb0
  have HR := hide (right6_any (h.below hb0))
  have HFW := hide (fun W (hb : Below W1.heap.size W1 W) (hr : RightP x) => refFew_any ((h.below hb0).below hb) (fun d hd => by
    obtain ⟨i, hi, rfl⟩ := List.getElem_of_mem hd
    exact ⟨(hr.doms i hi).lo, (hr.doms i hi).hi⟩))
  have HC := hide (fun W (hb : Below W1.heap.size W1 W) =>
    have e0 : W.heap[w.heap.size]? = some (.cells #[.slice a0 x.doms.length c0, .slice a1 x.hard.length c1, .slice a2 x.soft.length c2] 26) := by rw [hb.block _ (by omega)]; exact x0
    (show W.cell? ⟨w.heap.size, 0, none⟩ = some (.slice a0 x.doms.length c0) ∧ W.cell? ⟨w.heap.size, 1, none⟩ = some (.slice a1 x.hard.length c1) ∧ W.cell? ⟨w.heap.size, 2, none⟩ = some (.slice a2 x.soft.length c2) from by
      refine ⟨?_, ?_, ?_⟩ <;> (unfold World.cell?; rw [e0]; rfl)))
  have HB := hide hb0
  have HW1 := hide hW1
  obtain ⟨y0, y1, y2⟩ := unhide HC W1 (Below.refl _ _)
  have HP : Hid (∀ b : Bool, (b = true ↔ FewP x) → Asks (.returned (.bool b)) (FewP x)) := hide (fun b h => ⟨b, rfl, h⟩)
  clear h h1 h2 h3 hb0 x0 hs1 hW1
  go_enter Try.func5, Try.ntmps5
  go_wp2_with fail
  rw [← unhide HW1]
  refine (unhide HR).mono ?_
  rintro e w2 ⟨⟨b, rfl, hb⟩, hb2⟩
  clear y0 y1 y2
  obtain ⟨y0, y1, y2⟩ := unhide HC w2 hb2
  have HB2 := hide ((unhide HB).trans (hb2.mono (unhide HB).size))
  cases b with
  | false =>
    have HF := hide (unhide HP false ⟨fun h => Bool.noConfusion h, fun h => hb.2 h.1⟩)
    clear HP hb HFW HR hb2
    go_wp2
    go_ret
    exact ⟨unhide HF, unhide HB2⟩
  | true =>
    have HFX := hide (unhide HFW w2 hb2 (hb.1 rfl))
    have HRP := hide (hb.1 rfl)
    clear hb HFW HR hb2
    go_wp2_with fail
    refine (unhide HFX).mono ?_
    rintro e w3 ⟨⟨b, rfl, hbb⟩, hb3⟩
    have HF := hide (unhide HP b ⟨fun h => ⟨unhide HRP, hbb.1 h⟩, fun h => hbb.2 h.2⟩)
    have HB3 := hide ((unhide HB2).trans (hb3.mono (unhide HB2).size))
    clear HP hbb hb3
    go_wp2
    go_ret
    exact ⟨unhide HF, unhide HB3⟩

end Go.Proofs.Ytflibcfecnhjgaa
