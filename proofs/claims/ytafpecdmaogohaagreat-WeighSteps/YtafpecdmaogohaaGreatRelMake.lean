/-
  The contracts of Make, and of the document's Make.
-/
import Derived.Test.YtafpecdmaogohaaGreatRelMath
namespace Go.Proofs.YtafpecdmaogohaaGreat
open Go.RowKit
set_option linter.unusedVariables false
set_option linter.unusedSimpArgs false
set_option maxRecDepth 20000

theorem box_cells {w W : World} {x y : Value} {t : TypeId} (hb : Below (w.alloc (.cells #[x, y] t)).heap.size (w.alloc (.cells #[x, y] t)) W) :
    W.cell? ⟨w.heap.size, 0, none⟩ = some x ∧ W.cell? ⟨w.heap.size, 1, none⟩ = some y ∧ W.frozen? ⟨w.heap.size, 0, none⟩ = false ∧ W.frozen? ⟨w.heap.size, 1, none⟩ = false := by
  refine ⟨?_, ?_, ?_, ?_⟩
  · rw [hb.cell (by simp)]; simp
  · rw [hb.cell (by simp)]; simp
  · rw [hb.frozen (by simp)]; simp
  · rw [hb.frozen (by simp)]; simp

/-- Whatever block b holds are slices. -/
def BoxS (w : World) (b : Nat) : Prop := ∀ off u, w.cell? ⟨b, off, none⟩ = some u → ∃ a n c, u = .slice a n c

theorem BoxS.of_below {w W : World} {a a' : Option Addr} {n n' c c' : Nat} {t : TypeId} (hb : Below (w.alloc (.cells #[.slice a n c, .slice a' n' c'] t)).heap.size (w.alloc (.cells #[.slice a n c, .slice a' n' c'] t)) W) : BoxS W w.heap.size := by
  intro off u h
  rw [hb.cell (by simp)] at h
  match off, h with
  | 0, h => simp at h; exact ⟨_, _, _, h.symm⟩
  | 1, h => simp at h; exact ⟨_, _, _, h.symm⟩
  | off + 2, h => simp only [World.cell?, heap_alloc_new] at h; simp at h

theorem BoxS.setCell {w : World} {b i : Nat} (h : BoxS w b) {x : Value} (hc : w.cell? ⟨b, i, none⟩ = some x) (a : Option Addr) (n c : Nat) : BoxS (w.setCell ⟨b, i, none⟩ (.slice a n c)) b := by
  intro off u hu
  by_cases e : i = off
  · subst e
    rw [World.cell?_setCell_same (h := hc)] at hu
    cases hu
    exact ⟨_, _, _, rfl⟩
  · rw [World.cell?_setCell_other] at hu
    · exact h off u hu
    · intro e'; injection e' with _ e2; exact e e2

theorem Seq.setBox {w : World} {v : Value} {l : List Int} (h : Ints w v l) {b : Nat} (hb : BoxS w b) (i : Nat) (y : Value) : Ints (w.setCell ⟨b, i, none⟩ y) v l := by
  refine h.setCell (fun hne e => ?_) y
  obtain ⟨a, cap, rfl, h2, h3, h4, h5, h6⟩ := h
  obtain ⟨x, rfl, hc⟩ := h6 0 (l.head hne) (by cases l with
    | nil => exact absurd rfl hne
    | cons y r => rfl)
  have e' : x.block = b := by simpa [Value.ownBlock] using e
  subst e'
  obtain ⟨_, _, _, hx⟩ := hb _ _ hc
  cases hx

theorem Tups.setBox {w : World} {v : Value} {ll : List (List Int)} (h : Tups w v ll) {b : Nat} (hb : BoxS w b) (hne : v.ownBlock ≠ some b) (i : Nat) (y : Value) : Tups (w.setCell ⟨b, i, none⟩ y) v ll := by
  obtain ⟨vs, h1, h2, h3⟩ := h
  exact ⟨vs, h1.setCell (fun _ => hne) y, h2, fun i hi hi' => (h3 i hi hi').setBox hb _ y⟩

/-- A relation that is laid in a box of its own. -/
theorem rel_store {w : World} {b : Nat} {a a' : Option Addr} {n n' c c' : Nat} {s : List Int} {ll : List (List Int)} (hb : BoxS w b) {x : Value} (hc : w.cell? ⟨b, 0, none⟩ = some x) (hs : Ints w (.slice a n c) s) (ht : Tups w (.slice a' n' c') ll) (hne : (Value.slice a' n' c').ownBlock ≠ some b) :
    RelV ((w.setCell ⟨b, 0, none⟩ (.slice a n c)).setCell ⟨b, 1, none⟩ (.slice a' n' c')) (.agg #[.slice a n c, .slice a' n' c']) s ll := by
  have hb' := hb.setCell hc a n c
  exact ⟨_, _, rfl, (hs.setBox hb _ _).setBox hb' _ _, (ht.setBox hb hne _ _).setBox hb' hne _ _⟩

theorem below_store {w W : World} {B b : Nat} (h : Below B w W) (hb : B ≤ b) (x y : Value) : Below B w ((W.setCell ⟨b, 0, none⟩ x).setCell ⟨b, 1, none⟩ y) := (h.setCell hb _).setCell hb _

theorem New.ne {B b : Nat} {w : World} {v : Value} (h : New B w v) (hb : b < B) : v.ownBlock ≠ some b := fun e => by have := h b e; omega

set_option maxHeartbeats 4000000 in
theorem make_ok {s : List Int} {ll : List (List Int)} {vs v : Value} {w : World} (hs : Ints w vs s) (h : Tups w v ll) (hl : ll.length < 100000) (hsl : s.length < 100000000) (hok : makeOk s ll = true) :
    Calls Tryz.prog 57 #[vs, v] w fun e w' => ∃ u, e = .returned (.tuple #[u, .int .i64 0]) ∧ RelV w' u (riseL s) (makeL s ll) ∧ Below w.heap.size w w' := by
  obtain ⟨a, ca, rfl, hla, hca⟩ := hs.form
  obtain ⟨b, cb, rfl, hlb, hcb⟩ := h.form
  unfold maxLen at hca hcb
  have HOK := hide hok
  have hb0 := (Below.refl w.heap.size w).alloc (Nat.le_refl _) (.cells #[.slice none 0 0, .slice none 0 0] 29)
  have hz0 : w.heap.size ≤ (w.alloc (.cells #[.slice none 0 0, .slice none 0 0] 29)).heap.size := by simp
  have HP := hide (places_any (hs.below hb0) hsl)
  have HS := hide (fun W (hb : Below w.heap.size w W) => hs.below hb)
  have HT := hide (fun W (hb : Below w.heap.size w W) => h.below hb)
  clear hs h hok
  go_enter Tryz.func57, Tryz.ntmps57
  go_wp2_with fail
  refine (unhide HP).mono ?_
  rintro e w1 ⟨vp, ps, rfl, hp, hup, hps, _, hb1⟩
  have HC := hide (fun hok => cut_pick (ll := ll) hp hup hok)
  have HR := hide (right_pick hp hup)
  have hpl : ps.length ≤ s.length := by rw [hp.length_eq, natsI_len]; exact Nat.le_refl _
  have hkl := pickL_le s ps
  obtain ⟨pa, pc, hpe, _, _⟩ := hps.form
  rw [hpe] at hps ⊢
  have HPK := hide (pick_any (unhide HS _ (hb0.trans (hb1.mono hz0))) hps (by omega))
  generalize pickL s ps = t at HC HR hkl HPK
  clear hp hup hpe HP
  go_wp2_with fail
  refine (unhide HPK).mono ?_
  rintro e w2 ⟨vt, rfl, ht, _, hb2⟩
  have hb2' := below_then hb1 hb2
  obtain ⟨ta, tc, hte, _, _⟩ := ht.form
  rw [hte] at ht ⊢
  have HRS := hide (rightScheme_any ht)
  have hso : schemeOk s = true := by have := unhide HOK; unfold makeOk at this; simp at this; exact this.1
  have hwo : wideB ll s.length = true := by have := unhide HOK; unfold makeOk at this; simp at this; exact this.2
  rw [unhide HR, hso] at HRS
  have HC2 := hide (unhide HC hso)
  clear HPK HC HR hte hso
  go_wp2_with fail
  refine (unhide HRS).mono ?_
  rintro e w3 ⟨rfl, hb3⟩
  have hb3' := below_then hb2' hb3
  have HW := hide (allWide_any (n := (s.length : Int)) (unhide HT _ (hb0.trans (hb3'.mono hz0))))
  rw [hwo] at HW
  have ht3 := ht.below hb3
  have hps3 := (hps.below hb2).below hb3
  clear HRS hwo ht hps hb1 hb2 hb2' hb3
  go_wp2_with fail
  refine (unhide HW).mono ?_
  rintro e w4 ⟨rfl, rfl⟩
  have HCUT := hide (cut_any (unhide HT _ (hb0.trans (hb3'.mono hz0))) hps3 hl (by omega))
  clear HW
  go_wp2_with fail
  refine (unhide HCUT).mono ?_
  rintro e w5 ⟨vr, rfl, hr, hrn, hb5⟩
  have hb5' := below_then hb3' hb5
  have ht5 := ht3.below hb5
  obtain ⟨hc0, hc1, hf0, hf1⟩ := box_cells hb5'
  obtain ⟨ra, rc, hre, _, _⟩ := hr.form
  rw [hre] at hr hrn ⊢
  have hbx := BoxS.of_below hb5'
  have hrz := hb3'.size
  clear HCUT hre hps3 ht3
  go_wp2
  have hbel := hb0.trans (hb5'.mono hz0)
  have hfin := rel_store hbx hc0 ht5 hr (hrn.ne (by simp at hrz; omega))
  refine bodyPost_ret (v := .tuple #[.agg #[.slice ta t.length tc, .slice ra (cutL ll ps).length rc], .int .i64 0]) (by simp [results, Tryz.results57, go_sem, hc0, hc1]) rfl ⟨_, rfl, by rw [← (unhide HC2).1, ← (unhide HC2).2]; exact hfin, below_store hbel (Nat.le_refl _) _ _⟩

theorem rel_none (w : World) : RelV w (.agg #[.slice none 0 0, .slice none 0 0]) [] [] := ⟨_, _, rfl, Seq.nil _ _, ⟨[], Seq.nil _ _, rfl, fun i h => by simp at h⟩⟩

set_option maxHeartbeats 4000000 in
theorem make_no {s : List Int} {ll : List (List Int)} {vs v : Value} {w : World} (hs : Ints w vs s) (h : Tups w v ll) (hsl : s.length < 100000000) (hok : makeOk s ll = false) :
    Calls Tryz.prog 57 #[vs, v] w fun e w' => e = .returned (.tuple #[.agg #[.slice none 0 0, .slice none 0 0], .int .i64 1]) ∧ Below w.heap.size w w' := by
  obtain ⟨a, ca, rfl, hla, hca⟩ := hs.form
  obtain ⟨b, cb, rfl, hlb, hcb⟩ := h.form
  unfold maxLen at hca hcb
  have HOK := hide hok
  have hb0 := (Below.refl w.heap.size w).alloc (Nat.le_refl _) (.cells #[.slice none 0 0, .slice none 0 0] 29)
  have hz0 : w.heap.size ≤ (w.alloc (.cells #[.slice none 0 0, .slice none 0 0] 29)).heap.size := by simp
  have HP := hide (places_any (hs.below hb0) hsl)
  have HS := hide (fun W (hb : Below w.heap.size w W) => hs.below hb)
  have HT := hide (fun W (hb : Below w.heap.size w W) => h.below hb)
  clear hs h hok
  go_enter Tryz.func57, Tryz.ntmps57
  go_wp2_with fail
  refine (unhide HP).mono ?_
  rintro e w1 ⟨vp, ps, rfl, hp, hup, hps, _, hb1⟩
  have HR := hide (right_pick hp hup)
  have hpl : ps.length ≤ s.length := by rw [hp.length_eq, natsI_len]; exact Nat.le_refl _
  have hkl := pickL_le s ps
  obtain ⟨pa, pc, hpe, _, _⟩ := hps.form
  rw [hpe] at hps ⊢
  have HPK := hide (pick_any (unhide HS _ (hb0.trans (hb1.mono hz0))) hps (by omega))
  generalize pickL s ps = t at HR hkl HPK
  clear hp hup hpe HP
  go_wp2_with fail
  refine (unhide HPK).mono ?_
  rintro e w2 ⟨vt, rfl, ht, _, hb2⟩
  have hb2' := below_then hb1 hb2
  obtain ⟨ta, tc, hte, _, _⟩ := ht.form
  rw [hte] at ht ⊢
  have HRS := hide (rightScheme_any ht)
  rw [unhide HR] at HRS
  have HMK := hide (show makeOk s ll = (schemeOk s && wideB ll s.length) from rfl)
  rw [unhide HOK] at HMK
  generalize schemeOk s = p at HRS HMK
  clear HPK HR hte HOK
  cases p with
  | false =>
    go_wp2_with fail
    refine (unhide HRS).mono ?_
    rintro e w3 ⟨rfl, hb3⟩
    have hb3' := below_then hb2' hb3
    obtain ⟨hc0, hc1, hf0, hf1⟩ := box_cells hb3'
    go_wp2
    have hbel := hb0.trans (hb3'.mono hz0)
    refine bodyPost_ret (v := .tuple #[.agg #[.slice none 0 0, .slice none 0 0], .int .i64 1]) (by simp [results, Tryz.results57, go_sem, hc0, hc1]) rfl ⟨rfl, below_store hbel (Nat.le_refl _) _ _⟩
  | true =>
    have hwo : wideB ll s.length = false := by have := unhide HMK; simpa using this.symm
    go_wp2_with fail
    refine (unhide HRS).mono ?_
    rintro e w3 ⟨rfl, hb3⟩
    have hb3' := below_then hb2' hb3
    have HW := hide (allWide_any (n := (s.length : Int)) (unhide HT _ (hb0.trans (hb3'.mono hz0))))
    rw [hwo] at HW
    clear HRS hwo HMK
    go_wp2_with fail
    refine (unhide HW).mono ?_
    rintro e w4 ⟨rfl, rfl⟩
    obtain ⟨hc0, hc1, hf0, hf1⟩ := box_cells hb3'
    go_wp2
    have hbel := hb0.trans (hb3'.mono hz0)
    refine bodyPost_ret (v := .tuple #[.agg #[.slice none 0 0, .slice none 0 0], .int .i64 1]) (by simp [results, Tryz.results57, go_sem, hc0, hc1]) rfl ⟨rfl, below_store hbel (Nat.le_refl _) _ _⟩

end Go.Proofs.YtafpecdmaogohaaGreat
