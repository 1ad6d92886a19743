/-
  The contracts of withPoint, and eliminate.
-/
import Derived.Test.YtcglbopmfdilfaaDoorFJoin
import Derived.Test.YtcglbopmfdilfaaDoorLibSortI
import Derived.Test.YtcglbopmfdilfaaDoorGParts
import Derived.Test.YtcglbopmfdilfaaDoorOValid
namespace Go.Proofs.YtcglbopmfdilfaaDoor
open Go.RowKit
set_option linter.unusedVariables false
set_option linter.unusedSimpArgs false
set_option maxRecDepth 20000

set_option maxHeartbeats 1000000 in
theorem withPoint_any {L : List Int} {a : Int} {v : Value} {w : World} (hL : Ints w v L) (hl : L.length ≤ 1000) :
    Calls Tryd.prog 48 #[v, .int .i64 a] w fun e w' => ∃ u, e = .returned u ∧ HoldsI w.heap.size w' u (sortI (a :: L)) ∧ Below w.heap.size w w' := by
  obtain ⟨an, cn, rfl, hnl', hnc⟩ := hL.form
  unfold maxLen at hnc
  have HL := hide (fun W (hb : Below w.heap.size w W) => hL.below hb)
  obtain ⟨W0, hW0⟩ : ∃ W, W = w.alloc (.cells #[.int .i64 a] 3) := ⟨_, rfl⟩
  have hbA : Below w.heap.size w W0 := by rw [hW0]; exact (Below.refl _ _).alloc (Nat.le_refl _) _
  have ho := own_oneI (B := w.heap.size) (w := w) (Nat.le_refl _) a
  rw [← hW0] at ho
  have HO := hide ho
  have HBA := hide hbA
  have hz := hbA.size
  have HW0 := hide hW0
  clear hL ho hbA hW0
  go_enter Tryd.func48, Tryd.ntmps48
  go_wp2_with (at_builtin; rw [← unhide HW0]; refine wp_app_ints rfl (.tmp 7) (.tmp 8) rfl (B := w.heap.size) (unhide HO) rfl hz (unhide HL W0 (unhide HBA)) rfl (by simp; omega) ?_; intro v5 w5 hown5 hg5)
  have hb5 := (unhide HBA).trans hg5.below
  have HB5 := hide hb5
  have HS := hide (sortInts_any (HoldsI.of_own hown5) hb5.size (by simp; omega))
  clear hown5 hg5 hb5
  rw [show [a] ++ L = a :: L from rfl] at HS
  go_wp2_with fail
  refine (unhide HS).mono ?_
  rintro e w6 ⟨rfl, hh6, hb6⟩
  have HF := hide (And.intro hh6 ((unhide HB5).trans hb6))
  clear hh6 hb6 HS
  go_wp2
  go_ret
  exact ⟨_, rfl, (unhide HF).1, (unhide HF).2⟩

theorem sep_typesF {B B' : Nat} {e e' : TypeId} {w : World} {u v : Value} {n m : Nat} {xs ys : List Value} (h : w.ownsRow B e 1 u n xs) (h' : w.ownsRow B' e' 1 v m ys) (hne : e ≠ e') (g : Nat) (h1 : u.ownBlock = some g) (h2 : v.ownBlock = some g) : False := by
  obtain ⟨_, k⟩ := h
  obtain ⟨_, k'⟩ := h'
  rcases k with ⟨rfl, _⟩ | ⟨b, cap, cur, rfl, hg, hh, _⟩
  · cases h1
  · rcases k' with ⟨rfl, _⟩ | ⟨b', cap', cur', rfl, hg', hh', _⟩
    · cases h2
    · have e1 : b = g := by simpa [Value.ownBlock] using h1
      have e2 : b' = g := by simpa [Value.ownBlock] using h2
      subst e1 e2
      rw [hh] at hh'
      injection hh' with hh'
      injection hh' with _ hh'
      exact hne hh'

theorem own_keepsF {B : Nat} {e : TypeId} {X : Nat → Prop} {w w' : World} {v : Value} {n : Nat} {xs : List Value} (h : w.ownsRow B e 1 v n xs) (hk : Keeps X w w') (hx : ∀ g, v.ownBlock = some g → ¬ X g) : w'.ownsRow B e 1 v n xs :=
  own_same h (fun b e => hk.block b (h.lt b e).2 (hx b e))

theorem sort_bag {s : Srch} {a : Nat} (hr : RightG s.g) (ha : a < s.g.length) : sortI ((a : Int) :: besT s.g s.t (a : Int) false) = bagS s (a : Int) := by
  have hnd : ((a : Int) :: besT s.g s.t (a : Int) false).Nodup := by
    refine List.nodup_cons.2 ⟨fun h => ?_, (besT_asc _ _ _ _).imp (fun h => by omega)⟩
    have := (mem_besT.1 h).1.2.2
    rw [Int.toNat_natCast, hr.irr] at this
    cases this
  have h1 : (sortI ((a : Int) :: besT s.g s.t (a : Int) false)).Pairwise (· < ·) := by
    have hp := List.mergeSort_perm ((a : Int) :: besT s.g s.t (a : Int) false) (fun x y => decide (x ≤ y))
    have h2 : (sortI ((a : Int) :: besT s.g s.t (a : Int) false)).Nodup := hp.nodup_iff.2 hnd
    have h3 := sortI_up ((a : Int) :: besT s.g s.t (a : Int) false)
    exact (List.Pairwise.and h3 h2).imp (fun h => by omega)
  refine Asc.ext h1 (bagS_asc _ _) (fun x => ?_)
  rw [sortI_mem]
  unfold bagS
  rw [List.mem_filter, mem_ptsL, Bool.or_eq_true, beq_iff_eq, List.contains_iff_mem, List.mem_cons]
  constructor
  · rintro (rfl | h)
    · exact ⟨by rw [ptB_nat]; simpa using ha, .inl rfl⟩
    · exact ⟨(mem_besT.1 h).1.2.1, .inr h⟩
  · exact fun h => h.2

set_option maxHeartbeats 8000000 in
theorem elim_no {g : List Nat} {o : List Int} {x vo : Value} {w : World} (hg : Words w x g) (ho : Ints w vo o) (hol : o.length < 100000000000) (hv : ordB (g.length : Int) o = false) :
    Calls Tryd.prog 32 #[.agg #[x], vo] w fun e w' => e = .returned (.tuple #[.agg #[.slice none 0 0], .slice none 0 0, .int .i64 8]) ∧ Below w.heap.size w w' := by
  obtain ⟨ax, cx, rfl, hxl, hxc⟩ := hg.form
  obtain ⟨an, cn, rfl, hnl', hnc⟩ := ho.form
  unfold maxLen at hnc hxc
  obtain ⟨W0, hW0⟩ : ∃ W, W = w.alloc (.cells #[.slice ax g.length cx] 29) := ⟨_, rfl⟩
  have hbA : Below w.heap.size w W0 := by rw [hW0]; exact (Below.refl _ _).alloc (Nat.le_refl _) _
  have hzA : W0.heap.size = w.heap.size + 1 := by rw [hW0]; simp
  have hxA : BoxG W0 w.heap.size (.slice ax g.length cx) := by rw [hW0]; exact BoxG.new w _
  obtain ⟨W1, hW1⟩ : ∃ W, W = W0.alloc (.cells #[.slice none 0 0] 29) := ⟨_, rfl⟩
  have hbB : Below W0.heap.size W0 W1 := by rw [hW1]; exact (Below.refl _ _).alloc (Nat.le_refl _) _
  have hz1 : W1.heap.size = w.heap.size + 2 := by rw [hW1]; simp [hzA]
  have hb0 : Below w.heap.size w W1 := hbA.trans (hbB.mono (by omega))
  have hx2 : BoxG W1 (w.heap.size + 1) (.slice none 0 0) := by rw [hW1, ← hzA]; exact BoxG.new W0 _
  have hx1 := hxA.below hbB (by omega)
  have HV := hide (valid_any (n := (g.length : Int)) (ho.below hb0) hol)
  rw [hv] at HV
  have HB0 := hide hb0
  have HX2 := hide hx2
  have HW1 := hide (show W1 = (w.alloc (.cells #[.slice ax g.length cx] 29)).alloc (.cells #[.slice none 0 0] 29) by rw [hW1, hW0])
  have y0 := hx1.cell
  rw [hW1, hW0] at y0
  clear hg ho hbA hzA hxA hW1 hbB hb0 hx2 hW0 hx1 hv
  clear W0
  go_enter Tryd.func32, Tryd.ntmps32
  go_wp2_with fail
  rw [← unhide HW1]
  refine (unhide HV).mono ?_
  rintro e w2 ⟨rfl, hb2⟩
  have hx3 := (unhide HX2).below hb2 (by omega)
  have c2 := hx3.cell
  have f2 := hx3.frozen
  have hb3 := Below.setCell (p := ⟨w.heap.size + 1, 0, none⟩) ((unhide HB0).trans (hb2.mono (by omega))) (show w.heap.size ≤ w.heap.size + 1 by omega) (.slice none 0 0)
  have HB3 := hide hb3
  clear hb2 hb3 hx3 HV HB0 HX2 y0
  go_wp2
  refine bodyPost_ret (v := .tuple #[.agg #[.slice none 0 0], .slice none 0 0, .int .i64 8]) (by simp [results, Tryd.results32, go_sem, c2]) rfl ⟨rfl, unhide HB3⟩

end Go.Proofs.YtcglbopmfdilfaaDoor
