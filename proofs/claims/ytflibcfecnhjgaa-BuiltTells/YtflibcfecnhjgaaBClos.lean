/-
  What goThrough hands its rows to: the closure of gather; and choices, the lists that it goes through.
-/
import Derived.Test.YtflibcfecnhjgaaBGo
import Derived.Test.YtflibcfecnhjgaaUntil
import Derived.Test.YtflibcfecnhjgaaLibInts
namespace Go.Proofs.Ytflibcfecnhjgaa
open Go.RowKit
set_option linter.unusedVariables false
set_option linter.unusedSimpArgs false
set_option maxRecDepth 20000

/-- The call's own rows, none of which (but empty ones) lies ahead of N. -/
def OwnTN (N B : Nat) (w : World) (v : Value) (ll : List (List Int)) : Prop :=
  ∃ vs : List Value, OwnV B w v vs ∧ vs.length = ll.length ∧ ∀ i (h : i < vs.length) (h' : i < ll.length), Ints w vs[i] ll[i] ∧ Apart vs[i] ll[i] v ∧ OffX (· < N) vs[i] ll[i]

theorem OwnTN.nilE {N B : Nat} {w : World} {v : Value} (h : OwnV B w v []) : OwnTN N B w v [] := ⟨[], h, rfl, fun i h => by simp at h⟩
theorem OwnTN.ownT {N B : Nat} {w : World} {v : Value} {ll : List (List Int)} (h : OwnTN N B w v ll) : OwnT B w v ll := by
  obtain ⟨vs, h1, h2, h3⟩ := h
  exact ⟨vs, h1, h2, fun i hi hi' => ⟨(h3 i hi hi').1, (h3 i hi hi').2.1⟩⟩

theorem OwnTN.kept {N B : Nat} {w w' : World} {v : Value} {ll : List (List Int)} {row : Option Nat} (h : OwnTN N B w v ll) (g : w.grownBy w' row) (hr : ∀ b, row = some b → b < N) (hv : v.ownBlock = none ∨ v.ownBlock ≠ row) : OwnTN N B w' v ll := by
  obtain ⟨vs, h1, h2, h3⟩ := h
  refine ⟨vs, h1.kept g hv, h2, fun i hi hi' => ⟨?_, (h3 i hi hi').2⟩⟩
  have hk := Keeps.grown (X := (· < N)) g hr
  exact hk.seq (h3 i hi hi').1 (h3 i hi hi').2.2

theorem grownN {w w' : World} (h : Below w.heap.size w w') : w.grownBy w' none := ⟨h.os, h.tape, h.output, h.size, fun k hk _ => h.block k hk⟩
theorem OwnTN.below {N B : Nat} {w w' : World} {v : Value} {ll : List (List Int)} (h : OwnTN N B w v ll) (hb : Below w.heap.size w w') : OwnTN N B w' v ll :=
  h.kept (grownN hb) (by simp) (by cases v.ownBlock <;> simp)

theorem OwnTN.snoc {N B : Nat} {w w' : World} {v v' u : Value} {vs : List Value} {ll : List (List Int)} {l : List Int} (hlen : vs.length = ll.length)
    (h3 : ∀ i (h : i < vs.length) (h' : i < ll.length), Ints w vs[i] ll[i] ∧ Apart vs[i] ll[i] v ∧ OffX (· < N) vs[i] ll[i]) (hu : Ints w u l) (ha : Apart u l v) (hx : OffX (· < N) u l) (hown : OwnV B w' v' (vs ++ [u])) (g : Grew B w w' v v') : OwnTN N B w' v' (ll ++ [l]) := by
  refine ⟨vs ++ [u], hown, by simp [hlen], fun i hi hi' => ?_⟩
  by_cases hiv : i < vs.length
  · have hil : i < ll.length := by omega
    rw [List.getElem_append_left hiv, List.getElem_append_left hil]
    have := h3 i hiv hil
    exact ⟨this.1.grew g this.2.1, this.2.1.grew this.1 g, this.2.2⟩
  · have e : i = vs.length := by simp at hi; omega
    subst e
    rw [List.getElem_append_right (by omega), List.getElem_append_right (by omega)]
    simp only [hlen, Nat.sub_self, List.getElem_cons_zero]
    exact ⟨hu.grew g ha, ha.grew hu g, hx⟩

theorem cell_push0' {w : World} {a : Addr} {v : Value} (h : w.cell? a = some v) (o : Obj) : (w.alloc o).cell? a = some v := Below.cell_of ((Below.refl _ _).alloc (Nat.le_refl _) o) h

/-- What the closure makes of the rows at hand, and a row. -/
def accR (p : List Int → Bool) (acc : List (List Int)) (t : List Int) : List (List Int) := if p t = true then acc ++ [t] else acc

set_option maxHeartbeats 4000000 in
theorem gather1_any {F : FuncId} {caps : Array Value} {p : List Int → Bool} {most : Int} {bw bv bm B N : Nat} {v : Value} {acc : List (List Int)} {t : List Int} {vt : Value} {w : World}
    (hEN : ∀ args w, (callFunc F args).run Try.prog w = .ok (.enter F args) w)
    (hw : w.cell? ⟨bw, 0, none⟩ = some (.func (.func F) #[] caps)) (hm : w.cell? ⟨bm, 0, none⟩ = some (.int .i64 most)) (hv : w.cell? ⟨bv, 0, none⟩ = some v) (hvf : w.frozen? ⟨bv, 0, none⟩ = false)
    (ho : OwnTN N B w v acc) (hvb : ∀ g, v.ownBlock = some g → g ≠ bv ∧ g ≠ bm) (hne : bm ≠ bv) (hB : B ≤ w.heap.size) (hN : N ≤ w.heap.size) (hbv : bv < N) (ht : Ints w vt t) (hal : acc.length < 10000000000) (htl : t.length < 100000000)
    (hW : Calls Try.prog F (#[vt] ++ caps) w fun e w' => e = .returned (.bool (p t)) ∧ Below w.heap.size w w') :
    Calls Try.prog 38 #[vt, .pointer (some ⟨bw, 0, none⟩), .pointer (some ⟨bv, 0, none⟩), .pointer (some ⟨bm, 0, none⟩)] w fun e w' =>
      e = .returned (.bool (decide (((accR p acc t).length : Int) ≤ most))) ∧ ∃ v', w'.cell? ⟨bv, 0, none⟩ = some v' ∧ w'.frozen? ⟨bv, 0, none⟩ = false ∧ OwnTN N B w' v' (accR p acc t) ∧
        (v'.ownBlock = v.ownBlock ∨ ∃ g, v'.ownBlock = some g ∧ w.heap.size ≤ g) ∧ Keeps (fun g => g = bv ∨ v.ownBlock = some g) w w' := by
  obtain ⟨va, vc, rfl, hvl, hvc⟩ := ho.ownT.tups.form
  obtain ⟨ta, tc, rfl, htl2, htc⟩ := ht.form
  unfold maxLen at hvc htc
  have hbvw : bv < w.heap.size := cell_lt hv
  have HW := hide hW
  have HO := hide ho
  have HT := hide ht
  have HVB := hide hvb
  clear hW ho ht hvb
  cases hp : p t with
  | false =>
    have hacc : accR p acc t = acc := by unfold accR; rw [if_neg (by simp [hp])]
    rw [hp] at HW
    rw [hacc]
    clear hacc hp
    go_enter Try.func38, Try.ntmps38
    go_wp2_with fail
    refine (unhide HW).mono ?_
    rintro e w2 ⟨rfl, hb2⟩
    have d1 := Below.cell_of hb2 hm
    have d2 := Below.cell_of hb2 hv
    have d3 : w2.frozen? ⟨bv, 0, none⟩ = false := by rw [World.frozen?_of_block (hb2.block bv hbvw)]; exact hvf
    have HB2 := hide hb2
    clear hb2
    go_wp2
    go_ret
    exact ⟨rfl, _, d2, d3, (unhide HO).below (unhide HB2), .inl rfl, Keeps.belowW (unhide HB2)⟩
  | true =>
    obtain ⟨A, hA⟩ : ∃ A, A = acc ++ [t] := ⟨_, rfl⟩
    have hacc : accR p acc t = A := by unfold accR; rw [if_pos hp, hA]
    have HAL : Hid (A.length = acc.length + 1) := hide (by rw [hA]; simp)
    have HA := hide hA
    rw [hp] at HW
    rw [hacc]
    clear hacc hp hA
    go_enter Try.func38, Try.ntmps38
    go_wp2_with fail
    refine (unhide HW).mono ?_
    rintro e w2 ⟨rfl, hb2⟩
    have d1 := Below.cell_of hb2 hm
    have d2 := Below.cell_of hb2 hv
    have d3 : w2.frozen? ⟨bv, 0, none⟩ = false := by rw [World.frozen?_of_block (hb2.block bv hbvw)]; exact hvf
    have HCL := hide (fun W (hb : Below w2.heap.size w2 W) => cloneI_any (((unhide HT).below hb2).below hb) htl)
    obtain ⟨vs, o1, o2, o3⟩ := (unhide HO).below hb2
    have HO3 := hide o3
    have HB2 := hide hb2
    have hs2 := hb2.size
    have hN2 : N ≤ w2.heap.size := Nat.le_trans hN hs2
    have hB2 : B ≤ w2.heap.size := Nat.le_trans hB hs2
    clear hb2 o3
    go_wp2
    refine wp_region_till (st := 5) (S := fun U => U.cell? ⟨bv, 0, none⟩ = some (.slice va acc.length vc) ∧ True) (by kernel_rfl) ?_
    have hS0 : w2.drew.cell? ⟨bv, 0, none⟩ = some (.slice va acc.length vc) ∧ True := ⟨d2, trivial⟩
    refine till_take (i := 0) (v := ?_) rfl (by kernel_rfl) (by kernel_rfl) (by kernel_rfl) (by kernel_rfl) (fun _ _ _ h => h) (Or.inl ⟨by kernel_rfl, ?_⟩) (by assumption) ?_
    rotate_left
    · intro W hSW; obtain ⟨hS1, _⟩ := hSW; go_simp; first | done | rfl
    simp only [Act.put, List.setIfInBounds_toArray, List.set_cons_zero, List.set_cons_succ]
    refine till_take (i := 1) (v := ?_) rfl (by kernel_rfl) (by kernel_rfl) (by kernel_rfl) (by kernel_rfl) (fun _ _ _ h => h) (Or.inl ⟨by kernel_rfl, ?_⟩) (by assumption) ?_
    rotate_left
    · intro W hSW; obtain ⟨hS1, _⟩ := hSW; go_simp; first | done | rfl
    simp only [Act.put, List.setIfInBounds_toArray, List.set_cons_zero, List.set_cons_succ]
    refine till_one (i := 2) (by kernel_rfl) rfl rfl (by decide) (fun K hK => ?_)
    go_simp
    refine (unhide HCL _ (by exact below_same rfl rfl rfl rfl)).mono ?_
    rintro e w3 ⟨u3, rfl, hown3, hb3⟩
    have hb3' : Below w2.heap.size w2 w3 := ⟨hb3.os, hb3.tape, hb3.output, hb3.size, hb3.block⟩
    have k3 := Below.cell_of hb3' d2
    obtain ⟨ua, uc, rfl, hul, huc⟩ := (Seq.of_own hown3).form
    unfold maxLen at huc
    refine hK.out _ _ ⟨k3, trivial⟩ (fun hHeld => ?_)
    clear hK K
    try simp only [Act.put, List.setIfInBounds_toArray, List.set_cons_zero, List.set_cons_succ]
    refine till_one (i := 3) (by kernel_rfl) rfl rfl (by decide) (fun K hK => ?_)
    go_simp
    refine hK.out _ _ ⟨cell_push0' k3 _, trivial⟩ (fun hHeld => ?_)
    clear hK K
    try simp only [Act.put, List.setIfInBounds_toArray, List.set_cons_zero, List.set_cons_succ]
    refine till_one (i := 4) (by kernel_rfl) rfl rfl (by decide) (fun K hK => ?_)
    have hu3 := Seq.of_own hown3
    have hnew3 : ∀ g, (Value.slice ua t.length uc).ownBlock = some g → w2.heap.size ≤ g := fun g hg => ((New.of_own hown3) g hg).1
    have hs3 := hb3'.size
    refine op_app_row (.tmp 9) (.tmp 12) rfl (B := B) (w := w3) (v := .slice va acc.length vc) (l := vs) (y := .slice ua t.length uc) (by have := own_below o1 hb3'; exact this) rfl (by omega) rfl hu3.one (by omega) ?_
    intro v4 w4 hown4 hgrew4
    have hx3 : OffX (· < N) (.slice ua t.length uc) t := fun _ g hg hlt => by have := hnew3 g hg; have : g < N := hlt; omega
    have hap : Apart (.slice ua t.length uc) t (.slice va acc.length vc) := fun _ g h1 h2 => by
      have h3 := hnew3 g h1
      have h4 := (o1.lt g h2).2
      omega
    have hfin := OwnTN.snoc o2 (fun i h h' => by have := unhide HO3 i h h'; exact ⟨this.1.below hb3', this.2⟩) hu3 hap hx3 hown4 hgrew4
    rw [← unhide HA] at hfin
    have k4 := hgrew4.by_.cell k3 (fun e => (unhide HVB bv e.symm).1 rfl)
    have f4 : w4.frozen? ⟨bv, 0, none⟩ = false := by
      rw [World.frozen?_of_block (hgrew4.by_.block bv (cell_lt k3) (fun e => (unhide HVB bv e.symm).1 rfl)), World.frozen?_of_block (hb3'.block bv (cell_lt d2))]
      exact d3
    have m4 := hgrew4.by_.cell (Below.cell_of hb3' d1) (fun e => (unhide HVB bm e.symm).2 rfl)
    obtain ⟨va4, vc4, rfl, hl4, hc4⟩ := hfin.ownT.tups.form
    unfold maxLen at hc4
    have hv4 : (Value.slice va4 A.length vc4).ownBlock ≠ some bv := by
      rcases hgrew4.at_ with h | ⟨g, h, hg⟩
      · rw [h]; exact fun e => (unhide HVB bv e).1 rfl
      · rw [h]; intro e; injection e with e; have := cell_lt k3; omega
    have gset := grown_set w4 bv 0 (.slice va4 A.length vc4)
    have hfin2 := hfin.kept gset (fun b e => by injection e with e; omega) (Or.inr hv4)
    have c5 : (w4.setCell ⟨bv, 0, none⟩ (.slice va4 A.length vc4)).cell? ⟨bv, 0, none⟩ = some (.slice va4 A.length vc4) := by
      exact World.cell?_setCell_same _ _ _ k4
    have m5 : (w4.setCell ⟨bv, 0, none⟩ (.slice va4 A.length vc4)).cell? ⟨bm, 0, none⟩ = some (.int .i64 most) := by
      rw [World.cell?_setCell_other _ _ _ _ (by intro e; injection e with e; exact hne e.symm)]; exact m4
    have f5 : (w4.setCell ⟨bv, 0, none⟩ (.slice va4 A.length vc4)).frozen? ⟨bv, 0, none⟩ = false := by
      rw [World.frozen?_setCell]; exact f4
    have hkeep : Keeps (fun g => g = bv ∨ (Value.slice va acc.length vc).ownBlock = some g) w (w4.setCell ⟨bv, 0, none⟩ (.slice va4 A.length vc4)) :=
      (Keeps.belowW (unhide HB2)).then ((Keeps.belowW hb3').then ((Keeps.grown hgrew4.by_ (fun b e => .inr e)).then (Keeps.grown gset (fun b e => by injection e with e; exact .inl e.symm))))
    have hat5 : (Value.slice va4 A.length vc4).ownBlock = (Value.slice va acc.length vc).ownBlock ∨ ∃ g, (Value.slice va4 A.length vc4).ownBlock = some g ∧ w.heap.size ≤ g := by
      rcases hgrew4.at_ with h | ⟨g, h, hg⟩
      · exact .inl h
      · exact .inr ⟨g, h, by omega⟩
    have HF := hide (And.intro hfin2 (And.intro hkeep hat5))
    refine hK.out _ _ ⟨k4, trivial⟩ (fun hHeld => ?_)
    clear hK K hfin hfin2 hkeep hat5 gset hown4 hgrew4 hu3 hap hx3 hown3 o1 o2
    try simp only [Act.put, List.setIfInBounds_toArray, List.set_cons_zero, List.set_cons_succ]
    refine till_last (by kernel_rfl) rfl rfl (by kernel_rfl) (fun K hK => ?_)
    go_simp
    refine hK.out _ _ ?_
    clear hHeld hS0 k3 k4 d1 d2 d3 m4
    generalize w4.setCell ⟨bv, 0, none⟩ (.slice va4 A.length vc4) = w5 at *
    go_wp2
    go_ret
    exact ⟨rfl, _, c5, f5, (unhide HF).1, (unhide HF).2.2, (unhide HF).2.1⟩

end Go.Proofs.Ytflibcfecnhjgaa
