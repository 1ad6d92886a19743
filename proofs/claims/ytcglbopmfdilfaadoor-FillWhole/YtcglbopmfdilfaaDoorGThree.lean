/-
  The contracts of slices.Clone at []uint64, Beside, Neighbors.
-/
import Derived.Test.YtcglbopmfdilfaaDoorGTwo
import Derived.Test.YtcglbopmfdilfaaDoorUntil
import Derived.Test.YtcglbopmfdilfaaDoorHeld
import Derived.Shelf.Spec.TrailingZeros
namespace Go.Proofs.YtcglbopmfdilfaaDoor
open Go.RowKit
set_option linter.unusedVariables false
set_option linter.unusedSimpArgs false
set_option maxRecDepth 20000

theorem own_nilW (B : Nat) (w : World) : OwnW B w (.slice none 0 0) [] := World.ownsRow_nil _ _ _ _
theorem own_litW {B : Nat} {w : World} (hB : B ≤ w.heap.size) : OwnW B (w.alloc (.cells #[] 61)) (.slice (some ⟨w.heap.size, 0, none⟩) 0 0) [] := World.ownsRow_made w #[] 0 hB (by simp [maxLen]) (by simp)

theorem wp_app_words {w : World} {ops : Array Oper} {rest : List Oper} {o : Oper} {a : Act} {Q : Exit → Act → World → Prop} (hgd : o.guard = none) (s x : Operand)
    (ho : o.op = .call { callee := .builtin .append, args := #[s, x], argTypes := #[27, 27] }) {B : Nat} {v : Value} {l : List Nat} (hown : OwnW B w v l) (hs : a.eval s = v) (hB : B ≤ w.heap.size)
    {u : Value} {m : List Nat} (hu : Words w u m) (hx : a.eval x = u) (hlen : l.length + m.length < 100000000000)
    (h : ∀ v' w', OwnW B w' v' (l ++ m) → Grew B w w' v v' → wpList Tryd.prog ops Q rest (a.put o.dst v') w') :
    wpList Tryd.prog ops Q (o :: rest) a w :=
  wpList_plain hgd fun _ hK => op_app_all (enc := u64C) Tryd.underlying27 Tryd.infoWord rfl (by decide) s x ho hown hs hB hu hx (fun _ _ => rfl) hlen fun v' w' h1 h2 => hK _ _ (h v' w' h1 h2)

set_option maxHeartbeats 1000000 in
theorem cloneW_any {l : List Nat} {v : Value} {w : World} (h : Words w v l) (hlen : l.length < 100000000) :
    Calls Tryd.prog 44 #[v] w fun e w' => ∃ v', e = .returned v' ∧ OwnW w.heap.size w' v' l ∧ Below w.heap.size w w' := by
  obtain ⟨a, cap, rfl, hla, hca⟩ := h.form
  cases a with
  | none =>
    have hn : l = [] := by
      obtain ⟨a', c', e, h2, h3, h4, h5, h6⟩ := h
      cases e
      have := h4 rfl
      exact List.length_eq_zero_iff.1 (by omega)
    subst hn
    have q22 : ∀ (w : World) (n c n' c' : Nat), (binOp .eql 27 (.slice none n c) (.slice none n' c')).run Tryd.prog w = .ok (.bool true) w := fun w n c n' c' => Lib.run_eql_slice_nil w _ _ none n c n' c' Tryd.underlying27
    clear h
    go_enter Tryd.func44, Tryd.ntmps44
    go_wp2
    go_ret
    exact ⟨_, rfl, own_nilW _ _, Below.refl _ _⟩
  | some x =>
    have q22 : ∀ (w : World) (n c n' c' : Nat), (binOp .eql 27 (.slice (some x) n c) (.slice none n' c')).run Tryd.prog w = .ok (.bool false) w := fun w n c n' c' => Lib.run_eql_slice_nil w _ _ (some x) n c n' c' Tryd.underlying27
    have hb0 := (Below.refl w.heap.size w).alloc (Nat.le_refl _) (.cells #[] 61)
    have HS := hide (h.below hb0)
    clear h
    go_enter Tryd.func44, Tryd.ntmps44
    go_wp2_with (at_builtin; refine wp_app_words rfl (.tmp 5) (.tmp 6) rfl (B := w.heap.size) (l := []) (own_litW (Nat.le_refl _)) rfl (by simp) (unhide HS) rfl (by simp; omega) ?_; intro v' w' hown hgrew)
    go_ret
    exact ⟨_, rfl, by simpa using hown, hb0.trans hgrew.below⟩

/-- .. where the world at hand has drawn. -/
theorem drewB {w : World} : Below w.heap.size w w.drew := ⟨rfl, rfl, rfl, Nat.le_refl _, fun _ _ => rfl⟩

set_option maxHeartbeats 2000000 in
theorem beside_any {g : List Nat} {a b : Int} {x : Value} {w : World} (hg : Words w x g) (hn : g.length ≤ 64) (hw : W64 g) :
    Calls Tryd.prog 58 #[.agg #[x], .int .i64 a, .int .i64 b] w fun e w' => e = .returned (.bool (besI g a b)) ∧ Below w.heap.size w w' := by
  obtain ⟨W1, hW1, hb1, hz1, hx1⟩ := boxed (w := w) (x := x)
  have HP := hide (fun W (hb : Below W1.heap.size W1 W) => isPoint_any (a := a) ((hg.below hb1).below hb))
  have HT := hide (fun W (hb : Below W1.heap.size W1 W) => bitOf_any (a := b) ((hg.below hb1).below hb) hn)
  have HC := hide (fun W (hb : Below W1.heap.size W1 W) => (hx1.below hb (by omega)).cell)
  have HG := hide (fun W (hb : Below W1.heap.size W1 W) => ((hg.below hb1).below hb))
  have HB := hide hb1
  have HW1 := hide hW1
  obtain ⟨ax, cx, rfl, hlx, hcx⟩ := hg.form
  unfold besI
  clear hb1 hx1 hg hW1
  cases hp : ptB g.length a with
  | false =>
    rw [hp] at HP
    have y0 := unhide HC W1 (Below.refl _ _)
    go_enter Tryd.func58, Tryd.ntmps58
    go_wp2_with fail
    rw [← unhide HW1]
    go_wp2
    have hS0 : W1.drew.cell? ⟨w.heap.size, 0, none⟩ = some (.slice ax g.length cx) ∧ True := ⟨y0, trivial⟩
    refine wp_region_held (S := fun U => U.cell? ⟨w.heap.size, 0, none⟩ = some (.slice ax g.length cx) ∧ True) (by kernel_rfl) ?_
    refine wpAnyH_take (i := 0) (v := ?_) rfl (by kernel_rfl) (by kernel_rfl) (by kernel_rfl) (fun _ _ _ h => h) (Or.inl ⟨by kernel_rfl, ?_⟩) (by assumption) ?_
    rotate_left
    · intro W hSW; obtain ⟨hS1, _⟩ := hSW; go_simp; first | done | rfl
    simp only [Act.put, List.setIfInBounds_toArray, List.set_cons_zero, List.set_cons_succ, List.getElem_toArray, List.getElem_cons_succ, List.getElem_cons_zero]
    refine wpAnyH_take (i := 1) (v := ?_) rfl (by kernel_rfl) (by kernel_rfl) (by kernel_rfl) (fun _ _ _ h => h) (Or.inl ⟨by kernel_rfl, ?_⟩) (by assumption) ?_
    rotate_left
    · intro W hSW; obtain ⟨hS1, _⟩ := hSW; go_simp; first | done | rfl
    simp only [Act.put, List.setIfInBounds_toArray, List.set_cons_zero, List.set_cons_succ, List.getElem_toArray, List.getElem_cons_succ, List.getElem_cons_zero]
    refine held_one (i := 2) (by kernel_rfl) rfl (by kernel_rfl) (fun K hK => ?_)
    go_simp
    refine (unhide HP _ (by exact below_same rfl rfl rfl rfl)).mono ?_
    rintro e w2 ⟨rfl, hb2⟩
    have hB2 : Below W1.heap.size W1 w2 := below_then drewB hb2
    have hS0 : w2.cell? ⟨w.heap.size, 0, none⟩ = some (.slice ax g.length cx) ∧ True := ⟨unhide HC _ hB2, trivial⟩
    refine hK.out _ _ hS0 ?_
    clear hK K
    try simp only [Act.put, List.setIfInBounds_toArray, List.set_cons_zero, List.set_cons_succ]
    refine wpAnyH_take (i := 3) (v := ?_) rfl (by kernel_rfl) (by kernel_rfl) (by kernel_rfl) (fun _ _ _ h => h) (Or.inl ⟨by kernel_rfl, ?_⟩) (by assumption) ?_
    rotate_left
    · intro W hSW; obtain ⟨hS1, _⟩ := hSW; go_simp; first | done | rfl
    simp only [Act.put, List.setIfInBounds_toArray, List.set_cons_zero, List.set_cons_succ, List.getElem_toArray, List.getElem_cons_succ, List.getElem_cons_zero]
    refine wpAnyH_take (i := 4) (v := undef) rfl (by kernel_rfl) (by kernel_rfl) (by kernel_rfl) (fun _ _ _ h => h) (Or.inr ⟨by kernel_rfl, rfl⟩) (by assumption) ?_
    simp only [Act.put, List.setIfInBounds_toArray, List.set_cons_zero, List.set_cons_succ, List.getElem_toArray, List.getElem_cons_succ, List.getElem_cons_zero]
    refine wpAnyH_take (i := 5) (v := undef) rfl (by kernel_rfl) (by kernel_rfl) (by kernel_rfl) (fun _ _ _ h => h) (Or.inr ⟨by kernel_rfl, rfl⟩) (by assumption) ?_
    simp only [Act.put, List.setIfInBounds_toArray, List.set_cons_zero, List.set_cons_succ, List.getElem_toArray, List.getElem_cons_succ, List.getElem_cons_zero]
    refine wpAnyH_take (i := 6) (v := undef) rfl (by kernel_rfl) (by kernel_rfl) (by kernel_rfl) (fun _ _ _ h => h) (Or.inr ⟨by kernel_rfl, rfl⟩) (by assumption) ?_
    simp only [Act.put, List.setIfInBounds_toArray, List.set_cons_zero, List.set_cons_succ, List.getElem_toArray, List.getElem_cons_succ, List.getElem_cons_zero]
    refine wpAnyH_take (i := 7) (v := undef) rfl (by kernel_rfl) (by kernel_rfl) (by kernel_rfl) (fun _ _ _ h => h) (Or.inr ⟨by kernel_rfl, rfl⟩) (by assumption) ?_
    simp only [Act.put, List.setIfInBounds_toArray, List.set_cons_zero, List.set_cons_succ, List.getElem_toArray, List.getElem_cons_succ, List.getElem_cons_zero]
    refine wpAnyH_take (i := 8) (v := undef) rfl (by kernel_rfl) (by kernel_rfl) (by kernel_rfl) (fun _ _ _ h => h) (Or.inr ⟨by kernel_rfl, rfl⟩) (by assumption) ?_
    simp only [Act.put, List.setIfInBounds_toArray, List.set_cons_zero, List.set_cons_succ, List.getElem_toArray, List.getElem_cons_succ, List.getElem_cons_zero]
    refine wpAnyH_take (i := 9) (v := undef) rfl (by kernel_rfl) (by kernel_rfl) (by kernel_rfl) (fun _ _ _ h => h) (Or.inr ⟨by kernel_rfl, rfl⟩) (by assumption) ?_
    simp only [Act.put, List.setIfInBounds_toArray, List.set_cons_zero, List.set_cons_succ, List.getElem_toArray, List.getElem_cons_succ, List.getElem_cons_zero]
    refine wpAnyH_take (i := 10) (v := undef) rfl (by kernel_rfl) (by kernel_rfl) (by kernel_rfl) (fun _ _ _ h => h) (Or.inr ⟨by kernel_rfl, rfl⟩) (by assumption) ?_
    simp only [Act.put, List.setIfInBounds_toArray, List.set_cons_zero, List.set_cons_succ, List.getElem_toArray, List.getElem_cons_succ, List.getElem_cons_zero]
    refine wpAnyH_take (i := 11) (v := undef) rfl (by kernel_rfl) (by kernel_rfl) (by kernel_rfl) (fun _ _ _ h => h) (Or.inr ⟨by kernel_rfl, rfl⟩) (by assumption) ?_
    simp only [Act.put, List.setIfInBounds_toArray, List.set_cons_zero, List.set_cons_succ, List.getElem_toArray, List.getElem_cons_succ, List.getElem_cons_zero]
    refine wpAnyH_take (i := 12) (v := undef) rfl (by kernel_rfl) (by kernel_rfl) (by kernel_rfl) (fun _ _ _ h => h) (Or.inr ⟨by kernel_rfl, rfl⟩) (by assumption) ?_
    simp only [Act.put, List.setIfInBounds_toArray, List.set_cons_zero, List.set_cons_succ, List.getElem_toArray, List.getElem_cons_succ, List.getElem_cons_zero]
    refine wpAnyH_take (i := 13) (v := undef) rfl (by kernel_rfl) (by kernel_rfl) (by kernel_rfl) (fun _ _ _ h => h) (Or.inr ⟨by kernel_rfl, rfl⟩) (by assumption) ?_
    simp only [Act.put, List.setIfInBounds_toArray, List.set_cons_zero, List.set_cons_succ, List.getElem_toArray, List.getElem_cons_succ, List.getElem_cons_zero]
    refine wpAnyH_take (i := 14) (v := ?_) rfl (by kernel_rfl) (by kernel_rfl) (by kernel_rfl) (fun _ _ _ h => h) (Or.inl ⟨by kernel_rfl, ?_⟩) (by assumption) ?_
    rotate_left
    · intro W hSW; obtain ⟨hS1, _⟩ := hSW; go_simp; first | done | rfl
    simp only [Act.put, List.setIfInBounds_toArray, List.set_cons_zero, List.set_cons_succ, List.getElem_toArray, List.getElem_cons_succ, List.getElem_cons_zero]
    refine wpAnyH_take (i := 15) (v := ?_) rfl (by kernel_rfl) (by kernel_rfl) (by kernel_rfl) (fun _ _ _ h => h) (Or.inl ⟨by kernel_rfl, ?_⟩) (by assumption) ?_
    rotate_left
    · intro W hSW; obtain ⟨hS1, _⟩ := hSW; go_simp; first | done | rfl
    simp only [Act.put, List.setIfInBounds_toArray, List.set_cons_zero, List.set_cons_succ, List.getElem_toArray, List.getElem_cons_succ, List.getElem_cons_zero]
    refine wpAnyH_done (by kernel_rfl) ?_ _
    go_wp2
    go_ret
    exact ⟨rfl, (unhide HB).trans (hB2.mono (by omega))⟩
  | true =>
    obtain ⟨h0, h1⟩ := ptB_iff.1 hp
    have ha : (a.toNat : Int) = a := by omega
    rw [hp] at HP
    have HV : Hid (bits .and .u64 ((g.getD a.toNat 0 : Nat) : Int) ((bitN g.length b : Nat) : Int) = ((g.getD a.toNat 0 &&& bitN g.length b : Nat) : Int)) := hide (u64_and_nat _ _ (getD_lt hw _) (bitN_lt hn _))
    obtain ⟨q, hq⟩ : ∃ q, q = (g.getD a.toNat 0 &&& bitN g.length b != 0) := ⟨_, rfl⟩
    have HQ := hide hq
    have hk : a.toNat < g.length := by omega
    have HE : Hid (g[a.toNat] = g.getD a.toNat 0) := hide (by rw [List.getD_eq_getElem?_getD, List.getElem?_eq_getElem hk]; rfl)
    have y0 := unhide HC W1 (Below.refl _ _)
    obtain ⟨bg, og, e1, q1⟩ := (unhide HG W1 (Below.refl _ _)).at hk
    subst e1
    rw [unhide HE] at q1
    have HD := hide (fun W (hb : Below W1.heap.size W1 W) => And.intro (unhide HC W hb) (Below.cell_of hb q1))
    rw [← hq]
    generalize a.toNat = k at *
    subst ha
    clear HC HE HG hq
    go_enter Tryd.func58, Tryd.ntmps58
    go_wp2_with fail
    rw [← unhide HW1]
    go_wp2
    have hbR : Below W1.heap.size W1 W1.drew := drewB
    go_region_held3 (fun W => W.cell? ⟨w.heap.size, 0, none⟩ = some (.slice (some ⟨bg, og, none⟩) g.length cx) ∧ W.cell? ⟨bg, og + k, none⟩ = some (u64C (g.getD k 0)))
      (first | exact unhide HD _ (by first | exact hB2 | exact hB1 | exact hbR | exact below_same rfl rfl rfl rfl))
      (first
        | (go_at_call 64; refine (unhide HT _ hB1).mono ?_; rintro e w3 ⟨rfl, hb2⟩; have hB2 : Below W1.heap.size W1 w3 := below_then hB1 hb2)
        | (go_at_call 56; refine (unhide HP _ (by first | exact hbR | exact below_same rfl rfl rfl rfl)).mono ?_; rintro e w2 ⟨rfl, hb1⟩; have hB1 : Below W1.heap.size W1 w2 := below_then (by first | exact hbR | exact below_same rfl rfl rfl rfl) hb1))
    all_goals
      go_wp2
      go_ret
      refine ⟨ret_bool ?_, (unhide HB).trans (hB2.mono (by omega))⟩
      rw [unhide HQ, show (g[k]'hk) = g.getD k 0 from by rw [List.getD_eq_getElem?_getD, List.getElem?_eq_getElem hk]; rfl, unhide HV, Bool.true_and, Bool.eq_iff_iff]
      simp

end Go.Proofs.YtcglbopmfdilfaaDoor
