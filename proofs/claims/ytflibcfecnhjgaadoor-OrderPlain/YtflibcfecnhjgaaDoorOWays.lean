/-
  The contract of ways: a map of three functions, each bound to the search.
-/
import Derived.Test.YtflibcfecnhjgaaDoorApp3
import Derived.Maps.OwnSet
import Derived.Maps.Views
namespace Go.Proofs.YtflibcfecnhjgaaDoor
open Go.RowKit Go.Maps
set_option linter.unusedVariables false
set_option linter.unusedSimpArgs false
set_option maxRecDepth 20000

/-- A map's value is told as it is. -/
def heldR (v : Value) : Option (DataW Value × List MemPlace) := some (.held v, [])

/-- A literal's entry, at the operation. -/
theorem wpList_insert_own {H : Type} {P : Program} (w : World) {ops : Array Oper} {rest : List Oper} {o : Oper} {a : Act} {Q : Exit → Act → World → Prop}
    (hg : o.guard = none) (m x v : Operand) (t : TypeId) (hop : o.op = Op.insert t m x v)
    (k e : TypeId) (K : Keyed P k) (ht : P.underlying t = some (.map k e)) (R : Value → Option (DataW H × List MemPlace)) (b n : Nat) (D : DataW H)
    (hm : a.eval m = .map (some b)) (hown : w.ownsMap P k R b n D) (hn : n < maxLen) (key val : Value) (kl : Lit) (hx : a.eval x = key) (hv : a.eval v = val) (hkey : keyOf P k key = some kl)
    (d : DataW H) (ps : List MemPlace) (hval : R val = some (d, ps))
    (hK : ∀ w', w'.ownsMap P k R b (n + 1) (D.put kl d) → w.grownBy w' (some b) → wpList P ops Q rest (a.put o.dst undef) w') :
    wpList P ops Q (o :: rest) a w := by
  refine wpList_plain hg fun K' hK' => ?_
  obtain ⟨w', hrun, r1, r2⟩ := hown.update K ht hn hkey hval
  unfold Oper.wp
  simp [execOp, hop, hm, hx, hv, hrun, Result.andThen]
  exact hK' _ _ (hK w' r1 r2)

def wayV (F b : Nat) : Value := .func (.func F) #[.pointer (some ⟨b, 0, none⟩)] #[]
/-- The map of the three ways. -/
def waysD (b : Nat) : DataW Value := (((DataW.map []).put (.int .i64 1) (.held (wayV 54 b))).put (.int .i64 2) (.held (wayV 55 b))).put (.int .i64 3) (.held (wayV 56 b))

theorem isMap_put {H : Type} {D : DataW H} (h : IsMap D) (k : Lit) (d : DataW H) : IsMap (D.put k d) := by
  obtain ⟨es, rfl⟩ := h
  exact ⟨_, rfl⟩

theorem lit_ne {a b : Int} (h : a ≠ b) : (Lit.int .i64 a) ≠ .int .i64 b := fun e => h (by injection e)
theorem ways_one (b : Nat) (z : DataW Value) : has (waysD b) (.int .i64 1) = true ∧ (waysD b).atKey (.int .i64 1) z = .held (wayV 54 b) := by
  unfold waysD
  refine ⟨?_, ?_⟩
  · rw [has_put_other (lit_ne (by decide)), has_put_other (lit_ne (by decide)), has_put_same ⟨_, rfl⟩ (show WideAt.IsKeyLit (.int .i64 1) from trivial)]
  · rw [atKey_put_other (lit_ne (by decide)), atKey_put_other (lit_ne (by decide)), atKey_put_same ⟨_, rfl⟩ (show WideAt.IsKeyLit (.int .i64 1) from trivial)]
theorem ways_two (b : Nat) (z : DataW Value) : has (waysD b) (.int .i64 2) = true ∧ (waysD b).atKey (.int .i64 2) z = .held (wayV 55 b) := by
  unfold waysD
  refine ⟨?_, ?_⟩
  · rw [has_put_other (lit_ne (by decide)), has_put_same (isMap_put ⟨_, rfl⟩ _ _) (show WideAt.IsKeyLit (.int .i64 2) from trivial)]
  · rw [atKey_put_other (lit_ne (by decide)), atKey_put_same (isMap_put ⟨_, rfl⟩ _ _) (show WideAt.IsKeyLit (.int .i64 2) from trivial)]
theorem ways_three (b : Nat) (z : DataW Value) : has (waysD b) (.int .i64 3) = true ∧ (waysD b).atKey (.int .i64 3) z = .held (wayV 56 b) := by
  unfold waysD
  refine ⟨?_, ?_⟩
  · rw [has_put_same (isMap_put (isMap_put ⟨_, rfl⟩ _ _) _ _) (show WideAt.IsKeyLit (.int .i64 3) from trivial)]
  · rw [atKey_put_same (isMap_put (isMap_put ⟨_, rfl⟩ _ _) _ _) (show WideAt.IsKeyLit (.int .i64 3) from trivial)]
theorem ways_none {how : Int} (h1 : how ≠ 1) (h2 : how ≠ 2) (h3 : how ≠ 3) (b : Nat) (z : DataW Value) : has (waysD b) (.int .i64 how) = false ∧ (waysD b).atKey (.int .i64 how) z = z := by
  have e : ∀ n : Int, how ≠ n → (Lit.int .i64 how) ≠ .int .i64 n := fun n h e => h (by injection e)
  unfold waysD
  refine ⟨?_, ?_⟩
  · rw [has_put_other (e 3 h3), has_put_other (e 2 h2), has_put_other (e 1 h1)]; rfl
  · rw [atKey_put_other (e 3 h3), atKey_put_other (e 2 h2), atKey_put_other (e 1 h1)]; rfl

theorem keyed_int : Keyed Tryd.prog 3 := int_keyed Tryd.underlying3

set_option maxHeartbeats 2000000 in
theorem ways_any (b : Nat) (w : World) : Calls Tryd.prog 44 #[.pointer (some ⟨b, 0, none⟩)] w fun e w' => ∃ m, e = .returned (.map (some m)) ∧ w.heap.size ≤ m ∧ w'.ownsMap Tryd.prog 3 heldR m 3 (waysD b) ∧ Below w.heap.size w w' := by
  have hmm := @run_makeMap Tryd.prog
  have h0 : (w.alloc (.map #[] 0)).ownsMap Tryd.prog 3 heldR w.heap.size 0 (.map []) := World.ownsMap_made _ _ _ _
  have k1 : keyOf Tryd.prog 3 (.int .i64 1) = some (.int .i64 1) := keyOf_int_mk Tryd.underlying3 (by decide)
  have k2 : keyOf Tryd.prog 3 (.int .i64 2) = some (.int .i64 2) := keyOf_int_mk Tryd.underlying3 (by decide)
  have k3 : keyOf Tryd.prog 3 (.int .i64 3) = some (.int .i64 3) := keyOf_int_mk Tryd.underlying3 (by decide)
  have hb0 : Below w.heap.size w (w.alloc (.map #[] 0)) := (Below.refl _ _).alloc (Nat.le_refl _) _
  obtain ⟨w1, u1, o1, g1⟩ := h0.update keyed_int Tryd.underlying83 (by unfold maxLen; decide) k1 (show heldR (wayV 54 b) = some (.held (wayV 54 b), []) from rfl)
  obtain ⟨w2, u2, o2, g2⟩ := o1.update keyed_int Tryd.underlying83 (by unfold maxLen; decide) k2 (show heldR (wayV 55 b) = some (.held (wayV 55 b), []) from rfl)
  obtain ⟨w3, u3, o3, g3⟩ := o2.update keyed_int Tryd.underlying83 (by unfold maxLen; decide) k3 (show heldR (wayV 56 b) = some (.held (wayV 56 b), []) from rfl)
  have gt := World.grownBy.trans (World.grownBy.trans g1 g2) g3
  have hb3 : Below w.heap.size w w3 := hb0.trans ⟨gt.os, gt.tape, gt.output, gt.size, fun k hk => gt.block k (by simp; omega) (fun e => by injection e with e; omega)⟩
  unfold wayV at u1 u2 u3
  have HF := hide (And.intro o3 hb3)
  clear h0 k1 k2 k3 hb0 o1 o2 o3 g1 g2 g3 gt hb3
  go_enter Tryd.func44, Tryd.ntmps44
  go_wp2
  go_ret
  exact ⟨_, rfl, Nat.le_refl _, (unhide HF).1, (unhide HF).2⟩

end Go.Proofs.YtflibcfecnhjgaaDoor
