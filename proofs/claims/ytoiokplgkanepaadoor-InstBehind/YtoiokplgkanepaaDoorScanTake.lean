/-
  The contracts of strings.Clone, spelt, takeNumber, take.
-/
import Derived.Test.YtoiokplgkanepaaDoorScanBox
namespace Go.Proofs.YtoiokplgkanepaaDoor
open Go.RowKit
set_option linter.unusedVariables false
set_option linter.unusedSimpArgs false
set_option maxRecDepth 20000

set_option maxHeartbeats 1000000 in
theorem clone_any (s : ByteArray) (w : World) (hs : s.size ≤ 1000000) :
    Calls Tryd.prog 79 #[.string s] w fun e w' => e = .returned (.string s) ∧ Below w.heap.size w w' := by
  have HC := hide (shelf_clone s w (by omega))
  go_enter Tryd.func79, Tryd.ntmps79
  go_wp2_with (go_at_call 88; refine (unhide HC).mono ?_; rintro e w' ⟨rfl, hb⟩)
  go_ret
  exact ⟨rfl, hb⟩

set_option maxHeartbeats 1000000 in
theorem spelt_any (kind : Int) (s : ByteArray) (a b : Nat) (w : World) (hab : a ≤ b) (hb : b ≤ s.size) (hs : s.size ≤ 1000000) :
    Calls Tryd.prog 58 #[.int .i64 kind, .string s, .int .i64 (a : Int), .int .i64 (b : Int)] w fun e w' => e = .returned (tokV ⟨kind, ((lb s).drop a).take (b - a), 0, a⟩) ∧ Below w.heap.size w w' := by
  have HE := hide (ba_of _ _ (lb_extract s a b))
  have HC := hide (fun W => clone_any (s.extract a b) W (by rw [ByteArray.size_extract]; omega))
  go_enter Tryd.func58, Tryd.ntmps58
  go_wp2_with (go_at_call 79; refine (unhide HC _).mono ?_; rintro e w' ⟨rfl, hb⟩; have x0 := (BoxK.new _ w _ _ _ _).belowH hb; have c0 := x0.cell0; have c1 := x0.cell1; have c2 := x0.cell2; have c3 := x0.cell3; have f0 := x0.frozen; have X0 := hide x0; clear x0)
  have HR := hide (BoxK.set (unhide X0) (.int .i64 kind) (.string (s.extract a b)) (.int .i64 0) (.int .i64 (a : Int)))
  have r0 := (unhide HR).cell0
  have r1 := (unhide HR).cell1
  have r2 := (unhide HR).cell2
  have r3 := (unhide HR).cell3
  refine bodyPost_ret (v := tokV ⟨kind, ((lb s).drop a).take (b - a), 0, a⟩) ?_ rfl ⟨rfl, ?_⟩
  · unfold tokV
    rw [← unhide HE]
    simp [results, Tryd.results58, go_sem, r0, r1, r2, r3]
  · exact below_set4 (((Below.refl _ _).alloc (Nat.le_refl _) _).trans (hb.mono (by simp))) (Nat.le_refl _) _ _ _ _

end Go.Proofs.YtoiokplgkanepaaDoor
