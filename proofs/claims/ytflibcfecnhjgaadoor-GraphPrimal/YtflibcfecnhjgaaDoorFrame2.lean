/-
  What is handed in, as our own words have it: numbers, relations.
-/
import Derived.Test.YtflibcfecnhjgaaDoorFrame
import Derived.Test.YtflibcfecnhjgaaDoorRelRight
namespace Go.Proofs.YtflibcfecnhjgaaDoor
open Go.RowKit Go.ChangeShapes Go.WideShapes Go.ChangeAt
set_option linter.unusedVariables false
set_option linter.unusedSimpArgs false
set_option maxRecDepth 100000

theorem read_int {H : Type} {enc : TypeId × Value → H} {W : World} {v : Value} {d : DataW H} {ps : List MemPlace} {base b0 : Nat} {held : Bool} {r : Reach} (h : DataW.Trod enc Tryd.prog W base (fun _ => true) held 3 v d ps) (hv : Value.okWide Tryd.prog W r b0 3 v) :
    ∃ n, v = .int .i64 n ∧ InI64 n := by
  obtain ⟨n, hv, _, _, hw⟩ := open_int Tryd.underlying3 hv h
  exact ⟨n, hv, wf_in hw⟩

theorem cells_one {x : Value} {a : Option Addr} {n c : Nat} (h : [x] = [Value.slice a n c]) : x = .slice a n c := by injection h

theorem read_intsC {H : Type} {enc : TypeId × Value → H} {W : World} {x : Value} {y : DataW H × List MemPlace} {base fuel : Nat} {held : Bool} (hf : DataW.trod enc Tryd.prog W base (fun _ => true) held fuel 39 [x] = some y) :
    ∃ l, Ints W x l ∧ ∀ n ∈ l, InI64 n := by
  obtain ⟨a, n, c, rfl⟩ : ∃ a n c, x = .slice a n c := by
    rcases open_ints Tryd.underlying39 Tryd.underlying3 (by kernel_rfl) hf with ⟨hcs, _⟩ | ⟨x', l, c', zs, hcs, _⟩
    · exact ⟨_, _, _, cells_one hcs⟩
    · exact ⟨_, _, _, cells_one hcs⟩
  exact read_ints (enc := enc) (d := y.1) (ps := y.2) (base := base) (held := held) ⟨fuel, hf⟩ ⟨_, _, _, rfl⟩

theorem read_tupsC {H : Type} {enc : TypeId × Value → H} {W : World} {x : Value} {y : DataW H × List MemPlace} {base fuel : Nat} {held : Bool} (hf : DataW.trod enc Tryd.prog W base (fun _ => true) held fuel 22 [x] = some y) :
    ∃ ll, Tups W x ll ∧ ∀ l ∈ ll, ∀ n ∈ l, InI64 n := by
  obtain ⟨a, n, c, rfl⟩ : ∃ a n c, x = .slice a n c := by
    rcases Go.Deep.open_int_rows Tryd.underlying22 Tryd.underlying39 Tryd.underlying3 (by kernel_rfl) (by kernel_rfl) hf with ⟨hcs, _⟩ | ⟨x', len, cap, A, L, C, Z, hcs, _⟩
    · exact ⟨_, _, _, cells_one hcs⟩
    · exact ⟨_, _, _, cells_one hcs⟩
  exact read_tups (enc := enc) (d := y.1) (ps := y.2) (base := base) (held := held) ⟨fuel, hf⟩ ⟨_, _, _, rfl⟩

end Go.Proofs.YtflibcfecnhjgaaDoor
