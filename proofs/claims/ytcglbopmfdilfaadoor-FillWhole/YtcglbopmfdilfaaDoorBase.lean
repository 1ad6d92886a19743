/-
  Words of our own on slices in memory, and what carries them from world to world: no function of the program is spoken of here.
-/
import Derived.Test.YtcglbopmfdilfaaDoorRows
import Derived.WalkKit
import Derived.WalkSpells
import Derived.WalkLawsBesides
import Derived.Deep.QuietTactic
import Derived.BigQuiet
import Derived.Maps.AppendAt
namespace Go.Proofs.YtcglbopmfdilfaaDoor
open Go.RowKit
set_option linter.unusedVariables false
set_option linter.unusedSimpArgs false

/-- The slice value v reads in w as the list l, each element one cell by 'enc'. -/
def Seq {α : Type} (enc : α → Value) (w : World) (v : Value) (l : List α) : Prop :=
  ∃ a cap, v = .slice a l.length cap ∧ l.length ≤ cap ∧ cap ≤ maxLen ∧ (a = none → cap = 0) ∧
    (∀ x, a = some x → l ≠ [] → x.spot = none) ∧ ∀ i y, l[i]? = some y → ∃ x, a = some x ∧ w.cell? ⟨x.block, x.off + i, none⟩ = some (enc y)

abbrev Ints (w : World) (v : Value) (l : List Int) : Prop := Seq (Value.int .i64) w v l

/-- The slice value v reads in w as the rows of numbers ll. -/
def Tups (w : World) (v : Value) (ll : List (List Int)) : Prop :=
  ∃ vs : List Value, Seq id w v vs ∧ vs.length = ll.length ∧ ∀ i (h : i < vs.length) (h' : i < ll.length), Ints w vs[i] ll[i]

theorem cell_lt {w : World} {a : Addr} {v : Value} (h : w.cell? a = some v) : a.block < w.heap.size := by
  unfold World.cell? at h
  split at h
  · rename_i hh
    rcases Nat.lt_or_ge a.block w.heap.size with hl | hl
    · exact hl
    · rw [Array.getElem?_eq_none hl] at hh; exact absurd hh (by simp)
  · exact absurd h (by simp)

theorem Below.cell_of {w w' : World} (hb : Below w.heap.size w w') {a : Addr} {v : Value} (h : w.cell? a = some v) : w'.cell? a = some v := by
  rw [hb.cell (cell_lt h)]; exact h

theorem Seq.below {α : Type} {enc : α → Value} {w w' : World} {v : Value} {l : List α} (h : Seq enc w v l) (hb : Below w.heap.size w w') : Seq enc w' v l := by
  obtain ⟨a, cap, h1, h2, h3, h4, h5, h6⟩ := h
  refine ⟨a, cap, h1, h2, h3, h4, h5, fun i y hi => ?_⟩
  obtain ⟨x, hx, hc⟩ := h6 i y hi
  exact ⟨x, hx, Below.cell_of hb hc⟩

theorem Tups.below {w w' : World} {v : Value} {ll : List (List Int)} (h : Tups w v ll) (hb : Below w.heap.size w w') : Tups w' v ll := by
  obtain ⟨vs, h1, h2, h3⟩ := h
  exact ⟨vs, h1.below hb, h2, fun i hi hi' => (h3 i hi hi').below hb⟩

theorem Below.drewN (w : World) (n : Nat) : Below w.heap.size w (w.drewN n) := ⟨rfl, rfl, rfl, Nat.le_refl _, fun _ _ => rfl⟩

theorem Below.then {w w1 w2 : World} (h : Below w.heap.size w w1) (k : Below w1.heap.size w1 w2) : Below w.heap.size w w2 := h.trans (k.mono h.size)

theorem below_then {w w1 w2 : World} (h : Below w.heap.size w w1) (k : Below w1.heap.size w1 w2) : Below w.heap.size w w2 := h.trans (k.mono h.size)

theorem Seq.drewN {α : Type} {enc : α → Value} {w : World} {v : Value} {l : List α} (h : Seq enc w v l) (n : Nat) : Seq enc (w.drewN n) v l := h.below (Below.drewN w n)
theorem Tups.drewN {w : World} {v : Value} {l : List (List Int)} (h : Tups w v l) (n : Nat) : Tups (w.drewN n) v l := h.below (Below.drewN w n)

theorem Seq.at {α : Type} {enc : α → Value} {w : World} {a : Option Addr} {n cap : Nat} {l : List α} (h : Seq enc w (.slice a n cap) l) {k : Nat} (hk : k < l.length) :
    ∃ b off, a = some ⟨b, off, none⟩ ∧ w.cell? ⟨b, off + k, none⟩ = some (enc l[k]) := by
  obtain ⟨a', cap', h1, h2, h3, h4, h5, h6⟩ := h
  obtain ⟨x, hx, hc⟩ := h6 k l[k] (by simp [hk])
  cases h1
  subst hx
  have := h5 _ rfl (by rintro rfl; simp at hk)
  obtain ⟨b, off, s⟩ := x
  simp at this
  subst this
  exact ⟨b, off, rfl, hc⟩

theorem Seq.form {α : Type} {enc : α → Value} {w : World} {v : Value} {l : List α} (h : Seq enc w v l) : ∃ a cap, v = .slice a l.length cap ∧ l.length ≤ cap ∧ cap ≤ maxLen := by
  obtain ⟨a', cap', h1, h2, h3, _⟩ := h
  exact ⟨_, _, h1, h2, h3⟩

/-- .. and with no element the empty list is read of it. -/
theorem Seq.nil {α : Type} (enc : α → Value) (w : World) : Seq enc w (.slice none 0 0) [] := ⟨none, 0, rfl, by simp, by simp [maxLen], fun _ => rfl, by simp, by simp⟩

theorem Seq.of_own {α : Type} {enc : α → Value} {w : World} {B : Nat} {e : TypeId} {v : Value} {l : List α} (h : w.ownsRow B e 1 v l.length (l.map enc)) : Seq enc w v l := by
  obtain ⟨h1, h2⟩ := h
  rcases h2 with ⟨rfl, h0⟩ | ⟨g, cap, cur, hv, hg, hh, hn, hm, hs, ht⟩
  · have : l = [] := List.length_eq_zero_iff.1 h0
    subst this
    exact Seq.nil _ _
  · refine ⟨_, cap, hv, hn, hm, by simp, by rintro x h _; cases h; rfl, fun i y hi => ⟨_, rfl, ?_⟩⟩
    have hil : i < l.length := by
      rcases Nat.lt_or_ge i l.length with h | h
      · exact h
      · rw [List.getElem?_eq_none h] at hi; cases hi
    have e1 : (cur.toList.take (l.length * 1))[i]? = (l.map enc)[i]? := by rw [ht]
    rw [List.getElem?_take, if_pos (by omega), List.getElem?_map, hi] at e1
    simp only [World.cell?, hh]
    simpa using e1

/-- The value lies in no block ahead of B, and in one that is there. -/
def New (B : Nat) (w : World) (v : Value) : Prop := ∀ g, v.ownBlock = some g → B ≤ g ∧ g < w.heap.size

/-- Two values lie in different blocks (or one in none). -/
def Sep (u v : Value) : Prop := ∀ g, u.ownBlock = some g → v.ownBlock ≠ some g

theorem New.of_own {B : Nat} {w : World} {e : TypeId} {v : Value} {n : Nat} {xs : List Value} (h : w.ownsRow B e 1 v n xs) : New B w v := h.lt
theorem New.nil (B : Nat) (w : World) : New B w (.slice none 0 0) := by intro g h; cases h
theorem New.grow {B B' : Nat} {w w' : World} {v : Value} (h : New B w v) (hB : B' ≤ B) (hw : w.heap.size ≤ w'.heap.size) : New B' w' v := fun g hg => by have := h g hg; omega
theorem Sep.symm {u v : Value} (h : Sep u v) : Sep v u := fun g h1 h2 => h g h2 h1
/-- What is older than B is apart from what is new from B on. -/
theorem Sep.of_new {B A : Nat} {w w' : World} {u v : Value} (hu : New A w u) (hw : w.heap.size ≤ B) (hv : New B w' v) : Sep u v := fun g h1 h2 => by have := hu g h1; have := hv g h2; omega

/-- A quiet callee inside a region that draws, in a world that has drawn already. -/
theorem Calls.quiet_add {P : Program} {f : FuncId} {args : Array Value} {w : World} {k n : Nat} {v : Value}
    (h : Calls P f args (w.drewN (k + n)) fun e w' => e = .returned v ∧ ∃ m, w' = (w.drewN (k + n)).drewN m) : Calls P f args (w.drewN (k + n)) fun e w'' => e = .returned v ∧ ∃ m, w'' = w.drewN (k + m) :=
  h.mono fun _ _ ⟨he, m, hm⟩ => ⟨he, n + m, by rw [hm, World.drewN_drewN, Nat.add_assoc]⟩

theorem enters {P : Program} {f : FuncId} {fn : Func} {c : Code} (hf : P.funcs[f]? = some fn) (hname : (fn.name == "runtime.NumGoroutine") = false) (hb : fn.body = some c) (args : Array Value) (w : World) :
    (callFunc f args).run P w = .ok (.enter f args) w := by
  have h1 : fn.name ≠ "runtime.NumGoroutine" := by simpa using hname
  simp [callFunc, hf, h1, hb]

theorem Below.drewN2 {B : Nat} {w w' : World} (h : Below B w w') (n : Nat) (m : Nat) : Below B w (w'.drewN (n + m)) := ⟨h.os, h.tape, h.output, h.size, h.block⟩
theorem Below.drewN1 {B : Nat} {w w' : World} (h : Below B w w') (n : Nat) : Below B w (w'.drewN n) := ⟨h.os, h.tape, h.output, h.size, h.block⟩
theorem own_drewN {B : Nat} {e : TypeId} {w : World} {v : Value} {n : Nat} {xs : List Value} (h : w.ownsRow B e 1 v n xs) (k : Nat) : (w.drewN k).ownsRow B e 1 v n xs := h

/-- A quiet callee, where the world behind it is to be a letter. -/
theorem Calls.toBelow {P : Program} {f : FuncId} {args : Array Value} {w : World} {v : Value} (h : Calls P f args w fun e w' => e = .returned v ∧ ∃ n, w' = w.drewN n) : Calls P f args w fun e w' => e = .returned v ∧ Below w.heap.size w w' :=
  h.mono fun _ _ ⟨he, m, hm⟩ => ⟨he, by rw [hm]; exact Below.drewN w m⟩

theorem hide {p : Prop} (h : p) : Hid p := h
theorem unhide {p : Prop} (h : Hid p) : p := h

theorem ret_int {k : IntKind} {a b : Int} (h : a = b) : Ending.returned (.int k a) = .returned (.int k b) := by rw [h]
theorem ret_bool {a b : Bool} (h : a = b) : Ending.returned (.bool a) = .returned (.bool b) := by rw [h]

theorem Tryd.infoInt : (Tryd.prog.info? 3).map (fun i => (i.zero, i.size, i.bytes)) = some (some (.int .i64 0), 1, 8) := by kernel_rfl
theorem Tryd.infoInts : (Tryd.prog.info? 23).map (fun i => (i.zero, i.size, i.bytes)) = some (some (.slice none 0 0), 1, 24) := by kernel_rfl

/-- The call's own slice of numbers: it lies from block B on. -/
abbrev OwnI (B : Nat) (w : World) (v : Value) (l : List Int) : Prop := w.ownsRow B 3 1 v l.length (l.map (Value.int .i64))
/-- .. of one-cell values of type []int. -/
abbrev OwnV (B : Nat) (w : World) (v : Value) (l : List Value) : Prop := w.ownsRow B 23 1 v l.length l

end Go.Proofs.YtcglbopmfdilfaaDoor
