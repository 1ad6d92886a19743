/-
  Words of our own on memory, and what carries them from world to world: no function of the program is spoken of here.
-/
import Derived.Test.YtehoepliiobliaaRows
import Derived.WalkKit
import Derived.WalkSpells
import Derived.WalkLawsBesides
import Derived.Deep.QuietTactic
import Derived.BigQuiet
import Derived.Maps.AppendAt
namespace Go.Proofs.Ytehoepliiobliaa
open Go.RowKit
set_option linter.unusedVariables false
set_option linter.unusedSimpArgs false

/-- The slice value v reads in w as the list l, each element one cell by 'enc'. -/
def Seq {α : Type} (enc : α → Value) (w : World) (v : Value) (l : List α) : Prop :=
  ∃ a cap, v = .slice a l.length cap ∧ l.length ≤ cap ∧ cap ≤ maxLen ∧ (a = none → cap = 0) ∧
    (∀ x, a = some x → l ≠ [] → x.spot = none) ∧ ∀ i y, l[i]? = some y → ∃ x, a = some x ∧ w.cell? ⟨x.block, x.off + i, none⟩ = some (enc y)

theorem cell_lt {w : World} {a : Addr} {v : Value} (h : w.cell? a = some v) : a.block < w.heap.size := by
  unfold World.cell? at h
  split at h
  · rename_i hh
    rcases Nat.lt_or_ge a.block w.heap.size with hl | hl
    · exact hl
    · rw [Array.getElem?_eq_none hl] at hh; exact absurd hh (by simp)
  · exact absurd h (by simp)

theorem Below.cell_of {w w' : World} (hb : Below w.heap.size w w') {a : Addr} {v : Value} (h : w.cell? a = some v) : w'.cell? a = some v := by
  rw [hb.cell (cell_lt h)]; exact h

theorem Seq.below {α : Type} {enc : α → Value} {w w' : World} {v : Value} {l : List α} (h : Seq enc w v l) (hb : Below w.heap.size w w') : Seq enc w' v l := by
  obtain ⟨a, cap, h1, h2, h3, h4, h5, h6⟩ := h
  refine ⟨a, cap, h1, h2, h3, h4, h5, fun i y hi => ?_⟩
  obtain ⟨x, hx, hc⟩ := h6 i y hi
  exact ⟨x, hx, Below.cell_of hb hc⟩

theorem Below.drewN (w : World) (n : Nat) : Below w.heap.size w (w.drewN n) := ⟨rfl, rfl, rfl, Nat.le_refl _, fun _ _ => rfl⟩

theorem Below.then {w w1 w2 : World} (h : Below w.heap.size w w1) (k : Below w1.heap.size w1 w2) : Below w.heap.size w w2 := h.trans (k.mono h.size)

theorem below_then {w w1 w2 : World} (h : Below w.heap.size w w1) (k : Below w1.heap.size w1 w2) : Below w.heap.size w w2 := h.trans (k.mono h.size)

theorem Seq.drewN {α : Type} {enc : α → Value} {w : World} {v : Value} {l : List α} (h : Seq enc w v l) (n : Nat) : Seq enc (w.drewN n) v l := h.below (Below.drewN w n)
theorem Seq.at {α : Type} {enc : α → Value} {w : World} {a : Option Addr} {n cap : Nat} {l : List α} (h : Seq enc w (.slice a n cap) l) {k : Nat} (hk : k < l.length) :
    ∃ b off, a = some ⟨b, off, none⟩ ∧ w.cell? ⟨b, off + k, none⟩ = some (enc l[k]) := by
  obtain ⟨a', cap', h1, h2, h3, h4, h5, h6⟩ := h
  obtain ⟨x, hx, hc⟩ := h6 k l[k] (by simp [hk])
  cases h1
  subst hx
  have := h5 _ rfl (by rintro rfl; simp at hk)
  obtain ⟨b, off, s⟩ := x
  simp at this
  subst this
  exact ⟨b, off, rfl, hc⟩

theorem Seq.form {α : Type} {enc : α → Value} {w : World} {v : Value} {l : List α} (h : Seq enc w v l) : ∃ a cap, v = .slice a l.length cap ∧ l.length ≤ cap ∧ cap ≤ maxLen := by
  obtain ⟨a', cap', h1, h2, h3, _⟩ := h
  exact ⟨_, _, h1, h2, h3⟩

/-- .. and with no element the empty list is read of it. -/
theorem Seq.nil {α : Type} (enc : α → Value) (w : World) : Seq enc w (.slice none 0 0) [] := ⟨none, 0, rfl, by simp, by simp [maxLen], fun _ => rfl, by simp, by simp⟩

theorem Seq.of_own {α : Type} {enc : α → Value} {w : World} {B : Nat} {e : TypeId} {v : Value} {l : List α} (h : w.ownsRow B e 1 v l.length (l.map enc)) : Seq enc w v l := by
  obtain ⟨h1, h2⟩ := h
  rcases h2 with ⟨rfl, h0⟩ | ⟨g, cap, cur, hv, hg, hh, hn, hm, hs, ht⟩
  · have : l = [] := List.length_eq_zero_iff.1 h0
    subst this
    exact Seq.nil _ _
  · refine ⟨_, cap, hv, hn, hm, by simp, by rintro x h _; cases h; rfl, fun i y hi => ⟨_, rfl, ?_⟩⟩
    have hil : i < l.length := by
      rcases Nat.lt_or_ge i l.length with h | h
      · exact h
      · rw [List.getElem?_eq_none h] at hi; cases hi
    have e1 : (cur.toList.take (l.length * 1))[i]? = (l.map enc)[i]? := by rw [ht]
    rw [List.getElem?_take, if_pos (by omega), List.getElem?_map, hi] at e1
    simp only [World.cell?, hh]
    simpa using e1

/-- The value lies in no block ahead of B, and in one that is there. -/
def New (B : Nat) (w : World) (v : Value) : Prop := ∀ g, v.ownBlock = some g → B ≤ g ∧ g < w.heap.size

/-- Two values lie in different blocks (or one in none). -/
def Sep (u v : Value) : Prop := ∀ g, u.ownBlock = some g → v.ownBlock ≠ some g

theorem New.of_own {B : Nat} {w : World} {e : TypeId} {v : Value} {n : Nat} {xs : List Value} (h : w.ownsRow B e 1 v n xs) : New B w v := h.lt
theorem New.nil (B : Nat) (w : World) : New B w (.slice none 0 0) := by intro g h; cases h
theorem New.grow {B B' : Nat} {w w' : World} {v : Value} (h : New B w v) (hB : B' ≤ B) (hw : w.heap.size ≤ w'.heap.size) : New B' w' v := fun g hg => by have := h g hg; omega
theorem Sep.symm {u v : Value} (h : Sep u v) : Sep v u := fun g h1 h2 => h g h2 h1
/-- What is older than B is apart from what is new from B on. -/
theorem Sep.of_new {B A : Nat} {w w' : World} {u v : Value} (hu : New A w u) (hw : w.heap.size ≤ B) (hv : New B w' v) : Sep u v := fun g h1 h2 => by have := hu g h1; have := hv g h2; omega

/-- A quiet callee inside a region that draws, in a world that has drawn already. -/
theorem Calls.quiet_add {P : Program} {f : FuncId} {args : Array Value} {w : World} {k n : Nat} {v : Value}
    (h : Calls P f args (w.drewN (k + n)) fun e w' => e = .returned v ∧ ∃ m, w' = (w.drewN (k + n)).drewN m) : Calls P f args (w.drewN (k + n)) fun e w'' => e = .returned v ∧ ∃ m, w'' = w.drewN (k + m) :=
  h.mono fun _ _ ⟨he, m, hm⟩ => ⟨he, n + m, by rw [hm, World.drewN_drewN, Nat.add_assoc]⟩

theorem enters {P : Program} {f : FuncId} {fn : Func} {c : Code} (hf : P.funcs[f]? = some fn) (hname : (fn.name == "runtime.NumGoroutine") = false) (hb : fn.body = some c) (args : Array Value) (w : World) :
    (callFunc f args).run P w = .ok (.enter f args) w := by
  have h1 : fn.name ≠ "runtime.NumGoroutine" := by simpa using hname
  simp [callFunc, hf, h1, hb]

theorem Below.drewN2 {B : Nat} {w w' : World} (h : Below B w w') (n : Nat) (m : Nat) : Below B w (w'.drewN (n + m)) := ⟨h.os, h.tape, h.output, h.size, h.block⟩
theorem Below.drewN1 {B : Nat} {w w' : World} (h : Below B w w') (n : Nat) : Below B w (w'.drewN n) := ⟨h.os, h.tape, h.output, h.size, h.block⟩
theorem own_drewN {B : Nat} {e : TypeId} {w : World} {v : Value} {n : Nat} {xs : List Value} (h : w.ownsRow B e 1 v n xs) (k : Nat) : (w.drewN k).ownsRow B e 1 v n xs := h

/-- A quiet callee, where the world behind it is to be a letter. -/
theorem Calls.toBelow {P : Program} {f : FuncId} {args : Array Value} {w : World} {v : Value} (h : Calls P f args w fun e w' => e = .returned v ∧ ∃ n, w' = w.drewN n) : Calls P f args w fun e w' => e = .returned v ∧ Below w.heap.size w w' :=
  h.mono fun _ _ ⟨he, m, hm⟩ => ⟨he, by rw [hm]; exact Below.drewN w m⟩

theorem hide {p : Prop} (h : p) : Hid p := h
theorem unhide {p : Prop} (h : Hid p) : p := h

theorem ret_int {k : IntKind} {a b : Int} (h : a = b) : Ending.returned (.int k a) = .returned (.int k b) := by rw [h]
theorem ret_bool {a b : Bool} (h : a = b) : Ending.returned (.bool a) = .returned (.bool b) := by rw [h]

/-- From w to w' only new blocks came, and the row of v was written, which lies from B on; v' lies in v's row, or in a new block. -/
structure Grew (B : Nat) (w w' : World) (v v' : Value) : Prop where
  below : Below B w w'
  by_ : w.grownBy w' v.ownBlock
  at_ : v'.ownBlock = v.ownBlock ∨ ∃ g, v'.ownBlock = some g ∧ w.heap.size ≤ g

/-- append onto a row of the call's own, at one operation. -/
theorem op_append {P : Program} (w : World) {o : Oper} {a : Act} {K : Act → World → Prop} {Q : Exit → Act → World → Prop} (s x : Operand) (t : TypeId)
    (ho : o.op = .call { callee := .builtin .append, args := #[s, x], argTypes := #[t, t] })
    (base : Nat) (e : TypeId) (i : TypeInfo) (z : Value) (size bytes : Nat) (ht : P.underlying t = some (.slice e)) (hi : P.info? e = some i) (hz : i.zero = some z)
    (hsize : i.size = size) (hby : i.bytes = bytes) (hzs : z.cells.size = size) (hsz : 0 < size)
    (v : Value) (n : Nat) (xs : List Value) (hs : a.eval s = v) (hown : w.ownsRow base e size v n xs)
    (ad : Addr) (m c : Nat) (news : List Value) (hx : a.eval x = .slice (some ad) m c) (hl : news.length = m * size) (hnews : ∀ j u, news[j]? = some u → w.cell? (ad.add j) = some u) (h1 : ∀ u ∈ news, u.oneCell' = true)
    (h63 : n + m ≤ maxLen) (hbytes : (n + m) * bytes ≤ 140737488355328) (hbase : base ≤ w.heap.size)
    (h : ∀ v' w', w'.ownsRow base e size v' (n + m) (xs ++ news) → w.grownBy w' v.ownBlock → (v'.ownBlock = v.ownBlock ∨ v'.ownBlock = some w.heap.size) → K (a.put o.dst v') w') :
    o.wp P a w K Q := by
  obtain ⟨v', w', hr, h2, h3, h4, h5⟩ := run_append_own_at (P := P) w base t o.type e i z size bytes ht hi hz hsize hby hzs hsz v n xs hown ad m c news hl hnews h1 h63 hbytes hbase
  unfold Oper.wp execOp
  simp only [ho, resolve, invoke, builtin, Sem.run_bind, Sem.run_pure, Result.andThen_ok, List.map_toArray, List.map_cons, List.map_nil, hs, hx, hr]
  exact h v' w' h2 h3 h5

/-- One more element of one cell. -/
theorem op_app_one {t e : TypeId} {z : Value} {bytes : Nat} (ht : Try.prog.underlying t = some (.slice e)) (hinfo : (Try.prog.info? e).map (fun i => (i.zero, i.size, i.bytes)) = some (some z, 1, bytes)) (hz : z.cells.size = 1) (hby : bytes ≤ 1000)
    {w : World} {o : Oper} {a : Act} {K : Act → World → Prop} {Q : Exit → Act → World → Prop} (s x : Operand)
    (ho : o.op = .call { callee := .builtin .append, args := #[s, x], argTypes := #[t, t] }) {α : Type} {enc : α → Value} {B : Nat} {v : Value} {l : List α} {y : α} (hown : w.ownsRow B e 1 v l.length (l.map enc)) (hs : a.eval s = v) (hB : B ≤ w.heap.size)
    (hx : a.eval x = .slice (some ⟨w.heap.size, 0, none⟩) 1 1) (h1 : (enc y).oneCell' = true) (hlen : l.length < 100000000000)
    (h : ∀ v' w', w'.ownsRow B e 1 v' (l ++ [y]).length ((l ++ [y]).map enc) → Grew B w w' v v' → K (a.put o.dst v') w') :
    o.wp Try.prog a (w.alloc (.cells #[enc y] e)) K Q := by
  obtain ⟨i, hi, hz0, hz1, hz2⟩ := info_parts hinfo
  have hmul : (l.length + 1) * bytes ≤ (l.length + 1) * 1000 := Nat.mul_le_mul_left _ hby
  refine op_append _ s x t ho B e i z 1 bytes ht hi hz0 hz1 hz2 hz (by decide) v l.length (l.map enc) hs (hown.alloc _) ⟨w.heap.size, 0, none⟩ 1 1 [enc y] hx rfl
    ?_ ?_ ?_ ?_ ?_ ?_
  · intro j u hj
    match j, hj with
    | 0, hj => simp at hj; subst hj; simp [Addr.add]
  · intro u hu; simp at hu; subst hu; exact h1
  · unfold maxLen; omega
  · omega
  · simp; omega
  · intro v' w' hown' hgrow hat
    refine h v' w' (by simpa using hown') ⟨?_, ?_, ?_⟩
    · exact ((Below.refl B w).alloc hB _).grown hgrow (by simp; omega) (fun k hk => (hown.lt k hk).1)
    · exact ⟨hgrow.os, hgrow.tape, hgrow.output, Nat.le_trans (by simp) hgrow.size, fun k hk hne => (hgrow.block k (by simp; omega) hne).trans (Below.heap_alloc _ _ _ hk)⟩
    · rcases hat with hat | hat
      · exact .inl hat
      · exact .inr ⟨_, hat, by simp⟩

/-- .. in a region that draws its order. -/
theorem step_of {P : Program} {ops : Array Oper} {o : Oper} {a : Act} {w : World} {K : Act → World → Prop} {Q : Exit → Act → World → Prop} {E : Prop} (hgd : o.guard = none) (h : o.wp P a w K Q) :
    if Region.wanted o (yielded ops a.tmps) = true then Oper.wp P o a w K Q else E := by
  have hw : Region.wanted o (yielded ops a.tmps) = true := by simp [Region.wanted, hgd]
  rw [if_pos hw]
  exact h

/-- A row of the call's own that is another's stays. -/
theorem own_grew {B : Nat} {e : TypeId} {w w' : World} {v v' u : Value} {n : Nat} {xs : List Value} (h : w.ownsRow B e 1 u n xs) (g : Grew B w w' v v') (hne : u.ownBlock = none ∨ u.ownBlock ≠ v.ownBlock) : w'.ownsRow B e 1 u n xs := h.kept g.by_ hne

/-- The list l that u reads as lies in another block than v (or is empty). -/
def Apart {α : Type} (u : Value) (l : List α) (v : Value) : Prop := l ≠ [] → Sep u v

theorem Seq.inheap {α : Type} {enc : α → Value} {w : World} {u : Value} {l : List α} (h : Seq enc w u l) (hl : l ≠ []) : New 0 w u := by
  obtain ⟨a, cap, rfl, h2, h3, h4, h5, h6⟩ := h
  obtain ⟨x, rfl, hc⟩ := h6 0 (l.head hl) (by cases l with
    | nil => exact absurd rfl hl
    | cons y r => rfl)
  have := cell_lt hc
  intro g hg
  cases hg
  exact ⟨Nat.zero_le _, this⟩

theorem Seq.grew {α : Type} {enc : α → Value} {B : Nat} {w w' : World} {v v' u : Value} {l : List α} (h : Seq enc w u l) (g : Grew B w w' v v') (hs : Apart u l v) : Seq enc w' u l := by
  obtain ⟨a, cap, rfl, h2, h3, h4, h5, h6⟩ := h
  refine ⟨a, cap, rfl, h2, h3, h4, h5, fun i y hi => ?_⟩
  obtain ⟨x, rfl, hc⟩ := h6 i y hi
  exact ⟨x, rfl, g.by_.cell hc (fun e => hs (by rintro rfl; simp at hi) x.block rfl e.symm)⟩

theorem Apart.grew {α : Type} {enc : α → Value} {B : Nat} {w w' : World} {v v' u : Value} {l : List α} (hs : Apart u l v) (h : Seq enc w u l) (g : Grew B w w' v v') : Apart u l v' := fun hl k h1 h2 => by
  rcases g.at_ with h' | ⟨m, hm, hle⟩
  · exact hs hl k h1 (h' ▸ h2)
  · have := h.inheap hl k h1; rw [hm] at h2; cases h2; omega

/-- What was there is apart from what is made later. -/
theorem Seq.apart {α : Type} {enc : α → Value} {B : Nat} {w w' : World} {v u : Value} {l : List α} (h : Seq enc w u l) (hv : New B w' v) (hB : w.heap.size ≤ B) : Apart u l v := fun hl => Sep.of_new (h.inheap hl) hB hv

theorem New.grew {B A : Nat} {w w' : World} {v v' u : Value} (hu : New A w u) (g : Grew B w w' v v') : New A w' u := hu.grow (Nat.le_refl _) g.by_.size

/-- A row of the call's own while a callee makes memory. -/
theorem own_below {B : Nat} {e : TypeId} {w w' : World} {v : Value} {n : Nat} {xs : List Value} (h : w.ownsRow B e 1 v n xs) (hb : Below w.heap.size w w') : w'.ownsRow B e 1 v n xs :=
  h.kept (row := none) ⟨hb.os, hb.tape, hb.output, hb.size, fun k hk _ => hb.block k hk⟩ (by cases v.ownBlock <;> simp)

/-- What was there ahead of B stays. -/
theorem Seq.belowB {α : Type} {enc : α → Value} {w w' : World} {v : Value} {l : List α} (h : Seq enc w v l) (hb : Below w.heap.size w w') : Seq enc w' v l := h.below hb

theorem Sep.grewN {B A : Nat} {w w' : World} {v v' u : Value} (hs : Sep u v) (hu : New A w u) (g : Grew B w w' v v') : Sep u v' := fun k h1 h2 => by
  rcases g.at_ with h | ⟨m, hm, hl⟩
  · exact hs k h1 (h ▸ h2)
  · have := hu k h1; rw [hm] at h2; cases h2; omega
theorem Sep.or {u v : Value} (h : Sep u v) : u.ownBlock = none ∨ u.ownBlock ≠ v.ownBlock := by
  cases e : u.ownBlock with
  | none => exact .inl rfl
  | some g => exact .inr fun e2 => h g e e2.symm
theorem Sep.nil (v : Value) : Sep (.slice none 0 0) v := by intro g h; cases h

theorem addr_add {x : Addr} (h : x.spot = none) (j : Nat) : x.add j = ⟨x.block, x.off + j, none⟩ := by
  obtain ⟨b, o, s⟩ := x
  simp at h
  subst h
  cases j <;> simp [Addr.add]

end Go.Proofs.Ytehoepliiobliaa
