/-
  append of one element, or of a whole slice, onto a slice that the call itself made: in our own words (OwnI, OwnV, Grew).
-/
import Derived.Test.YtcglbopmfdilfaaDoorBase
namespace Go.Proofs.YtcglbopmfdilfaaDoor
open Go.RowKit
set_option linter.unusedVariables false
set_option linter.unusedSimpArgs false

/-- From w to w' only new blocks came, and the row of v was written, which lies from B on; v' lies in v's row, or in a new block. -/
structure Grew (B : Nat) (w w' : World) (v v' : Value) : Prop where
  below : Below B w w'
  by_ : w.grownBy w' v.ownBlock
  at_ : v'.ownBlock = v.ownBlock ∨ ∃ g, v'.ownBlock = some g ∧ w.heap.size ≤ g

/-- append onto a row of the call's own, at one operation. -/
theorem op_append {P : Program} (w : World) {o : Oper} {a : Act} {K : Act → World → Prop} {Q : Exit → Act → World → Prop} (s x : Operand) (t : TypeId)
    (ho : o.op = .call { callee := .builtin .append, args := #[s, x], argTypes := #[t, t] })
    (base : Nat) (e : TypeId) (i : TypeInfo) (z : Value) (size bytes : Nat) (ht : P.underlying t = some (.slice e)) (hi : P.info? e = some i) (hz : i.zero = some z)
    (hsize : i.size = size) (hby : i.bytes = bytes) (hzs : z.cells.size = size) (hsz : 0 < size)
    (v : Value) (n : Nat) (xs : List Value) (hs : a.eval s = v) (hown : w.ownsRow base e size v n xs)
    (ad : Addr) (m c : Nat) (news : List Value) (hx : a.eval x = .slice (some ad) m c) (hl : news.length = m * size) (hnews : ∀ j u, news[j]? = some u → w.cell? (ad.add j) = some u) (h1 : ∀ u ∈ news, u.oneCell' = true)
    (h63 : n + m ≤ maxLen) (hbytes : (n + m) * bytes ≤ 140737488355328) (hbase : base ≤ w.heap.size)
    (h : ∀ v' w', w'.ownsRow base e size v' (n + m) (xs ++ news) → w.grownBy w' v.ownBlock → (v'.ownBlock = v.ownBlock ∨ v'.ownBlock = some w.heap.size) → K (a.put o.dst v') w') :
    o.wp P a w K Q := by
  obtain ⟨v', w', hr, h2, h3, h4, h5⟩ := run_append_own_at (P := P) w base t o.type e i z size bytes ht hi hz hsize hby hzs hsz v n xs hown ad m c news hl hnews h1 h63 hbytes hbase
  unfold Oper.wp execOp
  simp only [ho, resolve, invoke, builtin, Sem.run_bind, Sem.run_pure, Result.andThen_ok, List.map_toArray, List.map_cons, List.map_nil, hs, hx, hr]
  exact h v' w' h2 h3 h5

/-- One more element of one cell. -/
theorem op_app_one {t e : TypeId} {z : Value} {bytes : Nat} (ht : Tryd.prog.underlying t = some (.slice e)) (hinfo : (Tryd.prog.info? e).map (fun i => (i.zero, i.size, i.bytes)) = some (some z, 1, bytes)) (hz : z.cells.size = 1) (hby : bytes ≤ 1000)
    {w : World} {o : Oper} {a : Act} {K : Act → World → Prop} {Q : Exit → Act → World → Prop} (s x : Operand)
    (ho : o.op = .call { callee := .builtin .append, args := #[s, x], argTypes := #[t, t] }) {α : Type} {enc : α → Value} {B : Nat} {v : Value} {l : List α} {y : α} (hown : w.ownsRow B e 1 v l.length (l.map enc)) (hs : a.eval s = v) (hB : B ≤ w.heap.size)
    (hx : a.eval x = .slice (some ⟨w.heap.size, 0, none⟩) 1 1) (h1 : (enc y).oneCell' = true) (hlen : l.length < 100000000000)
    (h : ∀ v' w', w'.ownsRow B e 1 v' (l ++ [y]).length ((l ++ [y]).map enc) → Grew B w w' v v' → K (a.put o.dst v') w') :
    o.wp Tryd.prog a (w.alloc (.cells #[enc y] e)) K Q := by
  obtain ⟨i, hi, hz0, hz1, hz2⟩ := info_parts hinfo
  have hmul : (l.length + 1) * bytes ≤ (l.length + 1) * 1000 := Nat.mul_le_mul_left _ hby
  refine op_append _ s x t ho B e i z 1 bytes ht hi hz0 hz1 hz2 hz (by decide) v l.length (l.map enc) hs (hown.alloc _) ⟨w.heap.size, 0, none⟩ 1 1 [enc y] hx rfl
    ?_ ?_ ?_ ?_ ?_ ?_
  · intro j u hj
    match j, hj with
    | 0, hj => simp at hj; subst hj; simp [Addr.add]
  · intro u hu; simp at hu; subst hu; exact h1
  · unfold maxLen; omega
  · omega
  · simp; omega
  · intro v' w' hown' hgrow hat
    refine h v' w' (by simpa using hown') ⟨?_, ?_, ?_⟩
    · exact ((Below.refl B w).alloc hB _).grown hgrow (by simp; omega) (fun k hk => (hown.lt k hk).1)
    · exact ⟨hgrow.os, hgrow.tape, hgrow.output, Nat.le_trans (by simp) hgrow.size, fun k hk hne => (hgrow.block k (by simp; omega) hne).trans (Below.heap_alloc _ _ _ hk)⟩
    · rcases hat with hat | hat
      · exact .inl hat
      · exact .inr ⟨_, hat, by simp⟩

/-- .. in a region that draws its order. -/
theorem step_of {P : Program} {ops : Array Oper} {o : Oper} {a : Act} {w : World} {K : Act → World → Prop} {Q : Exit → Act → World → Prop} {E : Prop} (hgd : o.guard = none) (h : o.wp P a w K Q) :
    if Region.wanted o (yielded ops a.tmps) = true then Oper.wp P o a w K Q else E := by
  have hw : Region.wanted o (yielded ops a.tmps) = true := by simp [Region.wanted, hgd]
  rw [if_pos hw]
  exact h

theorem op_app_int {w : World} {o : Oper} {a : Act} {K : Act → World → Prop} {Q : Exit → Act → World → Prop} (s x : Operand)
    (ho : o.op = .call { callee := .builtin .append, args := #[s, x], argTypes := #[23, 23] }) {B : Nat} {v : Value} {l : List Int} {y : Int} (hown : OwnI B w v l) (hs : a.eval s = v) (hB : B ≤ w.heap.size)
    (hx : a.eval x = .slice (some ⟨w.heap.size, 0, none⟩) 1 1) (hlen : l.length < 100000000000)
    (h : ∀ v' w', OwnI B w' v' (l ++ [y]) → Grew B w w' v v' → K (a.put o.dst v') w') :
    o.wp Tryd.prog a (w.alloc (.cells #[.int .i64 y] 3)) K Q :=
  op_app_one Tryd.underlying23 Tryd.infoInt rfl (by decide) s x ho hown hs hB hx rfl hlen h

theorem op_app_row {w : World} {o : Oper} {a : Act} {K : Act → World → Prop} {Q : Exit → Act → World → Prop} (s x : Operand)
    (ho : o.op = .call { callee := .builtin .append, args := #[s, x], argTypes := #[22, 22] }) {B : Nat} {v : Value} {l : List Value} {y : Value} (hown : OwnV B w v l) (hs : a.eval s = v) (hB : B ≤ w.heap.size)
    (hx : a.eval x = .slice (some ⟨w.heap.size, 0, none⟩) 1 1) (h1 : y.oneCell' = true) (hlen : l.length < 100000000000)
    (h : ∀ v' w', OwnV B w' v' (l ++ [y]) → Grew B w w' v v' → K (a.put o.dst v') w') :
    o.wp Tryd.prog a (w.alloc (.cells #[y] 23)) K Q :=
  op_app_one (enc := id) Tryd.underlying22 Tryd.infoInts rfl (by decide) s x ho (by simpa using hown) hs hB hx h1 hlen (fun v' w' h1 h2 => h v' w' (by simpa [OwnV] using h1) h2)

theorem wp_app_int {w : World} {ops : Array Oper} {rest : List Oper} {o : Oper} {a : Act} {Q : Exit → Act → World → Prop} (hgd : o.guard = none) (s x : Operand)
    (ho : o.op = .call { callee := .builtin .append, args := #[s, x], argTypes := #[23, 23] }) {B : Nat} {v : Value} {l : List Int} {y : Int} (hown : OwnI B w v l) (hs : a.eval s = v) (hB : B ≤ w.heap.size)
    (hx : a.eval x = .slice (some ⟨w.heap.size, 0, none⟩) 1 1) (hlen : l.length < 100000000000)
    (h : ∀ v' w', OwnI B w' v' (l ++ [y]) → Grew B w w' v v' → wpList Tryd.prog ops Q rest (a.put o.dst v') w') :
    wpList Tryd.prog ops Q (o :: rest) a (w.alloc (.cells #[.int .i64 y] 3)) :=
  wpList_plain hgd fun _ hK => op_app_int s x ho hown hs hB hx hlen fun v' w' h1 h2 => hK _ _ (h v' w' h1 h2)

theorem wp_app_row {w : World} {ops : Array Oper} {rest : List Oper} {o : Oper} {a : Act} {Q : Exit → Act → World → Prop} (hgd : o.guard = none) (s x : Operand)
    (ho : o.op = .call { callee := .builtin .append, args := #[s, x], argTypes := #[22, 22] }) {B : Nat} {v : Value} {l : List Value} {y : Value} (hown : OwnV B w v l) (hs : a.eval s = v) (hB : B ≤ w.heap.size)
    (hx : a.eval x = .slice (some ⟨w.heap.size, 0, none⟩) 1 1) (h1 : y.oneCell' = true) (hlen : l.length < 100000000000)
    (h : ∀ v' w', OwnV B w' v' (l ++ [y]) → Grew B w w' v v' → wpList Tryd.prog ops Q rest (a.put o.dst v') w') :
    wpList Tryd.prog ops Q (o :: rest) a (w.alloc (.cells #[y] 23)) :=
  wpList_plain hgd fun _ hK => op_app_row s x ho hown hs hB hx h1 hlen fun v' w' h1 h2 => hK _ _ (h v' w' h1 h2)

/-- A row of the call's own that is another's stays. -/
theorem own_grew {B : Nat} {e : TypeId} {w w' : World} {v v' u : Value} {n : Nat} {xs : List Value} (h : w.ownsRow B e 1 u n xs) (g : Grew B w w' v v') (hne : u.ownBlock = none ∨ u.ownBlock ≠ v.ownBlock) : w'.ownsRow B e 1 u n xs := h.kept g.by_ hne

/-- The list l that u reads as lies in another block than v (or is empty). -/
def Apart {α : Type} (u : Value) (l : List α) (v : Value) : Prop := l ≠ [] → Sep u v

theorem Seq.inheap {α : Type} {enc : α → Value} {w : World} {u : Value} {l : List α} (h : Seq enc w u l) (hl : l ≠ []) : New 0 w u := by
  obtain ⟨a, cap, rfl, h2, h3, h4, h5, h6⟩ := h
  obtain ⟨x, rfl, hc⟩ := h6 0 (l.head hl) (by cases l with
    | nil => exact absurd rfl hl
    | cons y r => rfl)
  have := cell_lt hc
  intro g hg
  cases hg
  exact ⟨Nat.zero_le _, this⟩

theorem Seq.grew {α : Type} {enc : α → Value} {B : Nat} {w w' : World} {v v' u : Value} {l : List α} (h : Seq enc w u l) (g : Grew B w w' v v') (hs : Apart u l v) : Seq enc w' u l := by
  obtain ⟨a, cap, rfl, h2, h3, h4, h5, h6⟩ := h
  refine ⟨a, cap, rfl, h2, h3, h4, h5, fun i y hi => ?_⟩
  obtain ⟨x, rfl, hc⟩ := h6 i y hi
  exact ⟨x, rfl, g.by_.cell hc (fun e => hs (by rintro rfl; simp at hi) x.block rfl e.symm)⟩

theorem Apart.grew {α : Type} {enc : α → Value} {B : Nat} {w w' : World} {v v' u : Value} {l : List α} (hs : Apart u l v) (h : Seq enc w u l) (g : Grew B w w' v v') : Apart u l v' := fun hl k h1 h2 => by
  rcases g.at_ with h' | ⟨m, hm, hle⟩
  · exact hs hl k h1 (h' ▸ h2)
  · have := h.inheap hl k h1; rw [hm] at h2; cases h2; omega

/-- What was there is apart from what is made later. -/
theorem Seq.apart {α : Type} {enc : α → Value} {B : Nat} {w w' : World} {v u : Value} {l : List α} (h : Seq enc w u l) (hv : New B w' v) (hB : w.heap.size ≤ B) : Apart u l v := fun hl => Sep.of_new (h.inheap hl) hB hv

theorem New.grew {B A : Nat} {w w' : World} {v v' u : Value} (hu : New A w u) (g : Grew B w w' v v') : New A w' u := hu.grow (Nat.le_refl _) g.by_.size

/-- A row of the call's own while a callee makes memory. -/
theorem own_below {B : Nat} {e : TypeId} {w w' : World} {v : Value} {n : Nat} {xs : List Value} (h : w.ownsRow B e 1 v n xs) (hb : Below w.heap.size w w') : w'.ownsRow B e 1 v n xs :=
  h.kept (row := none) ⟨hb.os, hb.tape, hb.output, hb.size, fun k hk _ => hb.block k hk⟩ (by cases v.ownBlock <;> simp)

/-- What was there ahead of B stays. -/
theorem Seq.belowB {α : Type} {enc : α → Value} {w w' : World} {v : Value} {l : List α} (h : Seq enc w v l) (hb : Below w.heap.size w w') : Seq enc w' v l := h.below hb

theorem own_nilI (B : Nat) (w : World) : OwnI B w (.slice none 0 0) [] := World.ownsRow_nil _ _ _ _
theorem own_nilV (B : Nat) (w : World) : OwnV B w (.slice none 0 0) [] := World.ownsRow_nil _ _ _ _
/-- The empty slice that a literal makes. -/
theorem own_litI {B : Nat} {w : World} (hB : B ≤ w.heap.size) : OwnI B (w.alloc (.cells #[] 3)) (.slice (some ⟨w.heap.size, 0, none⟩) 0 0) [] := World.ownsRow_made w #[] 0 hB (by simp [maxLen]) (by simp)
theorem own_litV {B : Nat} {w : World} (hB : B ≤ w.heap.size) : OwnV B (w.alloc (.cells #[] 23)) (.slice (some ⟨w.heap.size, 0, none⟩) 0 0) [] := World.ownsRow_made w #[] 0 hB (by simp [maxLen]) (by simp)

theorem Sep.grewN {B A : Nat} {w w' : World} {v v' u : Value} (hs : Sep u v) (hu : New A w u) (g : Grew B w w' v v') : Sep u v' := fun k h1 h2 => by
  rcases g.at_ with h | ⟨m, hm, hl⟩
  · exact hs k h1 (h ▸ h2)
  · have := hu k h1; rw [hm] at h2; cases h2; omega
theorem Sep.or {u v : Value} (h : Sep u v) : u.ownBlock = none ∨ u.ownBlock ≠ v.ownBlock := by
  cases e : u.ownBlock with
  | none => exact .inl rfl
  | some g => exact .inr fun e2 => h g e e2.symm
theorem Sep.nil (v : Value) : Sep (.slice none 0 0) v := by intro g h; cases h

end Go.Proofs.YtcglbopmfdilfaaDoor
