/-
  Proved: GraphPrimal answers true for every instance, and leaves it as it was.
-/
import Derived.Test.YtflibcfecnhjgaaDoorLists
import Derived.Test.YtflibcfecnhjgaaDoorRows
import Derived.ScopeJumps
import Derived.WalkMore
import Derived.WalkKit
import Derived.Test.YtflibcfecnhjgaaDoorApp3
import Derived.Test.YtflibcfecnhjgaaDoorOffs
import Derived.Deep.RegionHeld3
import Derived.Deep.CutRange
import Derived.Test.YtflibcfecnhjgaaDoorUntil
import Derived.Test.YtflibcfecnhjgaaDoorLibInts
import Derived.Test.YtflibcfecnhjgaaDoorBHolds
import Derived.Test.YtflibcfecnhjgaaDoorRelRight
import Derived.Test.YtflibcfecnhjgaaDoorRefRight6
import Derived.Test.YtflibcfecnhjgaaDoorGPrimM
import Derived.Test.YtflibcfecnhjgaaDoorGJoin2
import Derived.Test.YtflibcfecnhjgaaDoorFrame8
import Derived.Test.YtflibcfecnhjgaaDoorLiftI
import Derived.Test.YtflibcfecnhjgaaDoorGRefG
import Derived.Test.YtflibcfecnhjgaaDoorGClq
import Derived.Test.YtflibcfecnhjgaaDoorGRight
namespace Go.Proofs.YtflibcfecnhjgaaDoor
set_option linter.unusedVariables false
set_option linter.unusedSimpArgs false

/-- All rows that have one value of each of these lists, the less ones first. -/
def fullL : List (List Int) → List (List Int)
  | [] => [[]]
  | d :: ds => d.flatMap fun x => (fullL ds).map (x :: ·)

/-- One list more, as the document has it. -/
def moreR (out : List (List Int)) (d : List Int) : List (List Int) := out.flatMap fun r => d.map fun x => r ++ [x]

theorem fold_more : ∀ (ls : List (List Int)) (out : List (List Int)), ls.foldl moreR out = out.flatMap fun r => (fullL ls).map (r ++ ·)
  | [], out => by
    simp only [List.foldl_nil, fullL, List.map_cons, List.map_nil, List.append_nil]
    induction out with
    | nil => rfl
    | cons x l ih => simp [List.flatMap_cons, ← ih]
  | d :: ls, out => by
    rw [List.foldl_cons, fold_more ls, moreR, List.flatMap_assoc]
    congr 1
    funext r
    simp only [fullL, List.flatMap_map, List.map_flatMap, List.map_map]
    congr 1
    funext x
    congr 1
    funext y
    simp

theorem fold_full (ls : List (List Int)) : ls.foldl moreR [[]] = fullL ls := by
  rw [fold_more]; simp

theorem full_len : ∀ (ls : List (List Int)), ∀ t ∈ fullL ls, t.length = ls.length
  | [], t, h => by simp [fullL] at h; simp [h]
  | d :: ls, t, h => by
    simp only [fullL, List.mem_flatMap, List.mem_map] at h
    obtain ⟨x, hx, r, hr, rfl⟩ := h
    simp [full_len ls r hr]

theorem mem_full : ∀ (ls : List (List Int)) (t : List Int), t ∈ fullL ls ↔ t.length = ls.length ∧ ∀ i (h : i < t.length) (h' : i < ls.length), t[i] ∈ ls[i]
  | [], t => by
    simp only [fullL, List.mem_singleton, List.length_nil]
    constructor
    · rintro rfl; simp
    · rintro ⟨h, _⟩; exact List.length_eq_zero_iff.1 h
  | d :: ls, t => by
    simp only [fullL, List.mem_flatMap, List.mem_map]
    constructor
    · rintro ⟨x, hx, r, hr, rfl⟩
      obtain ⟨h1, h2⟩ := (mem_full ls r).1 hr
      refine ⟨by simp [h1], fun i hi hi' => ?_⟩
      cases i with
      | zero => exact hx
      | succ i => simp only [List.getElem_cons_succ]; exact h2 i _ _
    · rintro ⟨h1, h2⟩
      cases t with
      | nil => simp at h1
      | cons x r =>
        refine ⟨x, h2 0 (by simp) (by simp), r, (mem_full ls r).2 ⟨by simpa using h1, fun i hi hi' => ?_⟩, rfl⟩
        have := h2 (i + 1) (by simp; omega) (by simp; omega)
        simpa using this

/-- How many there are, is told by the product. -/
def prodN : List (List Int) → Nat
  | [] => 1
  | d :: ds => d.length * prodN ds

theorem full_count : ∀ ls : List (List Int), (fullL ls).length = prodN ls
  | [] => rfl
  | d :: ls => by
    simp only [fullL, prodN, List.length_flatMap, List.length_map, full_count ls]
    induction d with
    | nil => simp
    | cons x l ih => simp [ih, Nat.add_mul]; omega

abbrev AscR (ll : List (List Int)) : Prop := ll.Pairwise fun x y => cmpL x y < 0

theorem full_asc : ∀ (ls : List (List Int)), (∀ d ∈ ls, d.Pairwise (· < ·)) → AscR (fullL ls)
  | [], _ => by simp [fullL, AscR]
  | d :: ls, h => by
    have ih := full_asc ls fun x hx => h x (by simp [hx])
    have hd := h d (by simp)
    simp only [fullL]
    clear h
    induction d with
    | nil => simp [AscR]
    | cons x l il =>
      rw [List.pairwise_cons] at hd
      rw [List.flatMap_cons, AscR, List.pairwise_append]
      refine ⟨?_, il hd.2, ?_⟩
      · rw [List.pairwise_map]
        exact ih.imp fun h => by simpa [cmpL] using h
      · intro a ha b hb
        simp only [List.mem_map, List.mem_flatMap] at ha hb
        obtain ⟨r, _, rfl⟩ := ha
        obtain ⟨y, hy, s, _, rfl⟩ := hb
        have := hd.1 y hy
        unfold cmpL
        rw [if_neg (by omega)]
        simp [cmpI, this]

/-- What is left of going through, where 'up' comes to level i: p is the row as it stands, nx the places that come next. -/
def upR (ls : List (List Int)) (p : List Int) (nx : List Nat) : Nat → List (List Int)
  | 0 => []
  | i + 1 => (((ls.getD i []).drop (nx.getD i 0)).flatMap fun x => (fullL (ls.drop (i + 1))).map (p.take i ++ x :: ·)) ++ upR ls p nx i

/-- .. where 'down' comes to it. -/
def downR (ls : List (List Int)) (p : List Int) (nx : List Nat) (i : Nat) : List (List Int) := (fullL (ls.drop i)).map (p.take i ++ ·) ++ upR ls p nx i

/-- upR speaks of what lies below its level alone. -/
theorem upR_congr {ls : List (List Int)} {p q : List Int} {nx ny : List Nat} : ∀ i, (∀ k, k < i → p.getD k 0 = q.getD k 0) → (∀ k, k < i → nx.getD k 0 = ny.getD k 0) → i ≤ p.length → i ≤ q.length → upR ls p nx i = upR ls q ny i
  | 0, _, _, _, _ => rfl
  | i + 1, h1, h2, h3, h4 => by
    have hp : p.take i = q.take i := by
      apply List.ext_getElem
      · simp; omega
      · intro k hk hk'
        simp only [List.length_take] at hk hk'
        have := h1 k (by omega)
        rw [List.getElem_take, List.getElem_take]
        simpa [List.getD_eq_getElem?_getD, show k < p.length by omega, show k < q.length by omega] using this
    simp only [upR, hp, h2 i (by omega), upR_congr i (fun k hk => h1 k (by omega)) (fun k hk => h2 k (by omega)) (by omega) (by omega)]

/-- Down, at the last level: the row as it stands, then up. -/
theorem down_end {ls : List (List Int)} {p : List Int} {nx : List Nat} (h : p.length = ls.length) : downR ls p nx ls.length = p :: upR ls p nx ls.length := by
  have : ls.drop ls.length = [] := by simp
  rw [downR, this, ← h]
  simp [fullL]

/-- Down, at another level: the next place is 0, and along. -/
theorem down_next {ls : List (List Int)} {p : List Int} {nx : List Nat} {i : Nat} (h : i < ls.length) (hn : i < nx.length) (hp : i < p.length) : downR ls p nx i = upR ls p (nx.set i 0) (i + 1) := by
  unfold downR
  rw [upR, List.drop_eq_getElem_cons h, fullL, upR_congr i (q := p) (ny := nx.set i 0) (fun _ _ => rfl) (fun k hk => by simp [List.getD_eq_getElem?_getD, List.getElem?_set, show ¬ i = k by omega]) (by omega) (by omega)]
  congr 1
  rw [List.map_flatMap]
  simp [List.getD_eq_getElem?_getD, h, hn, List.map_map, Function.comp_def]

/-- Along, where no value is left: up. -/
theorem along_end {ls : List (List Int)} {p : List Int} {nx : List Nat} {i : Nat} (h : (ls.getD i []).length ≤ nx.getD i 0) : upR ls p nx (i + 1) = upR ls p nx i := by
  rw [upR, List.drop_eq_nil_of_le h]; rfl

/-- Along, with one value more: down. -/
theorem along_next {ls : List (List Int)} {p : List Int} {nx : List Nat} {i k : Nat} (hi : i < p.length) (hn : i < nx.length) (hk : nx.getD i 0 = k) (h : k < (ls.getD i []).length) :
    upR ls p nx (i + 1) = downR ls (p.set i ((ls.getD i [])[k])) (nx.set i (k + 1)) (i + 1) := by
  unfold downR
  rw [upR, upR]
  have e1 : (nx.set i (k + 1)).getD i 0 = k + 1 := by simp [List.getD_eq_getElem?_getD, hn]
  have e2 : (p.set i ((ls.getD i [])[k])).take i = p.take i := by rw [List.take_set, List.set_eq_of_length_le (by simp; omega)]
  have e3 : (p.set i ((ls.getD i [])[k])).take (i + 1) = p.take i ++ [(ls.getD i [])[k]] := by
    rw [List.take_succ_eq_append_getElem (by simp; omega), e2]
    simp
  rw [hk, e1, e2, e3, List.drop_eq_getElem_cons h, List.flatMap_cons, List.append_assoc]
  rw [upR_congr i (p := p) (q := p.set i ((ls.getD i [])[k])) (nx := nx) (ny := nx.set i (k + 1)) (fun j hj => by simp [List.getD_eq_getElem?_getD, List.getElem?_set, show ¬ i = j by omega]) (fun j hj => by simp [List.getD_eq_getElem?_getD, List.getElem?_set, show ¬ i = j by omega]) (by omega) (by simp; omega)]
  simp

/-- How long going on takes at most, where 'up' comes to level i. -/
def downT (ls : List (List Int)) : Nat := match ls with
  | [] => 1
  | d :: ds => d.length * (downT ds + 3) + 4
def upT (ls : List (List Int)) (nx : List Nat) : Nat → Nat
  | 0 => 1
  | i + 1 => ((ls.getD i []).length - nx.getD i 0) * (downT (ls.drop (i + 1)) + 3) + 3 + upT ls nx i

theorem upT_congr {ls : List (List Int)} {nx ny : List Nat} : ∀ i, (∀ k, k < i → nx.getD k 0 = ny.getD k 0) → upT ls nx i = upT ls ny i
  | 0, _ => rfl
  | i + 1, h => by simp only [upT, h i (by omega), upT_congr i (fun k hk => h k (by omega))]

/-- The times: of down, along, up. -/
def tDown (ls : List (List Int)) (nx : List Nat) (i : Nat) : Nat := downT (ls.drop i) + 1 + upT ls nx i

theorem down_next_t {ls : List (List Int)} {nx : List Nat} {i : Nat} (h : i < ls.length) (hn : i < nx.length) : upT ls (nx.set i 0) (i + 1) < tDown ls nx i := by
  unfold tDown
  rw [upT, List.drop_eq_getElem_cons h, downT, upT_congr i (ny := nx) (fun k hk => by simp [List.getD_eq_getElem?_getD, List.getElem?_set, show ¬ i = k by omega])]
  simp [List.getD_eq_getElem?_getD, h, hn] <;> omega

theorem along_end_t (ls : List (List Int)) (nx : List Nat) (i : Nat) : upT ls nx i + 2 < upT ls nx (i + 1) := by
  rw [upT]; omega

theorem along_next_t {ls : List (List Int)} {nx : List Nat} {i k : Nat} (hn : i < nx.length) (hk : nx.getD i 0 = k) (h : k < (ls.getD i []).length) : tDown ls (nx.set i (k + 1)) (i + 1) < upT ls nx (i + 1) := by
  unfold tDown
  rw [upT, upT, hk, upT_congr i (nx := nx.set i (k + 1)) (ny := nx) (fun k hk => by simp [List.getD_eq_getElem?_getD, List.getElem?_set, show ¬ i = k by omega])]
  have e1 : (nx.set i (k + 1)).getD i 0 = k + 1 := by simp [List.getD_eq_getElem?_getD, hn]
  rw [e1]
  obtain ⟨m, hm⟩ : ∃ m, (ls.getD i []).length - k = m + 1 := ⟨(ls.getD i []).length - k - 1, by omega⟩
  have hm' : (ls.getD i []).length - (k + 1) = m := by omega
  rw [hm, hm', Nat.add_mul]
  omega

end Go.Proofs.YtflibcfecnhjgaaDoor

namespace Go.Proofs.YtflibcfecnhjgaaDoor
open Go.RowKit
set_option linter.unusedVariables false

/-- As Q; by a goto to label l: R l. -/
def jumps (R : Nat → Act → World → Prop) (Q : Exit → Act → World → Prop) : Exit → Act → World → Prop
  | .goto l, a, w => R l a w
  | e, a, w => Q e a w

theorem wp_scope_labels {P : Program} {a : Act} {w : World} {Q : Exit → Act → World → Prop} {c : Code} (rest : Nat → Code) (J : Nat → Nat → Act → World → Prop)
    (hf : ∀ l n a w, J l n a w → findLabel c l = some (rest l))
    (first : c.wp P (jumps (fun l a w => ∃ n, J l n a w) Q) a w)
    (pass : ∀ n l a w, J l n a w → (rest l).wp P (jumps (fun l' a' w' => ∃ m, m < n ∧ J l' m a' w') Q) a w) : (Code.scope c).wp P Q a w := by
  intro b k cs
  have hg : ∀ l n a w, J l n a w → gotoIn l (.inScope c :: k) = some (.code (rest l) :: .inScope c :: k) := fun l n a w h => by simp [gotoIn, hf l n a w h]
  have key : ∀ n l a w, J l n a w → ∃ e a' w', Q e a' w' ∧ Arrives P (lone (b.at a (.code (rest l) :: .inScope c :: k)) cs w) b k cs e a' w' := by
    intro n
    induction n using Nat.strongRecOn with
    | _ n ih =>
      intro l a w hJ
      obtain ⟨e, a₁, w₁, hq, harr⟩ := pass n l a w hJ b (.inScope c :: k) cs
      cases e with
      | normal => exact ⟨.normal, a₁, w₁, hq, Steps.trans harr (.one step_inScope)⟩
      | exit id => exact ⟨.exit id, a₁, w₁, hq, fun k' hk => harr k' (by simp [exitTo, hk])⟩
      | goto l' =>
        obtain ⟨m, hlt, hJ'⟩ := hq
        obtain ⟨e₂, a₂, w₂, hq₂, harr₂⟩ := ih _ hlt l' a₁ w₁ hJ'
        exact ⟨e₂, a₂, w₂, hq₂, .of_steps (harr _ (hg _ _ _ _ hJ')) harr₂⟩
      | ret => exact ⟨_, a₁, w₁, hq, harr⟩
      | panic ch => exact ⟨_, a₁, w₁, hq, harr⟩
      | outgrown => exact ⟨_, a₁, w₁, hq, harr⟩
  obtain ⟨e, a₁, w₁, hq, harr⟩ := first b (.inScope c :: k) cs
  cases e with
  | normal => exact ⟨.normal, a₁, w₁, hq, .head step_scope (Steps.trans harr (.one step_inScope))⟩
  | exit id => exact ⟨.exit id, a₁, w₁, hq, fun k' hk => .head step_scope (harr k' (by simp [exitTo, hk]))⟩
  | goto l' =>
    obtain ⟨n, hJ'⟩ := hq
    obtain ⟨e₂, a₂, w₂, hq₂, harr₂⟩ := key n l' a₁ w₁ hJ'
    exact ⟨e₂, a₂, w₂, hq₂, .of_steps (.head step_scope (harr _ (hg _ _ _ _ hJ'))) harr₂⟩
  | ret => exact ⟨_, a₁, w₁, hq, .of_steps (.one step_scope) harr⟩
  | panic ch => exact ⟨_, a₁, w₁, hq, .of_steps (.one step_scope) harr⟩
  | outgrown => exact ⟨_, a₁, w₁, hq, .of_steps (.one step_scope) harr⟩

/-- Jumps that lower the number. -/
def lower (J : Nat → Nat → Act → World → Prop) (n : Nat) : Nat → Act → World → Prop := fun l a w => ∃ m, m < n ∧ J l m a w

/-- Three labels, of which the run comes to 1 first, and from 1 on to 2. -/
theorem wp_scope_labels3 {P : Program} {a : Act} {w : World} {Q : Exit → Act → World → Prop} {c c0 c1 c2 : Code} (J : Nat → Nat → Act → World → Prop)
    (h0 : findLabel c 0 = some (Code.skip.seq c0)) (h1 : findLabel c 1 = some (Code.skip.seq c1)) (h2 : findLabel c 2 = some (Code.skip.seq c2))
    (hJ : ∀ l n a w, J l n a w → l = 0 ∨ l = 1 ∨ l = 2)
    (up : ∀ n a w, J 0 n a w → c0.wp P (jumps (lower J n) Q) a w)
    (along : ∀ n a w, J 2 n a w → c2.wp P (jumps (lower J n) Q) a w)
    (down : (∀ n m a w, n < m → J 2 n a w → c2.wp P (jumps (lower J m) Q) a w) → ∀ n a w, J 1 n a w → c1.wp P (jumps (lower J n) Q) a w)
    (first : (∀ n a w, J 1 n a w → c1.wp P (jumps (fun l a w => ∃ n, J l n a w) Q) a w) → c.wp P (jumps (fun l a w => ∃ n, J l n a w) Q) a w) : (Code.scope c).wp P Q a w := by
  have weak : ∀ (R R' : Nat → Act → World → Prop), (∀ l a w, R l a w → R' l a w) → ∀ e a w, jumps R Q e a w → jumps R' Q e a w := fun R R' h e a w hq => by
    cases e with
    | goto l => exact h l a w hq
    | _ => exact hq
  have along' : ∀ n m a w, n < m → J 2 n a w → c2.wp P (jumps (lower J m) Q) a w := fun n m a w hnm h => Code.wp_mono (weak _ _ fun l a w ⟨k, hk, hj⟩ => ⟨k, Nat.lt_trans hk hnm, hj⟩) (along n a w h)
  refine wp_scope_labels (fun l => if l = 0 then Code.skip.seq c0 else if l = 1 then Code.skip.seq c1 else Code.skip.seq c2) J ?_ ?_ ?_
  · intro l n a w h
    rcases hJ l n a w h with rfl | rfl | rfl
    · exact h0
    · exact h1
    · exact h2
  · exact first fun n a w h => Code.wp_mono (weak _ _ fun l a w ⟨k, _, hj⟩ => ⟨k, hj⟩) (down along' n a w h)
  · intro n l a w h
    rcases hJ l n a w h with rfl | rfl | rfl
    · exact wp_seq (wp_skip (up n a w h))
    · exact wp_seq (wp_skip (down along' n a w h))
    · exact wp_seq (wp_skip (along n a w h))

end Go.Proofs.YtflibcfecnhjgaaDoor

namespace Go.Proofs.YtflibcfecnhjgaaDoor
open Go.RowKit
set_option linter.unusedVariables false
set_option linter.unusedSimpArgs false
set_option maxRecDepth 20000

/-- What taking makes of rows that come one behind the other, till it says no. -/
def goF {σ : Type} (step : σ → List Int → σ) (cont : σ → List Int → Bool) : List (List Int) → σ → σ
  | [], s => s
  | t :: r, s => if cont s t = true then goF step cont r (step s t) else step s t

theorem goF_more {σ : Type} {step : σ → List Int → σ} {cont : σ → List Int → Bool} {t : List Int} {r : List (List Int)} {s : σ} (h : cont s t = true) : goF step cont (t :: r) s = goF step cont r (step s t) := by rw [goF, if_pos h]
theorem goF_stop {σ : Type} {step : σ → List Int → σ} {cont : σ → List Int → Bool} {t : List Int} {r : List (List Int)} {s : σ} (h : cont s t = false) : goF step cont (t :: r) s = step s t := by rw [goF, if_neg (by simp [h])]

theorem grown_set (w : World) (g i : Nat) (z : Value) : w.grownBy (w.setCell ⟨g, i, none⟩ z) (some g) := by
  refine ⟨rfl, rfl, rfl, Nat.le_of_eq (by simp), fun k hk hne => by rw [heap_setCell_other w ⟨g, i, none⟩ k z (fun e => hne (by rw [e]))]⟩

abbrev natV (l : List Nat) : List Int := l.map fun (n : Nat) => (n : Int)

/-- The run's own slots. -/
def GoT (vl tk vr vn vi : Value) (a : Act) : Prop := ∃ (u2 u3 u7 u8 u9 u10 u11 u12 u13 u14 u15 u16 u17 u18 u19 u20 u21 u22 u23 u24 u25 u26 u27 u28 u29 u30 u31 u32 u33 u34 u35 u36 u37 u38 u39 u40 u41 u42 u43 u44 u45 u46 u47 u48 u49 u50 u51 u52 u53 u54 u55 u56 u57 u58 : Value), a = { tmps := #[vl, tk, u2, u3, vr, vn, vi, u7, u8, u9, u10, u11, u12, u13, u14, u15, u16, u17, u18, u19, u20, u21, u22, u23, u24, u25, u26, u27, u28, u29, u30, u31, u32, u33, u34, u35, u36, u37, u38, u39, u40, u41, u42, u43, u44, u45, u46, u47, u48, u49, u50, u51, u52, u53, u54, u55, u56, u57, u58], defers := [] }

/-- What is in memory: the row p, the places nx that come next, the rest as I has it. -/
structure GoM {σ : Type} (lists : List (List Int)) (B N g1 g2 : Nat) (I : Nat → World → σ → Prop) (p : List Int) (nx : List Nat) (s : σ) (w : World) : Prop where
  lp : p.length = lists.length
  ln : nx.length = lists.length
  nxt : ∀ k, nx.getD k 0 ≤ (lists.getD k []).length
  row : OwnI B w (.slice (some ⟨g1, 0, none⟩) lists.length lists.length) p
  next : OwnI B w (.slice (some ⟨g2, 0, none⟩) lists.length lists.length) (natV nx)
  inv : I N w s
  size : N ≤ w.heap.size

/-- What is left to hand out, and how many were handed out. -/
def Rem {σ : Type} (step : σ → List Int → σ) (cont : σ → List Int → Bool) (Res : σ) (cnt : σ → Nat) (T : Nat) (F0 : List (List Int)) (R : List (List Int)) (s : σ) : Prop := Res = goF step cont R s ∧ cnt s + R.length = T ∧ ∀ x ∈ R, x ∈ F0

def GoJ {σ : Type} (step : σ → List Int → σ) (cont : σ → List Int → Bool) (lists : List (List Int)) (B N g1 g2 : Nat) (I : Nat → World → σ → Prop) (vl tk : Value) (Res : σ) (cnt : σ → Nat) (T : Nat) (F0 : List (List Int)) (l n : Nat) (a : Act) (w : World) : Prop :=
  ∃ (i : Nat) (vi : Value) (p : List Int) (nx : List Nat) (s : σ), GoT vl tk (.slice (some ⟨g1, 0, none⟩) lists.length lists.length) (.slice (some ⟨g2, 0, none⟩) lists.length lists.length) vi a ∧ vi = .int .i64 (i : Int) ∧ GoM lists B N g1 g2 I p nx s w ∧
    ((l = 0 ∧ i ≤ lists.length ∧ Rem step cont Res cnt T F0 (upR lists p nx i) s ∧ upT lists nx i + 1 ≤ n) ∨
     (l = 1 ∧ i ≤ lists.length ∧ Rem step cont Res cnt T F0 (downR lists p nx i) s ∧ tDown lists nx i ≤ n) ∨
     (l = 2 ∧ i < lists.length ∧ Rem step cont Res cnt T F0 (upR lists p nx (i + 1)) s ∧ upT lists nx (i + 1) ≤ n))

theorem set_getD_le {ls : List (List Int)} {nx : List Nat} (h : ∀ k, nx.getD k 0 ≤ (ls.getD k []).length) {i v : Nat} (hv : v ≤ (ls.getD i []).length) : ∀ k, (nx.set i v).getD k 0 ≤ (ls.getD k []).length := by
  intro k
  have := h k
  simp only [List.getD_eq_getElem?_getD, List.getElem?_set] at this hv ⊢
  by_cases e : i = k
  · subst e
    by_cases hl : i < nx.length
    · simpa [hl] using hv
    · simp [hl]
  · simpa [e] using this

end Go.Proofs.YtflibcfecnhjgaaDoor

namespace Go.Proofs.YtflibcfecnhjgaaDoor
open Go.RowKit
set_option linter.unusedVariables false
set_option linter.unusedSimpArgs false
set_option maxRecDepth 20000

/-- The call's own rows, none of which (but empty ones) lies ahead of N. -/
def OwnTN (N B : Nat) (w : World) (v : Value) (ll : List (List Int)) : Prop :=
  ∃ vs : List Value, OwnV B w v vs ∧ vs.length = ll.length ∧ ∀ i (h : i < vs.length) (h' : i < ll.length), Ints w vs[i] ll[i] ∧ Apart vs[i] ll[i] v ∧ OffX (· < N) vs[i] ll[i]

theorem OwnTN.nilE {N B : Nat} {w : World} {v : Value} (h : OwnV B w v []) : OwnTN N B w v [] := ⟨[], h, rfl, fun i h => by simp at h⟩
theorem OwnTN.ownT {N B : Nat} {w : World} {v : Value} {ll : List (List Int)} (h : OwnTN N B w v ll) : OwnT B w v ll := by
  obtain ⟨vs, h1, h2, h3⟩ := h
  exact ⟨vs, h1, h2, fun i hi hi' => ⟨(h3 i hi hi').1, (h3 i hi hi').2.1⟩⟩

theorem OwnTN.kept {N B : Nat} {w w' : World} {v : Value} {ll : List (List Int)} {row : Option Nat} (h : OwnTN N B w v ll) (g : w.grownBy w' row) (hr : ∀ b, row = some b → b < N) (hv : v.ownBlock = none ∨ v.ownBlock ≠ row) : OwnTN N B w' v ll := by
  obtain ⟨vs, h1, h2, h3⟩ := h
  refine ⟨vs, h1.kept g hv, h2, fun i hi hi' => ⟨?_, (h3 i hi hi').2⟩⟩
  have hk := Keeps.grown (X := (· < N)) g hr
  exact hk.seq (h3 i hi hi').1 (h3 i hi hi').2.2

theorem grownN {w w' : World} (h : Below w.heap.size w w') : w.grownBy w' none := ⟨h.os, h.tape, h.output, h.size, fun k hk _ => h.block k hk⟩
theorem OwnTN.below {N B : Nat} {w w' : World} {v : Value} {ll : List (List Int)} (h : OwnTN N B w v ll) (hb : Below w.heap.size w w') : OwnTN N B w' v ll :=
  h.kept (grownN hb) (by simp) (by cases v.ownBlock <;> simp)

theorem OwnTN.snoc {N B : Nat} {w w' : World} {v v' u : Value} {vs : List Value} {ll : List (List Int)} {l : List Int} (hlen : vs.length = ll.length)
    (h3 : ∀ i (h : i < vs.length) (h' : i < ll.length), Ints w vs[i] ll[i] ∧ Apart vs[i] ll[i] v ∧ OffX (· < N) vs[i] ll[i]) (hu : Ints w u l) (ha : Apart u l v) (hx : OffX (· < N) u l) (hown : OwnV B w' v' (vs ++ [u])) (g : Grew B w w' v v') : OwnTN N B w' v' (ll ++ [l]) := by
  refine ⟨vs ++ [u], hown, by simp [hlen], fun i hi hi' => ?_⟩
  by_cases hiv : i < vs.length
  · have hil : i < ll.length := by omega
    rw [List.getElem_append_left hiv, List.getElem_append_left hil]
    have := h3 i hiv hil
    exact ⟨this.1.grew g this.2.1, this.2.1.grew this.1 g, this.2.2⟩
  · have e : i = vs.length := by simp at hi; omega
    subst e
    rw [List.getElem_append_right (by omega), List.getElem_append_right (by omega)]
    simp only [hlen, Nat.sub_self, List.getElem_cons_zero]
    exact ⟨hu.grew g ha, ha.grew hu g, hx⟩

theorem cell_push0' {w : World} {a : Addr} {v : Value} (h : w.cell? a = some v) (o : Obj) : (w.alloc o).cell? a = some v := Below.cell_of ((Below.refl _ _).alloc (Nat.le_refl _) o) h

/-- What the closure makes of the rows at hand, and a row. -/
def accR (p : List Int → Bool) (acc : List (List Int)) (t : List Int) : List (List Int) := if p t = true then acc ++ [t] else acc

end Go.Proofs.YtflibcfecnhjgaaDoor

namespace Go.Proofs.YtflibcfecnhjgaaDoor
open Go.RowKit
set_option linter.unusedVariables false
set_option linter.unusedSimpArgs false
set_option maxRecDepth 20000

theorem full_nil : ∀ {ls : List (List Int)}, [] ∈ ls → fullL ls = []
  | d :: ls, h => by
    rcases List.mem_cons.1 h with h | h
    · subst h; rfl
    · rw [fullL, full_nil h]; simp

/-- A variable's domain. -/
def domL (doms : List (List Int)) (x : Int) : List Int := doms.getD x.toNat []

def pad (f : Int → List Int) (A : List Int) (k : Nat) : List (List Int) := (A.take k).map f ++ List.replicate (A.length - k) []
theorem pad_len (f : Int → List Int) (A : List Int) {k : Nat} (h : k ≤ A.length) : (pad f A k).length = A.length := by simp [pad]; omega
theorem pad_zero (f : Int → List Int) (A : List Int) : pad f A 0 = List.replicate A.length [] := by simp [pad]
theorem pad_all (f : Int → List Int) (A : List Int) : pad f A A.length = A.map f := by simp [pad]
theorem pad_set (f : Int → List Int) (A : List Int) {k : Nat} (h : k < A.length) : (pad f A k).set k (f A[k]) = pad f A (k + 1) := by
  unfold pad
  have e1 : ((A.take k).map f).length = k := by simp; omega
  have e2 : A.length - k = (A.length - (k + 1)) + 1 := by omega
  rw [List.set_append_right _ _ (by omega), e1, Nat.sub_self, e2, List.replicate_succ, List.set_cons_zero, List.take_succ_eq_append_getElem h, List.map_append, List.append_assoc]
  rfl

theorem seq_nilW {α : Type} {enc : α → Value} {w w' : World} {v : Value} (h : Seq enc w v []) : Seq enc w' v [] := by
  obtain ⟨a, cap, h1, h2, h3, h4, h5, h6⟩ := h
  exact ⟨a, cap, h1, h2, h3, h4, fun x _ h => absurd rfl h, fun i y hi => by simp at hi⟩

end Go.Proofs.YtflibcfecnhjgaaDoor

namespace Go.Proofs.YtflibcfecnhjgaaDoor
open Go.RowKit
set_option linter.unusedVariables false
set_option linter.unusedSimpArgs false
set_option maxRecDepth 20000

def entB (doms : List (List Int)) (l t : List Int) : Bool := decide (∀ k, k < l.length → t.getD k 0 ∈ domL doms (l.getD k 0))
def rowOk (doms : List (List Int)) (l : List Int) (ll : List (List Int)) (i : Nat) : Bool :=
  decide ((ll.getD i []).length = l.length) && (decide (i = 0) || decide (cmpL (ll.getD (i - 1) []) (ll.getD i []) < 0)) && entB doms l (ll.getD i [])
def rowsB (doms : List (List Int)) (l : List Int) (ll : List (List Int)) : Bool := decide (∀ i, i < ll.length → rowOk doms l ll i = true)

theorem rowOk_at {doms : List (List Int)} {l : List Int} {ll : List (List Int)} {i : Nat} (h : i < ll.length) :
    rowOk doms l ll i = (decide (ll[i].length = l.length) && (decide (i = 0) || decide (cmpL (ll[i - 1]'(by omega)) ll[i] < 0)) && entB doms l ll[i]) := by
  unfold rowOk
  have h1 : ll.getD i [] = ll[i] := by simp [h]
  have h2 : ll.getD (i - 1) [] = ll[i - 1]'(by omega) := by simp [show i - 1 < ll.length by omega]
  rw [h1, h2]

theorem inQ {l : List Int} (x : Int) {v : Value} {w : World} (h : Ints w v l) :
    Calls Tryd.prog 61 #[v, .int .i64 x] w fun e w' => e = .returned (.bool (decide (x ∈ l))) ∧ ∃ n, w' = w.drewN n :=
  (refIn_any x h).mono fun e w' ⟨h1, h2⟩ => ⟨h1, 0, by rw [h2]; rfl⟩

set_option maxHeartbeats 4000000 in
theorem rows6_any {doms : List (List Int)} {l : List Int} {ll : List (List Int)} {a0 a1 a2 : Option Addr} {c0 c1 c2 n1 n2 : Nat} {v vr : Value} {w : World} (hd : Tups w (.slice a0 doms.length c0) doms) (h : Ints w v l) (hr : Tups w vr ll) (hin : ∀ x ∈ l, 0 ≤ x ∧ x < (doms.length : Int)) :
    Calls Tryd.prog 53 #[.agg #[.slice a0 doms.length c0, .slice a1 n1 c1, .slice a2 n2 c2], v, vr] w fun e w' => e = .returned (.bool (rowsB doms l ll)) ∧ Below w.heap.size w w' := by
  obtain ⟨a, ca, rfl, hla, hca⟩ := h.form
  obtain ⟨b, cb, rfl, hlb, hcb⟩ := hr.form
  have hdf := hd.form
  obtain ⟨_, _, e, hdl, hdc⟩ := hdf
  cases e
  unfold maxLen at hca hcb hdc
  have hb0 := (Below.refl w.heap.size w).alloc (Nat.le_refl _) (.cells #[.slice a0 doms.length c0, .slice a1 n1 c1, .slice a2 n2 c2] 26)
  have hcx : (w.alloc (.cells #[.slice a0 doms.length c0, .slice a1 n1 c1, .slice a2 n2 c2] 26)).cell? ⟨w.heap.size, 0, none⟩ = some (.slice a0 doms.length c0) := by unfold World.cell?; rw [heap_alloc_new]; rfl
  obtain ⟨q, hq⟩ : ∃ q, q = rowsB doms l ll := ⟨_, rfl⟩
  rw [← hq]
  have HQ := hide hq
  have hs1 := h.below hb0
  have ht1 := hr.below hb0
  have hd1 := hd.below hb0
  obtain ⟨W1, hW1⟩ : ∃ W, W = w.alloc (.cells #[.slice a0 doms.length c0, .slice a1 n1 c1, .slice a2 n2 c2] 26) := ⟨_, rfl⟩
  rw [← hW1] at hb0 hcx hs1 ht1 hd1
  have HW1 := hide hW1
  have HB := hide hb0
  have HIN := hide hin
  clear hq h hr hd hW1 hin hb0
  go_enter Tryd.func53, Tryd.ntmps53
  go_wp2
  rw [← unhide HW1]
  clear HW1
  go_loopw [7, 8, 9] (fun i _ _ wr => ∃ k n : Nat, k ≤ ll.length ∧ i = .int .i64 k ∧ wr = W1.drewN n ∧ Hid (∀ j, j < k → rowOk doms l ll j = true)) (fun i _ _ _ => ll.length - (intOf i).toNat)
  case atStart => exact ⟨0, 0, by omega, rfl, rfl, hide (fun j h => by omega)⟩
  case round =>
    obtain ⟨k, n, hk, rfl, rfl, HC⟩ := hrel
    by_cases hkl : k < ll.length
    · obtain ⟨bl, ol, ul, e1, hcl, hiL⟩ := ht1.at hkl
      subst e1
      obtain ⟨ia, ic, rfl, _, hic⟩ := hiL.form
      unfold maxLen at hic
      have HRK := hide (rowOk_at (doms := doms) (l := l) hkl)
      have HF := hide (fun (hno : rowOk doms l ll k = false) => show q = false by
        rw [unhide HQ]; unfold rowsB; rw [decide_eq_false_iff_not]; intro hall; rw [hall k hkl] at hno; cases hno)
      by_cases hw : ll[k].length = l.length
      · have hw1 : ((ll[k].length : Int) != (l.length : Int)) = false := by simp [hw]
        -- behind the first test
        have HNX := hide (fun (hno : entB doms l ll[k] = true) (hz : decide (k = 0) || decide (cmpL (ll[k - 1]'(by omega)) ll[k] < 0)) => show ∀ j, j < k + 1 → rowOk doms l ll j = true from fun j hj => by
          rcases Nat.lt_or_ge j k with h1 | h1
          · exact unhide HC j h1
          · obtain rfl : j = k := by omega
            rw [unhide HRK, decide_eq_true hw, hz, hno]; rfl)
        have HNE := hide (fun (hno : entB doms l ll[k] = false) => unhide HF (by rw [unhide HRK, hno, Bool.and_false]))
        have HNZ := hide (fun (hno : (decide (k = 0) || decide (cmpL (ll[k - 1]'(by omega)) ll[k] < 0)) = false) => unhide HF (by rw [unhide HRK, hno, Bool.and_false, Bool.false_and]))
        have HEN : Hid (entB doms l ll[k] = decide (∀ m, m < l.length → ll[k].getD m 0 ∈ domL doms (l.getD m 0))) := hide rfl
        have hiLL := hiL
        by_cases hk0 : 0 < k
        · have hk1 : k - 1 < ll.length := by omega
          obtain ⟨bl', ol', up, e2, hcp, hip⟩ := ht1.at hk1
          cases e2
          obtain ⟨pa, pc, rfl, _, _⟩ := hip.form
          have HCMP := hide (fun n => refCompare_any (Seq.drewN hip n) (Seq.drewN hiL n))
          have hkp : (1 : Int) ≤ (k : Int) := by omega
          have hkn : decide (k = 0) = false := by rw [decide_eq_false_iff_not]; omega
          rw [hkn] at HNX HNZ
          simp only [Bool.false_or] at HNX HNZ
          generalize cmpL (ll[k - 1]'(by omega)) ll[k] = z at HCMP HNX HNZ
          by_cases hz : z < 0
          · have HNX' := hide (fun h => unhide HNX h (by simpa using hz))
            have hiT := hiL
            have HWT := hide hw
            generalize ll[k] = t at *
            clear HNX HNZ HF HRK hw hip hiLL hiL hkn
            go_wp2
            go_quiet ((go_at_call 20; exact Calls.quiet_add (unhide HCMP _)))
            go_wp2
            go_loopw [8, 9] (fun i _ wr => ∃ m n2 : Nat, m ≤ l.length ∧ i = .int .i64 m ∧ wr = W1.drewN n2 ∧ Hid (∀ j, j < m → t.getD j 0 ∈ domL doms (l.getD j 0))) (fun i _ _ => l.length - (intOf i).toNat)
            case atStart => exact ⟨0, _, by omega, rfl, by first | rfl | (simp only [World.drewN_drewN]; rfl), hide (fun j h => by omega)⟩
            case round =>
              obtain ⟨m, n2, hm, rfl, rfl, HM⟩ := hrel
              by_cases hml : m < l.length
              · have hmt : m < t.length := by have := unhide HWT; omega
                obtain ⟨b3, o3, e3, hc3⟩ := hs1.at hml
                subst e3
                obtain ⟨b4, o4, e4, hc4⟩ := hiT.at hmt
                subst e4
                obtain ⟨h0, hdl2⟩ := unhide HIN _ (List.getElem_mem hml)
                obtain ⟨dm, hdm⟩ : ∃ dm : Nat, l[m] = (dm : Int) := ⟨l[m].toNat, by omega⟩
                have hdml : dm < doms.length := by omega
                obtain ⟨b5, o5, u5, e5, hc5, hi5⟩ := hd1.at hdml
                subst e5
                obtain ⟨a6, c6, rfl, _, _⟩ := hi5.form
                have hdom : domL doms (l.getD m 0) = doms[dm] := by
                  rw [show l.getD m 0 = l[m] by simp [List.getD_eq_getElem?_getD, hml], hdm]
                  unfold domL; simp [List.getD_eq_getElem?_getD, hdml]
                have htg : t.getD m 0 = t[m] := by simp [List.getD_eq_getElem?_getD, hmt]
                have HINC := hide (fun n => inQ t[m] (Seq.drewN hi5 n))
                rw [hdm] at hc3
                have hdmi : (dm : Int) < (doms.length : Int) := by omega
                have HIF : Hid (t[m] ∈ doms[dm] ↔ t.getD m 0 ∈ domL doms (l.getD m 0)) := hide (by rw [hdom, htg])
                have hml2 : m < t.length := hmt
                generalize hD : doms[dm] = D at *
                generalize hX : t[m] = x at *
                by_cases hin : x ∈ D
                · have HM2 : Hid (∀ j, j < m + 1 → t.getD j 0 ∈ domL doms (l.getD j 0)) := hide (fun j hj => by
                    rcases Nat.lt_or_ge j m with h1 | h1
                    · exact unhide HM j h1
                    · obtain rfl : j = m := by omega
                      exact (unhide HIF).1 hin)
                  rw [decide_eq_true hin] at HINC
                  clear hdom htg hD hX hi5 hin HM HIF hiT ht1 hs1 hd1 h0 hdl2 hdm HQ HNX' HNE HC
                  go_wp2
                  go_quiet ((go_at_call 61; exact Calls.quiet_add (unhide HINC _)))
                  go_wp2
                  go_roundw
                  case rel => exact ⟨m + 1, _, by omega, by go_num, by first | rfl | (simp only [World.drewN_drewN]; rfl), HM2⟩
                  case measure => simp [intOf]; omega
                · have HFF := hide (unhide HNE (by rw [unhide HEN, decide_eq_false_iff_not]; intro hall; exact hin ((unhide HIF).2 (hall m hml))))
                  rw [decide_eq_false hin] at HINC
                  clear hdom htg hD hX hi5 hin HM HIF hiT ht1 hs1 hd1 h0 hdl2 hdm HQ HNX' HNE HC
                  go_wp2
                  go_quiet ((go_at_call 61; exact Calls.quiet_add (unhide HINC _)))
                  go_wp2
                  go_ret
                  exact ⟨ret_bool (unhide HFF).symm, by first | exact Below.drewN1 (unhide HB) _ | (simp only [World.drewN_drewN]; exact Below.drewN1 (unhide HB) _)⟩
              · have HC2 := hide (unhide HNX' (by rw [unhide HEN, decide_eq_true_eq]; exact fun j hj => unhide HM j (by omega)))
                clear hiT ht1 hs1 hd1 HQ HNX' HNE HC hcl HM
                go_wp2
                go_roundw
                case rel => exact ⟨k + 1, n2, by omega, by go_num, rfl, HC2⟩
                case measure => simp [intOf]; omega
          · have HFF := hide (unhide HNZ (by simpa using hz))
            clear HNX HNZ HNE HF HRK HQ hw hip hiLL hiL hkn ht1 hs1 hd1 HC
            go_wp2
            go_quiet ((go_at_call 20; exact Calls.quiet_add (unhide HCMP _)))
            go_wp2
            go_ret
            exact ⟨ret_bool (unhide HFF).symm, by first | exact Below.drewN1 (unhide HB) _ | (simp only [World.drewN_drewN]; exact Below.drewN1 (unhide HB) _)⟩
        · have hk0' : decide ((0 : Int) < (k : Int)) = false := by simpa using hk0
          have hkz : decide (k = 0) = true := by rw [decide_eq_true_eq]; omega
          rw [hkz] at HNX HNZ
          simp only [Bool.true_or] at HNX HNZ
          have HNX' := hide (fun h => unhide HNX h trivial)
          have hiT := hiL
          have HWT := hide hw
          generalize ll[k] = t at *
          clear HNX HNZ HF HRK hw hiLL hiL hkz
          go_wp2
          go_quiet (fail)
          go_wp2
          go_loopw [8, 9] (fun i _ wr => ∃ m n2 : Nat, m ≤ l.length ∧ i = .int .i64 m ∧ wr = W1.drewN n2 ∧ Hid (∀ j, j < m → t.getD j 0 ∈ domL doms (l.getD j 0))) (fun i _ _ => l.length - (intOf i).toNat)
          case atStart => exact ⟨0, _, by omega, rfl, by first | rfl | (simp only [World.drewN_drewN]; rfl), hide (fun j h => by omega)⟩
          case round =>
            obtain ⟨m, n2, hm, rfl, rfl, HM⟩ := hrel
            by_cases hml : m < l.length
            · have hmt : m < t.length := by have := unhide HWT; omega
              obtain ⟨b3, o3, e3, hc3⟩ := hs1.at hml
              subst e3
              obtain ⟨b4, o4, e4, hc4⟩ := hiT.at hmt
              subst e4
              obtain ⟨h0, hdl2⟩ := unhide HIN _ (List.getElem_mem hml)
              obtain ⟨dm, hdm⟩ : ∃ dm : Nat, l[m] = (dm : Int) := ⟨l[m].toNat, by omega⟩
              have hdml : dm < doms.length := by omega
              obtain ⟨b5, o5, u5, e5, hc5, hi5⟩ := hd1.at hdml
              subst e5
              obtain ⟨a6, c6, rfl, _, _⟩ := hi5.form
              have hdom : domL doms (l.getD m 0) = doms[dm] := by
                rw [show l.getD m 0 = l[m] by simp [List.getD_eq_getElem?_getD, hml], hdm]
                unfold domL; simp [List.getD_eq_getElem?_getD, hdml]
              have htg : t.getD m 0 = t[m] := by simp [List.getD_eq_getElem?_getD, hmt]
              have HINC := hide (fun n => inQ t[m] (Seq.drewN hi5 n))
              rw [hdm] at hc3
              have hdmi : (dm : Int) < (doms.length : Int) := by omega
              have HIF : Hid (t[m] ∈ doms[dm] ↔ t.getD m 0 ∈ domL doms (l.getD m 0)) := hide (by rw [hdom, htg])
              have hml2 : m < t.length := hmt
              generalize hD : doms[dm] = D at *
              generalize hX : t[m] = x at *
              by_cases hin : x ∈ D
              · have HM2 : Hid (∀ j, j < m + 1 → t.getD j 0 ∈ domL doms (l.getD j 0)) := hide (fun j hj => by
                  rcases Nat.lt_or_ge j m with h1 | h1
                  · exact unhide HM j h1
                  · obtain rfl : j = m := by omega
                    exact (unhide HIF).1 hin)
                rw [decide_eq_true hin] at HINC
                clear hdom htg hD hX hi5 hin HM HIF hiT ht1 hs1 hd1 h0 hdl2 hdm HQ HNX' HNE HC
                go_wp2
                go_quiet ((go_at_call 61; exact Calls.quiet_add (unhide HINC _)))
                go_wp2
                go_roundw
                case rel => exact ⟨m + 1, _, by omega, by go_num, by first | rfl | (simp only [World.drewN_drewN]; rfl), HM2⟩
                case measure => simp [intOf]; omega
              · have HFF := hide (unhide HNE (by rw [unhide HEN, decide_eq_false_iff_not]; intro hall; exact hin ((unhide HIF).2 (hall m hml))))
                rw [decide_eq_false hin] at HINC
                clear hdom htg hD hX hi5 hin HM HIF hiT ht1 hs1 hd1 h0 hdl2 hdm HQ HNX' HNE HC
                go_wp2
                go_quiet ((go_at_call 61; exact Calls.quiet_add (unhide HINC _)))
                go_wp2
                go_ret
                exact ⟨ret_bool (unhide HFF).symm, by first | exact Below.drewN1 (unhide HB) _ | (simp only [World.drewN_drewN]; exact Below.drewN1 (unhide HB) _)⟩
            · have HC2 := hide (unhide HNX' (by rw [unhide HEN, decide_eq_true_eq]; exact fun j hj => unhide HM j (by omega)))
              clear hiT ht1 hs1 hd1 HQ HNX' HNE HC hcl HM
              go_wp2
              go_roundw
              case rel => exact ⟨k + 1, n2, by omega, by go_num, rfl, HC2⟩
              case measure => simp [intOf]; omega
      · have hw1 : ((ll[k].length : Int) != (l.length : Int)) = true := by simp; omega
        have HFF := hide (unhide HF (by rw [unhide HRK, decide_eq_false hw]; rfl))
        clear HC hw hiL ht1 hd1 hs1 HF HRK HQ
        go_wp2
        go_quiet (fail)
        go_wp2
        go_ret
        exact ⟨ret_bool (unhide HFF).symm, by first | exact Below.drewN1 (unhide HB) _ | (simp only [World.drewN_drewN]; exact Below.drewN1 (unhide HB) _)⟩
    · have HT : Hid (q = true) := hide (by rw [unhide HQ]; unfold rowsB; rw [decide_eq_true_eq]; exact fun j hj => unhide HC j (by omega))
      clear ht1 hs1 hd1 HC HQ
      go_wp2
      go_ret
      exact ⟨ret_bool (unhide HT).symm, Below.drewN1 (unhide HB) _⟩

end Go.Proofs.YtflibcfecnhjgaaDoor

namespace Go.Proofs.YtflibcfecnhjgaaDoor
open Go.RowKit
set_option linter.unusedVariables false
set_option linter.unusedSimpArgs false
set_option maxRecDepth 20000

theorem litI_at {W : World} {b n : Nat} {c : Array Value} {e : TypeId} {fr : Nat × Nat} {l : List Int} (h : W.heap[b]? = some (.cells c e fr)) (hc : c.toList = l.map (Value.int .i64)) (hn : n = l.length) (hs : n ≤ 1000) : Ints W (.slice (some ⟨b, 0, none⟩) n n) l := by
  subst hn
  refine ⟨_, _, rfl, Nat.le_refl _, by unfold maxLen; omega, by simp, by rintro x h _; cases h; rfl, fun i y hi => ⟨_, rfl, ?_⟩⟩
  have e1 : c.toList[i]? = (l.map (Value.int .i64))[i]? := by rw [hc]
  rw [List.getElem?_map, hi] at e1
  simp only [World.cell?, h]
  simpa using e1

theorem litT_at {W : World} {b n : Nat} {c : Array Value} {e : TypeId} {fr : Nat × Nat} {vs : List Value} (h : W.heap[b]? = some (.cells c e fr)) (hc : c.toList = vs) (hn : n = vs.length) (hs : n ≤ 1000) : Seq id W (.slice (some ⟨b, 0, none⟩) n n) vs := by
  subst hn
  refine ⟨_, _, rfl, Nat.le_refl _, by unfold maxLen; omega, by simp, by rintro x h _; cases h; rfl, fun i y hi => ⟨_, rfl, ?_⟩⟩
  have e1 : c.toList[i]? = vs[i]? := by rw [hc]
  rw [hi] at e1
  simp only [World.cell?, h]
  simpa using e1

theorem alloc_at (w : World) (o : Obj) (k : Nat) : (w.alloc o).heap[k]? = if k = w.heap.size then some o else w.heap[k]? := by
  by_cases h : k = w.heap.size
  · subst h; rw [if_pos rfl]; exact heap_alloc_new w o
  · rw [if_neg h]
    unfold World.alloc
    rw [Array.getElem?_push, if_neg h]

end Go.Proofs.YtflibcfecnhjgaaDoor

namespace Go.Proofs.YtflibcfecnhjgaaDoor
open Go.RowKit
set_option linter.unusedVariables false
set_option linter.unusedSimpArgs false
set_option maxRecDepth 20000

/-- It answers whether P. -/
def Asks (e : Ending) (P : Prop) : Prop := ∃ b : Bool, e = .returned (.bool b) ∧ (b = true ↔ P)

/-- What a right hard constraint is. -/
structure HardP (doms : List (List Int)) (c : Con) : Prop where
  scope : scopeB doms.length c.scope = true
  lo : 1 ≤ c.kind
  hi : c.kind ≤ 6
  norows : 2 < c.kind → c.rows = []
  noargs : c.kind ≠ 6 → c.args = []
  alen : c.kind = 6 → c.args.length = c.scope.length + 2
  how : c.kind = 6 → 0 ≤ c.args.getD c.scope.length 0 ∧ c.args.getD c.scope.length 0 ≤ 2
  num : c.kind = 6 → upM (c.args.getD (c.scope.length + 1) 0) 1000000 = true
  mul : c.kind = 6 → ∀ i, i < c.scope.length → c.args.getD i 0 ≠ 0 ∧ upM (c.args.getD i 0) 1000000 = true
  rows : rowsB doms c.scope c.rows = true

theorem scopeB_in {nd : Nat} {l : List Int} (h : scopeB nd l = true) : (∀ x ∈ l, 0 ≤ x ∧ x < (nd : Int)) ∧ 1 ≤ l.length ∧ l.length ≤ 6 ∧ Asc l := by
  unfold scopeB at h
  split at h
  · rename_i hl
    split at h
    · rename_i hr
      simp only [Bool.and_eq_true, decide_eq_true_eq] at h
      have ha := (risB_iff l).1 hr
      have hg0 : l.getD 0 0 = l[0]'(by omega) := by simp [List.getD_eq_getElem?_getD, show 0 < l.length by omega]
      have hg1 : l.getD (l.length - 1) 0 = l[l.length - 1]'(by omega) := by simp [List.getD_eq_getElem?_getD, show l.length - 1 < l.length by omega]
      rw [hg0, hg1] at h
      refine ⟨fun x hx => ?_, hl.1, hl.2, ha⟩
      obtain ⟨i, hi, rfl⟩ := List.getElem_of_mem hx
      have h1 : l[0]'(by omega) ≤ l[i] := by
        rcases Nat.eq_zero_or_pos i with h0 | h0
        · subst h0; exact Int.le_refl _
        · exact Int.le_of_lt (List.pairwise_iff_getElem.1 ha 0 i (by omega) hi h0)
      have h2 : l[i] ≤ l[l.length - 1]'(by omega) := by
        rcases Nat.lt_or_ge i (l.length - 1) with h0 | h0
        · exact Int.le_of_lt (List.pairwise_iff_getElem.1 ha i (l.length - 1) hi (by omega) h0)
        · have e : l[i] = l[l.length - 1]'(by omega) := by congr 1; omega
          exact Int.le_of_eq e
      omega
    · cases h
  · cases h

set_option maxHeartbeats 4000000 in
theorem hard6_any {doms : List (List Int)} {c : Con} {a0 a1 a2 : Option Addr} {c0 c1 c2 n1 n2 : Nat} {v : Value} {w : World} (hd : Tups w (.slice a0 doms.length c0) doms) (hc : ConV w v c) :
    Calls Tryd.prog 36 #[.agg #[.slice a0 doms.length c0, .slice a1 n1 c1, .slice a2 n2 c2], v] w fun e w' => Asks e (HardP doms c) ∧ Below w.heap.size w w' := by
  obtain ⟨kd, s, ll, ar⟩ := c
  obtain ⟨vs, vr, va, rfl, h1, h2, h3⟩ := hc
  simp only [] at h1 h2 h3 ⊢
  obtain ⟨a3, c3, rfl, hl3, hc3⟩ := h1.form
  obtain ⟨a4, c4, rfl, hl4, hc4⟩ := h2.form
  obtain ⟨a5, c5, rfl, hl5, hc5⟩ := h3.form
  unfold maxLen at hc3 hc4 hc5
  have hb0 := ((Below.refl w.heap.size w).alloc (Nat.le_refl _) (.cells #[.slice a0 doms.length c0, .slice a1 n1 c1, .slice a2 n2 c2] 26)).alloc (by simp) (.cells #[.int .i64 kd, .slice a3 s.length c3, .slice a4 ll.length c4, .slice a5 ar.length c5] 41)
  obtain ⟨W1, hW1⟩ : ∃ W, W = (w.alloc (.cells #[.slice a0 doms.length c0, .slice a1 n1 c1, .slice a2 n2 c2] 26)).alloc (.cells #[.int .i64 kd, .slice a3 s.length c3, .slice a4 ll.length c4, .slice a5 ar.length c5] 41) := ⟨_, rfl⟩
  have x0 : W1.heap[w.heap.size]? = some (.cells #[.slice a0 doms.length c0, .slice a1 n1 c1, .slice a2 n2 c2] 26) := by
    rw [hW1]; simp only [alloc_at, World.size_alloc]; repeat (first | rw [if_pos True.intro] | rw [if_pos rfl] | rw [if_neg (by omega)])
  have x1 : W1.heap[w.heap.size + 1]? = some (.cells #[.int .i64 kd, .slice a3 s.length c3, .slice a4 ll.length c4, .slice a5 ar.length c5] 41) := by
    rw [hW1]; simp only [alloc_at, World.size_alloc]; repeat (first | rw [if_pos True.intro] | rw [if_pos rfl] | rw [if_neg (by omega)])
  have hs1 : W1.heap.size = w.heap.size + 2 := by rw [hW1]; simp
  rw [← hW1] at hb0
  have HC := hide (fun W (hb : Below W1.heap.size W1 W) =>
    have e0 : W.heap[w.heap.size]? = some (.cells #[.slice a0 doms.length c0, .slice a1 n1 c1, .slice a2 n2 c2] 26) := by rw [hb.block _ (by omega)]; exact x0
    have e1 : W.heap[w.heap.size + 1]? = some (.cells #[.int .i64 kd, .slice a3 s.length c3, .slice a4 ll.length c4, .slice a5 ar.length c5] 41) := by rw [hb.block _ (by omega)]; exact x1
    (show (W.cell? ⟨w.heap.size, 0, none⟩ = some (.slice a0 doms.length c0) ∧ W.cell? ⟨w.heap.size, 1, none⟩ = some (.slice a1 n1 c1) ∧ W.cell? ⟨w.heap.size, 2, none⟩ = some (.slice a2 n2 c2)) ∧ W.cell? ⟨w.heap.size + 1, 0, none⟩ = some (.int .i64 kd) ∧ W.cell? ⟨w.heap.size + 1, 1, none⟩ = some (.slice a3 s.length c3) ∧ W.cell? ⟨w.heap.size + 1, 2, none⟩ = some (.slice a4 ll.length c4) ∧ W.cell? ⟨w.heap.size + 1, 3, none⟩ = some (.slice a5 ar.length c5) from by
      refine ⟨⟨?_, ?_, ?_⟩, ?_, ?_, ?_, ?_⟩ <;> (unfold World.cell?; first | (rw [e0]; rfl) | (rw [e1]; rfl))))
  have HSC := hide (scope6_any (nd := doms.length) (a0 := a0) (a1 := a1) (a2 := a2) (c0 := c0) (c1 := c1) (c2 := c2) (n1 := n1) (n2 := n2) (h1.below hb0))
  have HRW := hide (fun W (hb : Below W1.heap.size W1 W) (hin : ∀ x ∈ s, 0 ≤ x ∧ x < (doms.length : Int)) => rows6_any (a1 := a1) (a2 := a2) (c1 := c1) (c2 := c2) (n1 := n1) (n2 := n2) ((hd.below hb0).below hb) ((h1.below hb0).below hb) ((h2.below hb0).below hb) hin)
  have HAR := hide (fun W (hb : Below W1.heap.size W1 W) => (h3.below hb0).below hb)
  have HB := hide hb0
  have HW1 := hide hW1
  have HP : Hid (∀ b : Bool, (b = true ↔ HardP doms ⟨kd, s, ll, ar⟩) → Asks (.returned (.bool b)) (HardP doms ⟨kd, s, ll, ar⟩)) := hide (fun b h => ⟨b, rfl, h⟩)
  clear hd h1 h2 h3 hb0 x0 x1 hs1 hW1
  go_enter Tryd.func36, Tryd.ntmps36
  obtain ⟨⟨y0, y1, y2⟩, y3, y4, y5, y6⟩ := unhide HC W1 (Below.refl _ _)
  go_wp2_with fail
  rw [← unhide HW1]
  refine (unhide HSC).mono ?_
  rintro e w2 ⟨rfl, hb2⟩
  clear y0 y1 y2 y3 y4 y5 y6 HSC HW1
  obtain ⟨⟨y0, y1, y2⟩, y3, y4, y5, y6⟩ := unhide HC w2 hb2
  have HB2 := hide ((unhide HB).trans (hb2.mono (unhide HB).size))
  cases hs : scopeB doms.length s with
  | false =>
    have HF := hide (unhide HP false ⟨fun h => Bool.noConfusion h, fun h => by have := h.scope; simp only [] at this; rw [hs] at this; cases this⟩)
    clear hs HP HRW HAR hb2
    go_wp2
    go_ret
    exact ⟨unhide HF, unhide HB2⟩
  | true =>
    obtain ⟨hin, hsl1, hsl6, _⟩ := scopeB_in hs
    have HIN := hide hin
    have HS := hide hs
    clear hs hin
    by_cases k1 : kd < 1
    · have HF := hide (unhide HP false ⟨fun h => Bool.noConfusion h, fun h => by have := h.lo; simp only [] at this; omega⟩)
      have d1 : decide (kd < 1) = true := by simpa using k1
      clear HP HRW HAR hb2 k1
      go_wp2
      go_ret
      exact ⟨unhide HF, unhide HB2⟩
    · have d1 : decide (kd < 1) = false := by simpa using k1
      by_cases k6 : 6 < kd
      · have HF := hide (unhide HP false ⟨fun h => Bool.noConfusion h, fun h => by have := h.hi; simp only [] at this; omega⟩)
        have d2 : decide (6 < kd) = true := by simpa using k6
        clear HP HRW HAR hb2 k1 k6
        go_wp2
        go_ret
        exact ⟨unhide HF, unhide HB2⟩
      · have d2 : decide (6 < kd) = false := by simpa using k6
        by_cases kr : 2 < kd ∧ ll ≠ []
        · have HF := hide (unhide HP false ⟨fun h => Bool.noConfusion h, fun h => (kr.2 (h.norows kr.1)).elim⟩)
          have d3 : decide (2 < kd) = true := by simpa using kr.1
          obtain ⟨m, hm⟩ : ∃ m, ll.length = m + 1 := ⟨ll.length - 1, by have := List.length_pos_iff.2 kr.2; omega⟩
          rw [hm] at y5
          clear HP HRW HAR hb2 k1 k6 kr hm HC hl4
          go_wp2
          go_ret
          exact ⟨unhide HF, unhide HB2⟩
        · by_cases ka : kd ≠ 6 ∧ ar ≠ []
          · have HF := hide (unhide HP false ⟨fun h => Bool.noConfusion h, fun h => (ka.2 (h.noargs ka.1)).elim⟩)
            have d4 : (kd != 6) = true := by simpa using ka.1
            obtain ⟨m, hm⟩ : ∃ m, ar.length = m + 1 := ⟨ar.length - 1, by have := List.length_pos_iff.2 ka.2; omega⟩
            rw [hm] at y6
            by_cases k2 : 2 < kd
            · have d3 : decide (2 < kd) = true := by simpa using k2
              have hll : ll = [] := Decidable.byContradiction fun h => kr ⟨k2, h⟩
              subst hll
              clear HP HRW HAR hb2 k1 k6 kr hm HC ka hl5 k2
              go_wp2
              go_ret
              exact ⟨unhide HF, unhide HB2⟩
            · have d3 : decide (2 < kd) = false := by simpa using k2
              clear HP HRW HAR hb2 k1 k6 kr hm HC ka hl5 k2
              go_wp2
              go_ret
              exact ⟨unhide HF, unhide HB2⟩
          · by_cases hk : kd = 6
            · subst hk
              have hll : ll = [] := Decidable.byContradiction fun h => kr ⟨by decide, h⟩
              subst hll
              have HPN := hide (fun (h : ¬ HardP doms ⟨6, s, [], ar⟩) => unhide HP false ⟨fun h' => Bool.noConfusion h', fun h' => (h h').elim⟩)
              have hia := unhide HAR w2 hb2
              by_cases hl : ar.length = s.length + 2
              · have hg : ((ar.length : Int) != (s.length : Int) + 2) = false := by rw [bne_eq_false_iff_eq]; omega
                have hn1 : s.length < ar.length := by omega
                have hn2 : s.length + 1 < ar.length := by omega
                obtain ⟨b1, o1, e1, q1⟩ := hia.at hn1
                obtain ⟨b2, o2, e2, q2⟩ := hia.at hn2
                rw [e1] at e2
                cases e2
                subst e1
                have hE1 : Hid (ar.getD s.length 0 = ar[s.length]) := hide (by simp [List.getD_eq_getElem?_getD, hn1])
                have hE2 : Hid (ar.getD (s.length + 1) 0 = ar[s.length + 1]) := hide (by simp [List.getD_eq_getElem?_getD, hn2])
                have HSN := hide (fun W => small6_any ar[s.length + 1] W)
                generalize ar[s.length] = how at *
                generalize ar[s.length + 1] = num at *
                have HIA := hide hia
                have HL := hide hl
                clear hl hia
                by_cases g1 : how < 0
                · have d6 : decide (how < 0) = true := by simpa using g1
                  have HF := hide (unhide HPN (fun h => by have := (h.how rfl).1; simp only [] at this; rw [unhide hE1] at this; omega))
                  clear g1 HP HPN HRW HAR HIA HSN HC k1 k6 kr ka hb2
                  go_wp2
                  go_ret
                  exact ⟨unhide HF, unhide HB2⟩
                · have d6 : decide (how < 0) = false := by simpa using g1
                  by_cases g2 : 2 < how
                  · have d7 : decide (2 < how) = true := by simpa using g2
                    have HF := hide (unhide HPN (fun h => by have := (h.how rfl).2; simp only [] at this; rw [unhide hE1] at this; omega))
                    clear g1 g2 HP HPN HRW HAR HIA HSN HC k1 k6 kr ka hb2
                    go_wp2
                    go_ret
                    exact ⟨unhide HF, unhide HB2⟩
                  · have d7 : decide (2 < how) = false := by simpa using g2
                    cases hu : upM num 1000000 with
                    | false =>
                      have HF := hide (unhide HPN (fun h => by have := h.num rfl; simp only [] at this; rw [unhide hE2, hu] at this; cases this))
                      rw [hu] at HSN
                      clear g1 g2 HP HPN HRW HAR HIA HC k1 k6 kr ka hb2 hu
                      go_wp2_with (refine (unhide HSN _).mono ?_; rintro e w' ⟨rfl, rfl⟩)
                      go_ret
                      exact ⟨unhide HF, unhide HB2⟩
                    | true =>
                      rw [hu] at HSN
                      have HHW : Hid (0 ≤ how ∧ how ≤ 2) := hide (by omega)
                      have HU := hide hu
                      have HRX := hide (unhide HRW w2 hb2 (unhide HIN))
                      clear g1 g2 HRW HAR HC k1 k6 kr ka hb2 hu
                      go_wp2_with (refine (unhide HSN _).mono ?_; rintro e w' ⟨rfl, rfl⟩)
                      go_loop [7] (fun i => ∃ k : Nat, k ≤ s.length ∧ i = .int .i64 k ∧ Hid (∀ j, j < k → ar.getD j 0 ≠ 0 ∧ upM (ar.getD j 0) 1000000 = true)) (fun i => s.length - (intOf i).toNat)
                      case atStart => exact ⟨0, by omega, rfl, hide (fun j h => by omega)⟩
                      case round =>
                        obtain ⟨k, hk, rfl, HM⟩ := hrel
                        by_cases hkl : k < s.length
                        · have hka : k < ar.length := by omega
                          obtain ⟨b3, o3, e3, q3⟩ := (unhide HIA).at hka
                          cases e3
                          have hEk : Hid (ar.getD k 0 = ar[k]) := hide (by simp [List.getD_eq_getElem?_getD, hka])
                          have HSK := hide (fun W => small6_any ar[k] W)
                          generalize ar[k] = x at *
                          by_cases hx0 : x = 0
                          · subst hx0
                            have HF := hide (unhide HPN (fun h => by have := (h.mul rfl k hkl).1; simp only [] at this; rw [unhide hEk] at this; exact this rfl))
                            clear HP HPN HIA HM HRX HSK HSN
                            go_wp2
                            go_ret
                            exact ⟨unhide HF, unhide HB2⟩
                          · have d8 : (x == 0) = false := by simpa using hx0
                            cases hux : upM x 1000000 with
                            | false =>
                              have HF := hide (unhide HPN (fun h => by have := (h.mul rfl k hkl).2; simp only [] at this; rw [unhide hEk, hux] at this; cases this))
                              rw [hux] at HSK
                              clear hx0 HP HPN HIA HM HRX HSN hux
                              go_wp2_with (refine (unhide HSK _).mono ?_; rintro e w' ⟨rfl, rfl⟩)
                              go_ret
                              exact ⟨unhide HF, unhide HB2⟩
                            | true =>
                              have HM2 : Hid (∀ j, j < k + 1 → ar.getD j 0 ≠ 0 ∧ upM (ar.getD j 0) 1000000 = true) := hide (fun j hj => by
                                rcases Nat.lt_or_ge j k with h1 | h1
                                · exact unhide HM j h1
                                · obtain rfl : j = k := by omega
                                  rw [unhide hEk]
                                  exact ⟨hx0, hux⟩)
                              rw [hux] at HSK
                              clear hx0 HP HPN HIA HM HRX HSN hux
                              go_wp2_with (refine (unhide HSK _).mono ?_; rintro e w' ⟨rfl, rfl⟩)
                              go_round
                              case rel => exact ⟨k + 1, by omega, by go_num, HM2⟩
                              case measure => simp [intOf]; omega
                        · have HPP := hide (fun (b : Bool) (hb : rowsB doms s [] = b) => unhide HP b ⟨fun h => ⟨unhide HS, show (1 : Int) ≤ 6 by decide, show (6 : Int) ≤ 6 by decide, fun _ => rfl, fun h2 => absurd rfl h2, fun _ => unhide HL, fun _ => by simp only []; rw [unhide hE1]; exact unhide HHW, fun _ => by simp only []; rw [unhide hE2]; exact unhide HU, fun _ j hj => unhide HM j (Nat.lt_of_lt_of_le hj (show s.length ≤ k by omega)), hb.trans h⟩, fun h => hb.symm.trans h.rows⟩)
                          cases hb : rowsB doms s [] with
                          | _ =>
                            rw [hb] at HRX
                            have HPR := hide (unhide HPP _ hb)
                            clear hb HP HPP HPN HIA HM HSN
                            go_wp2_with fail
                            refine (unhide HRX).mono ?_
                            rintro e w3 ⟨rfl, hb3⟩
                            have HB3 := hide ((unhide HB2).trans (hb3.mono (unhide HB2).size))
                            clear hb3
                            go_wp2
                            go_ret
                            exact ⟨unhide HPR, unhide HB3⟩
              · have hg : ((ar.length : Int) != (s.length : Int) + 2) = true := by rw [bne_iff_ne]; omega
                have HF := hide (unhide HPN (fun h => hl (h.alen rfl)))
                clear HP HPN HRW HAR HC k1 k6 kr ka hb2 hl hia
                go_wp2
                go_ret
                exact ⟨unhide HF, unhide HB2⟩
            · have har : ar = [] := Decidable.byContradiction fun h => ka ⟨hk, h⟩
              subst har
              have d4 : (kd != 6) = true := by simpa using hk
              have d5 : (kd == 6) = false := by simpa using hk
              have HRX := hide (unhide HRW w2 hb2 (unhide HIN))
              have HPP := hide (fun (b : Bool) (hb : rowsB doms s ll = b) => unhide HP b ⟨fun h => ⟨unhide HS, by simp only []; omega, by simp only []; omega, fun h2 => Decidable.byContradiction fun h3 => kr ⟨h2, h3⟩, fun _ => rfl, fun h2 => absurd h2 hk, fun h2 => absurd h2 hk, fun h2 => absurd h2 hk, fun h2 => absurd h2 hk, hb.trans h⟩, fun h => hb.symm.trans h.rows⟩)
              cases hb : rowsB doms s ll with
              | _ =>
                rw [hb] at HRX
                have HPR := hide (unhide HPP _ hb)
                by_cases k2 : 2 < kd
                case' pos =>
                  have d3 : decide (2 < kd) = true := by simpa using k2
                  have hll : ll = [] := Decidable.byContradiction fun h => kr ⟨k2, h⟩
                  subst hll
                case' neg =>
                  have d3 : decide (2 < kd) = false := by simpa using k2
                all_goals
                  clear hb HP HPP HRW HAR k1 k6 kr ka hk k2 HC
                  go_wp2_with fail
                  refine (unhide HRX).mono ?_
                  rintro e w3 ⟨rfl, hb3⟩
                  have HB3 := hide ((unhide HB2).trans (hb3.mono (unhide HB2).size))
                  clear hb3
                  go_wp2
                  go_ret
                  exact ⟨unhide HPR, unhide HB3⟩

end Go.Proofs.YtflibcfecnhjgaaDoor

namespace Go.Proofs.YtflibcfecnhjgaaDoor
open Go.RowKit
set_option linter.unusedVariables false
set_option linter.unusedSimpArgs false
set_option maxRecDepth 20000

/-- What a right soft constraint is. -/
structure SoftP (doms : List (List Int)) (c : Sft) : Prop where
  scope : scopeB doms.length c.scope = true
  len : c.costs.length = c.rows.length
  dlo : -1000000000000 ≤ c.dflt
  dhi : c.dflt ≤ 1000000000000
  costs : ∀ i, i < c.costs.length → -1000000000000 ≤ c.costs.getD i 0 ∧ c.costs.getD i 0 ≤ 1000000000000
  rows : rowsB doms c.scope c.rows = true

set_option maxHeartbeats 4000000 in
theorem soft6_any {doms : List (List Int)} {c : Sft} {a0 a1 a2 : Option Addr} {c0 c1 c2 n1 n2 : Nat} {v : Value} {w : World} (hd : Tups w (.slice a0 doms.length c0) doms) (hc : SftV w v c) :
    Calls Tryd.prog 37 #[.agg #[.slice a0 doms.length c0, .slice a1 n1 c1, .slice a2 n2 c2], v] w fun e w' => Asks e (SoftP doms c) ∧ Below w.heap.size w w' := by
  obtain ⟨s, ll, co, df⟩ := c
  obtain ⟨vs, vr, va, rfl, h1, h2, h3⟩ := hc
  simp only [] at h1 h2 h3 ⊢
  obtain ⟨a3, c3, rfl, hl3, hc3⟩ := h1.form
  obtain ⟨a4, c4, rfl, hl4, hc4⟩ := h2.form
  obtain ⟨a5, c5, rfl, hl5, hc5⟩ := h3.form
  unfold maxLen at hc3 hc4 hc5
  have hb0 := ((Below.refl w.heap.size w).alloc (Nat.le_refl _) (.cells #[.slice a0 doms.length c0, .slice a1 n1 c1, .slice a2 n2 c2] 26)).alloc (by simp) (.cells #[.slice a3 s.length c3, .slice a4 ll.length c4, .slice a5 co.length c5, .int .i64 df] 44)
  obtain ⟨W1, hW1⟩ : ∃ W, W = (w.alloc (.cells #[.slice a0 doms.length c0, .slice a1 n1 c1, .slice a2 n2 c2] 26)).alloc (.cells #[.slice a3 s.length c3, .slice a4 ll.length c4, .slice a5 co.length c5, .int .i64 df] 44) := ⟨_, rfl⟩
  have x0 : W1.heap[w.heap.size]? = some (.cells #[.slice a0 doms.length c0, .slice a1 n1 c1, .slice a2 n2 c2] 26) := by
    rw [hW1]; simp only [alloc_at, World.size_alloc]; repeat (first | rw [if_pos True.intro] | rw [if_pos rfl] | rw [if_neg (by omega)])
  have x1 : W1.heap[w.heap.size + 1]? = some (.cells #[.slice a3 s.length c3, .slice a4 ll.length c4, .slice a5 co.length c5, .int .i64 df] 44) := by
    rw [hW1]; simp only [alloc_at, World.size_alloc]; repeat (first | rw [if_pos True.intro] | rw [if_pos rfl] | rw [if_neg (by omega)])
  have hs1 : W1.heap.size = w.heap.size + 2 := by rw [hW1]; simp
  rw [← hW1] at hb0
  have HC := hide (fun W (hb : Below W1.heap.size W1 W) =>
    have e0 : W.heap[w.heap.size]? = some (.cells #[.slice a0 doms.length c0, .slice a1 n1 c1, .slice a2 n2 c2] 26) := by rw [hb.block _ (by omega)]; exact x0
    have e1 : W.heap[w.heap.size + 1]? = some (.cells #[.slice a3 s.length c3, .slice a4 ll.length c4, .slice a5 co.length c5, .int .i64 df] 44) := by rw [hb.block _ (by omega)]; exact x1
    (show (W.cell? ⟨w.heap.size, 0, none⟩ = some (.slice a0 doms.length c0) ∧ W.cell? ⟨w.heap.size, 1, none⟩ = some (.slice a1 n1 c1) ∧ W.cell? ⟨w.heap.size, 2, none⟩ = some (.slice a2 n2 c2)) ∧ W.cell? ⟨w.heap.size + 1, 0, none⟩ = some (.slice a3 s.length c3) ∧ W.cell? ⟨w.heap.size + 1, 1, none⟩ = some (.slice a4 ll.length c4) ∧ W.cell? ⟨w.heap.size + 1, 2, none⟩ = some (.slice a5 co.length c5) ∧ W.cell? ⟨w.heap.size + 1, 3, none⟩ = some (.int .i64 df) from by
      refine ⟨⟨?_, ?_, ?_⟩, ?_, ?_, ?_, ?_⟩ <;> (unfold World.cell?; first | (rw [e0]; rfl) | (rw [e1]; rfl))))
  have HSC := hide (scope6_any (nd := doms.length) (a0 := a0) (a1 := a1) (a2 := a2) (c0 := c0) (c1 := c1) (c2 := c2) (n1 := n1) (n2 := n2) (h1.below hb0))
  have HRW := hide (fun W (hb : Below W1.heap.size W1 W) (hin : ∀ x ∈ s, 0 ≤ x ∧ x < (doms.length : Int)) => rows6_any (a1 := a1) (a2 := a2) (c1 := c1) (c2 := c2) (n1 := n1) (n2 := n2) ((hd.below hb0).below hb) ((h1.below hb0).below hb) ((h2.below hb0).below hb) hin)
  have HAR := hide (fun W (hb : Below W1.heap.size W1 W) => (h3.below hb0).below hb)
  have HB := hide hb0
  have HW1 := hide hW1
  have HP : Hid (∀ b : Bool, (b = true ↔ SoftP doms ⟨s, ll, co, df⟩) → Asks (.returned (.bool b)) (SoftP doms ⟨s, ll, co, df⟩)) := hide (fun b h => ⟨b, rfl, h⟩)
  have HPN := hide (fun (h : ¬ SoftP doms ⟨s, ll, co, df⟩) => unhide HP false ⟨fun h' => Bool.noConfusion h', fun h' => (h h').elim⟩)
  clear hd h1 h2 h3 hb0 x0 x1 hs1 hW1
  go_enter Tryd.func37, Tryd.ntmps37
  obtain ⟨⟨y0, y1, y2⟩, y3, y4, y5, y6⟩ := unhide HC W1 (Below.refl _ _)
  go_wp2_with fail
  rw [← unhide HW1]
  refine (unhide HSC).mono ?_
  rintro e w2 ⟨rfl, hb2⟩
  clear y0 y1 y2 y3 y4 y5 y6 HSC HW1
  obtain ⟨⟨y0, y1, y2⟩, y3, y4, y5, y6⟩ := unhide HC w2 hb2
  have HB2 := hide ((unhide HB).trans (hb2.mono (unhide HB).size))
  cases hs : scopeB doms.length s with
  | false =>
    have HF := hide (unhide HPN (fun h => by have := h.scope; simp only [] at this; rw [hs] at this; cases this))
    clear hs HP HPN HRW HAR hb2 HC
    go_wp2
    go_ret
    exact ⟨unhide HF, unhide HB2⟩
  | true =>
    obtain ⟨hin, hsl1, hsl6, _⟩ := scopeB_in hs
    have HIN := hide hin
    have HS := hide hs
    clear hs hin
    by_cases hl : co.length = ll.length
    · have d1 : ((co.length : Int) != (ll.length : Int)) = false := by rw [bne_eq_false_iff_eq]; omega
      by_cases k1 : df < -1000000000000
      · have HF := hide (unhide HPN (fun h => by have := h.dlo; simp only [] at this; omega))
        have d2 : decide (df < -1000000000000) = true := by simpa using k1
        clear HP HPN HRW HAR hb2 HC k1 hl
        go_wp2
        go_ret
        exact ⟨unhide HF, unhide HB2⟩
      · have d2 : decide (df < -1000000000000) = false := by simpa using k1
        by_cases k2 : 1000000000000 < df
        · have HF := hide (unhide HPN (fun h => by have := h.dhi; simp only [] at this; omega))
          have d3 : decide (1000000000000 < df) = true := by simpa using k2
          clear HP HPN HRW HAR hb2 HC k1 k2 hl
          go_wp2
          go_ret
          exact ⟨unhide HF, unhide HB2⟩
        · have d3 : decide (1000000000000 < df) = false := by simpa using k2
          have hia := unhide HAR w2 hb2
          have HIA := hide hia
          have HRX := hide (unhide HRW w2 hb2 (unhide HIN))
          have HL := hide hl
          have HD : Hid (-1000000000000 ≤ df ∧ df ≤ 1000000000000) := hide (by omega)
          clear HRW HAR hb2 HC k1 k2 hl hia
          go_wp2
          go_loop [6] (fun i => ∃ k : Nat, k ≤ co.length ∧ i = .int .i64 k ∧ Hid (∀ j, j < k → -1000000000000 ≤ co.getD j 0 ∧ co.getD j 0 ≤ 1000000000000)) (fun i => co.length - (intOf i).toNat)
          case atStart => exact ⟨0, by omega, rfl, hide (fun j h => by omega)⟩
          case round =>
            obtain ⟨k, hk, rfl, HM⟩ := hrel
            by_cases hkl : k < co.length
            · obtain ⟨b3, o3, e3, q3⟩ := (unhide HIA).at hkl
              subst e3
              have hEk : Hid (co.getD k 0 = co[k]) := hide (by simp [List.getD_eq_getElem?_getD, hkl])
              generalize co[k] = x at *
              by_cases g1 : x < -1000000000000
              · have d4 : decide (x < -1000000000000) = true := by simpa using g1
                have HF := hide (unhide HPN (fun h => by have := (h.costs k hkl).1; simp only [] at this; rw [unhide hEk] at this; omega))
                clear HP HPN HIA HM HRX g1
                go_wp2
                go_ret
                exact ⟨unhide HF, unhide HB2⟩
              · have d4 : decide (x < -1000000000000) = false := by simpa using g1
                by_cases g2 : 1000000000000 < x
                · have d5 : decide (1000000000000 < x) = true := by simpa using g2
                  have HF := hide (unhide HPN (fun h => by have := (h.costs k hkl).2; simp only [] at this; rw [unhide hEk] at this; omega))
                  clear HP HPN HIA HM HRX g1 g2
                  go_wp2
                  go_ret
                  exact ⟨unhide HF, unhide HB2⟩
                · have d5 : decide (1000000000000 < x) = false := by simpa using g2
                  have HM2 : Hid (∀ j, j < k + 1 → -1000000000000 ≤ co.getD j 0 ∧ co.getD j 0 ≤ 1000000000000) := hide (fun j hj => by
                    rcases Nat.lt_or_ge j k with h1 | h1
                    · exact unhide HM j h1
                    · obtain rfl : j = k := by omega
                      rw [unhide hEk]; omega)
                  clear HP HPN HIA HM HRX g1 g2
                  go_wp2
                  go_round
                  case rel => exact ⟨k + 1, by omega, by go_num, HM2⟩
                  case measure => simp [intOf]; omega
            · have HPP := hide (fun (b : Bool) (hb : rowsB doms s ll = b) => unhide HP b ⟨fun h => ⟨unhide HS, unhide HL, (unhide HD).1, (unhide HD).2, fun j hj => unhide HM j (Nat.lt_of_lt_of_le hj (show co.length ≤ k by omega)), hb.trans h⟩, fun h => hb.symm.trans h.rows⟩)
              cases hb : rowsB doms s ll with
              | _ =>
                rw [hb] at HRX
                have HPR := hide (unhide HPP _ hb)
                clear hb HP HPP HPN HIA HM
                go_wp2_with fail
                refine (unhide HRX).mono ?_
                rintro e w3 ⟨rfl, hb3⟩
                have HB3 := hide ((unhide HB2).trans (hb3.mono (unhide HB2).size))
                clear hb3
                go_wp2
                go_ret
                exact ⟨unhide HPR, unhide HB3⟩
    · have d1 : ((co.length : Int) != (ll.length : Int)) = true := by rw [bne_iff_ne]; omega
      have HF := hide (unhide HPN (fun h => hl h.len))
      clear HP HPN HRW HAR hb2 HC hl
      go_wp2
      go_ret
      exact ⟨unhide HF, unhide HB2⟩

end Go.Proofs.YtflibcfecnhjgaaDoor

namespace Go.Proofs.YtflibcfecnhjgaaDoor
open Go.RowKit
set_option linter.unusedVariables false
set_option linter.unusedSimpArgs false
set_option maxRecDepth 20000

structure DomP (d : List Int) : Prop where
  lo : 1 ≤ d.length
  hi : d.length ≤ 16
  rise : risB d = true
  first : upM (d.getD 0 0) 1000000 = true
  last : upM (d.getD (d.length - 1) 0) 1000000 = true

structure RightP (x : Ins) : Prop where
  nd : x.doms.length ≤ 40
  nh : x.hard.length ≤ 200
  ns : x.soft.length ≤ 200
  doms : ∀ i (h : i < x.doms.length), DomP x.doms[i]
  hard : ∀ i (h : i < x.hard.length), HardP x.doms x.hard[i]
  soft : ∀ i (h : i < x.soft.length), SoftP x.doms x.soft[i]

set_option maxHeartbeats 4000000 in
theorem right6_any {x : Ins} {v : Value} {w : World} (h : InsV w v x) :
    Calls Tryd.prog 11 #[v] w fun e w' => Asks e (RightP x) ∧ Below w.heap.size w w' := by
  obtain ⟨ds, hs, ss⟩ := x
  obtain ⟨vd, vh, vs, rfl, h1, h2, h3⟩ := h
  simp only [] at h1 h2 h3 ⊢
  obtain ⟨a0, c0, rfl, hl3, hc3⟩ := h1.form
  obtain ⟨a1, c1, rfl, hl4, hc4⟩ := h2.form
  obtain ⟨a2, c2, rfl, hl5, hc5⟩ := h3.form
  unfold maxLen at hc3 hc4 hc5
  have hb0 := (Below.refl w.heap.size w).alloc (Nat.le_refl _) (.cells #[.slice a0 ds.length c0, .slice a1 hs.length c1, .slice a2 ss.length c2] 26)
  obtain ⟨W1, hW1⟩ : ∃ W, W = w.alloc (.cells #[.slice a0 ds.length c0, .slice a1 hs.length c1, .slice a2 ss.length c2] 26) := ⟨_, rfl⟩
  have x0 : W1.heap[w.heap.size]? = some (.cells #[.slice a0 ds.length c0, .slice a1 hs.length c1, .slice a2 ss.length c2] 26) := by
    rw [hW1]; exact heap_alloc_new _ _
  have hs1 : W1.heap.size = w.heap.size + 1 := by rw [hW1]; simp
  rw [← hW1] at hb0
  have HC := hide (fun W (hb : Below W1.heap.size W1 W) =>
    have e0 : W.heap[w.heap.size]? = some (.cells #[.slice a0 ds.length c0, .slice a1 hs.length c1, .slice a2 ss.length c2] 26) := by rw [hb.block _ (by omega)]; exact x0
    (show W.cell? ⟨w.heap.size, 0, none⟩ = some (.slice a0 ds.length c0) ∧ W.cell? ⟨w.heap.size, 1, none⟩ = some (.slice a1 hs.length c1) ∧ W.cell? ⟨w.heap.size, 2, none⟩ = some (.slice a2 ss.length c2) from by
      refine ⟨?_, ?_, ?_⟩ <;> (unfold World.cell?; rw [e0]; rfl)))
  have HD := hide (h1.below hb0)
  have HH := hide (h2.below hb0)
  have HS := hide (h3.below hb0)
  have HB := hide hb0
  have HW1 := hide hW1
  have HP : Hid (∀ b : Bool, (b = true ↔ RightP ⟨ds, hs, ss⟩) → Asks (.returned (.bool b)) (RightP ⟨ds, hs, ss⟩)) := hide (fun b h => ⟨b, rfl, h⟩)
  have HPN := hide (fun (h : ¬ RightP ⟨ds, hs, ss⟩) => unhide HP false ⟨fun h' => Bool.noConfusion h', fun h' => (h h').elim⟩)
  obtain ⟨y0, y1, y2⟩ := unhide HC W1 (Below.refl _ _)
  clear h1 h2 h3 hb0 x0 hs1
  go_enter Tryd.func11, Tryd.ntmps11
  by_cases n1 : 40 < ds.length
  · have d1 : decide ((40 : Int) < (ds.length : Int)) = true := by simp; omega
    have HF := hide (unhide HPN (fun h => by have := h.nd; simp only [] at this; omega))
    clear HP HPN HC HD HH HS HW1 y0 y1 y2
    subst hW1
    go_wp2
    go_ret
    exact ⟨unhide HF, unhide HB⟩
  · have d1 : decide ((40 : Int) < (ds.length : Int)) = false := by simp; omega
    by_cases n2 : 200 < hs.length
    · have d2 : decide ((200 : Int) < (hs.length : Int)) = true := by simp; omega
      have HF := hide (unhide HPN (fun h => by have := h.nh; simp only [] at this; omega))
      clear HP HPN HC HD HH HS HW1 y0 y1 y2
      subst hW1
      go_wp2
      go_ret
      exact ⟨unhide HF, unhide HB⟩
    · have d2 : decide ((200 : Int) < (hs.length : Int)) = false := by simp; omega
      by_cases n3 : 200 < ss.length
      · have d3 : decide ((200 : Int) < (ss.length : Int)) = true := by simp; omega
        have HF := hide (unhide HPN (fun h => by have := h.ns; simp only [] at this; omega))
        clear HP HPN HC HD HH HS HW1 y0 y1 y2
        subst hW1
        go_wp2
        go_ret
        exact ⟨unhide HF, unhide HB⟩
      · have d3 : decide ((200 : Int) < (ss.length : Int)) = false := by simp; omega
        clear hW1 y0 y1 y2
        go_wp2
        rw [← unhide HW1]
        clear HW1
        go_loopw [3, 4] (fun i _ wr => ∃ k n : Nat, k ≤ ds.length ∧ i = .int .i64 k ∧ wr = W1.drewN n ∧ Hid (∀ j (h : j < ds.length), j < k → DomP ds[j])) (fun i _ _ => ds.length - (intOf i).toNat)
        case atStart => exact ⟨0, 0, by omega, rfl, rfl, hide (fun j h h' => by omega)⟩
        case round =>
          obtain ⟨k, n, hk, rfl, rfl, HM⟩ := hrel
          obtain ⟨y0, y1, y2⟩ := unhide HC W1 (Below.refl _ _)
          by_cases hkl : k < ds.length
          · obtain ⟨bl, ol, ul, e1, hcl, hiL⟩ := (unhide HD).at hkl
            subst e1
            obtain ⟨ia, ic, rfl, hil, hic⟩ := hiL.form
            unfold maxLen at hic
            have HNO := hide (fun (h : ¬ DomP ds[k]) => unhide HPN (fun hr => h (hr.doms k hkl)))
            have HYES := hide (fun (h : DomP ds[k]) => show ∀ j (h : j < ds.length), j < k + 1 → DomP ds[j] from fun j hj hjk => by
              rcases Nat.lt_or_ge j k with h1 | h1
              · exact unhide HM j hj h1
              · obtain rfl : j = k := by omega
                exact h)
            generalize ds[k] = d at *
            by_cases g1 : d.length < 1
            · have f1 : decide ((d.length : Int) < 1) = true := by simp; omega
              have HF := hide (unhide HNO (fun h => by have := h.lo; omega))
              clear HP HPN HC HH HS HM HNO HYES hiL g1
              go_wp2
              go_ret
              exact ⟨unhide HF, Below.drewN1 (unhide HB) _⟩
            · have f1 : decide ((d.length : Int) < 1) = false := by simp; omega
              by_cases g2 : 16 < d.length
              · have f2 : decide ((16 : Int) < (d.length : Int)) = true := by simp; omega
                have HF := hide (unhide HNO (fun h => by have := h.hi; omega))
                clear HP HPN HC HH HS HM HNO HYES hiL g1
                go_wp2
                go_ret
                exact ⟨unhide HF, Below.drewN1 (unhide HB) _⟩
              · have f2 : decide ((16 : Int) < (d.length : Int)) = false := by simp; omega
                have HRS := hide (fun n => refRising_any (Seq.drewN hiL n))
                cases hr : risB d with
                | false =>
                  rw [hr] at HRS
                  have HF := hide (unhide HNO (fun h => by have := h.rise; rw [hr] at this; cases this))
                  clear HP HPN HC HH HS HM HNO HYES hiL g1 hr
                  go_wp2_with (refine (unhide HRS _).mono ?_; rintro e w' ⟨rfl, m1, rfl⟩)
                  go_ret
                  exact ⟨unhide HF, by first | exact Below.drewN1 (unhide HB) _ | (simp only [World.drewN_drewN]; exact Below.drewN1 (unhide HB) _)⟩
                | true =>
                  rw [hr] at HRS
                  have p0 : 0 < d.length := by omega
                  obtain ⟨m, hm⟩ : ∃ m, d.length = m + 1 := ⟨d.length - 1, by omega⟩
                  have p1 : m < d.length := by omega
                  obtain ⟨b3, o3, e3, q3⟩ := hiL.at p0
                  obtain ⟨b4, o4, e4, q4⟩ := hiL.at p1
                  rw [e3] at e4
                  cases e4
                  subst e3
                  rw [Nat.add_zero] at q3
                  have E1 : Hid (d.getD 0 0 = d[0]) := hide (by simp [List.getD_eq_getElem?_getD, p0])
                  have E2 : Hid (d.getD (d.length - 1) 0 = d[m]) := hide (by rw [hm, Nat.add_sub_cancel]; simp [List.getD_eq_getElem?_getD, p1])
                  have S1 := hide (fun W => small6_any d[0] W)
                  have S2 := hide (fun W => small6_any d[m] W)
                  generalize d[0] = z1 at *
                  generalize d[m] = z2 at *
                  have HR := hide hr
                  have HL : Hid (1 ≤ d.length ∧ d.length ≤ 16) := hide (by omega)
                  rw [hm] at HRS hcl
                  have hm16 : m < 16 := by omega
                  have f1' : decide ((m : Int) + 1 < 1) = false := by simp; omega
                  have f2' : decide ((16 : Int) < (m : Int) + 1) = false := by simp; omega
                  clear f1 f2
                  cases u1 : upM z1 1000000 with
                  | false =>
                    rw [u1] at S1
                    have HF := hide (unhide HNO (fun h => by have := h.first; rw [unhide E1, u1] at this; cases this))
                    clear HP HPN HC HH HS HM HNO HYES hiL g1 g2 hr HR HL u1 S2 hm hil
                    go_wp2_with fail
                    refine (unhide HRS _).mono ?_
                    rintro e w' ⟨rfl, m1, rfl⟩
                    go_wp2_with fail
                    refine (unhide S1 _).mono ?_
                    rintro e w' ⟨rfl, rfl⟩
                    go_wp2
                    go_ret
                    exact ⟨unhide HF, by first | exact Below.drewN1 (unhide HB) _ | (simp only [World.drewN_drewN]; exact Below.drewN1 (unhide HB) _)⟩
                  | true =>
                    rw [u1] at S1
                    cases u2 : upM z2 1000000 with
                    | false =>
                      rw [u2] at S2
                      have HF := hide (unhide HNO (fun h => by have := h.last; rw [unhide E2, u2] at this; cases this))
                      clear HP HPN HC HH HS HM HNO HYES hiL g1 g2 hr HR HL u1 u2 hm hil
                      go_wp2_with fail
                      refine (unhide HRS _).mono ?_
                      rintro e w' ⟨rfl, m1, rfl⟩
                      go_wp2_with fail
                      refine (unhide S1 _).mono ?_
                      rintro e w' ⟨rfl, rfl⟩
                      go_wp2_with fail
                      refine (unhide S2 _).mono ?_
                      rintro e w' ⟨rfl, rfl⟩
                      go_wp2
                      go_ret
                      exact ⟨unhide HF, by first | exact Below.drewN1 (unhide HB) _ | (simp only [World.drewN_drewN]; exact Below.drewN1 (unhide HB) _)⟩
                    | true =>
                      rw [u2] at S2
                      have HM2 := hide (unhide HYES ⟨(unhide HL).1, (unhide HL).2, unhide HR, by rw [unhide E1]; exact u1, by rw [unhide E2]; exact u2⟩)
                      clear HP HPN HC HH HS HM HNO HYES hiL g1 g2 hr HR HL u1 u2 hm hil E1 E2
                      go_wp2_with fail
                      refine (unhide HRS _).mono ?_
                      rintro e w' ⟨rfl, m1, rfl⟩
                      go_wp2_with fail
                      refine (unhide S1 _).mono ?_
                      rintro e w' ⟨rfl, rfl⟩
                      go_wp2_with fail
                      refine (unhide S2 _).mono ?_
                      rintro e w' ⟨rfl, rfl⟩
                      go_wp2
                      go_roundw
                      case rel => exact ⟨k + 1, _, by omega, by go_num, by first | rfl | (simp only [World.drewN_drewN]; rfl), HM2⟩
                      case measure => simp [intOf]; omega
          · have hke : k = ds.length := by omega
            subst hke
            have HDM := hide (fun j hj => unhide HM j hj hj)
            clear HM HPN y0 y1 y2 hkl
            have hbn := Below.drewN W1 n
            have y1 := (unhide HC _ hbn).2.1
            have y2 := (unhide HC _ hbn).2.2
            have y0 := (unhide HC _ hbn).1
            go_wp2
            go_loopw [5, 6, 7] (fun ok i _ wq => ∃ (B : Bool) (j : Nat), j ≤ hs.length ∧ i = .int .i64 j ∧ ok = .bool B ∧ Below W1.heap.size W1 wq ∧ Hid (B = true ↔ ∀ p (h : p < hs.length), p < j → HardP ds hs[p])) (fun _ i _ _ => hs.length - (intOf i).toNat)
            case atStart => exact ⟨true, 0, by omega, rfl, rfl, hbn, hide ⟨fun _ p h h' => by omega, fun _ => rfl⟩⟩
            case round =>
              clear hbn y0 y1 y2
              obtain ⟨B, j, hj, rfl, rfl, hbq, HQ⟩ := hrel
              rename World => wq
              obtain ⟨y0, y1, y2⟩ := unhide HC wq hbq
              by_cases hjl : j < hs.length
              · obtain ⟨b5, o5, X, Y, Z, e5, q0, q1, q2, q3, r1, r2, r3⟩ := (unhide HH).at hjl
                subst e5
                obtain ⟨xa, xc, rfl, _, _⟩ := r1.form
                obtain ⟨ya, yc, rfl, _, _⟩ := r2.form
                obtain ⟨za, zc, rfl, _, _⟩ := r3.form
                have HCL := hide (fun W (hb : Below W1.heap.size W1 W) => hard6_any (c := hs[j]) (a1 := (some ⟨b5, o5, none⟩)) (a2 := a2) (c1 := c1) (c2 := c2) (n1 := hs.length) (n2 := ss.length) ((unhide HD).below hb) (v := .agg #[.int .i64 hs[j].kind, .slice xa hs[j].scope.length xc, .slice ya hs[j].rows.length yc, .slice za hs[j].args.length zc]) ⟨_, _, _, rfl, r1.below hb, r2.below hb, r3.below hb⟩)
                have HNX := hide (fun (bb : Bool) (hbb : bb = true ↔ HardP ds hs[j]) => show (B && bb) = true ↔ ∀ p (h : p < hs.length), p < j + 1 → HardP ds hs[p] from by
                  rw [Bool.and_eq_true, unhide HQ, hbb]
                  constructor
                  · rintro ⟨g1, g2⟩
                    refine fun p hp hpj => ?_
                    rcases Nat.lt_or_ge p j with h1 | h1
                    · exact g1 p hp h1
                    · obtain rfl : p = j := by omega
                      exact g2
                  · exact fun g => ⟨fun p hp hpj => g p hp (by omega), g j hjl (by omega)⟩)
                have HK := hide (fun W (hb : Below W1.heap.size W1 W) => And.intro (unhide HC W hb) (And.intro (Below.cell_of hb q0) (And.intro (Below.cell_of hb q1) (And.intro (Below.cell_of hb q2) (Below.cell_of hb q3)))))
                generalize hs[j].scope.length = t1 at *
                generalize hs[j].rows.length = t2 at *
                generalize hs[j].args.length = t3 at *
                clear q0 q1 q2 q3 r1 r2 r3 HQ
                go_wp2
                go_region_held3 (fun W => (W.cell? ⟨w.heap.size, 0, none⟩ = some (.slice a0 ds.length c0) ∧ W.cell? ⟨w.heap.size, 1, none⟩ = some (.slice (some ⟨b5, o5, none⟩) hs.length c1) ∧ W.cell? ⟨w.heap.size, 2, none⟩ = some (.slice a2 ss.length c2)) ∧ W.cell? ⟨b5, o5 + j * 4, none⟩ = some (.int .i64 hs[j].kind) ∧ W.cell? ⟨b5, o5 + j * 4 + 1, none⟩ = some (.slice xa t1 xc) ∧ W.cell? ⟨b5, o5 + j * 4 + 2, none⟩ = some (.slice ya t2 yc) ∧ W.cell? ⟨b5, o5 + j * 4 + 3, none⟩ = some (.slice za t3 zc))
                  (first | exact unhide HK _ (by first | exact hB9 | exact hbq | exact hbq.drew))
                  (first | (go_at_call 36; refine (unhide HCL _ (by first | exact hbq | exact hbq.drew)).mono ?_; rintro e w9 ⟨⟨bb, rfl, hbb⟩, hb9⟩; have hB9 : Below W1.heap.size W1 w9 := hbq.trans (Below.mono (show Below wq.heap.size wq w9 from ⟨hb9.os, hb9.tape, hb9.output, hb9.size, hb9.block⟩) hbq.size)))
                have HQ2 := hide (unhide HNX bb hbb)
                clear HNX hbb
                cases B <;> cases bb
                all_goals
                  go_wp2
                  go_roundw
                  case rel => exact ⟨_, j + 1, by omega, by go_num, rfl, hB9, by simpa using HQ2⟩
                  case measure => simp [intOf]; omega
              · have hje : j = hs.length := by omega
                subst hje
                have HQH : Hid (B = true ↔ ∀ p (h : p < hs.length), HardP ds hs[p]) := hide ((unhide HQ).trans ⟨fun g p hp => g p hp hp, fun g p hp _ => g p hp⟩)
                clear HQ HH hjl
                go_wp2
                go_loopw [5, 8, 9] (fun ok i _ wq => ∃ (B : Bool) (j : Nat), j ≤ ss.length ∧ i = .int .i64 j ∧ ok = .bool B ∧ Below W1.heap.size W1 wq ∧ Hid (B = true ↔ (∀ p (h : p < hs.length), HardP ds hs[p]) ∧ ∀ p (h : p < ss.length), p < j → SoftP ds ss[p])) (fun _ i _ _ => ss.length - (intOf i).toNat)
                case atStart => exact ⟨B, 0, by omega, rfl, rfl, hbq, hide ((unhide HQH).trans ⟨fun g => ⟨g, fun p h h' => by omega⟩, fun g => g.1⟩)⟩
                case round =>
                  clear hbq HQH y0 y1 y2
                  obtain ⟨B, j, hj, rfl, rfl, hbq, HQ⟩ := hrel
                  rename World => wq
                  obtain ⟨y0, y1, y2⟩ := unhide HC wq hbq
                  by_cases hjl : j < ss.length
                  · obtain ⟨b5, o5, X, Y, Z, e5, q0, q1, q2, q3, r1, r2, r3⟩ := (unhide HS).at hjl
                    subst e5
                    obtain ⟨xa, xc, rfl, _, _⟩ := r1.form
                    obtain ⟨ya, yc, rfl, _, _⟩ := r2.form
                    obtain ⟨za, zc, rfl, _, _⟩ := r3.form
                    have HCL := hide (fun W (hb : Below W1.heap.size W1 W) => soft6_any (c := ss[j]) (a1 := a1) (a2 := (some ⟨b5, o5, none⟩)) (c1 := c1) (c2 := c2) (n1 := hs.length) (n2 := ss.length) ((unhide HD).below hb) (v := .agg #[.slice xa ss[j].scope.length xc, .slice ya ss[j].rows.length yc, .slice za ss[j].costs.length zc, .int .i64 ss[j].dflt]) ⟨_, _, _, rfl, r1.below hb, r2.below hb, r3.below hb⟩)
                    have HNX := hide (fun (bb : Bool) (hbb : bb = true ↔ SoftP ds ss[j]) => show (B && bb) = true ↔ (∀ p (h : p < hs.length), HardP ds hs[p]) ∧ ∀ p (h : p < ss.length), p < j + 1 → SoftP ds ss[p] from by
                      rw [Bool.and_eq_true, unhide HQ, hbb]
                      constructor
                      · rintro ⟨g1, g2⟩
                        refine ⟨g1.1, fun p hp hpj => ?_⟩
                        rcases Nat.lt_or_ge p j with h1 | h1
                        · exact g1.2 p hp h1
                        · obtain rfl : p = j := by omega
                          exact g2
                      · exact fun g => ⟨⟨g.1, fun p hp hpj => g.2 p hp (by omega)⟩, g.2 j hjl (by omega)⟩)
                    have HK := hide (fun W (hb : Below W1.heap.size W1 W) => And.intro (unhide HC W hb) (And.intro (Below.cell_of hb q0) (And.intro (Below.cell_of hb q1) (And.intro (Below.cell_of hb q2) (Below.cell_of hb q3)))))
                    generalize ss[j].scope.length = t1 at *
                    generalize ss[j].rows.length = t2 at *
                    generalize ss[j].costs.length = t3 at *
                    clear q0 q1 q2 q3 r1 r2 r3 HQ
                    go_wp2
                    go_region_held3 (fun W => (W.cell? ⟨w.heap.size, 0, none⟩ = some (.slice a0 ds.length c0) ∧ W.cell? ⟨w.heap.size, 1, none⟩ = some (.slice a1 hs.length c1) ∧ W.cell? ⟨w.heap.size, 2, none⟩ = some (.slice (some ⟨b5, o5, none⟩) ss.length c2)) ∧ W.cell? ⟨b5, o5 + j * 4, none⟩ = some (.slice xa t1 xc) ∧ W.cell? ⟨b5, o5 + j * 4 + 1, none⟩ = some (.slice ya t2 yc) ∧ W.cell? ⟨b5, o5 + j * 4 + 2, none⟩ = some (.slice za t3 zc) ∧ W.cell? ⟨b5, o5 + j * 4 + 3, none⟩ = some (.int .i64 ss[j].dflt))
                      (first | exact unhide HK _ (by first | exact hB9 | exact hbq | exact hbq.drew))
                      (first | (go_at_call 37; refine (unhide HCL _ (by first | exact hbq | exact hbq.drew)).mono ?_; rintro e w9 ⟨⟨bb, rfl, hbb⟩, hb9⟩; have hB9 : Below W1.heap.size W1 w9 := hbq.trans (Below.mono (show Below wq.heap.size wq w9 from ⟨hb9.os, hb9.tape, hb9.output, hb9.size, hb9.block⟩) hbq.size)))
                    have HQ2 := hide (unhide HNX bb hbb)
                    clear HNX hbb
                    cases B <;> cases bb
                    all_goals
                      go_wp2
                      go_roundw
                      case rel => exact ⟨_, j + 1, by omega, by go_num, rfl, hB9, by simpa using HQ2⟩
                      case measure => simp [intOf]; omega
                  · have hje : j = ss.length := by omega
                    subst hje
                    have HFin := hide (unhide HP B ((unhide HQ).trans ⟨fun g => ⟨by simp only []; omega, by simp only []; omega, by simp only []; omega, unhide HDM, g.1, fun p hp => g.2 p hp hp⟩, fun g => ⟨g.hard, fun p hp _ => g.soft p hp⟩⟩))
                    have HBf := hide ((unhide HB).trans (hbq.mono (unhide HB).size))
                    clear HQ HS hjl HP
                    go_wp2
                    go_ret
                    exact ⟨unhide HFin, unhide HBf⟩

end Go.Proofs.YtflibcfecnhjgaaDoor

namespace Go.Proofs.YtflibcfecnhjgaaDoor
open Go.RowKit
set_option linter.unusedVariables false
set_option linter.unusedSimpArgs false
set_option maxRecDepth 20000

/-- All scopes of an instance. -/
def scopesL (x : Ins) : List (List Int) := x.hard.map (·.scope) ++ x.soft.map (·.scope)

theorem scopes_in {x : Ins} (h : RightP x) : ∀ l ∈ scopesL x, ∀ a ∈ l, 0 ≤ a ∧ a < (x.doms.length : Int) := by
  intro l hl
  unfold scopesL at hl
  rcases List.mem_append.1 hl with hl | hl
  · obtain ⟨c, hc, rfl⟩ := List.mem_map.1 hl
    obtain ⟨i, hi, rfl⟩ := List.getElem_of_mem hc
    exact (scopeB_in (h.hard i hi).scope).1
  · obtain ⟨c, hc, rfl⟩ := List.mem_map.1 hl
    obtain ⟨i, hi, rfl⟩ := List.getElem_of_mem hc
    exact (scopeB_in (h.soft i hi).scope).1

set_option maxHeartbeats 4000000 in
theorem refPrimal_any {x : Ins} {v : Value} {w : World} (h : InsV w v x) (hP : RightP x) :
    Calls Tryd.prog 14 #[v] w fun e w' => ∃ u M bs, e = .returned u ∧ OwnMat w.heap.size w' u M.length M bs ∧ PrimM x.doms.length (scopesL x) M ∧ Below w.heap.size w w' := by
  obtain ⟨vd, vh, vs, rfl, h1, h2, h3⟩ := h
  obtain ⟨a0, c0, rfl, hl0, hc0⟩ := h1.form
  obtain ⟨a1, c1, rfl, hl1, hc1⟩ := h2.form
  obtain ⟨a2, c2, rfl, hl2, hc2⟩ := h3.form
  unfold maxLen at hc0 hc1 hc2
  obtain ⟨W1, hW1⟩ : ∃ W, W = w.alloc (.cells #[.slice a0 x.doms.length c0, .slice a1 x.hard.length c1, .slice a2 x.soft.length c2] 26) := ⟨_, rfl⟩
  have hb0 : Below w.heap.size w W1 := by rw [hW1]; exact (Below.refl _ _).alloc (Nat.le_refl _) _
  have hz1 : W1.heap.size = w.heap.size + 1 := by rw [hW1]; simp
  have x0 : W1.heap[w.heap.size]? = some (.cells #[.slice a0 x.doms.length c0, .slice a1 x.hard.length c1, .slice a2 x.soft.length c2] 26) := by
    rw [hW1]; exact heap_alloc_new _ _
  have HX := hide (fun W (hb : Below W1.heap.size W1 W) =>
    have e0 : W.heap[w.heap.size]? = some (.cells #[.slice a0 x.doms.length c0, .slice a1 x.hard.length c1, .slice a2 x.soft.length c2] 26) := by rw [hb.block _ (by omega)]; exact x0
    (show W.cell? ⟨w.heap.size, 0, none⟩ = some (.slice a0 x.doms.length c0) ∧ W.cell? ⟨w.heap.size, 1, none⟩ = some (.slice a1 x.hard.length c1) ∧ W.cell? ⟨w.heap.size, 2, none⟩ = some (.slice a2 x.soft.length c2) from by
      refine ⟨?_, ?_, ?_⟩ <;> (unfold World.cell?; rw [e0]; rfl)))
  have HH := hide (h2.below hb0)
  have HS := hide (h3.below hb0)
  have HB := hide hb0
  have HW1 := hide hW1
  have HP := hide hP
  have hnd := hP.nd
  obtain ⟨y0, y1, y2⟩ := unhide HX W1 (Below.refl _ _)
  obtain ⟨n, hn⟩ : ∃ n, n = x.doms.length := ⟨_, rfl⟩
  rw [← hn] at hl0 hnd y0 HX ⊢
  have HN := hide hn
  have HE := hide (empty_any n (by omega) W1)
  rw [← hn] at HW1
  clear h1 h2 h3 hb0 x0 hW1 hP hn
  go_enter Tryd.func14, Tryd.ntmps14
  go_wp2_with fail
  rw [← unhide HW1]
  go_wp2_with fail
  refine (unhide HE).mono ?_
  rintro e w2 ⟨u, bs, rfl, hown, hb2⟩
  have hp0 := PrimM.nil n
  have hlen0 := hp0.len
  obtain ⟨au, cu, rfl, hul, hum⟩ := hown.form
  unfold maxLen at hum
  rw [hlen0] at hown hul ⊢
  obtain ⟨y0, y1, y2⟩ := unhide HX w2 hb2
  have HPM := hide (show PrimM n ((x.hard.take 0).map (·.scope)) (falses n n) from hp0)
  have HO := hide hown
  have HB2 := hide hb2
  clear HE HW1 hown hb2 hp0 hlen0
  go_wp2
  go_loopw [4] (fun i wr => ∃ (k : Nat) (M : List (List Bool)), k ≤ x.hard.length ∧ i = .int .i64 k ∧ OwnMat W1.heap.size wr (.slice au n cu) n M bs ∧ Hid (PrimM n ((x.hard.take k).map (·.scope)) M) ∧ Below W1.heap.size W1 wr) (fun i _ => x.hard.length - (intOf i).toNat)
  case atStart => exact ⟨0, _, by omega, rfl, unhide HO, HPM, unhide HB2⟩
  case round =>
    clear HO HB2 HPM y0 y1 y2
    obtain ⟨k, M, hk, rfl, hown, HPM, hbel⟩ := hrel
    rename World => wr
    obtain ⟨y0, y1, y2⟩ := unhide HX wr hbel
    have hML := (unhide HPM).len
    by_cases hkl : k < x.hard.length
    · obtain ⟨bh, oh, u1, u2, u3, rfl, k0, k1, k2, k3, hi1, ht2, hi3⟩ := (unhide HH).at hkl
      have hc := ((unhide HP).hard k hkl).scope
      obtain ⟨hin, hs1, hs6, hasc⟩ := scopeB_in hc
      have htk : (x.hard.take (k + 1)).map (·.scope) = (x.hard.take k).map (·.scope) ++ [x.hard[k].scope] := by rw [List.take_succ_eq_append_getElem hkl, List.map_append]; rfl
      obtain ⟨ua, uc, rfl, _, huc⟩ := hi1.form
      have HJ := refJoin_any (L := x.hard[k].scope) (by rw [hML]; exact hown) (by rw [hML, unhide HN]; exact hin) hbel.size (fun W hb => hi1.below (hbel.trans hb))
      rw [hML] at HJ
      have k1 := Below.cell_of hbel k1
      have HJ := hide HJ
      have HTK := hide htk
      have HAS := hide hasc.nodup
      generalize x.hard[k].scope = sc at *
      have HBE := hide hbel
      clear hown hbel hi1 ht2 hi3 hc hin hasc htk k0 k2 k3
      go_wp2_with fail
      refine (unhide HJ).mono ?_
      rintro e w3 ⟨M', rfl, hown3, hj3, hb3⟩
      have HP3 := hide (show PrimM n ((x.hard.take (k + 1)).map (·.scope)) M' from by rw [unhide HTK]; exact (unhide HPM).snoc (unhide HAS) hj3)
      have HF := hide (And.intro hown3 ((unhide HBE).trans hb3))
      clear hown3 hj3 hb3 HJ HTK HBE
      go_wp2
      go_roundw
      case rel => exact ⟨k + 1, M', by omega, by go_num, (unhide HF).1, HP3, (unhide HF).2⟩
      case measure => simp [intOf]; omega
    · have HPS := hide (show PrimM n (x.hard.map (·.scope) ++ (x.soft.take 0).map (·.scope)) M from by
        have h := unhide HPM
        rw [List.take_of_length_le (by omega)] at h
        simpa using h)
      have HO := hide hown
      have HB2 := hide hbel
      clear hown hbel HPM hML
      go_wp2
      go_loopw [5] (fun i wq => ∃ (k : Nat) (M : List (List Bool)), k ≤ x.soft.length ∧ i = .int .i64 k ∧ OwnMat W1.heap.size wq (.slice au n cu) n M bs ∧ Hid (PrimM n (x.hard.map (·.scope) ++ (x.soft.take k).map (·.scope)) M) ∧ Below W1.heap.size W1 wq) (fun i _ => x.soft.length - (intOf i).toNat)
      case atStart => exact ⟨0, _, by omega, rfl, unhide HO, HPS, unhide HB2⟩
      case round =>
        clear HO HB2 HPS y0 y1 y2 hk hkl
        obtain ⟨k, M, hk, rfl, hown, HPM, hbel⟩ := hrel
        rename World => wq
        obtain ⟨y0, y1, y2⟩ := unhide HX wq hbel
        have hML := (unhide HPM).len
        by_cases hkl : k < x.soft.length
        · obtain ⟨bh, oh, u1, u2, u3, rfl, k0, k1, k2, k3, hi1, ht2, hi3⟩ := (unhide HS).at hkl
          have hc := ((unhide HP).soft k hkl).scope
          obtain ⟨hin, hs1, hs6, hasc⟩ := scopeB_in hc
          have htk : x.hard.map (·.scope) ++ (x.soft.take (k + 1)).map (·.scope) = (x.hard.map (·.scope) ++ (x.soft.take k).map (·.scope)) ++ [x.soft[k].scope] := by rw [List.take_succ_eq_append_getElem hkl, List.map_append, List.append_assoc]; rfl
          obtain ⟨ua, uc, rfl, _, huc⟩ := hi1.form
          have HJ := refJoin_any (L := x.soft[k].scope) (by rw [hML]; exact hown) (by rw [hML, unhide HN]; exact hin) hbel.size (fun W hb => hi1.below (hbel.trans hb))
          rw [hML] at HJ
          have k0 := Below.cell_of hbel k0
          have HJ := hide HJ
          have HTK := hide htk
          have HAS := hide hasc.nodup
          generalize x.soft[k].scope = sc at *
          have HBE := hide hbel
          clear hown hbel hi1 ht2 hi3 hc hin hasc htk k1 k2 k3
          go_wp2_with fail
          refine (unhide HJ).mono ?_
          rintro e w3 ⟨M', rfl, hown3, hj3, hb3⟩
          have HP3 := hide (show PrimM n (x.hard.map (·.scope) ++ (x.soft.take (k + 1)).map (·.scope)) M' from by rw [unhide HTK]; exact (unhide HPM).snoc (unhide HAS) hj3)
          have HF := hide (And.intro hown3 ((unhide HBE).trans hb3))
          clear hown3 hj3 hb3 HJ HTK HBE
          go_wp2
          go_roundw
          case rel => exact ⟨k + 1, M', by omega, by go_num, (unhide HF).1, HP3, (unhide HF).2⟩
          case measure => simp [intOf]; omega
        · have HF := hide (show PrimM n (scopesL x) M from by
            have h := unhide HPM
            rw [List.take_of_length_le (by omega)] at h
            exact h)
          have HBE := hide ((unhide HB).trans (hbel.mono (by omega)))
          have hown2 : OwnMat w.heap.size wq (.slice au n cu) M.length M bs := by
            rw [hML]
            exact ⟨hown.len, own_mono hown.outer (by omega), fun i hi hi' => own_mono (hown.rows i hi hi') (by omega), hown.wide, hown.nod, hown.apart⟩
          have HO2 := hide hown2
          clear hown hown2 hbel HPM
          go_wp2
          go_ret
          exact ⟨_, M, bs, rfl, unhide HO2, unhide HF, unhide HBE⟩

end Go.Proofs.YtflibcfecnhjgaaDoor

namespace Go.Proofs.YtflibcfecnhjgaaDoor
open Go.RowKit
set_option linter.unusedVariables false
set_option linter.unusedSimpArgs false
set_option maxRecDepth 20000

theorem ints_lt {w : World} {v : Value} {l : List Int} (h : Ints w v l) (hne : l ≠ []) {g : Nat} (hg : v.ownBlock = some g) : g < w.heap.size := by
  obtain ⟨a, c, rfl, _, _⟩ := h.form
  obtain ⟨b, o, e, hc⟩ := h.at (k := 0) (List.length_pos_iff.2 hne)
  subst e
  have : b = g := by simpa [Value.ownBlock] using hg
  have := cell_lt hc
  simp only at this
  omega

set_option maxHeartbeats 4000000 in
theorem primal_any {x : Ins} {v : Value} {w : World} (h : InsV w v x) (hP : RightP x) :
    Calls Tryd.prog 12 #[v] w fun e w' => ∃ y, e = .returned (.agg #[y]) ∧ OwnW w.heap.size w' y (joinsN (List.replicate x.doms.length 0) (scopesL x)) ∧ Below w.heap.size w w' := by
  obtain ⟨vd, vh, vs, rfl, h1, h2, h3⟩ := h
  obtain ⟨a0, c0, rfl, hl0, hc0⟩ := h1.form
  obtain ⟨a1, c1, rfl, hl1, hc1⟩ := h2.form
  obtain ⟨a2, c2, rfl, hl2, hc2⟩ := h3.form
  unfold maxLen at hc0 hc1 hc2
  obtain ⟨W0, hW0⟩ : ∃ W, W = w.alloc (.cells #[.slice a0 x.doms.length c0, .slice a1 x.hard.length c1, .slice a2 x.soft.length c2] 26) := ⟨_, rfl⟩
  have hbA : Below w.heap.size w W0 := by rw [hW0]; exact (Below.refl _ _).alloc (Nat.le_refl _) _
  have hzA : W0.heap.size = w.heap.size + 1 := by rw [hW0]; simp
  have xA : W0.heap[w.heap.size]? = some (.cells #[.slice a0 x.doms.length c0, .slice a1 x.hard.length c1, .slice a2 x.soft.length c2] 26) := by
    rw [hW0]; exact heap_alloc_new _ _
  obtain ⟨W1, hW1⟩ : ∃ W, W = W0.alloc (.cells #[.slice none 0 0] 31) := ⟨_, rfl⟩
  have hbB : Below W0.heap.size W0 W1 := by rw [hW1]; exact (Below.refl _ _).alloc (Nat.le_refl _) _
  have hz1 : W1.heap.size = w.heap.size + 2 := by rw [hW1]; simp [hzA]
  have hx2 : BoxG W1 (w.heap.size + 1) (.slice none 0 0) := by rw [hW1, ← hzA]; exact BoxG.new W0 _
  have hb0 : Below w.heap.size w W1 := hbA.trans (hbB.mono (by omega))
  have x0 : W1.heap[w.heap.size]? = some (.cells #[.slice a0 x.doms.length c0, .slice a1 x.hard.length c1, .slice a2 x.soft.length c2] 26) := by rw [hbB.block _ (by omega)]; exact xA
  have HX := hide (fun W (hb : Below W1.heap.size W1 W) =>
    have e0 : W.heap[w.heap.size]? = some (.cells #[.slice a0 x.doms.length c0, .slice a1 x.hard.length c1, .slice a2 x.soft.length c2] 26) := by rw [hb.block _ (by omega)]; exact x0
    (show W.cell? ⟨w.heap.size, 0, none⟩ = some (.slice a0 x.doms.length c0) ∧ W.cell? ⟨w.heap.size, 1, none⟩ = some (.slice a1 x.hard.length c1) ∧ W.cell? ⟨w.heap.size, 2, none⟩ = some (.slice a2 x.soft.length c2) from by
      refine ⟨?_, ?_, ?_⟩ <;> (unfold World.cell?; rw [e0]; rfl)))
  have HX2 := hide (fun W (hb : Below W1.heap.size W1 W) => hx2.below hb (by omega))
  have HH := hide (h2.below hb0)
  have HS := hide (h3.below hb0)
  have HB := hide hb0
  have HW1 := hide (show W1 = (w.alloc (.cells #[.slice a0 x.doms.length c0, .slice a1 x.hard.length c1, .slice a2 x.soft.length c2] 26)).alloc (.cells #[.slice none 0 0] 31) by rw [hW1, hW0])
  have HP := hide hP
  have hnd := hP.nd
  obtain ⟨y0, y1, y2⟩ := unhide HX W1 (Below.refl _ _)
  obtain ⟨n, hn⟩ : ∃ n, n = x.doms.length := ⟨_, rfl⟩
  rw [← hn] at hl0 hnd y0 HX HW1 ⊢
  have HN := hide hn
  have hnew : newN (n : Int) = n := by unfold newN; omega
  have HE := new_any (n : Int) W1
  rw [hnew] at HE
  have HE := hide HE
  clear h1 h2 h3 hb0 x0 hW1 hP hn hbA hbB xA hW0 hx2 hnew hzA
  clear W0
  go_enter Tryd.func12, Tryd.ntmps12
  go_wp2_with fail
  rw [← unhide HW1]
  go_wp2_with fail
  refine (unhide HE).mono ?_
  rintro e w2 ⟨u, rfl, hown, hb2⟩
  have hu2 := (unhide HX2 w2 hb2)
  obtain ⟨au, cu, rfl, hul, hum⟩ := (Seq.of_own hown).form
  unfold maxLen at hum
  have hrl : (List.replicate n 0).length = n := by simp
  have hlt : ∀ g, (Value.slice au (List.replicate n 0).length cu).ownBlock = some g → W1.heap.size ≤ g ∧ g < w2.heap.size := fun g e => hown.lt g e
  rw [hrl] at hlt hul ⊢
  have hown : OwnW W1.heap.size w2 (.slice au n cu) (List.replicate n 0) := by rw [hrl] at hown; rw [OwnW, hrl]; simpa [OwnW] using hown
  obtain ⟨W3, hW3⟩ : ∃ W, W = w2.alloc (.cells #[.slice au n cu] 31) := ⟨_, rfl⟩
  have hb3 : Below w2.heap.size w2 W3 := by rw [hW3]; exact (Below.refl _ _).alloc (Nat.le_refl _) _
  have hz3 : W3.heap.size = w2.heap.size + 1 := by rw [hW3]; simp
  have hx3 : BoxG W3 w2.heap.size (.slice au n cu) := by rw [hW3]; exact BoxG.new w2 _
  have hB3 := hb2.trans (hb3.mono hb2.size)
  have hs2 := hb2.size
  have HO := hide (own_below hown hb3)
  have HX3 := hide (fun W (hb : Keeps (fun b => (Value.slice au n cu).ownBlock = some b) W3 W) => hb.cell hx3.cell (fun e => by have := (hlt _ e).2; simp at this))
  have HBW := hide (fun W (hb : Keeps (fun b => (Value.slice au n cu).ownBlock = some b) W3 W) => hB3.trans (hb.to (fun g e => (hlt g e).1) (by omega)))
  have HLT := hide hlt
  have hx3c := hx3.cell
  obtain ⟨y0, y1, y2⟩ := unhide HX W3 hB3
  have HW3 := hide hW3
  rw [hW3] at y0 y1 y2 hx3c
  have hw0 : W64 (List.replicate n 0) := fun x hx => by rw [List.eq_of_mem_replicate hx]; decide
  have HG := hide (fun L => And.intro (show (joinsN (List.replicate n 0) L).length = n by rw [joinsN_len, hrl]) (joinsN_w64 hw0 (by rw [hrl]; omega) L))
  have HK0 := hide (Keeps.refl (fun b => (Value.slice au n cu).ownBlock = some b) W3)
  clear HE HW1 hown hb2 hb3 hx3 hlt hW3 hB3 hu2 hw0
  go_wp2_with fail
  rw [← unhide HW3]
  clear y0 y1 y2 hx3c
  obtain ⟨y0, y1, y2⟩ := unhide HX W3 (unhide HBW W3 (unhide HK0))
  go_wp2
  go_loopw [15] (fun i wr => ∃ k : Nat, k ≤ x.hard.length ∧ i = .int .i64 k ∧ OwnW W1.heap.size wr (.slice au n cu) (joinsN (List.replicate n 0) ((x.hard.take k).map (·.scope))) ∧ Keeps (fun b => (Value.slice au n cu).ownBlock = some b) W3 wr) (fun i _ => x.hard.length - (intOf i).toNat)
  case atStart => exact ⟨0, by omega, rfl, unhide HO, unhide HK0⟩
  case round =>
    clear HO HK0 y0 y1 y2
    obtain ⟨k, hk, rfl, hown, hkp⟩ := hrel
    rename World => wr
    have hbel := unhide HBW wr hkp
    obtain ⟨y0, y1, y2⟩ := unhide HX wr hbel
    by_cases hkl : k < x.hard.length
    · obtain ⟨bh, oh, u1, u2, u3, rfl, k0, k1, k2, k3, hi1, ht2, hi3⟩ := (unhide HH).at hkl
      obtain ⟨ua, uc, rfl, _, huc⟩ := hi1.form
      obtain ⟨va, vc, rfl, _, hvc⟩ := ht2.form
      obtain ⟨xa, xc, rfl, _, hxc⟩ := hi3.form
      unfold maxLen at huc hvc hxc
      have k0 := Below.cell_of hbel k0
      have k1 := Below.cell_of hbel k1
      have k2 := Below.cell_of hbel k2
      have k3 := Below.cell_of hbel k3
      have htk : joinN (joinsN (List.replicate n 0) ((x.hard.take k).map (·.scope))) x.hard[k].scope = joinsN (List.replicate n 0) ((x.hard.take (k + 1)).map (·.scope)) := by
        rw [← joinsN_snoc, List.take_succ_eq_append_getElem hkl, List.map_append]; rfl
      obtain ⟨WA, hWA⟩ : ∃ W, W = wr.alloc (.cells #[.int .i64 x.hard[k].kind, .slice ua x.hard[k].scope.length uc, .slice va x.hard[k].rows.length vc, .slice xa x.hard[k].args.length xc] 41) := ⟨_, rfl⟩
      have hba : Below wr.heap.size wr WA := by rw [hWA]; exact (Below.refl _ _).alloc (Nat.le_refl _) _
      have hkA := hkp.then (Keeps.belowW hba)
      have e6 := heap_alloc_new wr (.cells #[.int .i64 x.hard[k].kind, .slice ua x.hard[k].scope.length uc, .slice va x.hard[k].rows.length vc, .slice xa x.hard[k].args.length xc] 41)
      have qs : (wr.alloc (.cells #[.int .i64 x.hard[k].kind, .slice ua x.hard[k].scope.length uc, .slice va x.hard[k].rows.length vc, .slice xa x.hard[k].args.length xc] 41)).cell? ⟨wr.heap.size, 1, none⟩ = some (.slice ua x.hard[k].scope.length uc) := by unfold World.cell?; rw [e6]; rfl
      have q3 := unhide HX3 WA hkA
      rw [hWA] at q3
      have hap : Apart (.slice ua x.hard[k].scope.length uc) x.hard[k].scope (.slice au n cu) := fun hne g h1 h2 => by
        have h3 := ints_lt hi1 hne h1
        have h4 := (unhide HLT g h2).1
        omega
      have hsz := hbel.size
      have HJ := hide (joinAll_any (own_below hown hba) (by rw [(unhide HG _).1]; omega) (unhide HG _).2 ((hi1.below hbel).below hba) hap (by have := hba.size; omega))
      have HTK := hide htk
      have HKA := hide hkA
      have HWA := hide hWA
      clear hown hkp hbel hi1 ht2 hi3 hap htk hba hkA hWA e6
      go_wp2_with fail
      rw [← unhide HWA]
      go_wp2_with fail
      refine (unhide HJ).mono ?_
      rintro e w4 ⟨rfl, hown4, hb4, hk4⟩
      rw [unhide HTK] at hown4
      have HF := hide (And.intro hown4 ((unhide HKA).then hk4))
      clear hown4 hb4 hk4 HJ HTK HKA HWA qs q3 k0 k1 k2 k3
      go_wp2
      go_roundw
      case rel => exact ⟨k + 1, by omega, by go_num, (unhide HF).1, (unhide HF).2⟩
      case measure => simp [intOf]; omega
    · have HO := hide (show OwnW W1.heap.size wr (.slice au n cu) (joinsN (List.replicate n 0) (x.hard.map (·.scope) ++ (x.soft.take 0).map (·.scope))) from by
        have h := hown
        rw [List.take_of_length_le (by omega)] at h
        simpa using h)
      have HKP := hide hkp
      clear hown hkp hbel
      go_wp2
      go_loopw [27] (fun i wq => ∃ k : Nat, k ≤ x.soft.length ∧ i = .int .i64 k ∧ OwnW W1.heap.size wq (.slice au n cu) (joinsN (List.replicate n 0) (x.hard.map (·.scope) ++ (x.soft.take k).map (·.scope))) ∧ Keeps (fun b => (Value.slice au n cu).ownBlock = some b) W3 wq) (fun i _ => x.soft.length - (intOf i).toNat)
      case atStart => exact ⟨0, by omega, rfl, unhide HO, unhide HKP⟩
      case round =>
        clear HO HKP y0 y1 y2 hk hkl
        obtain ⟨k, hk, rfl, hown, hkp⟩ := hrel
        rename World => wq
        have hbel := unhide HBW wq hkp
        obtain ⟨y0, y1, y2⟩ := unhide HX wq hbel
        by_cases hkl : k < x.soft.length
        · obtain ⟨bh, oh, u1, u2, u3, rfl, k0, k1, k2, k3, hi1, ht2, hi3⟩ := (unhide HS).at hkl
          obtain ⟨ua, uc, rfl, _, huc⟩ := hi1.form
          obtain ⟨va, vc, rfl, _, hvc⟩ := ht2.form
          obtain ⟨xa, xc, rfl, _, hxc⟩ := hi3.form
          unfold maxLen at huc hvc hxc
          have k0 := Below.cell_of hbel k0
          have k1 := Below.cell_of hbel k1
          have k2 := Below.cell_of hbel k2
          have k3 := Below.cell_of hbel k3
          have htk : joinN (joinsN (List.replicate n 0) (x.hard.map (·.scope) ++ (x.soft.take k).map (·.scope))) x.soft[k].scope = joinsN (List.replicate n 0) (x.hard.map (·.scope) ++ (x.soft.take (k + 1)).map (·.scope)) := by
            rw [← joinsN_snoc, List.take_succ_eq_append_getElem hkl, List.map_append, ← List.append_assoc]; rfl
          obtain ⟨WA, hWA⟩ : ∃ W, W = wq.alloc (.cells #[.slice ua x.soft[k].scope.length uc, .slice va x.soft[k].rows.length vc, .slice xa x.soft[k].costs.length xc, .int .i64 x.soft[k].dflt] 44) := ⟨_, rfl⟩
          have hba : Below wq.heap.size wq WA := by rw [hWA]; exact (Below.refl _ _).alloc (Nat.le_refl _) _
          have hkA := hkp.then (Keeps.belowW hba)
          have e6 := heap_alloc_new wq (.cells #[.slice ua x.soft[k].scope.length uc, .slice va x.soft[k].rows.length vc, .slice xa x.soft[k].costs.length xc, .int .i64 x.soft[k].dflt] 44)
          have qs : (wq.alloc (.cells #[.slice ua x.soft[k].scope.length uc, .slice va x.soft[k].rows.length vc, .slice xa x.soft[k].costs.length xc, .int .i64 x.soft[k].dflt] 44)).cell? ⟨wq.heap.size, 0, none⟩ = some (.slice ua x.soft[k].scope.length uc) := by unfold World.cell?; rw [e6]; rfl
          have q3 := unhide HX3 WA hkA
          rw [hWA] at q3
          have hap : Apart (.slice ua x.soft[k].scope.length uc) x.soft[k].scope (.slice au n cu) := fun hne g h1 h2 => by
            have h3 := ints_lt hi1 hne h1
            have h4 := (unhide HLT g h2).1
            omega
          have hsz := hbel.size
          have HJ := hide (joinAll_any (own_below hown hba) (by rw [(unhide HG _).1]; omega) (unhide HG _).2 ((hi1.below hbel).below hba) hap (by have := hba.size; omega))
          have HTK := hide htk
          have HKA := hide hkA
          have HWA := hide hWA
          clear hown hkp hbel hi1 ht2 hi3 hap htk hba hkA hWA e6
          go_wp2_with fail
          rw [← unhide HWA]
          go_wp2_with fail
          refine (unhide HJ).mono ?_
          rintro e w4 ⟨rfl, hown4, hb4, hk4⟩
          rw [unhide HTK] at hown4
          have HF := hide (And.intro hown4 ((unhide HKA).then hk4))
          clear hown4 hb4 hk4 HJ HTK HKA HWA qs q3 k0 k1 k2 k3
          go_wp2
          go_roundw
          case rel => exact ⟨k + 1, by omega, by go_num, (unhide HF).1, (unhide HF).2⟩
          case measure => simp [intOf]; omega
        · have hown : OwnW W1.heap.size wq (.slice au n cu) (joinsN (List.replicate n 0) (scopesL x)) := by
            have h := hown
            rw [List.take_of_length_le (by omega)] at h
            exact h
          have q1 := unhide HX3 wq hkp
          have hb2 := unhide HX2 wq hbel
          have q2 := hb2.cell
          have q3 := hb2.frozen
          have hst := ownsRow_setCell_below hown (a := ⟨w.heap.size + 1, 0, none⟩) (by show w.heap.size + 1 < W1.heap.size; omega) (.slice au n cu)
          have HST := hide hst
          have HBE := hide ((unhide HB).trans (hbel.mono (by omega)))
          clear hown hst hb2 hbel hkp
          go_wp2
          refine bodyPost_ret (v := .agg #[.slice au n cu]) (by simp [results, Tryd.results12, go_sem, q2]) rfl ⟨_, rfl, own_mono (unhide HST) (by omega), (unhide HBE).setCell (by show w.heap.size ≤ w.heap.size + 1; omega) _⟩

end Go.Proofs.YtflibcfecnhjgaaDoor

namespace Go.Proofs.YtflibcfecnhjgaaDoor.graphPrimal
open Go.RowKit Go.ChangeShapes Go.WideShapes Go.ChangeAt
set_option linter.unusedVariables false
set_option linter.unusedSimpArgs false
set_option maxRecDepth 20000

theorem clique_yes {g : List Nat} {l : List Int} {x v : Value} {w : World} (hg : Words w x g) (hn : g.length ≤ 64) (hw : W64 g) (hl : Ints w v l) (hc : clqB g l = true) :
    Calls Tryd.prog 16 #[.agg #[x], v] w fun e w' => e = .returned (.bool true) ∧ Below w.heap.size w w' := by
  have h := clique_any hg hn hw hl
  rw [hc] at h
  exact h
theorem right_yes {g : List Nat} {x : Value} {w : World} (hg : Words w x g) (hn : g.length ≤ 64) (hw : W64 g) (hT : TabD w) (hc : rightGS g = true) :
    Calls Tryd.prog 15 #[.agg #[x]] w fun e w' => e = .returned (.bool true) ∧ Below w.heap.size w w' := by
  have h := rightG_any hg hn hw hT
  rw [hc] at h
  exact h

set_option maxHeartbeats 4000000 in
theorem walk {x : Ins} {v0 : Value} {w : World} (hT : TabD w) (i0 : InsV w v0 x) :
    Calls Tryd.prog 3 #[v0] w fun e w' => e = .returned (.bool true) ∧ Below w.heap.size w w' := by
  have i0' := i0
  obtain ⟨vd, vh, vs, rfl, h1, h2, h3⟩ := i0'
  obtain ⟨a0, c0, rfl, hl0, hc0⟩ := h1.form
  obtain ⟨a1, c1, rfl, hl1, hc1⟩ := h2.form
  obtain ⟨a2, c2, rfl, hl2, hc2⟩ := h3.form
  unfold maxLen at hc0 hc1 hc2
  obtain ⟨W1, hW1⟩ : ∃ W, W = w.alloc (.cells #[.slice a0 x.doms.length c0, .slice a1 x.hard.length c1, .slice a2 x.soft.length c2] 26) := ⟨_, rfl⟩
  have hb0 : Below w.heap.size w W1 := by rw [hW1]; exact (Below.refl _ _).alloc (Nat.le_refl _) _
  have hz1 : W1.heap.size = w.heap.size + 1 := by rw [hW1]; simp
  have x0 : W1.heap[w.heap.size]? = some (.cells #[.slice a0 x.doms.length c0, .slice a1 x.hard.length c1, .slice a2 x.soft.length c2] 26) := by
    rw [hW1]; exact heap_alloc_new _ _
  have HX := hide (fun W (hb : Below W1.heap.size W1 W) =>
    have e0 : W.heap[w.heap.size]? = some (.cells #[.slice a0 x.doms.length c0, .slice a1 x.hard.length c1, .slice a2 x.soft.length c2] 26) := by rw [hb.block _ (by omega)]; exact x0
    (show W.cell? ⟨w.heap.size, 0, none⟩ = some (.slice a0 x.doms.length c0) ∧ W.cell? ⟨w.heap.size, 1, none⟩ = some (.slice a1 x.hard.length c1) ∧ W.cell? ⟨w.heap.size, 2, none⟩ = some (.slice a2 x.soft.length c2) from by
      refine ⟨?_, ?_, ?_⟩ <;> (unfold World.cell?; rw [e0]; rfl)))
  have HV := hide (fun W (hb : Below W1.heap.size W1 W) => (i0.below hb0).below hb)
  have HH := hide (h2.below hb0)
  have HS := hide (h3.below hb0)
  have HT := hide (fun W (hb : Below W1.heap.size W1 W) => (hT.below hb0).below hb)
  have HSH := hide (shown8_any (hT.below hb0))
  have HB := hide hb0
  have HW1 := hide hW1
  clear i0 h1 h2 h3 hb0 x0 hW1 hT
  go_enter Tryd.func3, Tryd.ntmps3
  go_wp2_with fail
  rw [← unhide HW1]
  refine (unhide HSH).mono ?_
  rintro e w1 ⟨rfl, hb1⟩
  obtain ⟨y0, y1, y2⟩ := unhide HX w1 hb1
  have HR := hide (right6_any (unhide HV w1 hb1))
  have HB1 := hide hb1
  clear HW1 hb1 HSH
  go_wp2_with fail
  refine (unhide HR).mono ?_
  rintro e w2 ⟨⟨b, rfl, hb⟩, hb2⟩
  have HB2 := hide ((unhide HB1).trans (hb2.mono (unhide HB1).size))
  have hz2 := (unhide HB2).size
  clear HR hb2 HB1 y0 y1 y2
  cases b with
  | false =>
    clear hb
    go_wp2
    go_ret
    exact ⟨rfl, (unhide HB).trans ((unhide HB2).mono (unhide HB).size)⟩
  | true =>
    have hP := hb.1 rfl
    clear hb
    obtain ⟨y0, y1, y2⟩ := unhide HX w2 (unhide HB2)
    have HPR := hide (primal_any (unhide HV w2 (unhide HB2)) hP)
    have hnd := hP.nd
    have hGl : (joinsN (List.replicate x.doms.length 0) (scopesL x)).length = x.doms.length := by rw [joinsN_len, List.length_replicate]
    have hGw : W64 (joinsN (List.replicate x.doms.length 0) (scopesL x)) := joinsN_w64 (fun x hx => by rw [List.eq_of_mem_replicate hx]; decide) (by rw [List.length_replicate]; omega) _
    have HGR := hide (fun M (h : PrimM x.doms.length (scopesL x) M) => And.intro (h.graph hnd (scopes_in hP)) (And.intro h.ok h.len))
    have HCQ := hide (fun l (h : l ∈ scopesL x) => joins_clq hnd (scopes_in hP) h)
    have HRP := hide (fun W (hb : Below W1.heap.size W1 W) => refPrimal_any (unhide HV W hb) hP)
    generalize joinsN (List.replicate x.doms.length 0) (scopesL x) = G at *
    have HGL := hide hGl
    have hG40 : G.length ≤ 40 := by omega
    clear hP hGl
    go_wp2_with fail
    refine (unhide HPR).mono ?_
    rintro e w3 ⟨y, rfl, hown3, hb3⟩
    have hg3 := Seq.of_own hown3
    obtain ⟨ay, cy, rfl, hyl, hym⟩ := hg3.form
    unfold maxLen at hym
    obtain ⟨W4, hW4⟩ : ∃ W, W = w3.alloc (.cells #[.slice ay G.length cy] 31) := ⟨_, rfl⟩
    have hb4 : Below w3.heap.size w3 W4 := by rw [hW4]; exact (Below.refl _ _).alloc (Nat.le_refl _) _
    have hz4 : W4.heap.size = w3.heap.size + 1 := by rw [hW4]; simp
    have hx4 : BoxG W4 w3.heap.size (.slice ay G.length cy) := by rw [hW4]; exact BoxG.new w3 _
    have hB4 := (unhide HB2).trans ((hb3.trans (hb4.mono hb3.size)).mono hz2)
    have HC4 := hide (fun W (hb : Below W4.heap.size W4 W) => And.intro (hx4.below hb (by omega)).cell ((hg3.below hb4).below hb))
    have HB4 := hide hB4
    have HRP4 := hide (unhide HRP W4 hB4)
    obtain ⟨y0, y1, y2⟩ := unhide HX W4 hB4
    have HW4 := hide hW4
    have hs4 := hB4.size
    rw [hW4] at y0 y1 y2
    clear hown3 hb3 hb4 hW4 hx4 hg3 hB4 HPR HRP HV
    go_wp2_with fail
    rw [← unhide HW4]
    go_wp2_with fail
    refine (unhide HRP4).mono ?_
    rintro e w5 ⟨u, M, bs, rfl, hM5, hPM, hb5⟩
    obtain ⟨hGM, hok, hMl⟩ := unhide HGR M hPM
    have HRG := hide (refGraph_any hM5 (by omega))
    rw [hGM] at HRG
    have HB5 := hide hb5
    have hs5 := hb5.size
    have HRI := hide (show RightG G from by rw [← hGM]; exact graphR_right hok (by omega))
    clear hM5 hPM hGM hok hMl hb5 HRP4 HGR y0 y1 y2
    go_wp2_with fail
    refine (unhide HRG).mono ?_
    rintro e w6 ⟨z, rfl, hown6, hb6⟩
    have hg6 := Seq.of_own hown6
    obtain ⟨az, cz, rfl, hzl, hzm⟩ := hg6.form
    unfold maxLen at hzm
    obtain ⟨W7, hW7⟩ : ∃ W, W = w6.alloc (.cells #[.slice az G.length cz] 31) := ⟨_, rfl⟩
    have hb7 : Below w6.heap.size w6 W7 := by rw [hW7]; exact (Below.refl _ _).alloc (Nat.le_refl _) _
    have hz7 : W7.heap.size = w6.heap.size + 1 := by rw [hW7]; simp
    have hx7 : BoxG W7 w6.heap.size (.slice az G.length cz) := by rw [hW7]; exact BoxG.new w6 _
    have hB7 := (unhide HB5).trans ((hb6.trans (hb7.mono hb6.size)).mono hs5)
    have hB17 := (unhide HB4).trans (hB7.mono hs4)
    have hs7 := hB7.size
    have hs17 := hB17.size
    have HU := hide (fun W (hb : Below W7.heap.size W7 W) => hB17.trans (hb.mono hs17))
    have HC7 := hide (fun W (hb : Below W7.heap.size W7 W) => (show W.cell? ⟨w6.heap.size, 0, none⟩ = some (.slice az G.length cz) ∧ Words W (.slice az G.length cz) G ∧ W.cell? ⟨w3.heap.size, 0, none⟩ = some (.slice ay G.length cy) ∧ Words W (.slice ay G.length cy) G from
      ⟨(hx7.below hb (by omega)).cell, (hg6.below hb7).below hb, (unhide HC4 W (hB7.trans (hb.mono hs7))).1, (unhide HC4 W (hB7.trans (hb.mono hs7))).2⟩))
    obtain ⟨r0, _, r1, hgy⟩ := unhide HC7 W7 (Below.refl _ _)
    have hrg : rightGS G = true := (rightGS_iff hGw).2 (unhide HRI)
    have HRY := hide (right_yes hgy (by omega) hGw (unhide HT W7 hB17) hrg)
    have HB7 := hide hB17
    have HW7 := hide hW7
    rw [hW7] at r0 r1
    clear hown6 hb6 hb7 hW7 hx7 hg6 hB7 hB17 hgy hrg HRG HB5 HB4 HC4 HRI HT
    go_wp2_with fail
    rw [← unhide HW7]
    go_wp2_with fail
    refine (unhide HRY).mono ?_
    rintro e w8 ⟨rfl, hb8⟩
    have HB8 := hide hb8
    have hs8 := hb8.size
    clear hb8 HRY r0 r1
    obtain ⟨r0, _, r1, _⟩ := unhide HC7 w8 (unhide HB8)
    go_wp2
    go_loopw [7] (fun i wr => ∃ k : Nat, k ≤ G.length ∧ i = .int .i64 k ∧ Below W7.heap.size W7 wr) (fun i _ => G.length - (intOf i).toNat)
    case atStart => exact ⟨0, by omega, rfl, unhide HB8⟩
    case round =>
      clear r0 r1
      obtain ⟨k, hk, rfl, hbel⟩ := hrel
      rename World => wr
      obtain ⟨r0, hgz, r1, hgy⟩ := unhide HC7 wr hbel
      by_cases hkl : k < G.length
      · obtain ⟨by1, oy1, e1, q1⟩ := hgy.at hkl
        subst e1
        obtain ⟨bz1, oz1, e2, q2⟩ := hgz.at hkl
        subst e2
        have hlt := getD_lt hGw k
        rw [getD_at hkl] at q1 q2
        generalize G.getD k 0 = g at *
        have HBE := hide hbel
        clear hgz hgy hbel
        go_wp2
        go_quiet (fail)
        go_wp2
        go_roundw
        case rel => exact ⟨k + 1, by omega, by go_num, (unhide HBE).trans ((Below.drewN wr nq).mono (unhide HBE).size)⟩
        case measure => simp [intOf]; omega
      · have HBE := hide hbel
        clear hgz hgy hbel y0 y1 y2
        obtain ⟨y0, y1, y2⟩ := unhide HX wr (unhide HU wr (unhide HBE))
        go_wp2
        go_loopw [8] (fun i wq => ∃ k : Nat, k ≤ x.hard.length ∧ i = .int .i64 k ∧ Below W7.heap.size W7 wq) (fun i _ => x.hard.length - (intOf i).toNat)
        case atStart => exact ⟨0, by omega, rfl, unhide HBE⟩
        case round =>
          clear r0 r1 y0 y1 y2 HBE hk hkl
          obtain ⟨k, hk, rfl, hbel⟩ := hrel
          rename World => wq
          obtain ⟨_, _, r1, _⟩ := unhide HC7 wq hbel
          obtain ⟨y0, y1, y2⟩ := unhide HX wq (unhide HU wq hbel)
          by_cases hkl : k < x.hard.length
          · obtain ⟨bh, oh, u1, u2, u3, rfl, k0, k1, k2, k3, hi1, ht2, hi3⟩ := (unhide HH).at hkl
            obtain ⟨ua, uc, rfl, _, huc⟩ := hi1.form
            unfold maxLen at huc
            have hbW := unhide HU wq hbel
            have k1 := Below.cell_of hbW k1
            have hcq := unhide HCQ x.hard[k].scope (by unfold scopesL; exact List.mem_append.2 (.inl (List.mem_map.2 ⟨_, List.getElem_mem hkl, rfl⟩)))
            have HCL := hide (fun W (hb : Below wq.heap.size wq W) => clique_yes (unhide HC7 W (hbel.trans (hb.mono hbel.size))).2.2.2 (by omega) hGw (hi1.below (hbW.trans (hb.mono hbW.size))) hcq)
            have HK := hide (fun W (hb : Below wq.heap.size wq W) => (show W.cell? ⟨w3.heap.size, 0, none⟩ = some (.slice ay G.length cy) ∧ W.cell? ⟨w.heap.size, 1, none⟩ = some (.slice (some ⟨bh, oh, none⟩) x.hard.length c1) ∧ W.cell? ⟨bh, oh + k * 4 + 1, none⟩ = some (.slice ua x.hard[k].scope.length uc) from ⟨Below.cell_of hb r1, Below.cell_of hb y1, Below.cell_of hb k1⟩))
            generalize x.hard[k].scope = sc at *
            have HBQ := hide hbel
            have hQ := Below.refl wq.heap.size wq
            clear hbel hbW hi1 ht2 hi3 hcq
            go_wp2
            go_region_held3 (fun W => W.cell? ⟨w3.heap.size, 0, none⟩ = some (.slice ay G.length cy) ∧ W.cell? ⟨w.heap.size, 1, none⟩ = some (.slice (some ⟨bh, oh, none⟩) x.hard.length c1) ∧ W.cell? ⟨bh, oh + k * 4 + 1, none⟩ = some (.slice ua sc.length uc))
              (first | exact unhide HK _ (by first | exact hQ | exact hQ.drew))
              (first
                | (go_at_call 16; refine (unhide HCL _ (by first | exact hQ | exact hQ.drew)).mono ?_; rintro e w9 ⟨rfl, hb9⟩; replace hQ : Below wq.heap.size wq w9 := by first | exact hQ.trans (hb9.mono hQ.size) | exact hQ.drew.trans (hb9.mono hQ.drew.size)))
            clear hb9
            go_wp2
            go_roundw
            case rel => exact ⟨k + 1, by omega, by go_num, (unhide HBQ).trans (hQ.mono (unhide HBQ).size)⟩
            case measure => simp [intOf]; omega
          · have HBE := hide hbel
            clear hbel y0 y1 y2 r1
            obtain ⟨y0, y1, y2⟩ := unhide HX wq (unhide HU wq (unhide HBE))
            go_wp2
            go_loopw [9] (fun i wp => ∃ k : Nat, k ≤ x.soft.length ∧ i = .int .i64 k ∧ Below W7.heap.size W7 wp) (fun i _ => x.soft.length - (intOf i).toNat)
            case atStart => exact ⟨0, by omega, rfl, unhide HBE⟩
            case round =>
              clear y0 y1 y2 HBE hk hkl
              obtain ⟨k, hk, rfl, hbel⟩ := hrel
              rename World => wp
              obtain ⟨_, _, r1, _⟩ := unhide HC7 wp hbel
              obtain ⟨y0, y1, y2⟩ := unhide HX wp (unhide HU wp hbel)
              by_cases hkl : k < x.soft.length
              · obtain ⟨bh, oh, u1, u2, u3, rfl, k0, k1, k2, k3, hi1, ht2, hi3⟩ := (unhide HS).at hkl
                obtain ⟨ua, uc, rfl, _, huc⟩ := hi1.form
                unfold maxLen at huc
                have hbW := unhide HU wp hbel
                have k0 := Below.cell_of hbW k0
                have hcq := unhide HCQ x.soft[k].scope (by unfold scopesL; exact List.mem_append.2 (.inr (List.mem_map.2 ⟨_, List.getElem_mem hkl, rfl⟩)))
                have HCL := hide (fun W (hb : Below wp.heap.size wp W) => clique_yes (unhide HC7 W (hbel.trans (hb.mono hbel.size))).2.2.2 (by omega) hGw (hi1.below (hbW.trans (hb.mono hbW.size))) hcq)
                have HK := hide (fun W (hb : Below wp.heap.size wp W) => (show W.cell? ⟨w3.heap.size, 0, none⟩ = some (.slice ay G.length cy) ∧ W.cell? ⟨w.heap.size, 2, none⟩ = some (.slice (some ⟨bh, oh, none⟩) x.soft.length c2) ∧ W.cell? ⟨bh, oh + k * 4, none⟩ = some (.slice ua x.soft[k].scope.length uc) from ⟨Below.cell_of hb r1, Below.cell_of hb y2, Below.cell_of hb k0⟩))
                generalize x.soft[k].scope = sc at *
                have HBQ := hide hbel
                have hQ := Below.refl wp.heap.size wp
                clear hbel hbW hi1 ht2 hi3 hcq
                go_wp2
                go_region_held3 (fun W => W.cell? ⟨w3.heap.size, 0, none⟩ = some (.slice ay G.length cy) ∧ W.cell? ⟨w.heap.size, 2, none⟩ = some (.slice (some ⟨bh, oh, none⟩) x.soft.length c2) ∧ W.cell? ⟨bh, oh + k * 4, none⟩ = some (.slice ua sc.length uc))
                  (first | exact unhide HK _ (by first | exact hQ | exact hQ.drew))
                  (first
                    | (go_at_call 16; refine (unhide HCL _ (by first | exact hQ | exact hQ.drew)).mono ?_; rintro e w9 ⟨rfl, hb9⟩; replace hQ : Below wp.heap.size wp w9 := by first | exact hQ.trans (hb9.mono hQ.size) | exact hQ.drew.trans (hb9.mono hQ.drew.size)))
                clear hb9
                go_wp2
                go_roundw
                case rel => exact ⟨k + 1, by omega, by go_num, (unhide HBQ).trans (hQ.mono (unhide HBQ).size)⟩
                case measure => simp [intOf]; omega
              · have HBE := hide (unhide HU wp hbel)
                clear hbel
                go_wp2
                go_ret
                exact ⟨rfl, (unhide HB).trans ((unhide HBE).mono (unhide HB).size)⟩

set_option maxRecDepth 100000 in
theorem lifted (os : Os) (started : os.Started) (H : Type) (enc : TypeId × Value → H) :
    ReturnsInHanded {} Tryd.checked os 3 .any (fun w args => (Rows.graphPrimalSpec.pre enc Tryd.prog Tryd.f3 [] false w args ∧ laidMetH Tryd.prog laidIn w) ∧ sizedMet enc Tryd.prog Tryd.f3 (OpenSpec.ofChange Rows.graphPrimalSpec) false w args)
      (Rows.graphPrimalSpec.post enc Tryd.prog Tryd.f3 false true false false) := by
  refine returnsInHanded_of_change_and (C := Tryd.checked) (X := fun w _ => laidMetH Tryd.prog laidIn w) (fun _ _ _ hh h => h.of_heap hh) own started (by kernel_rfl) Tryd.func3
    (ChangeSpec.witness_shaped (enc := enc) (C := Tryd.checked) (os := os) (X := fun w _ => laidMetH Tryd.prog laidIn w) false (World.doorLaid Tryd.prog doorN os) #[.agg #[.slice none 0 0, .slice none 0 0, .slice none 0 0]] 8 rfl (World.shaped_of_RefB (by kernel_rfl) (by kernel_rfl)) (by kernel_rfl) (by kernel_rfl) (by kernel_rfl) (door_met os _)) ?_
  intro W base args ds gs before hval0 hW _ _ hL _
  have hval : ∀ (j : Nat) t v, Tryd.f3.params[j]? = some t → args[j]? = some v → Value.okWide Tryd.prog W .any base t v := hval0
  have hW' := hW
  obtain ⟨p, q, hA0, hV, rfl, hfz, hnd⟩ := hW
  have hA : DataW.TrodAll enc Tryd.prog W 0 (fun _ => true) true Tryd.f3.params.toList args.toList ds p := hA0
  rw [Tryd.params3] at hA hval
  obtain ⟨v0, vs0, d0, ds0, p0, q0, hargs, rfl, rfl, h0, r0⟩ := trodAll_cons hA
  obtain ⟨rfl, rfl, rfl⟩ := trodAll_nil r0
  obtain rfl : args = #[v0] := by cases args; simp_all
  obtain ⟨rfl, rfl⟩ := trodVars_none hV
  obtain ⟨l0, i0⟩ := read_ins h0 (hval 0 26 v0 rfl rfl)
  have lt0 : ∀ x ∈ p0, x.block < W.heap.size := by obtain ⟨m, hm⟩ := h0; exact DataW.trod_lt m _ _ _ hm
  clear hA0 hval0
  refine (walk (tabs_of hL) i0).mono fun e W' ⟨he, bel⟩ => ?_
  subst he
  exact ⟨_, rfl, _, _, _, [], _, [], hW', trodAll_mk1 (shut_bool Tryd.underlying4 _), (trodAll_cons_mk (Below.trod laidOut (by kernel_rfl) (of_decide_eq_true (by kernel_rfl)) h0 bel lt0) trodAll_mk0), rfl, bel.frame _, fun h => by cases h⟩

theorem over : Rows.graphPrimalRow.holds Tryd.pinned (OpenSpec.ofChange Rows.graphPrimalSpec) :=
  OpenClaim.holds_of_wide 3 Tryd.f3 rfl rfl rfl rfl rfl rfl rfl ⟨rfl, rfl, rfl, rfl, rfl⟩ rfl rfl rfl rfl rfl (by kernel_rfl) Tryd.func3 (by kernel_rfl)
    (of_decide_eq_true (by kernel_rfl)) (by unfold Func.isWrapper; first | (rw [if_pos (by decide +kernel)]; kernel_rfl) | (rw [if_neg (by decide +kernel)]; exact ⟨rfl, rfl⟩))
    (fun os started H enc _ => lifted os started H enc)

/-- The statement: the tied card. -/
theorem proved : Rows.GraphPrimalCardSaid :=
  Claim7.holds_tied_plain_at .later [] [.data] true (true, "8f2d994e21dbfdcf108bf958dff57fcf320e77d1f440c1e17c51dcce542cbe3a") false
    over (fun _ h => by cases h) (by kernel_rfl) (fun _ h => by cases h) graphPrimal_row_tie rfl ⟨rfl, rfl⟩ (by kernel_rfl) rfl
    (fun f fn hf hfn => by
      obtain rfl : f = 3 := Option.some.inj ((show Tryd.prog.funcNamed "arborist/arboristlaw08.GraphPrimal" = some 3 by kernel_rfl).symm.trans hf) |>.symm
      obtain rfl : fn = Tryd.f3 := (Option.some.inj (Tryd.func3.symm.trans hfn)).symm
      exact ⟨by kernel_rfl, fun j t ht => by
        rw [Tryd.params3] at ht
        have hm : t ∈ [26] := by simpa using Array.mem_of_getElem? ht
        have hall : ([26].all fun u => !Tryd.prog.wantsStandIn u) = true := by kernel_rfl
        exact (show Tryd.prog.wantsStandIn t = false by simpa using List.all_eq_true.1 hall t hm)⟩)
    (by kernel_rfl)

#print axioms proved
end Go.Proofs.YtflibcfecnhjgaaDoor.graphPrimal
