/-
  Proved: FillWhole: where each is beside each nothing is joined by any order, and the first bag has all; where none is beside any each bag has one.
-/
import Derived.Test.YtcglbopmfdilfaaDoorORefOf
import Derived.Test.YtcglbopmfdilfaaDoorOValid
import Derived.Test.YtcglbopmfdilfaaDoorFMath
import Derived.Test.YtcglbopmfdilfaaDoorFPeo
import Derived.Test.YtcglbopmfdilfaaDoorOSrch
import Derived.Test.YtcglbopmfdilfaaDoorGOwn
import Derived.Shelf.Spec.SlicesInsert
import Derived.Shelf.Spec.SlicesInsertGrow
import Derived.Test.YtcglbopmfdilfaaDoorProg
import Derived.Test.YtcglbopmfdilfaaDoorApp3
import Derived.Lib.LazyBuf
import Derived.Test.YtcglbopmfdilfaaDoorGJoin2
import Derived.Test.YtcglbopmfdilfaaDoorUntil
import Derived.Maps.OwnSet
import Derived.Maps.Views
import Derived.Test.YtcglbopmfdilfaaDoorOLeast
import Derived.Test.YtcglbopmfdilfaaDoorFCalls
import Derived.Test.YtcglbopmfdilfaaDoorGRefG
import Derived.Test.YtcglbopmfdilfaaDoorOMatC
import Derived.Test.YtcglbopmfdilfaaDoorGNbr
import Derived.Test.YtcglbopmfdilfaaDoorGClq
import Derived.Test.YtcglbopmfdilfaaDoorGMade
import Derived.Test.YtcglbopmfdilfaaDoorHeld
import Derived.Test.YtcglbopmfdilfaaDoorORefGoM
import Derived.Test.YtcglbopmfdilfaaDoorFrameT
import Derived.Test.YtcglbopmfdilfaaDoorFrameN
import Derived.Test.YtcglbopmfdilfaaDoorORefGo
namespace Go.Proofs.YtcglbopmfdilfaaDoor
open Go.RowKit
set_option linter.unusedVariables false
set_option linter.unusedSimpArgs false
set_option maxRecDepth 20000

theorem runS3_g (s : Srch) (k : Nat) : (runS 3 s k).g = s.g := by
  induction k with
  | zero => rfl
  | succ k ih =>
    show (takeS 3 (runS 3 s k) _).g = s.g
    exact ih

/-- How many of those ahead of m are beside v, and chosen. -/
def cntUp (g : List Nat) (t : List Bool) (v m : Nat) : Nat := ((List.range m).filter fun k => besB g v k && t.getD k false).length
theorem cntUp_succ (g : List Nat) (t : List Bool) (v m : Nat) : cntUp g t v (m + 1) = if (besB g v m && t.getD m false) = true then cntUp g t v m + 1 else cntUp g t v m := by
  unfold cntUp
  rw [List.range_succ, List.filter_append, List.length_append, List.filter_cons, List.filter_nil]
  by_cases h : (besB g v m && t.getD m false) = true
  · rw [if_pos h, if_pos h]; rfl
  · rw [if_neg h, if_neg h]; rfl
theorem cntUp_le (g : List Nat) (t : List Bool) (v m : Nat) : cntUp g t v m ≤ m := Nat.le_trans (List.length_filter_le _ _) (by simp)
theorem cntUp_all {g : List Nat} {t : List Bool} {v : Nat} (hv : v < g.length) : cntUp g t v g.length = (besT g t (v : Int) true).length := by
  unfold cntUp besT nbL
  rw [if_pos (by rw [ptB_nat]; simpa using hv), List.filter_map, List.length_map, List.filter_filter]
  simp only [Int.toNat_natCast]
  congr 1
  refine List.filter_congr (fun k hk => ?_)
  simp only [Function.comp]
  have : (Int.ofNat k).toNat = k := rfl
  rw [this]
  cases t.getD k false <;> simp

theorem cardW_eq {g : List Nat} {t : List Bool} {v : Nat} (hv : v < g.length) : cardW g t (v : Int) = -(cntUp g t v g.length : Int) := by
  rw [cntUp_all hv]; rfl

end Go.Proofs.YtcglbopmfdilfaaDoor

namespace Go.Proofs.YtcglbopmfdilfaaDoor
open Go.RowKit
set_option linter.unusedVariables false
set_option linter.unusedSimpArgs false
set_option maxRecDepth 20000

/-- What stands in the order so far was taken, each once. -/
structure OrdIn (n : Nat) (s : Srch) : Prop where
  pts : ∀ x ∈ s.o, 0 ≤ x ∧ x < (n : Int)
  nod : s.o.Nodup
  got : ∀ x ∈ s.o, s.t.getD x.toNat false = true

theorem OrdIn.next {n k : Nat} {s : Srch} {how : Int} (h : OrdIn n s) (hok : SrchOk n k s) (hk : k < n) : OrdIn n (nextS how s) := by
  have hl := least_ok (f := worthW how s.g s.t) (t := s.t) (by have := hok.left; omega)
  unfold nextS
  generalize leastL (worthW how s.g s.t) s.t = a at *
  have htl := hok.tlen
  have hnew : a ∉ s.o := fun hm => by have := h.got a hm; rw [hl.2.2] at this; cases this
  have hmem : ∀ x, x ∈ (takeS how s a).o ↔ x = a ∨ x ∈ s.o := fun x => by
    unfold takeS
    split
    · simp
    · simp [or_comm]
  have ht : (takeS how s a).t = s.t.set a.toNat true := by unfold takeS; split <;> rfl
  refine ⟨fun x hx => ?_, ?_, fun x hx => ?_⟩
  · rcases (hmem x).1 hx with rfl | hx
    · omega
    · exact h.pts x hx
  · unfold takeS
    split
    · exact List.nodup_cons.2 ⟨hnew, h.nod⟩
    · exact List.nodup_append.2 ⟨h.nod, by simp, fun p hp q hq => by rw [List.mem_singleton] at hq; subst hq; exact fun e => hnew (e ▸ hp)⟩
  · rw [ht]
    refine (getD_set (by omega) _).2 ?_
    rcases (hmem x).1 hx with rfl | hx
    · exact .inr rfl
    · exact .inl (h.got x hx)

theorem ofL_ord {how : Int} {g : List Nat} (hr : RightG g) : ordB (g.length : Int) (ofL how g) = true := by
  have key : ∀ k, k ≤ g.length → OrdIn g.length (runS how (begS g) k) := fun k => by
    induction k with
    | zero => exact fun _ => ⟨fun x hx => by simp [runS, begS] at hx, by simp [runS, begS], fun x hx => by simp [runS, begS] at hx⟩
    | succ k ih => exact fun hk => (ih (by omega)).next ((begS_ok hr).run (how := how) (by omega : k ≤ g.length)) (by omega)
  have h := key g.length (Nat.le_refl _)
  exact ordB_iff.2 ⟨by rw [ofL_len hr], h.pts, h.nod⟩

end Go.Proofs.YtcglbopmfdilfaaDoor

namespace Go.Proofs.YtcglbopmfdilfaaDoor
set_option linter.unusedVariables false
set_option linter.unusedSimpArgs false

theorem nextS_o {how : Int} (h3 : how ≠ 3) (s : Srch) : (nextS how s).o = s.o ++ [leastL (worthW how s.g s.t) s.t] := by
  unfold nextS takeS; rw [if_neg h3]

theorem runS_pre {how : Int} (h3 : how ≠ 3) (s : Srch) (k j : Nat) : (runS how s (k + j)).o.take (runS how s k).o.length = (runS how s k).o := by
  induction j with
  | zero => exact List.take_length
  | succ j ih =>
    have e : runS how s (k + (j + 1)) = nextS how (runS how s (k + j)) := rfl
    have hle : (runS how s k).o.length ≤ (runS how s (k + j)).o.length := by
      have := congrArg List.length ih
      rw [List.length_take] at this
      omega
    rw [e, nextS_o h3, List.take_append_of_le_length hle]
    exact ih

theorem ofL_take {how : Int} (h3 : how ≠ 3) {g : List Nat} (hr : RightG g) {k : Nat} (hk : k ≤ g.length) : (runS how (begS g) k).o = (ofL how g).take k := by
  have h1 := runS_pre h3 (begS g) k (g.length - k)
  rw [Nat.add_sub_cancel' hk, ((begS_ok hr).run (how := how) hk).olen] at h1
  exact h1.symm

theorem ofL_at {how : Int} (h3 : how ≠ 3) {g : List Nat} (hr : RightG g) {k : Nat} (hk : k < g.length) (hk' : k < (ofL how g).length) :
    (ofL how g)[k] = leastL (worthW how (runS how (begS g) k).g (runS how (begS g) k).t) (runS how (begS g) k).t := by
  have h1 := ofL_take h3 hr (show k + 1 ≤ g.length from hk)
  have h2 := ofL_take h3 hr (show k ≤ g.length by omega)
  have e : runS how (begS g) (k + 1) = nextS how (runS how (begS g) k) := rfl
  rw [e, nextS_o h3, h2, List.take_succ_eq_append_getElem hk'] at h1
  have := List.append_cancel_left h1
  injection this with this _
  exact this.symm

/-- Who is marked stands in the order so far, and the other way round. -/
theorem runS_got {how : Int} {g : List Nat} (hr : RightG g) {k : Nat} (hk : k ≤ g.length) (i : Nat) : (runS how (begS g) k).t.getD i false = true ↔ (i : Int) ∈ (runS how (begS g) k).o := by
  induction k generalizing i with
  | zero =>
    simp only [runS, begS]
    rw [List.getD_eq_getElem?_getD, List.getElem?_replicate]
    split <;> simp
  | succ k ih =>
    have hok := (begS_ok hr).run (how := how) (show k ≤ g.length by omega)
    have hl := least_ok (f := worthW how (runS how (begS g) k).g (runS how (begS g) k).t) (t := (runS how (begS g) k).t) (by have := hok.left; omega)
    have e : runS how (begS g) (k + 1) = takeS how (runS how (begS g) k) (leastL (worthW how (runS how (begS g) k).g (runS how (begS g) k).t) (runS how (begS g) k).t) := rfl
    have ih2 := ih (by omega)
    rw [e]
    generalize leastL (worthW how (runS how (begS g) k).g (runS how (begS g) k).t) (runS how (begS g) k).t = a at *
    have htl := hok.tlen
    generalize runS how (begS g) k = s at *
    have ht : (takeS how s a).t = s.t.set a.toNat true := by unfold takeS; split <;> rfl
    have hmem : ∀ x, x ∈ (takeS how s a).o ↔ x = a ∨ x ∈ s.o := fun x => by
      unfold takeS
      split
      · simp
      · simp [or_comm]
    rw [ht, getD_set (by omega), hmem, ih2]
    constructor
    · rintro (h | h)
      · exact .inr h
      · exact .inl (by omega)
    · rintro (h | h)
      · exact .inr (by omega)
      · exact .inl h

/-- What the law asks of two points of the order. -/
structure Goes (s : Srch) (f : Int → Int) (a x : Nat) : Prop where
  ta : s.t.getD a false = false
  tx : s.t.getD x false = false
  le : f a < f x ∨ (f a = f x ∧ a ≤ x)

theorem goes_ok {how : Int} (h3 : how ≠ 3) {g : List Nat} (hr : RightG g) {i k : Nat} (hik : i ≤ k) (hk : k < g.length) :
    ∃ (a x : Nat) (hi' : i < (ofL how g).length) (hk' : k < (ofL how g).length), (ofL how g)[i] = (a : Int) ∧ (ofL how g)[k] = (x : Int) ∧ a < g.length ∧ x < g.length ∧ Goes (runS how (begS g) i) (worthW how (runS how (begS g) i).g (runS how (begS g) i).t) a x ∧ runS how (begS g) (i + 1) = takeS how (runS how (begS g) i) (a : Int) := by
  have hlen := ofL_len (how := how) hr
  have hi' : i < (ofL how g).length := by omega
  have hk' : k < (ofL how g).length := by omega
  have hord := ordB_iff.1 (ofL_ord (how := how) hr)
  have hok := (begS_ok hr).run (how := how) (show i ≤ g.length by omega)
  have hl := least_ok (f := worthW how (runS how (begS g) i).g (runS how (begS g) i).t) (t := (runS how (begS g) i).t) (by have := hok.left; omega)
  have hla := leastUp_least (worthW how (runS how (begS g) i).g (runS how (begS g) i).t) (runS how (begS g) i).t (runS how (begS g) i).t.length hl.1
  have hat := ofL_at h3 hr (show i < g.length by omega) hi'
  have hx := hord.2.1 _ (List.getElem_mem hk')
  obtain ⟨x, hx2⟩ : ∃ x : Nat, (ofL how g)[k] = (x : Int) := ⟨((ofL how g)[k]).toNat, by omega⟩
  obtain ⟨a, ha⟩ : ∃ a : Nat, (a : Int) = leastL (worthW how (runS how (begS g) i).g (runS how (begS g) i).t) (runS how (begS g) i).t := ⟨_, Int.toNat_of_nonneg hl.1⟩
  have hrun : runS how (begS g) (i + 1) = takeS how (runS how (begS g) i) (leastL (worthW how (runS how (begS g) i).g (runS how (begS g) i).t) (runS how (begS g) i).t) := rfl
  have hlaE : (leastUp (worthW how (runS how (begS g) i).g (runS how (begS g) i).t) (runS how (begS g) i).t (runS how (begS g) i).t.length).1 = (a : Int) := ha.symm
  rw [← ha] at hat hl hrun
  rw [hlaE] at hla
  have htx : (runS how (begS g) i).t.getD x false = false := by
    rw [Bool.eq_false_iff]
    intro h
    rw [runS_got hr (by omega), ofL_take h3 hr (by omega)] at h
    obtain ⟨j, hj, e⟩ := List.getElem_of_mem h
    rw [List.length_take] at hj
    rw [List.getElem_take, ← hx2] at e
    exact (List.pairwise_iff_getElem.1 hord.2.2) j k (by omega) hk' (by omega) e
  have hta : (runS how (begS g) i).t.getD a false = false := by simpa using hl.2.2
  have htl := hok.tlen
  refine ⟨a, x, hi', hk', hat, hx2, by omega, by omega, ⟨hta, htx, ?_⟩, hrun⟩
  have h5 := hla.2 x (by omega) htx
  rcases h5 with h5 | ⟨h5, h6⟩
  · exact .inl h5
  · exact .inr ⟨h5, by omega⟩

end Go.Proofs.YtcglbopmfdilfaaDoor

namespace Go.Proofs.YtcglbopmfdilfaaDoor
set_option linter.unusedVariables false
set_option linter.unusedSimpArgs false

/-- Where a point stands. -/
def posO (o : List Int) (x : Nat) : Nat := o.idxOf (x : Int)
theorem posO_lt {n : Nat} {o : List Int} (h : ordB (n : Int) o = true) {x : Nat} (hx : x < n) : posO o x < n ∧ ptO o (posO o x) = x := by
  have hl := ord_len h
  obtain ⟨i, hi, e⟩ := ord_sur h hx
  have e1 := (ord_at h hi).1
  have e2 : o.getD i 0 = o[i]'(by omega) := by rw [List.getD_eq_getElem?_getD, List.getElem?_eq_getElem (by omega)]; rfl
  have hm : (x : Int) ∈ o := by rw [← e, ← e1, e2]; exact List.getElem_mem _
  have hp : o.idxOf (x : Int) < o.length := List.idxOf_lt_length_of_mem hm
  unfold posO ptO
  refine ⟨by omega, ?_⟩
  rw [List.getD_eq_getElem?_getD, List.getElem?_eq_getElem hp, Option.getD_some, List.getElem_idxOf hp]
  rfl
theorem posO_pt {n : Nat} {o : List Int} (h : ordB (n : Int) o = true) {i : Nat} (hi : i < n) : posO o (ptO o i) = i := by
  have h1 := (ord_at h hi).2
  obtain ⟨h2, h3⟩ := posO_lt h h1
  exact ord_inj h h2 hi h3
theorem posO_inj {n : Nat} {o : List Int} (h : ordB (n : Int) o = true) {x y : Nat} (hx : x < n) (hy : y < n) (e : posO o x = posO o y) : x = y := by
  rw [← (posO_lt h hx).2, ← (posO_lt h hy).2, e]

theorem peo_n {g : List Nat} {o : List Int} (hr : RightG g) (ho : ordB (g.length : Int) o = true) (hp : PeoG g o) : PeoN (fun x y => besB g x y = true) (posO o) := by
  have pt : ∀ {x y : Nat}, besB g x y = true → x < g.length ∧ y < g.length := fun h => ⟨hr.pts _ _ (hr.sym _ _ h), hr.pts _ _ h⟩
  refine ⟨fun x y h e => ?_, fun x y h => hr.sym _ _ h, fun x y z h e h' => ?_, fun z x y h1 h2 hne h3 h4 => ?_⟩
  · subst e; rw [hr.irr] at h; cases h
  · obtain ⟨z', h'⟩ := h'
    exact posO_inj ho (pt h).1 (pt h').1 e
  · obtain ⟨z1, z2⟩ := posO_lt ho (pt h1).1
    obtain ⟨x1, x2⟩ := posO_lt ho (pt h1).2
    obtain ⟨y1, y2⟩ := posO_lt ho (pt h2).2
    have := hp (posO o z) (posO o x) (posO o y) h3 h4 (fun e => hne (posO_inj ho (pt h1).2 (pt h2).2 e)) x1 y1 (by rw [z2, x2]; exact h1) (by rw [z2, y2]; exact h2)
    rw [x2, y2] at this
    exact this
theorem peo_of {g : List Nat} {o : List Int} (hr : RightG g) (ho : ordB (g.length : Int) o = true) (hp : ∀ z x y, besB g z x = true → besB g z y = true → x ≠ y → posO o z < posO o x → posO o z < posO o y → besB g x y = true) : PeoG g o := by
  intro k i j hki hkj hij hi hj h1 h2
  refine hp _ _ _ h1 h2 (fun e => hij (ord_inj ho hi hj e)) ?_ ?_
  · rw [posO_pt ho (by omega), posO_pt ho hi]; exact hki
  · rw [posO_pt ho (by omega), posO_pt ho hj]; exact hkj

theorem runC_g (s : Srch) : ∀ k, (runS 3 s k).g = s.g
  | 0 => rfl
  | k + 1 => by
    have e : runS 3 s (k + 1) = takeS 3 (runS 3 s k) (leastL (worthW 3 (runS 3 s k).g (runS 3 s k).t) (runS 3 s k).t) := rfl
    rw [e]
    unfold takeS
    rw [if_pos rfl]
    exact runC_g s k
theorem runC_o (s : Srch) (k : Nat) : ∀ j, (runS 3 s (k + j)).o.drop j = (runS 3 s k).o
  | 0 => rfl
  | j + 1 => by
    have e : (runS 3 s (k + (j + 1))).o = leastL (worthW 3 (runS 3 s (k + j)).g (runS 3 s (k + j)).t) (runS 3 s (k + j)).t :: (runS 3 s (k + j)).o := by
      show (takeS 3 (runS 3 s (k + j)) _).o = _
      unfold takeS
      rw [if_pos rfl]
      rfl
    rw [e, List.drop_succ_cons]
    exact runC_o s k j

theorem getD_drop (o : List Int) (i j : Nat) : (o.drop i).getD j 0 = o.getD (i + j) 0 := by
  rw [List.getD_eq_getElem?_getD, List.getElem?_drop, ← List.getD_eq_getElem?_getD]

theorem card_vis {g : List Nat} (hr : RightG g) : VisN (fun x y => besB g x y = true) (posO (ofL 3 g)) (g.length + 1) := by
  have ho := ofL_ord (how := 3) hr
  have hl := ord_len ho
  have pt : ∀ {x y : Nat}, besB g x y = true → x < g.length ∧ y < g.length := fun h => ⟨hr.pts _ _ (hr.sym _ _ h), hr.pts _ _ h⟩
  refine ⟨fun x => ?_, fun x y z h e h' => ?_, fun u v w h1 h2 huw hvw hv => ?_⟩
  · have := List.idxOf_le_length (l := ofL 3 g) (a := (x : Int))
    unfold posO
    omega
  · obtain ⟨z', h'⟩ := h'
    exact posO_inj ho (pt h).1 (pt h').1 e
  · obtain ⟨z, hvz⟩ := hv
    have hu := (pt huw).1
    have hw := (pt huw).2
    have hv := (pt hvz).1
    obtain ⟨u1, u2⟩ := posO_lt ho hu
    obtain ⟨v1, v2⟩ := posO_lt ho hv
    obtain ⟨w1, w2⟩ := posO_lt ho hw
    obtain ⟨k, hk⟩ : ∃ k, k + (posO (ofL 3 g) v + 1) = g.length := ⟨g.length - (posO (ofL 3 g) v + 1), by omega⟩
    have hok := (begS_ok hr).run (how := 3) (show k ≤ g.length by omega)
    have hgot := runS_got (how := 3) hr (show k ≤ g.length by omega)
    have hg := runC_g (begS g) k
    have e1 : (ofL 3 g).drop (posO (ofL 3 g) v + 1) = (runS 3 (begS g) k).o := by
      have e1 := runC_o (begS g) k (posO (ofL 3 g) v + 1)
      rw [hk] at e1
      exact e1
    have e2 : (ofL 3 g).drop (posO (ofL 3 g) v) = (runS 3 (begS g) (k + 1)).o := by
      have e2 := runC_o (begS g) (k + 1) (posO (ofL 3 g) v)
      rw [show k + 1 + posO (ofL 3 g) v = g.length from by omega] at e2
      exact e2
    have e3 : (runS 3 (begS g) (k + 1)).o = leastL (worthW 3 (runS 3 (begS g) k).g (runS 3 (begS g) k).t) (runS 3 (begS g) k).t :: (runS 3 (begS g) k).o := by
      show (takeS 3 (runS 3 (begS g) k) _).o = _
      unfold takeS
      rw [if_pos rfl]
    have e4 : (v : Int) = leastL (worthW 3 (runS 3 (begS g) k).g (runS 3 (begS g) k).t) (runS 3 (begS g) k).t := by
      have : ((ofL 3 g).drop (posO (ofL 3 g) v)).getD 0 0 = (runS 3 (begS g) (k + 1)).o.getD 0 0 := congrArg (·.getD 0 0) e2
      rw [getD_drop, e3, Nat.add_zero, (ord_at ho v1).1, v2] at this
      exact this
    have seen : ∀ x, x < g.length → ((runS 3 (begS g) k).t.getD x false = true ↔ posO (ofL 3 g) v < posO (ofL 3 g) x) := fun x hx => by
      obtain ⟨x1, x2⟩ := posO_lt ho hx
      rw [hgot, ← e1]
      constructor
      · intro hm
        obtain ⟨j, hj, e⟩ := List.getElem_of_mem hm
        have e5 : ((ofL 3 g).drop (posO (ofL 3 g) v + 1)).getD j 0 = (x : Int) := by rw [List.getD_eq_getElem?_getD, List.getElem?_eq_getElem hj, Option.getD_some]; exact e
        have hj2 : posO (ofL 3 g) v + 1 + j < g.length := by
          have : ((ofL 3 g).drop (posO (ofL 3 g) v + 1)).length = (ofL 3 g).length - (posO (ofL 3 g) v + 1) := List.length_drop
          have h6 : j < ((ofL 3 g).drop (posO (ofL 3 g) v + 1)).length := hj
          omega
        rw [getD_drop, (ord_at ho hj2).1] at e5
        have e6 : ptO (ofL 3 g) (posO (ofL 3 g) v + 1 + j) = x := by omega
        rw [← e6, posO_pt ho hj2]
        omega
      · intro hlt
        have h5 : posO (ofL 3 g) x - (posO (ofL 3 g) v + 1) < ((ofL 3 g).drop (posO (ofL 3 g) v + 1)).length := by
          rw [List.length_drop]; omega
        have e5 : ((ofL 3 g).drop (posO (ofL 3 g) v + 1)).getD (posO (ofL 3 g) x - (posO (ofL 3 g) v + 1)) 0 = (x : Int) := by
          rw [getD_drop, show posO (ofL 3 g) v + 1 + (posO (ofL 3 g) x - (posO (ofL 3 g) v + 1)) = posO (ofL 3 g) x from by omega, (ord_at ho x1).1, x2]
        have e6 : ((ofL 3 g).drop (posO (ofL 3 g) v + 1))[posO (ofL 3 g) x - (posO (ofL 3 g) v + 1)] = (x : Int) := by
          rw [← e5, List.getD_eq_getElem?_getD, List.getElem?_eq_getElem h5, Option.getD_some]
        rw [← e6]
        exact List.getElem_mem _
    have hg' : (runS 3 (begS g) k).g = g := hg
    have hmem : ∀ (x y : Nat), x < g.length → ((y : Int) ∈ besT g (runS 3 (begS g) k).t (x : Int) true ↔ besB g x y = true ∧ (runS 3 (begS g) k).t.getD y false = true) := fun x y hx => by
      rw [mem_besT, ptB_nat, ptB_nat]
      simp only [Int.toNat_natCast, decide_eq_true_eq]
      exact ⟨fun ⟨⟨_, _, h1⟩, h2⟩ => ⟨h1, h2⟩, fun ⟨h1, h2⟩ => ⟨⟨hx, hr.pts _ _ h1, h1⟩, h2⟩⟩
    rw [hg'] at e4
    have hle := leastUp_least (worthW 3 g (runS 3 (begS g) k).t) (runS 3 (begS g) k).t (runS 3 (begS g) k).t.length (by
      have : (leastUp (worthW 3 g (runS 3 (begS g) k).t) (runS 3 (begS g) k).t (runS 3 (begS g) k).t.length).1 = (v : Int) := e4.symm
      rw [this]; omega)
    have ev : (leastUp (worthW 3 g (runS 3 (begS g) k).t) (runS 3 (begS g) k).t (runS 3 (begS g) k).t.length).1 = (v : Int) := e4.symm
    rw [ev] at hle
    have hlu := hle.2 u (by rw [hok.tlen]; exact hu) (by
      rw [Bool.eq_false_iff]
      intro h5
      have := (seen u hu).1 h5
      omega)
    have hcard : (besT g (runS 3 (begS g) k).t (u : Int) true).length ≤ (besT g (runS 3 (begS g) k).t (v : Int) true).length := by
      have ew : ∀ x : Int, worthW 3 g (runS 3 (begS g) k).t x = -((besT g (runS 3 (begS g) k).t x true).length : Int) := fun x => rfl
      rw [ew, ew] at hlu
      omega
    apply Classical.byContradiction
    intro hno
    have hsub : ∀ x ∈ (w : Int) :: besT g (runS 3 (begS g) k).t (v : Int) true, x ∈ besT g (runS 3 (begS g) k).t (u : Int) true := by
      intro x hx
      rcases List.mem_cons.1 hx with rfl | hx
      · exact (hmem u w hu).2 ⟨huw, (seen w hw).2 h2⟩
      · have hx' := hx
        obtain ⟨⟨_, hxp, _⟩, _⟩ := mem_besT.1 hx
        obtain ⟨x1, x2⟩ := ptB_iff.1 hxp
        obtain ⟨y, rfl⟩ : ∃ y : Nat, x = (y : Int) := ⟨x.toNat, by omega⟩
        obtain ⟨h6, h7⟩ := (hmem v y hv).1 hx'
        refine (hmem u y hu).2 ⟨?_, h7⟩
        apply Classical.byContradiction
        intro h8
        exact hno ⟨y, (seen y (by omega)).1 h7, h6, h8⟩
    have hnd : ((w : Int) :: besT g (runS 3 (begS g) k).t (v : Int) true).Nodup := by
      refine List.nodup_cons.2 ⟨fun hx => hvw ((hmem v w hv).1 hx).1, ?_⟩
      exact (besT_asc _ _ _ _).imp (fun h => by omega)
    have := nodupI_len _ _ hnd hsub
    rw [List.length_cons] at this
    omega

/-- The order by Card joins nothing, where some order joins nothing. -/
theorem card_peo {g : List Nat} {o : List Int} (hr : RightG g) (ho : ordB (g.length : Int) o = true) (hp : PeoG g o) : PeoG g (ofL 3 g) :=
  peo_of hr (ofL_ord hr) fun _ _ _ h1 h2 hne h3 h4 => vis_peo (peo_n hr ho hp) (card_vis hr) h1 h2 hne h3 h4

/-- Is there an order by which nothing is joined? -/
def ChordG (g : List Nat) : Prop := ∃ o, ordB (g.length : Int) o = true ∧ PeoG g o
theorem chord_iff {g : List Nat} (hr : RightG g) : ChordG g ↔ fillG g (ofL 3 g) = g := by
  rw [fill_id hr (ofL_ord hr)]
  exact ⟨fun ⟨o, ho, hp⟩ => card_peo hr ho hp, fun h => ⟨_, ofL_ord hr, h⟩⟩

/-- Of those left the first of such an order joins nothing. -/
theorem peo_first {g : List Nat} {o : List Int} (hr : RightG g) (ho : ordB (g.length : Int) o = true) (hp : PeoG g o) (t : List Bool) (ht : t.length = g.length) (hleft : 0 < leftN t) :
    ∃ v, v < g.length ∧ t.getD v false = false ∧ ∀ b ∈ besT g t (v : Int) false, ∀ c ∈ besT g t (v : Int) false, b ≠ c → besB g b.toNat c.toNat = true := by
  obtain ⟨i0, hi0, hf0⟩ := leftN_pos hleft
  have hex : ∃ k, k < g.length ∧ t.getD (ptO o k) false = false := by
    obtain ⟨j, hj, e⟩ := ord_sur ho (show i0 < g.length by omega)
    exact ⟨j, hj, by rw [e]; exact hf0⟩
  obtain ⟨k, ⟨hk, hkf⟩, hmin⟩ : ∃ k, (k < g.length ∧ t.getD (ptO o k) false = false) ∧ ∀ j, j < k → ¬ (j < g.length ∧ t.getD (ptO o j) false = false) := by
    have key : ∀ m, (∃ k, k < m ∧ (k < g.length ∧ t.getD (ptO o k) false = false)) → ∃ k, (k < g.length ∧ t.getD (ptO o k) false = false) ∧ ∀ j, j < k → ¬ (j < g.length ∧ t.getD (ptO o j) false = false) := by
      intro m
      induction m with
      | zero => rintro ⟨k, hk, _⟩; omega
      | succ m ih =>
        rintro ⟨k, hk, h⟩
        by_cases h5 : ∃ k, k < m ∧ (k < g.length ∧ t.getD (ptO o k) false = false)
        · exact ih h5
        · exact ⟨k, h, fun j hj h6 => h5 ⟨j, by omega, h6⟩⟩
    obtain ⟨k, hk, h⟩ := hex
    exact key (k + 1) ⟨k, by omega, hk, h⟩
  refine ⟨ptO o k, (ord_at ho hk).2, hkf, fun b hb c hc hne => ?_⟩
  obtain ⟨⟨_, hb1, hb2⟩, hb3⟩ := mem_besT.1 hb
  obtain ⟨⟨_, hc1, hc2⟩, hc3⟩ := mem_besT.1 hc
  obtain ⟨b1, b2⟩ := ptB_iff.1 hb1
  obtain ⟨c1, c2⟩ := ptB_iff.1 hc1
  rw [Int.toNat_natCast] at hb2 hc2
  obtain ⟨i, hi, ei⟩ := ord_sur ho (show b.toNat < g.length by omega)
  obtain ⟨j, hj, ej⟩ := ord_sur ho (show c.toNat < g.length by omega)
  rw [← ei] at hb2 hb3 ⊢
  rw [← ej] at hc2 hc3 ⊢
  have hik : i ≠ k := fun e => by subst e; rw [hr.irr] at hb2; cases hb2
  have hjk : j ≠ k := fun e => by subst e; rw [hr.irr] at hc2; cases hc2
  have h1 : k < i := by
    rcases Nat.lt_or_ge k i with h | h
    · exact h
    · exact absurd ⟨hi, hb3⟩ (hmin i (by omega))
  have h2 : k < j := by
    rcases Nat.lt_or_ge k j with h | h
    · exact h
    · exact absurd ⟨hj, hc3⟩ (hmin j (by omega))
  exact hp k i j h1 h2 (fun e => hne (by subst e; omega)) hi hj hb2 hc2

theorem apart_none {g : List Nat} {t : List Bool} {a : Int} (h : ∀ b ∈ besT g t a false, ∀ c ∈ besT g t a false, b ≠ c → besB g b.toNat c.toNat = true) (hn : (besT g t a false).Nodup) : apartL g t a = [] := by
  refine List.eq_nil_iff_forall_not_mem.2 (fun p hp => ?_)
  obtain ⟨b, c⟩ := p
  obtain ⟨i, j, hi, hj, hji, _, rfl, rfl, hb⟩ := (mem_apUp (Nat.le_refl _)).1 hp
  have hne : (besT g t a false)[i] ≠ (besT g t a false)[j] := fun e => (List.pairwise_iff_getElem.1 hn j i hj hi hji) e.symm
  have := h _ (List.getElem_mem hi) _ (List.getElem_mem hj) hne
  have p1 := mem_besT.1 (List.getElem_mem hi)
  have p2 := mem_besT.1 (List.getElem_mem hj)
  rw [besI_eq, p1.1.2.1, p2.1.2.1, this] at hb
  cases hb
theorem clq_of_apart {g : List Nat} (hr : RightG g) {t : List Bool} {a : Int} (h : apartL g t a = []) : joinPs g (apartL g t a) = g := by rw [h]; rfl

theorem runS1_g {g : List Nat} {o : List Int} (hr : RightG g) (ho : ordB (g.length : Int) o = true) (hp : PeoG g o) {k : Nat} (hk : k ≤ g.length) : (runS 1 (begS g) k).g = g := by
  induction k with
  | zero => rfl
  | succ k ih =>
    have hg := ih (by omega)
    have hok := (begS_ok hr).run (how := 1) (show k ≤ g.length by omega)
    obtain ⟨v, hv, hvf, hcl⟩ := peo_first hr ho hp (runS 1 (begS g) k).t hok.tlen (by have := hok.left; omega)
    have h0 : apartL g (runS 1 (begS g) k).t (v : Int) = [] := apart_none hcl ((besT_asc _ _ _ _).imp (fun h => by omega))
    have hl := least_ok (f := worthW 1 g (runS 1 (begS g) k).t) (t := (runS 1 (begS g) k).t) (by have := hok.left; omega)
    have hle := leastUp_least (worthW 1 g (runS 1 (begS g) k).t) (runS 1 (begS g) k).t (runS 1 (begS g) k).t.length hl.1
    have h1 := hle.2 v (by rw [hok.tlen]; exact hv) hvf
    have ew : ∀ x : Int, worthW 1 g (runS 1 (begS g) k).t x = ((apartL g (runS 1 (begS g) k).t x).length : Int) := fun x => rfl
    have h2 : apartL g (runS 1 (begS g) k).t (leastL (worthW 1 g (runS 1 (begS g) k).t) (runS 1 (begS g) k).t) = [] := by
      rw [ew, ew, h0] at h1
      refine List.length_eq_zero_iff.1 ?_
      have e : (leastUp (worthW 1 g (runS 1 (begS g) k).t) (runS 1 (begS g) k).t (runS 1 (begS g) k).t.length).1 = leastL (worthW 1 g (runS 1 (begS g) k).t) (runS 1 (begS g) k).t := rfl
      rw [e, List.length_nil] at h1
      omega
    show (takeS 1 (runS 1 (begS g) k) (leastL (worthW 1 (runS 1 (begS g) k).g (runS 1 (begS g) k).t) (runS 1 (begS g) k).t)).g = g
    rw [hg]
    have hl1 := hl.1
    have hl2 := hl.2.1
    generalize leastL (worthW 1 g (runS 1 (begS g) k).t) (runS 1 (begS g) k).t = a at *
    obtain ⟨m, rfl⟩ : ∃ m : Nat, a = (m : Int) := ⟨a.toNat, by omega⟩
    unfold takeS
    rw [if_neg (by decide)]
    simp only [Int.toNat_natCast]
    have eap : apartL g ((runS 1 (begS g) k).t.set m true) (m : Int) = apartL g (runS 1 (begS g) k).t (m : Int) := by unfold apartL; rw [besT_gone hr]
    rw [hg, eap, h2]
    rfl

theorem elim_run {g : List Nat} (hr : RightG g) {k : Nat} (hk : k ≤ g.length) : elimU g (ofL 1 g) k = runS 1 (begS g) k := by
  induction k with
  | zero => rfl
  | succ k ih =>
    have h := ih (by omega)
    have hk' : k < (ofL 1 g).length := by rw [ofL_len hr]; omega
    have := ofL_at (how := 1) (by decide) hr (show k < g.length by omega) hk'
    show goS (elimU g (ofL 1 g) k) ((ofL 1 g).getD k 0) = nextS 1 (runS 1 (begS g) k)
    rw [h, List.getD_eq_getElem?_getD, List.getElem?_eq_getElem hk', Option.getD_some, this]
    rfl

/-- So does the one by Fill. -/
theorem least_peo {g : List Nat} {o : List Int} (hr : RightG g) (ho : ordB (g.length : Int) o = true) (hp : PeoG g o) : PeoG g (ofL 1 g) := by
  refine (fill_id hr (ofL_ord hr)).1 ?_
  unfold fillG
  rw [ofL_len hr, elim_run hr (Nat.le_refl _)]
  exact runS1_g hr ho hp (Nat.le_refl _)

end Go.Proofs.YtcglbopmfdilfaaDoor

namespace Go.Proofs.YtcglbopmfdilfaaDoor
open Go.RowKit
set_option linter.unusedVariables false
set_option linter.unusedSimpArgs false
set_option maxRecDepth 20000

/-- A search that the call made, from block B on; its graph may be the caller's. -/
structure StO (B : Nat) (w : World) (b : Nat) (s : Srch) (x y z : Value) : Prop where
  box : BoxR w b x y z
  g : Words w x s.g
  t : OwnB B w y s.t
  o : OwnI B w z s.o
  bB : B ≤ b
  nil : s.o = [] → z = .slice none 0 0
  xy : Apart x s.g y
  xz : Apart x s.g z
  xb : s.g ≠ [] → x.ownBlock ≠ some b
  yb : y.ownBlock ≠ some b
  zb : z.ownBlock ≠ some b
  yz : Sep y z

theorem StO.st {B : Nat} {w : World} {b : Nat} {s : Srch} {x y z : Value} (h : StO B w b s x y z) : StV w b s x y z := ⟨h.box, h.g, Seq.of_own h.t, Seq.of_own h.o⟩

theorem StO.below {B : Nat} {w w' : World} {b : Nat} {s : Srch} {x y z : Value} (h : StO B w b s x y z) (hb : Below w.heap.size w w') : StO B w' b s x y z :=
  ⟨h.box.below hb, h.g.below hb, own_below h.t hb, own_below h.o hb, h.bB, h.nil, h.xy, h.xz, h.xb, h.yb, h.zb, h.yz⟩

theorem grown_set (w : World) (b i : Nat) (v : Value) : w.grownBy (w.setCell ⟨b, i, none⟩ v) (some b) :=
  ⟨rfl, rfl, rfl, by simp, fun k hk hne => by
    have : k ≠ b := fun e => hne (by rw [e])
    exact heap_setCell_other _ _ _ _ this⟩

/-- A point is marked. -/
theorem StO.setT {B : Nat} {w : World} {b a : Nat} {s : Srch} {x y z : Value} (h : StO B w b s x y z) (ha : a < s.t.length) :
    ∃ gy cy, y = .slice (some ⟨gy, 0, none⟩) s.t.length cy ∧ cy ≤ maxLen ∧ s.t.length ≤ cy ∧ (∃ u, w.cell? ⟨gy, a, none⟩ = some u) ∧ w.frozen? ⟨gy, a, none⟩ = false ∧ StO B (w.setCell ⟨gy, a, none⟩ (.bool true)) b { s with t := s.t.set a true } x y z ∧ Below B w (w.setCell ⟨gy, a, none⟩ (.bool true)) := by
  obtain ⟨gy, cy, rfl, h1, h2, h3, h4⟩ := own_someB h.t (by omega)
  obtain ⟨k1, k2, k3, k4⟩ := own_setB h.t rfl ha true
  have gr := grown_set w gy a (.bool true)
  refine ⟨gy, cy, rfl, h2, h1, k1, k2, ⟨?_, ?_, ?_, ?_, h.bB, h.nil, h.xy, h.xz, h.xb, h.yb, h.zb, h.yz⟩, k4⟩
  · exact (gr.block b h.box.lt (fun e => h.yb e.symm)).trans h.box
  · exact h.g.setCell (fun hne e => h.xy hne gy e rfl) _
  · simpa using k3
  · exact own_same h.o (fun c hc => gr.block c (h.o.lt c hc).2 (fun e => h.yz gy rfl (by rw [hc, e])))

/-- The order has grown. -/
theorem StO.setO {B : Nat} {w w1 : World} {b : Nat} {s : Srch} {x y z z' : Value} {o' : List Int} (h : StO B w b s x y z) (hB : B ≤ w.heap.size) (ho : OwnI B w1 z' o') (g : Grew B w w1 z z') (hne : o' ≠ []) :
    (∃ u, w1.cell? ⟨b, 2, none⟩ = some u) ∧ w1.frozen? ⟨b, 2, none⟩ = false ∧ StO B (w1.setCell ⟨b, 2, none⟩ z') b { s with o := o' } x y z' ∧ Below B w (w1.setCell ⟨b, 2, none⟩ z') := by
  have hbx : BoxR w1 b x y z := (g.by_.block b h.box.lt (fun e => h.zb e.symm)).trans h.box
  have gr := grown_set w1 b 2 z'
  have hblt := h.box.lt
  have hzb : z'.ownBlock ≠ some b := by
    rcases g.at_ with e | ⟨k, e, hk⟩
    · rw [e]; exact h.zb
    · rw [e]; intro e2; injection e2 with e2; omega
  have hyz : Sep y z' := h.yz.grewN (A := B) h.t.lt g
  have hg1 : Words w1 x s.g := h.g.grew g h.xz
  have ht1 : OwnB B w1 y s.t := own_grew h.t g h.yz.or
  refine ⟨⟨_, hbx.cells.2.2⟩, hbx.frozen 2, ⟨?_, ?_, ?_, ?_, h.bB, fun e => absurd e hne, h.xy, h.xz.grew h.g g, h.xb, h.yb, hzb, hyz⟩, ?_⟩
  · exact heap_setCell_same w1 b 2 _ _ _ hbx
  · exact hg1.setCell (fun hne e => h.xb hne e) _
  · exact own_same ht1 (fun c hc => gr.block c (ht1.lt c hc).2 (fun e => h.yb (by rw [hc, e])))
  · exact own_same ho (fun c hc => gr.block c (ho.lt c hc).2 (fun e => hzb (by rw [hc, e])))
  · exact g.below.setCell h.bB _

/-- The graph is another one. -/
theorem StO.setG {B : Nat} {w w1 : World} {b : Nat} {s : Srch} {x y z x' : Value} {g' : List Nat} (h : StO B w b s x y z) (hB : B ≤ w.heap.size) (ho : OwnW w.heap.size w1 x' g') (hb : Below w.heap.size w w1) :
    (∃ u, w1.cell? ⟨b, 0, none⟩ = some u) ∧ w1.frozen? ⟨b, 0, none⟩ = false ∧ StO B (w1.setCell ⟨b, 0, none⟩ x') b { s with g := g' } x' y z ∧ Below B w (w1.setCell ⟨b, 0, none⟩ x') := by
  have hbx : BoxR w1 b x y z := h.box.below hb
  have gr := grown_set w1 b 0 x'
  have hblt := h.box.lt
  have hx : ∀ c, x'.ownBlock = some c → w.heap.size ≤ c := fun c hc => (ho.lt c hc).1
  have hxb : x'.ownBlock ≠ some b := fun e => by have := hx b e; omega
  have ht1 : OwnB B w1 y s.t := own_below h.t hb
  have ho1 : OwnI B w1 z s.o := own_below h.o hb
  refine ⟨⟨_, hbx.cells.1⟩, hbx.frozen 0, ⟨?_, ?_, ?_, ?_, h.bB, h.nil, fun _ c h1 h2 => ?_, fun _ c h1 h2 => ?_, fun _ => hxb, h.yb, h.zb, h.yz⟩, ?_⟩
  · exact heap_setCell_same w1 b 0 _ _ _ hbx
  · exact (Seq.of_own ho).setCell (fun _ => hxb) _
  · exact own_same ht1 (fun c hc => gr.block c (ht1.lt c hc).2 (fun e => h.yb (by rw [hc, e])))
  · exact own_same ho1 (fun c hc => gr.block c (ho1.lt c hc).2 (fun e => h.zb (by rw [hc, e])))
  · have := hx c h1; have := (h.t.lt c h2).2; omega
  · have := hx c h1; have := (h.o.lt c h2).2; omega
  · exact (hb.mono hB).setCell h.bB _

end Go.Proofs.YtcglbopmfdilfaaDoor

namespace Go.Proofs.YtcglbopmfdilfaaDoor
open Go.RowKit
set_option linter.unusedVariables false
set_option linter.unusedSimpArgs false
set_option maxRecDepth 20000

/-- The slice value v reads as these pairs. -/
def Prs (w : World) (v : Value) (l : List (Int × Int)) : Prop :=
  ∃ a cap, v = .slice a l.length cap ∧ l.length ≤ cap ∧ cap ≤ maxLen ∧ ∀ i (h : i < l.length), ∃ b off, a = some ⟨b, off, none⟩ ∧ w.cell? ⟨b, off + i * 2, none⟩ = some (.int .i64 l[i].1) ∧ w.cell? ⟨b, off + i * 2 + 1, none⟩ = some (.int .i64 l[i].2)
theorem Prs.below {w w' : World} {v : Value} {l : List (Int × Int)} (h : Prs w v l) (hb : Below w.heap.size w w') : Prs w' v l := by
  obtain ⟨a, cap, h1, h2, h3, h4⟩ := h
  refine ⟨a, cap, h1, h2, h3, fun i hi => ?_⟩
  obtain ⟨b, off, k1, k2, k3⟩ := h4 i hi
  exact ⟨b, off, k1, Below.cell_of hb k2, Below.cell_of hb k3⟩
theorem Prs.nil (w : World) : Prs w (.slice none 0 0) [] := ⟨none, 0, rfl, by simp, by simp [maxLen], fun i h => by simp at h⟩
theorem Prs.form {w : World} {v : Value} {l : List (Int × Int)} (h : Prs w v l) : ∃ a cap, v = .slice a l.length cap ∧ cap ≤ maxLen := by
  obtain ⟨a, cap, h1, h2, h3, h4⟩ := h
  exact ⟨a, cap, h1, h3⟩
theorem Prs.at {w : World} {a : Option Addr} {n cap : Nat} {l : List (Int × Int)} (h : Prs w (.slice a n cap) l) {k : Nat} (hk : k < l.length) :
    ∃ b off, a = some ⟨b, off, none⟩ ∧ w.cell? ⟨b, off + k * 2, none⟩ = some (.int .i64 l[k].1) ∧ w.cell? ⟨b, off + k * 2 + 1, none⟩ = some (.int .i64 l[k].2) := by
  obtain ⟨a', cap', h1, h2, h3, h4⟩ := h
  cases h1
  exact h4 k hk
def flatP (l : List (Int × Int)) : List Value := l.flatMap fun p => [Value.int .i64 p.1, Value.int .i64 p.2]
theorem flatP_len (l : List (Int × Int)) : (flatP l).length = l.length * 2 := by
  induction l with
  | nil => rfl
  | cons x r ih => simp only [flatP, List.flatMap_cons, List.length_append, List.length_cons, List.length_nil] at *; omega
theorem flatP_at : ∀ (l : List (Int × Int)) (i : Nat) (h : i < l.length), (flatP l)[i * 2]? = some (.int .i64 l[i].1) ∧ (flatP l)[i * 2 + 1]? = some (.int .i64 l[i].2)
  | x :: r, 0, _ => by simp [flatP]
  | x :: r, i + 1, h => by
    have ih := flatP_at r i (by simpa using h)
    have e : flatP (x :: r) = [Value.int .i64 x.1, Value.int .i64 x.2] ++ flatP r := by simp [flatP]
    have e1 : (i + 1) * 2 = i * 2 + 2 := by omega
    rw [e, e1]
    refine ⟨?_, ?_⟩
    · rw [List.getElem?_append_right (by simp)]; simpa using ih.1
    · rw [List.getElem?_append_right (by simp)]; simpa [Nat.add_sub_cancel] using ih.2

/-- The call's own slice of pairs. -/
abbrev Own2 (B : Nat) (w : World) (v : Value) (l : List (Int × Int)) : Prop := w.ownsRow B 88 2 v l.length (flatP l)

theorem Own2.prs {B : Nat} {w : World} {v : Value} {l : List (Int × Int)} (h : Own2 B w v l) : Prs w v l := by
  obtain ⟨h1, h2⟩ := h
  rcases h2 with ⟨rfl, h0⟩ | ⟨g, cap, cur, hv, hg, hh, hn, hm, hs, ht⟩
  · have : l = [] := List.length_eq_zero_iff.1 h0
    subst this
    exact Prs.nil _
  · refine ⟨_, cap, hv, hn, hm, fun i hi => ⟨g, 0, rfl, ?_, ?_⟩⟩
    · have e := (flatP_at l i hi).1
      rw [← ht, List.getElem?_take] at e
      split at e
      · simp only [World.cell?, hh]; simpa using e
      · cases e
    · have e := (flatP_at l i hi).2
      rw [← ht, List.getElem?_take] at e
      split at e
      · simp only [World.cell?, hh]; simpa using e
      · cases e

theorem Tryd.infoPr : (Tryd.prog.info? 88).map (fun i => (i.zero, i.size, i.bytes)) = some (some (.agg #[.int .i64 0, .int .i64 0]), 2, 16) := by kernel_rfl

theorem op_app_pair {w : World} {o : Oper} {a : Act} {K : Act → World → Prop} {Q : Exit → Act → World → Prop} (s x : Operand)
    (ho : o.op = .call { callee := .builtin .append, args := #[s, x], argTypes := #[86, 86] }) {B : Nat} {v : Value} {l : List (Int × Int)} {y : Int × Int} (hown : Own2 B w v l) (hs : a.eval s = v) (hB : B ≤ w.heap.size)
    (hx : a.eval x = .slice (some ⟨w.heap.size, 0, none⟩) 1 1) (hlen : l.length < 100000000)
    (h : ∀ v' w', Own2 B w' v' (l ++ [y]) → Grew B w w' v v' → K (a.put o.dst v') w') :
    o.wp Tryd.prog a (w.alloc (.cells #[.int .i64 y.1, .int .i64 y.2] 88)) K Q := by
  obtain ⟨i, hi, hz0, hz1, hz2⟩ := info_parts Tryd.infoPr
  refine op_append _ s x 86 ho B 88 i (.agg #[.int .i64 0, .int .i64 0]) 2 16 Tryd.underlying86 hi hz0 hz1 hz2 rfl (by decide) v l.length (flatP l) hs (hown.alloc _) ⟨w.heap.size, 0, none⟩ 1 1 [.int .i64 y.1, .int .i64 y.2] hx rfl
    ?_ ?_ ?_ ?_ ?_ ?_
  · intro j u hj
    match j, hj with
    | 0, hj => simp at hj; subst hj; simp [Addr.add]
    | 1, hj => simp at hj; subst hj; simp [Addr.add]
  · intro u hu; simp at hu; rcases hu with rfl | rfl <;> rfl
  · unfold maxLen; omega
  · omega
  · simp; omega
  · intro v' w' hown' hgrow hat
    refine h v' w' (by simpa [Own2, flatP] using hown') ⟨?_, ?_, ?_⟩
    · exact ((Below.refl B w).alloc hB _).grown hgrow (by simp; omega) (fun k hk => (hown.lt k hk).1)
    · exact ⟨hgrow.os, hgrow.tape, hgrow.output, Nat.le_trans (by simp) hgrow.size, fun k hk hne => (hgrow.block k (by simp; omega) hne).trans (Below.heap_alloc _ _ _ hk)⟩
    · rcases hat with hat | hat
      · exact .inl hat
      · exact .inr ⟨_, hat, by simp⟩

theorem wp_app_pair {w : World} {ops : Array Oper} {rest : List Oper} {o : Oper} {a : Act} {Q : Exit → Act → World → Prop} (hgd : o.guard = none) (s x : Operand)
    (ho : o.op = .call { callee := .builtin .append, args := #[s, x], argTypes := #[86, 86] }) {B : Nat} {v : Value} {l : List (Int × Int)} {y : Int × Int} (hown : Own2 B w v l) (hs : a.eval s = v) (hB : B ≤ w.heap.size)
    (hx : a.eval x = .slice (some ⟨w.heap.size, 0, none⟩) 1 1) (hlen : l.length < 100000000)
    (h : ∀ v' w', Own2 B w' v' (l ++ [y]) → Grew B w w' v v' → wpList Tryd.prog ops Q rest (a.put o.dst v') w') :
    wpList Tryd.prog ops Q (o :: rest) a (w.alloc (.cells #[.int .i64 y.1, .int .i64 y.2] 88)) :=
  wpList_plain hgd fun _ hK => op_app_pair s x ho hown hs hB hx hlen fun v' w' h1 h2 => hK _ _ (h v' w' h1 h2)

theorem wp_app_pair2 {w : World} {ops : Array Oper} {rest : List Oper} {o : Oper} {a : Act} {Q : Exit → Act → World → Prop} (hgd : o.guard = none) (s x : Operand)
    (ho : o.op = .call { callee := .builtin .append, args := #[s, x], argTypes := #[86, 86] }) {B n : Nat} {v : Value} {l : List (Int × Int)} {y : Int × Int} (hown : Own2 B w v l) (hs : a.eval s = v) (hB : B ≤ w.heap.size)
    (hx : a.eval x = .slice (some ⟨n, 0, none⟩) 1 1) (hn : n = w.heap.size) (hlen : l.length < 100000000)
    (h : ∀ v' w', Own2 B w' v' (l ++ [y]) → Grew B w w' v v' → wpList Tryd.prog ops Q rest (a.put o.dst v') w') :
    wpList Tryd.prog ops Q (o :: rest) a (w.alloc (.cells #[.int .i64 y.1, .int .i64 y.2] 88)) := by
  subst hn
  exact wp_app_pair hgd s x ho hown hs hB hx hlen h

theorem own_new2 {B : Nat} {e : TypeId} {k : Nat} {w : World} {v : Value} {n : Nat} {xs : List Value} (h : w.ownsRow B e k v n xs) : New B w v := h.lt
theorem own_sl2 {B : Nat} {e : TypeId} {k : Nat} {w : World} {v : Value} {n : Nat} {xs : List Value} (h : w.ownsRow B e k v n xs) : ∃ a m c, v = .slice a m c := by
  obtain ⟨h1, h2⟩ := h
  rcases h2 with ⟨rfl, rfl⟩ | ⟨g, cap, cur, hv, _⟩
  · exact ⟨_, _, _, rfl⟩
  · exact ⟨_, _, _, hv⟩
theorem own_below2 {B : Nat} {e : TypeId} {k : Nat} {w w' : World} {v : Value} {n : Nat} {xs : List Value} (h : w.ownsRow B e k v n xs) (hb : Below w.heap.size w w') : w'.ownsRow B e k v n xs :=
  h.kept (row := none) ⟨hb.os, hb.tape, hb.output, hb.size, fun k hk _ => hb.block k hk⟩ (by cases v.ownBlock <;> simp)


theorem getDI {l : List Int} {k : Nat} (hk : k < l.length) : l[k] = l.getD k 0 := by rw [List.getD_eq_getElem?_getD, List.getElem?_eq_getElem hk]; rfl

set_option maxHeartbeats 4000000 in
theorem apartS_any {w : World} {b : Nat} {s : Srch} {x y z : Value} (h : StV w b s x y z) (hr : RightG s.g) (hl : s.t.length = s.g.length) (hT : TabD w) (a : Int) :
    Calls Tryd.prog 54 #[.pointer (some ⟨b, 0, none⟩), .int .i64 a] w fun e w' => ∃ v, e = .returned v ∧ Own2 w.heap.size w' v (apartL s.g s.t a) ∧ Below w.heap.size w w' := by
  have hn : s.g.length ≤ 64 := by have := hr.few; omega
  have hr40 := hr.few
  have HN := hide (besideS_any h hr hl hT a false)
  have HLN := besT_len s.g s.t a false
  have HBS := hide (fun W (hb : Below w.heap.size w W) (p q : Int) => beside_any (a := p) (b := q) (h.g.below hb) hn hr.w64)
  obtain ⟨ax, cx, rfl, _, _⟩ := h.g.form
  have HS := hide (fun W (hb : Below w.heap.size w W) => (h.box.below hb).cells)
  unfold apartL
  clear h hT hr hl
  generalize besT s.g s.t a false = L at *
  go_enter Tryd.func54, Tryd.ntmps54
  go_wp2_with fail
  refine (unhide HN).mono ?_
  rintro e w1 ⟨vn, rfl, ho1, hb1⟩
  obtain ⟨an, cn, rfl, hnl, hnc⟩ := (Seq.of_own ho1).form
  unfold maxLen at hnc
  have HNV := hide (fun W (hb : Below w1.heap.size w1 W) => (Seq.of_own ho1).below hb)
  have HB1 := hide hb1
  have hz1 := hb1.size
  clear ho1 hb1 HN
  go_wp2
  go_loopw [5, 16] (fun v i wr => ∃ k : Nat, k ≤ L.length ∧ i = .int .i64 k ∧ Own2 w1.heap.size wr v (apUp s.g L k) ∧ Below w1.heap.size w1 wr) (fun _ i _ => L.length - (intOf i).toNat)
  case atStart => exact ⟨0, by omega, rfl, (show Own2 _ _ _ [] from World.ownsRow_nil _ _ _ _), Below.refl _ _⟩
  case round =>
    obtain ⟨k, hk, rfl, hown, hbel⟩ := hrel
    rename World => wr
    have hzr := hbel.size
    by_cases hkl : k < L.length
    · obtain ⟨bn, on, e2, q2⟩ := (unhide HNV wr hbel).at hkl
      subst e2
      rw [getDI hkl] at q2
      have hsu := apUp_succ s.g L k
      have HSU := hide hsu
      have hul := apUp_len s.g L k
      have hkk : k * k ≤ 40 * 40 := Nat.mul_le_mul (by omega) (by omega)
      have hbd : (k : Int) ≤ (cn : Int) := by omega
      have HO := hide hown
      have HBE := hide hbel
      have hrow0 := apRow_zero s.g L k
      have hrs := fun m hm => apRow_succ s.g L k m hm
      generalize L.getD k 0 = p at *
      have HRS := hide hrs
      clear hsu hown hbel hrs
      go_wp2
      go_loopw [5, 25] (fun v i wq => ∃ m : Nat, m ≤ k ∧ i = .int .i64 m ∧ Own2 w1.heap.size wq v (apUp s.g L k ++ apRow s.g L k m) ∧ Below w1.heap.size w1 wq) (fun _ i _ => k - (intOf i).toNat)
      case atStart => exact ⟨0, by omega, rfl, by rw [hrow0, List.append_nil]; exact unhide HO, unhide HBE⟩
      case round =>
        clear HO HBE hrow0 q2
        obtain ⟨m, hm, rfl, hown, hbel⟩ := hrel
        rename World => wq
        have hzq := hbel.size
        by_cases hml : m < k
        · have hmL : m < L.length := by omega
          obtain ⟨bn', on', e3, q3⟩ := (unhide HNV wq hbel).at hmL
          cases e3
          have hbw := (unhide HB1).trans (hbel.mono hz1)
          obtain ⟨y0, y1, y2⟩ := unhide HS wq hbw
          have hrs2 := unhide HRS m hmL
          have HBB := hide (unhide HBS wq hbw p L[m])
          have hrl := apRow_len s.g L k m
          generalize L[m] = q at *
          obtain ⟨A, hA⟩ : ∃ A, A = apUp s.g L k := ⟨_, rfl⟩
          obtain ⟨F, hF⟩ : ∃ F, F = apRow s.g L k m := ⟨_, rfl⟩
          obtain ⟨F', hF'⟩ : ∃ F, F = apRow s.g L k (m + 1) := ⟨_, rfl⟩
          rw [← hF, ← hF'] at hrs2
          rw [← hA, ← hF] at hown
          rw [← hF] at hrl
          rw [← hA] at hul
          have HA := hide hA
          have HF' := hide hF'
          have HO := hide hown
          have HBE := hide hbel
          clear hA hF hF' hown hbel hbw y1 y2
          cases hbs : besI s.g p q with
          | true =>
            rw [hbs] at HBB
            rw [if_pos hbs] at hrs2
            have HR2 := hide hrs2
            clear hrs2 hbs
            go_wp2_with fail
            refine (unhide HBB).mono ?_
            rintro e w3 ⟨rfl, hb3⟩
            have hown3 := (unhide HO)
            have HO3 := hide (own_below2 (unhide HO) hb3)
            have HBE3 := hide ((unhide HBE).trans (hb3.mono hzq))
            clear hb3 hown3 y0 q3
            go_wp2
            go_roundw
            case rel => exact ⟨m + 1, by omega, by go_num, by rw [← unhide HA, ← unhide HF', unhide HR2]; exact unhide HO3, unhide HBE3⟩
            case measure => simp [intOf]; omega
          | false =>
            rw [hbs] at HBB
            rw [if_neg (by rw [hbs]; decide)] at hrs2
            have HR2 := hide hrs2
            clear hrs2 hbs
            go_wp2_with fail
            refine (unhide HBB).mono ?_
            rintro e w3 ⟨rfl, hb3⟩
            have HO3 := hide (own_below2 (unhide HO) hb3)
            have HBE3 := hide ((unhide HBE).trans (hb3.mono hzq))
            have hz3 := (unhide HBE3).size
            have hlen : (A ++ F).length < 100000000 := by rw [List.length_append]; omega
            clear hb3 y0 q3
            go_wp2_with (at_builtin; refine wp_app_pair rfl (.tmp 37) (.tmp 41) rfl (B := w1.heap.size) (y := (p, q)) (unhide HO3) rfl (by omega) rfl hlen ?_; intro v5 w5 hown5 hg5)
            go_roundw
            case rel => exact ⟨m + 1, by omega, by go_num, by rw [← unhide HA, ← unhide HF', unhide HR2, ← List.append_assoc]; exact hown5, (unhide HBE3).trans hg5.below⟩
            case measure => simp [intOf]; omega
        · obtain rfl : m = k := by omega
          rw [← unhide HSU] at hown
          have HO := hide hown
          have HBE := hide hbel
          clear hown hbel
          go_wp2
          go_roundw
          case rel => exact ⟨m + 1, by omega, by go_num, unhide HO, unhide HBE⟩
          case measure => simp [intOf]; omega
    · obtain rfl : k = L.length := by omega
      go_wp2
      go_ret
      exact ⟨_, rfl, ⟨hown.1, hown.2.imp id (fun ⟨g, cap, cur, hv, hg, r⟩ => ⟨g, cap, cur, hv, Nat.le_trans hz1 hg, r⟩)⟩, (unhide HB1).trans (hbel.mono (by omega))⟩

theorem fillS_any {w : World} {b : Nat} {s : Srch} {x y z : Value} (h : StV w b s x y z) (hr : RightG s.g) (hl : s.t.length = s.g.length) (hT : TabD w) (a : Int) :
    Calls Tryd.prog 50 #[.pointer (some ⟨b, 0, none⟩), .int .i64 a] w fun e w' => e = .returned (.int .i64 (fillW s.g s.t a)) ∧ Below w.heap.size w w' := by
  have HB := hide (apartS_any h hr hl hT a)
  unfold fillW
  clear h hr hl hT
  generalize apartL s.g s.t a = L at *
  go_enter Tryd.func50, Tryd.ntmps50
  go_wp2_with fail
  refine (unhide HB).mono ?_
  rintro e w1 ⟨vn, rfl, ho1, hb1⟩
  obtain ⟨an, cn, rfl, hnc⟩ := (Own2.prs ho1).form
  clear ho1
  go_wp2
  go_ret
  exact ⟨rfl, hb1⟩

end Go.Proofs.YtcglbopmfdilfaaDoor

namespace Go.Proofs.YtcglbopmfdilfaaDoor
open Go.Shelf
def insRen : Go.Shelf.Ren := ⟨fun | 21 => 53 | 27 => 61 | 28 => 62 | 35 => 67 | 39 => 80 | n => n, fun | 22 => 23 | n => n, fun | n => n⟩

theorem ins_lays : Go.Proofs.Lays2.n21 Tryd.prog insRen := {
  mixed := by kernel_rfl
  f21 := Tryd.func53.trans (congrArg some (by kernel_rfl))
  f27 := Tryd.func61.trans (congrArg some (by kernel_rfl))
  f28 := Tryd.func62.trans (congrArg some (by kernel_rfl))
  f35 := Tryd.func67.trans (congrArg some (by kernel_rfl))
  f39 := Tryd.func80.trans (congrArg some (by kernel_rfl))
  t0 := Tryd.underlying0
  a0 := Tryd.isAgg0
  z0 := Tryd.sizeOf0
  v0 := Tryd.zeroValue0
  t3 := Tryd.underlying3
  a3 := Tryd.isAgg3
  z3 := Tryd.sizeOf3
  v3 := Tryd.zeroValue3
  t4 := Tryd.underlying4
  a4 := Tryd.isAgg4
  z4 := Tryd.sizeOf4
  v4 := Tryd.zeroValue4
  t22 := Tryd.underlying23
  a22 := Tryd.isAgg23
  z22 := Tryd.sizeOf23
  v22 := Tryd.zeroValue23
  i3 := by kernel_rfl }

end Go.Proofs.YtcglbopmfdilfaaDoor

namespace Go.Proofs.YtcglbopmfdilfaaDoor
open Go.RowKit
set_option linter.unusedVariables false
set_option linter.unusedSimpArgs false
set_option maxRecDepth 20000

theorem setCells_block (b : Nat) (e : TypeId) : ∀ (vs : List Value) (o : Nat) (w : World) (cur : Array Value), w.heap[b]? = some (.cells cur e) → ∃ cur', (w.setCells b o vs).heap[b]? = some (.cells cur' e) ∧ cur'.size = cur.size
  | [], o, w, cur, h => ⟨cur, h, rfl⟩
  | v :: r, o, w, cur, h => by
    obtain ⟨cur', h1, h2⟩ := setCells_block b e r (o + 1) (w.setCell ⟨b, o, none⟩ v) _ (heap_setCell_same w b o cur e v h)
    exact ⟨cur', h1, by rw [h2]; simp⟩

theorem setCells_grown (b : Nat) (vs : List Value) (o : Nat) (w : World) : w.grownBy (w.setCells b o vs) (some b) := by
  induction vs generalizing o w with
  | nil => exact ⟨rfl, rfl, rfl, Nat.le_refl _, fun _ _ _ => rfl⟩
  | cons v r ih =>
    have h1 : w.grownBy (w.setCell ⟨b, o, none⟩ v) (some b) := ⟨rfl, rfl, rfl, by simp, fun k hk hne => heap_setCell_other _ _ _ _ (fun e => hne (by rw [e]))⟩
    exact h1.trans (ih (o + 1) (w.setCell ⟨b, o, none⟩ v))

theorem own_of_cells {B : Nat} {w : World} {g cap : Nat} {cur : Array Value} {e : TypeId} {l : List Value} (hh : w.heap[g]? = some (.cells cur e)) (hB : B ≤ g) (hs : cur.size = cap) (hn : l.length ≤ cap) (hm : cap ≤ maxLen)
    (hc : ∀ i (h : i < l.length), w.cell? ⟨g, i, none⟩ = some l[i]) : w.ownsRow B e 1 (.slice (some ⟨g, 0, none⟩) l.length cap) l.length l := by
  refine ⟨by simp, .inr ⟨g, cap, cur, rfl, hB, hh, hn, hm, by omega, ?_⟩⟩
  apply List.ext_getElem (by simp; omega)
  intro i h1 h2
  have := hc i h2
  simp only [World.cell?, hh] at this
  rw [List.getElem_take, Array.getElem_toList]
  have hi : i < cur.size := by omega
  simpa [hi] using this

/-- One number is put ahead of all others. -/
theorem insert_any {B : Nat} {l : List Int} {v : Value} {a : Int} {W : World} (h : OwnI B W v l) (hnil : l = [] → v = .slice none 0 0) (hlen : l.length < 100000000000) (hB : B ≤ W.heap.size) :
    Calls Tryd.prog 53 #[v, .int .i64 0, .slice (some ⟨W.heap.size, 0, none⟩) 1 1] (W.alloc (.cells #[.int .i64 a] 3)) fun e w' => ∃ v', e = .returned v' ∧ OwnI B w' v' (a :: l) ∧ Grew B W w' v v' := by
  obtain ⟨W1, hW1⟩ : ∃ W1, W1 = W.alloc (.cells #[.int .i64 a] 3) := ⟨_, rfl⟩
  have hz1 : W1.heap.size = W.heap.size + 1 := by rw [hW1]; simp
  have hnew : W1.heap[W.heap.size]? = some (.cells #[.int .i64 a] 3) := by rw [hW1]; exact heap_alloc_new _ _
  have hb1 : Below W.heap.size W W1 := by rw [hW1]; exact (Below.refl _ _).alloc (Nat.le_refl _) _
  have hvs : ∀ j u, [Value.int .i64 a][j]? = some u → W1.cell? ⟨W.heap.size, 0 + j, none⟩ = some u := fun j u hj => by
    match j, hj with
    | 0, hj => simp at hj; subst hj; simp only [World.cell?, hnew]; simp
  have hone : ∀ u ∈ [Value.int .i64 a], u.oneCell' = true := fun u hu => by rw [List.mem_singleton] at hu; subst hu; rfl
  have honem : ∀ u ∈ l.map (Value.int .i64), u.oneCell' = true := fun u hu => by obtain ⟨x, _, rfl⟩ := List.mem_map.1 hu; rfl
  rw [← hW1]
  have h1 := own_below h hb1
  have hold : ∀ b, v.ownBlock = some b → b < W.heap.size := fun b hb => (h.lt b hb).2
  obtain ⟨hlx, hx⟩ := h1
  rcases hx with ⟨rfl, h0⟩ | ⟨g, cap, cur, rfl, hg, hh, hn, hm, hs, ht⟩
  · have hl : l = [] := List.length_eq_zero_iff.1 h0
    subst hl
    refine (Any2.slices_Insert_int_end_grow ins_lays none 0 0 W.heap.size 0 1 1 [] [.int .i64 a] W1 (by decide) (by decide) (by decide) (by decide) rfl rfl (fun _ => rfl) (fun x hx => by cases hx) hvs hone).mono ?_
    rintro e w' ⟨rfl, rfl⟩
    obtain ⟨C, hC⟩ : ∃ C, C = grownCap W1 (0 + 1) 0 (insRen.t 3) := ⟨_, rfl⟩
    have hge := grownCap_ge W1 (0 + 1) 0 (insRen.t 3)
    have hle := grownCap_le_maxLen W1 (0 + 1) 0 (insRen.t 3) (by unfold maxLen; omega)
    rw [← hC] at hge hle ⊢
    obtain ⟨big, hbig⟩ : ∃ big, big = (([] ++ [Value.int IntKind.i64 a]).toArray ++ Builtin.zeroCells (Value.int IntKind.i64 0).cells (C - (0 + 1))) := ⟨_, rfl⟩
    have hbs : big.size = C := by
      rw [hbig, Array.size_append, size_zeroCells]
      show 1 + (C - (0 + 1)) * 1 = C
      omega
    have hb0 : big[0]? = some (.int .i64 a) := by
      rw [hbig, Array.getElem?_append_left (by simp)]; rfl
    rw [← hbig]
    have hnw : (W1.drew.alloc (.cells big (insRen.t 3))).heap[W1.heap.size]? = some (.cells big 3) := heap_alloc_new W1.drew _
    have hb2 : Below W1.heap.size W1 (W1.drew.alloc (.cells big (insRen.t 3))) := by
      have h1 := (Below.refl W1.heap.size W1.drew).alloc (Nat.le_refl _) (.cells big (insRen.t 3))
      exact ⟨h1.os, h1.tape, h1.output, h1.size, h1.block⟩
    have hbel := hb1.trans (hb2.mono (by omega))
    refine ⟨_, rfl, ?_, hbel.mono hB, ⟨hbel.os, hbel.tape, hbel.output, hbel.size, fun k hk _ => hbel.block k hk⟩, .inr ⟨_, rfl, by show W.heap.size ≤ W1.heap.size; omega⟩⟩
    have := own_of_cells (B := B) (l := [Value.int .i64 a]) hnw (by omega) (cap := C) hbs (by simp; omega) hle (fun i hi => by
      have hi0 : i = 0 := by simp at hi; omega
      subst hi0
      simp only [World.cell?, hnw]
      exact hb0)
    simpa [OwnI] using this
  · have hgW : g < W.heap.size := hold g rfl
    have hne : W.heap.size ≠ g := by omega
    have hl0 : 0 < l.length := by
      rcases Nat.eq_zero_or_pos l.length with h' | h'
      · have := hnil (List.length_eq_zero_iff.1 h'); cases this
      · exact h'
    have hcl : (l.map (Value.int .i64)).length = l.length := by simp
    have hcs : ∀ j u, (l.map (Value.int .i64))[j]? = some u → W1.cell? ⟨g, 0 + j, none⟩ = some u := fun j u hj => by
      rw [← ht, List.getElem?_take] at hj
      split at hj
      · simp only [World.cell?, hh]; simpa using hj
      · cases hj
    by_cases hroom : l.length + 1 ≤ cap
    · have hsp : ∀ j, j < cap → (W1.cell? ⟨g, 0 + j, none⟩).isSome = true := fun j hj => by
        have hj2 : j < cur.size := by omega
        simp only [World.cell?, hh]
        simp [hj2]
      have hfz : ∀ x b (c : Array Value) (e : TypeId), W1.heap[b]? = some (.cells c e) → W1.frozen? ⟨b, x, none⟩ = false := fun x b c e hb => frozen_of_row _ _ _ _ _ hb
      refine (Any2.slices_Insert_int_shift ins_lays g 0 l.length cap 0 W.heap.size 0 1 1 (l.map (Value.int .i64)) [.int .i64 a] W1 hl0 (by decide) hroom (by unfold maxLen at hm; omega) hne hcl rfl hcs (fun j hj => hsp j (by omega)) (fun j hj => hfz _ _ _ _ hh)
        hvs honem hone 3 3 1 cap (by simp only [World.shape?, hnew]; rfl) (by simp only [World.shape?, hh]; simp; omega) (by omega) (hfz _ _ _ _ hnew) (hfz _ _ _ _ hnew)).mono ?_
      rintro e w' ⟨rfl, rfl⟩
      have g1 := setCells_grown g ((l.map (Value.int .i64)).drop 0) (0 + (0 + 1)) W1.drew
      have g2 := setCells_grown g [.int .i64 a] (0 + 0) (W1.drew.setCells g (0 + (0 + 1)) ((l.map (Value.int .i64)).drop 0))
      obtain ⟨cur1, hh1, hs1⟩ := setCells_block g 3 ((l.map (Value.int .i64)).drop 0) (0 + (0 + 1)) W1.drew cur hh
      obtain ⟨cur2, hh2, hs2⟩ := setCells_block g 3 [.int .i64 a] (0 + 0) _ cur1 hh1
      have gt := World.grownBy.trans g1 g2
      have k1 : W.grownBy W1 (some g) := ⟨hb1.os, hb1.tape, hb1.output, hb1.size, fun k hk _ => hb1.block k hk⟩
      have k2 : W1.grownBy W1.drew (some g) := ⟨rfl, rfl, rfl, Nat.le_refl _, fun _ _ _ => rfl⟩
      have gt2 := (k1.trans k2).trans gt
      refine ⟨_, rfl, ?_, ?_, gt2, .inl rfl⟩
      · have hsp1 : ∀ j, j < cap → (W1.drew.cell? ⟨g, 0 + j, none⟩).isSome = true := hsp
        have := own_of_cells (B := B) (l := (a :: l).map (Value.int .i64)) hh2 hg (cap := cap) (by omega) (by simp; omega) hm (fun i hi => by
          rw [List.getElem_map]
          cases i with
          | zero =>
            have := World.cell?_setCells_in g [.int .i64 a] (0 + 0) (W1.drew.setCells g (0 + (0 + 1)) ((l.map (Value.int .i64)).drop 0)) (fun j hj => by
              have hj0 : j = 0 := by simp at hj; omega
              subst hj0
              rw [World.cell?_setCells_out g _ _ _ _ (fun _ _ => .inl (by simp))]
              exact hsp1 0 (by omega)) 0 (by simp)
            simpa using this
          | succ i =>
            have hi' : i < l.length := by simpa using hi
            rw [World.cell?_setCells_out g _ _ _ _ (fun _ _ => .inr (by simp))]
            have := World.cell?_setCells_in g ((l.map (Value.int .i64)).drop 0) (0 + (0 + 1)) W1.drew (fun j hj => by
              have hj' : j < l.length := by simpa using hj
              rw [show 0 + (0 + 1) + j = 0 + (j + 1) by omega]
              exact hsp1 (j + 1) (by omega)) i (by simpa using hi')
            rw [show 0 + (0 + 1) + i = i + 1 by omega] at this
            rw [this]
            simp)
        simpa [OwnI] using this
      · refine ⟨gt2.os, gt2.tape, gt2.output, gt2.size, fun k hk => gt2.block k (by omega) (fun e => by injection e with e; omega)⟩
    · have hcap : cap < l.length + 1 := by omega
      refine (Any2.slices_Insert_int_grow ins_lays g 0 l.length cap 0 W.heap.size 0 1 1 (l.map (Value.int .i64)) [.int .i64 a] W1 hl0 (by decide) hn hcap (by omega) hcl rfl hcs hvs honem hone).mono ?_
      rintro e w' ⟨rfl, rfl⟩
      obtain ⟨C, hC⟩ : ∃ C, C = grownCap W1 (l.length + 1) cap (insRen.t 3) := ⟨_, rfl⟩
      have hge := grownCap_ge W1 (l.length + 1) cap (insRen.t 3)
      have hle := grownCap_le_maxLen W1 (l.length + 1) cap (insRen.t 3) (by unfold maxLen; omega)
      rw [← hC] at hge hle ⊢
      obtain ⟨big, hbig⟩ : ∃ big, big = (((l.map (Value.int .i64)).take 0).toArray ++ Builtin.zeroCells (Value.int .i64 0).cells (l.length + 1 - 0) ++ Builtin.zeroCells (Value.int .i64 0).cells (C - (l.length + 1))) := ⟨_, rfl⟩
      have hbs : big.size = C := by
        rw [hbig, Array.size_append, Array.size_append, size_zeroCells, size_zeroCells]
        show 0 + (l.length + 1 - 0) * 1 + (C - (l.length + 1)) * 1 = C
        omega
      rw [← hbig]
      obtain ⟨W2, hW2⟩ : ∃ W2, W2 = (W1.alloc (.cells big (insRen.t 3))).drew := ⟨_, rfl⟩
      have hh0 : W2.heap[W1.heap.size]? = some (.cells big 3) := by rw [hW2]; exact heap_alloc_new W1 _
      have hb2 : Below W1.heap.size W1 W2 := by
        rw [hW2]
        have h1 := (Below.refl W1.heap.size W1).alloc (Nat.le_refl _) (.cells big (insRen.t 3))
        exact ⟨h1.os, h1.tape, h1.output, h1.size, h1.block⟩
      rw [← hW2]
      have hsp : ∀ j, j < C → (W2.cell? ⟨W1.heap.size, j, none⟩).isSome = true := fun j hj => by
        have hj2 : j < big.size := by omega
        simp only [World.cell?, hh0]
        simp [hj2]
      obtain ⟨W3, hW3⟩ : ∃ W3, W3 = (W2.setCells W1.heap.size 0 [.int .i64 a]).drew := ⟨_, rfl⟩
      obtain ⟨cur1, hh1, hs1⟩ := setCells_block W1.heap.size 3 [.int .i64 a] 0 W2 big hh0
      have hh1' : W3.heap[W1.heap.size]? = some (.cells cur1 3) := by rw [hW3]; exact hh1
      rw [← hW3]
      obtain ⟨cur2, hh2, hs2⟩ := setCells_block W1.heap.size 3 ((l.map (Value.int .i64)).drop 0) (0 + 1) W3 cur1 hh1'
      have c3 : ∀ x, W3.cell? x = (W2.setCells W1.heap.size 0 [.int .i64 a]).cell? x := fun x => by rw [hW3]; rfl
      have hsp3 : ∀ j, j < C → (W3.cell? ⟨W1.heap.size, j, none⟩).isSome = true := fun j hj => by
        have hj2 : j < cur1.size := by omega
        simp only [World.cell?, hh1']
        simp [hj2]
      have g1 : W2.grownBy W3 (some W1.heap.size) := by
        rw [hW3]
        have h1 := setCells_grown W1.heap.size [.int .i64 a] 0 W2
        exact ⟨h1.os, h1.tape, h1.output, h1.size, h1.block⟩
      have g2 := setCells_grown W1.heap.size ((l.map (Value.int .i64)).drop 0) (0 + 1) W3
      have gt := World.grownBy.trans g1 g2
      have hbel : Below W.heap.size W (W3.setCells W1.heap.size (0 + 1) ((l.map (Value.int .i64)).drop 0)) := by
        refine hb1.trans ((hb2.mono (by omega)).trans ⟨gt.os, gt.tape, gt.output, gt.size, fun k hk => gt.block k (by have := hb2.size; omega) (fun e => by injection e with e; omega)⟩)
      refine ⟨_, rfl, ?_, hbel.mono hB, ⟨hbel.os, hbel.tape, hbel.output, hbel.size, fun k hk _ => hbel.block k hk⟩, .inr ⟨_, rfl, by show W.heap.size ≤ W1.heap.size; omega⟩⟩
      have := own_of_cells (B := B) (l := (a :: l).map (Value.int .i64)) hh2 (by omega) (cap := C) (by omega) (by simp; omega) hle (fun i hi => by
        rw [List.getElem_map]
        cases i with
        | zero =>
          rw [World.cell?_setCells_out _ _ _ _ _ (fun _ _ => .inl (by simp)), c3]
          have := World.cell?_setCells_in W1.heap.size [.int .i64 a] 0 W2 (fun j hj => by
            have hj0 : j = 0 := by simp at hj; omega
            subst hj0
            exact hsp 0 (by omega)) 0 (by simp)
          simpa using this
        | succ i =>
          have hi' : i < l.length := by simpa using hi
          have := World.cell?_setCells_in W1.heap.size ((l.map (Value.int .i64)).drop 0) (0 + 1) W3 (fun j hj => by
            have hj' : j < l.length := by simpa using hj
            rw [show 0 + 1 + j = j + 1 by omega]
            exact hsp3 (j + 1) (by omega)) i (by simpa using hi')
          rw [show 0 + 1 + i = i + 1 by omega] at this
          rw [this]
          simp)
      simpa [OwnI] using this

end Go.Proofs.YtcglbopmfdilfaaDoor

namespace Go.Proofs.YtcglbopmfdilfaaDoor
open Go.RowKit
set_option linter.unusedVariables false
set_option linter.unusedSimpArgs false
set_option maxRecDepth 20000

theorem takeS_card (s : Srch) (a : Nat) : takeS 3 s (a : Int) = ⟨s.g, s.t.set a true, (a : Int) :: s.o⟩ := rfl
theorem takeS_else {how : Int} (h : how ≠ 3) (s : Srch) (a : Nat) : takeS how s (a : Int) = ⟨joinPs s.g (apartL s.g (s.t.set a true) (a : Int)), s.t.set a true, s.o ++ [(a : Int)]⟩ := by
  unfold takeS
  rw [if_neg h]
  rfl

set_option maxHeartbeats 1000000 in
theorem takeS_any {B : Nat} {w : World} {b a : Nat} {s : Srch} {x y z : Value} {how : Int} (h : StO B w b s x y z) (hr : RightG s.g) (hl : s.t.length = s.g.length) (hol : s.o.length ≤ 100) (hT : TabD w) (ha : a < s.t.length) (hB : B ≤ w.heap.size) (hB0 : 0 < B) :
    Calls Tryd.prog 41 #[.pointer (some ⟨b, 0, none⟩), .int .i64 (a : Int), .int .i64 how] w fun e w' => ∃ x' z', e = .returned (.tuple #[]) ∧ StO B w' b (takeS how s (a : Int)) x' y z' ∧ Below B w w' := by
  obtain ⟨gy, cy, rfl, hcy, hyc, ⟨u0, hc0⟩, hf0, hs1, hb1⟩ := h.setT ha
  obtain ⟨y0, y1, y2⟩ := h.box.cells
  obtain ⟨az, cz, rfl, hzl, hzc⟩ := (Seq.of_own h.o).form
  unfold maxLen at hcy hzc
  obtain ⟨w1, hw1⟩ : ∃ w1, w1 = w.setCell ⟨gy, a, none⟩ (.bool true) := ⟨_, rfl⟩
  rw [← hw1] at hs1 hb1
  have HS1 := hide hs1
  have HB1 := hide hb1
  have HW1 := hide hw1
  have HSZ : Hid (w1.heap.size = w.heap.size) := hide (by rw [hw1]; simp)
  have hz1 := hb1.size
  have hay : (a : Int) < (s.t.length : Int) := by omega
  have hT1 := hide (hT.belowB hb1 hB0)
  obtain ⟨x0, x1, x2⟩ := hs1.box.cells
  rw [hw1] at x0 x1 x2
  have HL := hide hl
  clear h hT hs1 hb1 hw1 hl
  by_cases hh : how = 3
  · subst hh
    rw [takeS_card]
    obtain ⟨oc, hoc⟩ : ∃ oc, oc = (a : Int) :: s.o := ⟨_, rfl⟩
    rw [← hoc]
    have HOC := hide hoc
    clear hoc
    have HI := hide (insert_any (a := (a : Int)) (unhide HS1).o (unhide HS1).nil (by show s.o.length < 100000000000; omega) (by omega : B ≤ w1.heap.size))
    go_enter Tryd.func41, Tryd.ntmps41
    go_wp2_with fail
    rw [← unhide HW1, ← unhide HSZ]
    refine (unhide HI).mono ?_
    rintro e w2 ⟨z', rfl, ho2, hg2⟩
    rw [← unhide HOC] at ho2
    obtain ⟨az', cz', rfl, hzl', hzc'⟩ := (Seq.of_own ho2).form
    obtain ⟨⟨u1, hc1⟩, hf1, hs3, hb3⟩ := (unhide HS1).setO (by omega) ho2 hg2 (by rw [unhide HOC]; simp)
    have HF := hide (And.intro hs3 ((unhide HB1).trans hb3))
    clear hs3 hb3 ho2 hg2 HI x0 x1 x2 y0 y1 y2 hc0 hf0
    go_wp2
    refine bodyPost_ret (results_none rfl _ _ _) rfl ?_
    exact ⟨_, _, rfl, (unhide HF).1, (unhide HF).2⟩
  · have hne : (how == 3) = false := by simpa using hh
    rw [takeS_else hh]
    obtain ⟨oc, hoc⟩ : ∃ oc, oc = s.o ++ [(a : Int)] := ⟨_, rfl⟩
    rw [← hoc]
    have HOC := hide hoc
    obtain ⟨t', ht'⟩ : ∃ t', t' = s.t.set a true := ⟨_, rfl⟩
    rw [← ht'] at HS1 ⊢
    have htl : t'.length = s.g.length := by rw [ht']; simp [unhide HL]
    obtain ⟨ps, hps⟩ : ∃ ps, ps = apartL s.g t' (a : Int) := ⟨_, rfl⟩
    rw [← hps]
    have hpl : ps.length ≤ 40 * 40 := by
      rw [hps]
      exact Nat.le_trans (apUp_len _ _ _) (Nat.mul_le_mul (Nat.le_trans (besT_len _ _ _ _) hr.few) (Nat.le_trans (besT_len _ _ _ _) hr.few))
    have HPS := hide hps
    have HTL := hide htl
    clear hoc ht' hps htl
    go_enter Tryd.func41, Tryd.ntmps41
    go_wp2_with (at_builtin; rw [← unhide HW1, ← unhide HSZ]; refine wp_app_int rfl (.tmp 30) (.tmp 32) rfl (B := B) (unhide HS1).o rfl (by omega) rfl (by show s.o.length < 100000000000; omega) ?_; intro z' w2 ho2 hg2; rw [show s.o ++ [(a : Int)] = oc from (unhide HOC).symm] at ho2; obtain ⟨az', cz', rfl, hzl', hzc'⟩ := (Seq.of_own ho2).form; obtain ⟨⟨u1, hc1⟩, hf1, hs3, hb3⟩ := (unhide HS1).setO (by omega) ho2 hg2 (by rw [unhide HOC]; simp))
    obtain ⟨W2, hW2⟩ : ∃ W, W = w2.setCell ⟨b, 2, none⟩ (.slice az' oc.length cz') := ⟨_, rfl⟩
    rw [← hW2] at hs3 hb3 ⊢
    have hBW := (unhide HB1).trans hb3
    have hzW := hBW.size
    have hg3 : StO B W2 b ⟨s.g, t', oc⟩ x (.slice (some ⟨gy, 0, none⟩) s.t.length cy) (.slice az' oc.length cz') := hs3
    have HAP := hide (apartS_any hg3.st hr (unhide HTL) ((unhide hT1).belowB hb3 hB0) (a : Int))
    have HT2 := hide (fun W (hb : Below B W2 W) => ((unhide hT1).belowB hb3 hB0).belowB hb hB0)
    have hbl := hg3.box.lt
    have hBb := hg3.bB
    have HS2 := hide hg3
    have HBW := hide hBW
    clear hs3 hb3 hBW hg3 hW2 ho2 hg2 x0 x1 x2 y0 y1 y2 hc0 hf0 hc1 hf1 HS1 hT1
    dsimp only at HAP
    rw [← unhide HPS] at HAP
    refine (unhide HAP).mono ?_
    rintro e w3 ⟨vp, rfl, ho3, hb3⟩
    obtain ⟨ap, cp, rfl, hpc⟩ := (Own2.prs ho3).form
    unfold maxLen at hpc
    have HS3 := hide ((unhide HS2).below hb3)
    have HO3 := hide ho3
    have hz3 := hb3.size
    have HB3b := hide (hb3.mono (show B ≤ W2.heap.size by omega))
    clear ho3 hb3 HAP HS2
    go_wp2
    go_loopw [40] (fun i wr => ∃ (k : Nat) (x' : Value), k ≤ ps.length ∧ i = .int .i64 k ∧ StO B wr b ⟨joinPs s.g (ps.take k), t', oc⟩ x' (.slice (some ⟨gy, 0, none⟩) s.t.length cy) (.slice az' oc.length cz') ∧ Own2 W2.heap.size wr (.slice ap ps.length cp) ps ∧ Below B W2 wr) (fun i wr => ps.length - (intOf i).toNat)
    case atStart => exact ⟨0, x, by omega, rfl, unhide HS3, unhide HO3, (unhide HB3b)⟩
    case round =>
      clear HS3 HO3 HB3b
      obtain ⟨k, x', hk, rfl, hst, hop, hbel⟩ := hrel
      rename World => wr
      have hzr := hbel.size
      by_cases hkl : k < ps.length
      · obtain ⟨bp, op, e1, q1, q2⟩ := (Own2.prs hop).at hkl
        subst e1
        have hsn : joinPs s.g (ps.take (k + 1)) = joinN (joinPs s.g (ps.take k)) [ps[k].1, ps[k].2] := by rw [List.take_succ_eq_append_getElem hkl, joinPs_snoc]
        have hgr := joinPs_right hr (ps.take k)
        generalize joinPs s.g (ps.take k) = G at *
        generalize ps[k] = p at *
        obtain ⟨p1, p2⟩ := p
        dsimp only at q1 q2 hsn
        have HSN := hide hsn
        have hst' := hst
        obtain ⟨ax, cx, rfl, hxl, hxc⟩ := hst.g.form
        dsimp only at hxl hst hst'
        unfold maxLen at hxc
        obtain ⟨y0, y1, y2⟩ := hst'.box.cells
        have HS := hide hst'
        have HO := hide hop
        have HBE := hide hbel
        have HJ := hide (fun W (hb : Below wr.heap.size wr W) => join_any (a := p1) (b := p2) ((unhide HS).below hb).g (by show G.length ≤ 64; have := hgr.few; omega) hgr.w64)
        dsimp only at HJ
        clear hsn hst hst' hop hbel y1 y2
        go_wp2
        obtain ⟨WA, hWA⟩ : ∃ W, W = wr.alloc (.cells #[.int .i64 p1, .int .i64 p2] 88) := ⟨_, rfl⟩
        have hbA : Below wr.heap.size wr WA := by rw [hWA]; exact (Below.refl _ _).alloc (Nat.le_refl _) _
        have hzA : WA.heap.size = wr.heap.size + 1 := by rw [hWA]; simp
        have hnA : WA.heap[wr.heap.size]? = some (.cells #[.int .i64 p1, .int .i64 p2] 88) := by rw [hWA]; exact heap_alloc_new _ _
        have p0 : WA.cell? ⟨wr.heap.size, 0, none⟩ = some (.int .i64 p1) := by simp only [World.cell?, hnA]; simp
        have p9 : WA.cell? ⟨wr.heap.size, 1, none⟩ = some (.int .i64 p2) := by simp only [World.cell?, hnA]; simp
        have yA := Below.cell_of hbA y0
        rw [← hWA]
        have HSA := hide ((unhide HS).below hbA)
        have HBA := hide ((unhide HBE).trans (hbA.mono (by omega)))
        have HOA := hide (own_below2 (unhide HO) hbA)
        have HHA := hide hbA
        clear hWA hbA hnA y0 q1 q2 HS HBE HO
        refine wp_region_till (st := 12) (S := fun U => U.cell? ⟨b, 0, none⟩ = some (.slice ax G.length cx) ∧ U.cell? ⟨wr.heap.size, 0, none⟩ = some (.int .i64 p1) ∧ U.cell? ⟨wr.heap.size, 1, none⟩ = some (.int .i64 p2)) (by kernel_rfl) ?_
        have hS0 : WA.drew.cell? ⟨b, 0, none⟩ = some (.slice ax G.length cx) ∧ WA.drew.cell? ⟨wr.heap.size, 0, none⟩ = some (.int .i64 p1) ∧ WA.drew.cell? ⟨wr.heap.size, 1, none⟩ = some (.int .i64 p2) := ⟨yA, p0, p9⟩
        refine till_take (i := 0) (v := ?_) rfl (by kernel_rfl) (by kernel_rfl) (by kernel_rfl) (by kernel_rfl) (fun _ _ _ h => h) (Or.inl ⟨by kernel_rfl, ?_⟩) (by assumption) ?_
        rotate_left
        · intro W hSW; obtain ⟨hS1, hS2, hS3⟩ := hSW; go_simp; first | done | rfl
        simp only [Act.put, List.setIfInBounds_toArray, List.set_cons_zero, List.set_cons_succ]
        refine till_take (i := 1) (v := ?_) rfl (by kernel_rfl) (by kernel_rfl) (by kernel_rfl) (by kernel_rfl) (fun _ _ _ h => h) (Or.inl ⟨by kernel_rfl, ?_⟩) (by assumption) ?_
        rotate_left
        · intro W hSW; obtain ⟨hS1, hS2, hS3⟩ := hSW; go_simp; first | done | rfl
        simp only [Act.put, List.setIfInBounds_toArray, List.set_cons_zero, List.set_cons_succ]
        refine till_take (i := 2) (v := ?_) rfl (by kernel_rfl) (by kernel_rfl) (by kernel_rfl) (by kernel_rfl) (fun _ _ _ h => h) (Or.inl ⟨by kernel_rfl, ?_⟩) (by assumption) ?_
        rotate_left
        · intro W hSW; obtain ⟨hS1, hS2, hS3⟩ := hSW; go_simp; first | done | rfl
        simp only [Act.put, List.setIfInBounds_toArray, List.set_cons_zero, List.set_cons_succ]
        refine till_take (i := 3) (v := ?_) rfl (by kernel_rfl) (by kernel_rfl) (by kernel_rfl) (by kernel_rfl) (fun _ _ _ h => h) (Or.inl ⟨by kernel_rfl, ?_⟩) (by assumption) ?_
        rotate_left
        · intro W hSW; obtain ⟨hS1, hS2, hS3⟩ := hSW; go_simp; first | done | rfl
        simp only [Act.put, List.setIfInBounds_toArray, List.set_cons_zero, List.set_cons_succ]
        refine till_take (i := 4) (v := ?_) rfl (by kernel_rfl) (by kernel_rfl) (by kernel_rfl) (by kernel_rfl) (fun _ _ _ h => h) (Or.inl ⟨by kernel_rfl, ?_⟩) (by assumption) ?_
        rotate_left
        · intro W hSW; obtain ⟨hS1, hS2, hS3⟩ := hSW; go_simp; first | done | rfl
        simp only [Act.put, List.setIfInBounds_toArray, List.set_cons_zero, List.set_cons_succ]
        refine till_take (i := 5) (v := ?_) rfl (by kernel_rfl) (by kernel_rfl) (by kernel_rfl) (by kernel_rfl) (fun _ _ _ h => h) (Or.inl ⟨by kernel_rfl, ?_⟩) (by assumption) ?_
        rotate_left
        · intro W hSW; obtain ⟨hS1, hS2, hS3⟩ := hSW; go_simp; first | done | rfl
        simp only [Act.put, List.setIfInBounds_toArray, List.set_cons_zero, List.set_cons_succ]
        refine till_take (i := 6) (v := ?_) rfl (by kernel_rfl) (by kernel_rfl) (by kernel_rfl) (by kernel_rfl) (fun _ _ _ h => h) (Or.inl ⟨by kernel_rfl, ?_⟩) (by assumption) ?_
        rotate_left
        · intro W hSW; obtain ⟨hS1, hS2, hS3⟩ := hSW; go_simp; first | done | rfl
        simp only [Act.put, List.setIfInBounds_toArray, List.set_cons_zero, List.set_cons_succ]
        refine till_take (i := 7) (v := ?_) rfl (by kernel_rfl) (by kernel_rfl) (by kernel_rfl) (by kernel_rfl) (fun _ _ _ h => h) (Or.inl ⟨by kernel_rfl, ?_⟩) (by assumption) ?_
        rotate_left
        · intro W hSW; obtain ⟨hS1, hS2, hS3⟩ := hSW; go_simp; first | done | rfl
        simp only [Act.put, List.setIfInBounds_toArray, List.set_cons_zero, List.set_cons_succ]
        refine till_take (i := 8) (v := ?_) rfl (by kernel_rfl) (by kernel_rfl) (by kernel_rfl) (by kernel_rfl) (fun _ _ _ h => h) (Or.inl ⟨by kernel_rfl, ?_⟩) (by assumption) ?_
        rotate_left
        · intro W hSW; obtain ⟨hS1, hS2, hS3⟩ := hSW; go_simp; first | done | rfl
        simp only [Act.put, List.setIfInBounds_toArray, List.set_cons_zero, List.set_cons_succ]
        refine till_one (i := 9) (by kernel_rfl) rfl rfl (by decide) (fun K hK => ?_)
        go_simp
        refine (unhide HJ _ (by exact (unhide HHA).trans (Below.mono (below_same rfl rfl rfl rfl) (by omega)))).mono ?_
        rintro e w4 ⟨y', rfl, ho4, hb4⟩
        have hb4' : Below WA.heap.size WA w4 := ⟨hb4.os, hb4.tape, hb4.output, hb4.size, hb4.block⟩
        have ho4' : OwnW WA.heap.size w4 y' (joinN G [p1, p2]) := ho4
        obtain ⟨G2, hG2⟩ : ∃ G2, G2 = joinN G [p1, p2] := ⟨_, rfl⟩
        rw [← hG2] at ho4'
        have HG2 := hide (hG2.trans (unhide HSN).symm)
        clear hG2 ho4
        obtain ⟨ay, cy2, rfl, _, _⟩ := (Seq.of_own ho4').form
        have q4 := Below.cell_of hb4' yA
        have q5 := Below.cell_of hb4' p0
        have q6 := Below.cell_of hb4' p9
        refine hK.out _ _ ⟨q4, q5, q6⟩ (fun hHeld => ?_)
        clear hK K
        try simp only [Act.put, List.setIfInBounds_toArray, List.set_cons_zero, List.set_cons_succ]
        refine till_one (i := 10) (by kernel_rfl) rfl rfl (by decide) (fun K hK => ?_)
        go_simp
        refine hK.out _ _ ⟨q4, q5, q6⟩ (fun hHeld => ?_)
        clear hK K
        try simp only [Act.put, List.setIfInBounds_toArray, List.set_cons_zero, List.set_cons_succ]
        refine till_one (i := 11) (by kernel_rfl) rfl rfl (by decide) (fun K hK => ?_)
        go_simp
        refine hK.out _ _ ⟨q4, q5, q6⟩ (fun hHeld => ?_)
        clear hK K
        try simp only [Act.put, List.setIfInBounds_toArray, List.set_cons_zero, List.set_cons_succ]
        have hBA : B ≤ WA.heap.size := by omega
        obtain ⟨_, hfr, hset, hbs⟩ := (unhide HSA).setG hBA ho4' hb4'
        have hop2 : Own2 W2.heap.size (w4.setCell ⟨b, 0, none⟩ (.slice ay G2.length cy2)) (.slice (some ⟨bp, op, none⟩) ps.length cp) ps := (own_below2 (unhide HOA) hb4').kept (row := some b) (grown_set w4 b 0 _) (by
          refine .inr (fun e => ?_)
          have h9 := (unhide HOA).lt bp rfl
          injection e with e
          have e2 : bp = b := e
          omega)
        have HF := hide (And.intro hset (And.intro hop2 ((unhide HBA).trans hbs)))
        refine till_last (by kernel_rfl) rfl rfl (by kernel_rfl) (fun K hK => ?_)
        go_simp
        refine hK.out _ _ ?_
        clear hK K hset hbs hop2 ho4' hb4 hb4' q4 q5 q6 hfr yA p0 p9
        try simp only [Act.put, List.setIfInBounds_toArray, List.set_cons_zero, List.set_cons_succ]
        generalize w4.setCell ⟨b, 0, none⟩ (.slice ay G2.length cy2) = w5 at *
        go_wp2
        go_roundw
        case rel => exact ⟨k + 1, _, by omega, by go_num, by rw [← unhide HG2]; exact (unhide HF).1, (unhide HF).2.1, (unhide HF).2.2⟩
        case measure => simp [intOf]; omega
      · obtain rfl : k = ps.length := by omega
        rw [List.take_length] at hst
        go_wp2
        go_end0
        exact ⟨_, _, rfl, hst, (unhide HBW).trans hbel⟩

end Go.Proofs.YtcglbopmfdilfaaDoor

namespace Go.Proofs.YtcglbopmfdilfaaDoor
open Go.RowKit Go.Maps
set_option linter.unusedVariables false
set_option linter.unusedSimpArgs false
set_option maxRecDepth 20000

/-- A map's value is told as it is. -/
def heldR (v : Value) : Option (DataW Value × List MemPlace) := some (.held v, [])

/-- A literal's entry, at the operation. -/
theorem wpList_insert_own {H : Type} {P : Program} (w : World) {ops : Array Oper} {rest : List Oper} {o : Oper} {a : Act} {Q : Exit → Act → World → Prop}
    (hg : o.guard = none) (m x v : Operand) (t : TypeId) (hop : o.op = Op.insert t m x v)
    (k e : TypeId) (K : Keyed P k) (ht : P.underlying t = some (.map k e)) (R : Value → Option (DataW H × List MemPlace)) (b n : Nat) (D : DataW H)
    (hm : a.eval m = .map (some b)) (hown : w.ownsMap P k R b n D) (hn : n < maxLen) (key val : Value) (kl : Lit) (hx : a.eval x = key) (hv : a.eval v = val) (hkey : keyOf P k key = some kl)
    (d : DataW H) (ps : List MemPlace) (hval : R val = some (d, ps))
    (hK : ∀ w', w'.ownsMap P k R b (n + 1) (D.put kl d) → w.grownBy w' (some b) → wpList P ops Q rest (a.put o.dst undef) w') :
    wpList P ops Q (o :: rest) a w := by
  refine wpList_plain hg fun K' hK' => ?_
  obtain ⟨w', hrun, r1, r2⟩ := hown.update K ht hn hkey hval
  unfold Oper.wp
  simp [execOp, hop, hm, hx, hv, hrun, Result.andThen]
  exact hK' _ _ (hK w' r1 r2)

def wayV (F b : Nat) : Value := .func (.func F) #[.pointer (some ⟨b, 0, none⟩)] #[]
/-- The map of the three ways. -/
def waysD (b : Nat) : DataW Value := (((DataW.map []).put (.int .i64 1) (.held (wayV 50 b))).put (.int .i64 2) (.held (wayV 51 b))).put (.int .i64 3) (.held (wayV 52 b))

theorem isMap_put {H : Type} {D : DataW H} (h : IsMap D) (k : Lit) (d : DataW H) : IsMap (D.put k d) := by
  obtain ⟨es, rfl⟩ := h
  exact ⟨_, rfl⟩

theorem lit_ne {a b : Int} (h : a ≠ b) : (Lit.int .i64 a) ≠ .int .i64 b := fun e => h (by injection e)
theorem ways_one (b : Nat) (z : DataW Value) : has (waysD b) (.int .i64 1) = true ∧ (waysD b).atKey (.int .i64 1) z = .held (wayV 50 b) := by
  unfold waysD
  refine ⟨?_, ?_⟩
  · rw [has_put_other (lit_ne (by decide)), has_put_other (lit_ne (by decide)), has_put_same ⟨_, rfl⟩ (show WideAt.IsKeyLit (.int .i64 1) from trivial)]
  · rw [atKey_put_other (lit_ne (by decide)), atKey_put_other (lit_ne (by decide)), atKey_put_same ⟨_, rfl⟩ (show WideAt.IsKeyLit (.int .i64 1) from trivial)]
theorem ways_two (b : Nat) (z : DataW Value) : has (waysD b) (.int .i64 2) = true ∧ (waysD b).atKey (.int .i64 2) z = .held (wayV 51 b) := by
  unfold waysD
  refine ⟨?_, ?_⟩
  · rw [has_put_other (lit_ne (by decide)), has_put_same (isMap_put ⟨_, rfl⟩ _ _) (show WideAt.IsKeyLit (.int .i64 2) from trivial)]
  · rw [atKey_put_other (lit_ne (by decide)), atKey_put_same (isMap_put ⟨_, rfl⟩ _ _) (show WideAt.IsKeyLit (.int .i64 2) from trivial)]
theorem ways_three (b : Nat) (z : DataW Value) : has (waysD b) (.int .i64 3) = true ∧ (waysD b).atKey (.int .i64 3) z = .held (wayV 52 b) := by
  unfold waysD
  refine ⟨?_, ?_⟩
  · rw [has_put_same (isMap_put (isMap_put ⟨_, rfl⟩ _ _) _ _) (show WideAt.IsKeyLit (.int .i64 3) from trivial)]
  · rw [atKey_put_same (isMap_put (isMap_put ⟨_, rfl⟩ _ _) _ _) (show WideAt.IsKeyLit (.int .i64 3) from trivial)]
theorem ways_none {how : Int} (h1 : how ≠ 1) (h2 : how ≠ 2) (h3 : how ≠ 3) (b : Nat) (z : DataW Value) : has (waysD b) (.int .i64 how) = false ∧ (waysD b).atKey (.int .i64 how) z = z := by
  have e : ∀ n : Int, how ≠ n → (Lit.int .i64 how) ≠ .int .i64 n := fun n h e => h (by injection e)
  unfold waysD
  refine ⟨?_, ?_⟩
  · rw [has_put_other (e 3 h3), has_put_other (e 2 h2), has_put_other (e 1 h1)]; rfl
  · rw [atKey_put_other (e 3 h3), atKey_put_other (e 2 h2), atKey_put_other (e 1 h1)]; rfl

theorem keyed_int : Keyed Tryd.prog 3 := int_keyed Tryd.underlying3

set_option maxHeartbeats 2000000 in
theorem ways_any (b : Nat) (w : World) : Calls Tryd.prog 40 #[.pointer (some ⟨b, 0, none⟩)] w fun e w' => ∃ m, e = .returned (.map (some m)) ∧ w.heap.size ≤ m ∧ w'.ownsMap Tryd.prog 3 heldR m 3 (waysD b) ∧ Below w.heap.size w w' := by
  have hmm := @run_makeMap Tryd.prog
  have h0 : (w.alloc (.map #[] 0)).ownsMap Tryd.prog 3 heldR w.heap.size 0 (.map []) := World.ownsMap_made _ _ _ _
  have k1 : keyOf Tryd.prog 3 (.int .i64 1) = some (.int .i64 1) := keyOf_int_mk Tryd.underlying3 (by decide)
  have k2 : keyOf Tryd.prog 3 (.int .i64 2) = some (.int .i64 2) := keyOf_int_mk Tryd.underlying3 (by decide)
  have k3 : keyOf Tryd.prog 3 (.int .i64 3) = some (.int .i64 3) := keyOf_int_mk Tryd.underlying3 (by decide)
  have hb0 : Below w.heap.size w (w.alloc (.map #[] 0)) := (Below.refl _ _).alloc (Nat.le_refl _) _
  obtain ⟨w1, u1, o1, g1⟩ := h0.update keyed_int Tryd.underlying76 (by unfold maxLen; decide) k1 (show heldR (wayV 50 b) = some (.held (wayV 50 b), []) from rfl)
  obtain ⟨w2, u2, o2, g2⟩ := o1.update keyed_int Tryd.underlying76 (by unfold maxLen; decide) k2 (show heldR (wayV 51 b) = some (.held (wayV 51 b), []) from rfl)
  obtain ⟨w3, u3, o3, g3⟩ := o2.update keyed_int Tryd.underlying76 (by unfold maxLen; decide) k3 (show heldR (wayV 52 b) = some (.held (wayV 52 b), []) from rfl)
  have gt := World.grownBy.trans (World.grownBy.trans g1 g2) g3
  have hb3 : Below w.heap.size w w3 := hb0.trans ⟨gt.os, gt.tape, gt.output, gt.size, fun k hk => gt.block k (by simp; omega) (fun e => by injection e with e; omega)⟩
  unfold wayV at u1 u2 u3
  have HF := hide (And.intro o3 hb3)
  clear h0 k1 k2 k3 hb0 o1 o2 o3 g1 g2 g3 gt hb3
  go_enter Tryd.func40, Tryd.ntmps40
  go_wp2
  go_ret
  exact ⟨_, rfl, Nat.le_refl _, (unhide HF).1, (unhide HF).2⟩

end Go.Proofs.YtcglbopmfdilfaaDoor

namespace Go.Proofs.YtcglbopmfdilfaaDoor
open Go.RowKit
set_option linter.unusedVariables false
set_option linter.unusedSimpArgs false
set_option maxRecDepth 20000

/-- What a way's function answers. -/
def WayOk (how : Int) (F : FuncId) : Prop :=
  (∀ (W : World) (b : Nat) (s : Srch) (x y z : Value) (a : Int), StV W b s x y z → RightG s.g → s.t.length = s.g.length → TabD W →
    Calls Tryd.prog F #[.pointer (some ⟨b, 0, none⟩), .int .i64 a] W fun e w' => e = .returned (.int .i64 (worthW how s.g s.t a)) ∧ Below W.heap.size W w') ∧
  ∃ fn c, Tryd.prog.funcs[F]? = some fn ∧ (fn.name == "runtime.NumGoroutine") = false ∧ fn.body = some c

theorem way_ok {how : Int} (h : how = 1 ∨ how = 2 ∨ how = 3) : ∃ F, WayOk how F ∧ ∀ b z, Maps.has (waysD b) (.int .i64 how) = true ∧ (waysD b).atKey (.int .i64 how) z = .held (wayV F b) := by
  rcases h with rfl | rfl | rfl
  · exact ⟨_, ⟨fun W b s x y z a h hr hl hT => fillS_any h hr hl hT a, _, _, Tryd.func50, by kernel_rfl, rfl⟩, ways_one⟩
  · exact ⟨_, ⟨fun W b s x y z a h hr hl hT => degreeS_any h hr hl hT a, _, _, Tryd.func51, by kernel_rfl, rfl⟩, ways_two⟩
  · exact ⟨_, ⟨fun W b s x y z a h hr hl hT => cardS_any h hr hl hT a, _, _, Tryd.func52, by kernel_rfl, rfl⟩, ways_three⟩

theorem held_inj {v : Value} {d : DataW Value} {ps : List MemPlace} {u : Value} (h : heldR v = some (d, ps)) (hd : d = .held u) : v = u := by
  unfold heldR at h
  injection h with h
  injection h with h1 h2
  rw [← h1] at hd
  injection hd

/-- A slice of n untruths is made, in a region that draws. -/
theorem op_make_bools {w : World} {o : Oper} {a : Act} {K : Act → World → Prop} {Q : Exit → Act → World → Prop} (l c : Operand) (ho : o.op = Op.makeSlice 55 l c) {B : Nat} (hB : B ≤ w.heap.size)
    {n : Nat} (hl : a.eval l = .int .i64 (n : Int)) (hc : a.eval c = .int .i64 (n : Int)) (hlen : n < 100000000000)
    (h : ∀ w', OwnB B w' (.slice (some ⟨w.heap.size, 0, none⟩) n n) (List.replicate n false) → Below w.heap.size w w' → K (a.put o.dst (.slice (some ⟨w.heap.size, 0, none⟩) n n)) w') :
    o.wp Tryd.prog a w K Q := by
  obtain ⟨i, hi, hz0, hz1, hz2⟩ := info_parts Tryd.infoBool
  obtain ⟨w', hrun, r1, r2⟩ := run_make_full (P := Tryd.prog) w B 55 4 i (.bool false) 1 Tryd.underlying55 hi hz0 hz1 .i64 .i64 n (by rw [hz2]; omega) (by unfold maxLen; omega) hB
  unfold Oper.wp
  simp [execOp, ho, hl, hc, hrun, Result.andThen]
  refine h w' ?_ ⟨r2.os, r2.tape, r2.output, r2.size, fun k hk => r2.block k hk (by simp)⟩
  have : (madeCells (Value.bool false).cells (n * 1)).toList = (List.replicate n false).map Value.bool := by
    rw [show (Value.bool false).cells = #[.bool false] from rfl, toList_madeCells_one]; simp
  rw [this] at r1
  simpa [OwnB] using r1

set_option maxHeartbeats 4000000 in
theorem of_any {g : List Nat} {x : Value} {w : World} {how : Int} (hg : Words w x g) (hr : RightG g) (hT : TabD w) (hw : (Lit.int .i64 how).wf = true) (h123 : how = 1 ∨ how = 2 ∨ how = 3) :
    Calls Tryd.prog 30 #[.agg #[x], .int .i64 how] w fun e w' => ∃ v, e = .returned (.tuple #[v, .int .i64 0]) ∧ OwnI w.heap.size w' v (ofL how g) ∧ Below w.heap.size w w' := by
  obtain ⟨F, hF, hD⟩ := way_ok h123
  obtain ⟨W1, hW1, hb1, hz1, hx1⟩ := boxed (w := w) (x := x)
  have hx1c := hx1.cell
  have HT := hide (fun W (hb : Below w.heap.size w W) => hT.below hb)
  have hB0 := hT.lt
  have HG := hide (fun W (hb : Below w.heap.size w W) => hg.below hb)
  have HXN := hide (fun (hne : g ≠ []) b (hb : x.ownBlock = some b) => (hg.inheap hne b hb).2)
  have HB1 := hide hb1
  have HW1 := hide hW1
  have HX1 := hide (fun W (hb : Below W1.heap.size W1 W) => (hx1.below hb (by omega)).cell)
  have HR := hide hr
  have hn40 := hr.few
  have HF := hide hF
  have HD := hide hD
  have HWF := hide hw
  obtain ⟨ax, cx, rfl, hlx, hcx⟩ := hg.form
  clear hg hr hT hb1 hW1 hx1 hF hD hw h123
  go_enter Tryd.func30, Tryd.ntmps30
  go_wp2_with fail
  rw [← unhide HW1]
  have hS0 : W1.drew.cell? ⟨w.heap.size, 0, none⟩ = some (.slice ax g.length cx) ∧ True := ⟨hx1c, trivial⟩
  refine wp_region_held (S := fun U => U.cell? ⟨w.heap.size, 0, none⟩ = some (.slice ax g.length cx) ∧ True) (by kernel_rfl) ?_
  refine wpAnyH_take (i := 0) (v := ?_) rfl (by kernel_rfl) (by kernel_rfl) (by kernel_rfl) (fun _ _ _ h => h) (Or.inl ⟨by kernel_rfl, ?_⟩) (by assumption) ?_
  rotate_left
  · intro W hSW; obtain ⟨hS1, _⟩ := hSW; go_simp; first | done | rfl
  simp only [Act.put, List.setIfInBounds_toArray, List.set_cons_zero, List.set_cons_succ, List.getElem_toArray, List.getElem_cons_succ, List.getElem_cons_zero]
  refine wpAnyH_take (i := 1) (v := ?_) rfl (by kernel_rfl) (by kernel_rfl) (by kernel_rfl) (fun _ _ _ h => h) (Or.inl ⟨by kernel_rfl, ?_⟩) (by assumption) ?_
  rotate_left
  · intro W hSW; obtain ⟨hS1, _⟩ := hSW; go_simp; first | done | rfl
  simp only [Act.put, List.setIfInBounds_toArray, List.set_cons_zero, List.set_cons_succ, List.getElem_toArray, List.getElem_cons_succ, List.getElem_cons_zero]
  refine wpAnyH_take (i := 2) (v := ?_) rfl (by kernel_rfl) (by kernel_rfl) (by kernel_rfl) (fun _ _ _ h => h) (Or.inl ⟨by kernel_rfl, ?_⟩) (by assumption) ?_
  rotate_left
  · intro W hSW; obtain ⟨hS1, _⟩ := hSW; go_simp; first | done | rfl
  simp only [Act.put, List.setIfInBounds_toArray, List.set_cons_zero, List.set_cons_succ, List.getElem_toArray, List.getElem_cons_succ, List.getElem_cons_zero]
  refine wpAnyH_take (i := 3) (v := ?_) rfl (by kernel_rfl) (by kernel_rfl) (by kernel_rfl) (fun _ _ _ h => h) (Or.inl ⟨by kernel_rfl, ?_⟩) (by assumption) ?_
  rotate_left
  · intro W hSW; obtain ⟨hS1, _⟩ := hSW; go_simp; first | done | rfl
  simp only [Act.put, List.setIfInBounds_toArray, List.set_cons_zero, List.set_cons_succ, List.getElem_toArray, List.getElem_cons_succ, List.getElem_cons_zero]
  refine held_one (i := 4) (by kernel_rfl) rfl (by kernel_rfl) (fun K hK => ?_)
  refine op_make_bools _ _ rfl (B := w.heap.size) (by show w.heap.size ≤ W1.heap.size; omega) rfl rfl (by omega) ?_
  intro w2 ho2 hb2
  have hb2' : Below W1.heap.size W1 w2 := ⟨hb2.os, hb2.tape, hb2.output, hb2.size, hb2.block⟩
  have hx2 := unhide HX1 w2 hb2'
  have hS0 : w2.cell? ⟨w.heap.size, 0, none⟩ = some (.slice ax g.length cx) ∧ True := ⟨hx2, trivial⟩
  refine hK.out _ _ hS0 ?_
  clear hK K
  try simp only [Act.put, List.setIfInBounds_toArray, List.set_cons_zero, List.set_cons_succ]
  have ho2' : OwnB w.heap.size w2 (.slice (some ⟨w.heap.size + 1, 0, none⟩) g.length g.length) (List.replicate g.length false) := by rw [← hz1]; exact ho2
  have hz2 := hb2'.size
  have ho2lt := (ho2'.lt (w.heap.size + 1) rfl).2
  obtain ⟨W3, hW3⟩ : ∃ W, W = w2.alloc (.cells #[.slice ax g.length cx, .slice (some ⟨w.heap.size + 1, 0, none⟩) g.length g.length, .slice none 0 0] 73) := ⟨_, rfl⟩
  have hb3 : Below w2.heap.size w2 W3 := by rw [hW3]; exact (Below.refl _ _).alloc (Nat.le_refl _) _
  have hbx : BoxR W3 w2.heap.size (.slice ax g.length cx) (.slice (some ⟨w.heap.size + 1, 0, none⟩) g.length g.length) (.slice none 0 0) := by rw [hW3]; exact BoxR.new _ _ _ _
  have hB23 : Below w.heap.size w W3 := (unhide HB1).trans ((hb2'.mono (by omega)).trans (hb3.mono (by omega)))
  have hst : StO w.heap.size W3 w2.heap.size (begS g) (.slice ax g.length cx) (.slice (some ⟨w.heap.size + 1, 0, none⟩) g.length g.length) (.slice none 0 0) :=
    ⟨hbx, unhide HG _ hB23, (by simpa [begS, OwnB] using own_below ho2' hb3), own_nilI _ _, (by omega), (fun _ => rfl),
      (fun hne c h1 h2 => by
        have h3 := unhide HXN hne c h1
        have h4 : w.heap.size + 1 = c := by injection h2
        omega), (fun _ c _ h2 => by cases h2), (fun hne e => by
        have h3 := unhide HXN hne _ e
        omega),
      (fun e => by
        have h4 : w.heap.size + 1 = w2.heap.size := by injection e
        omega), (fun e => by cases e), (fun c _ h2 => by cases h2)⟩
  have hx3 := unhide HX1 W3 (hb2'.trans (hb3.mono hz2))
  have HST := hide hst
  have HW3 := hide hW3
  have HB23 := hide hB23
  have hz3 := hb3.size
  have HX3 := hide (fun W (hb : Below W3.heap.size W3 W) => unhide HX1 W ((hb2'.trans (hb3.mono hz2)).trans (hb.mono (by omega))))
  clear hst hbx hW3 ho2 hb2 hB23 hb3
  refine wpAnyH_take (i := 5) (v := ?_) rfl (by kernel_rfl) (by kernel_rfl) (by kernel_rfl) (fun _ _ _ h => h) (Or.inl ⟨by kernel_rfl, ?_⟩) (by assumption) ?_
  rotate_left
  · intro W hSW; obtain ⟨hS1, _⟩ := hSW; go_simp; first | done | rfl
  simp only [Act.put, List.setIfInBounds_toArray, List.set_cons_zero, List.set_cons_succ, List.getElem_toArray, List.getElem_cons_succ, List.getElem_cons_zero]
  refine held_one (i := 6) (by kernel_rfl) rfl (by kernel_rfl) (fun K hK => ?_)
  go_simp
  rw [← unhide HW3]
  have hS0 : W3.cell? ⟨w.heap.size, 0, none⟩ = some (.slice ax g.length cx) ∧ True := ⟨hx3, trivial⟩
  refine hK.out _ _ hS0 ?_
  clear hK K
  try simp only [Act.put, List.setIfInBounds_toArray, List.set_cons_zero, List.set_cons_succ]
  refine wpAnyH_take (i := 7) (v := ?_) rfl (by kernel_rfl) (by kernel_rfl) (by kernel_rfl) (fun _ _ _ h => h) (Or.inl ⟨by kernel_rfl, ?_⟩) (by assumption) ?_
  rotate_left
  · intro W hSW; obtain ⟨hS1, _⟩ := hSW; go_simp; first | done | rfl
  simp only [Act.put, List.setIfInBounds_toArray, List.set_cons_zero, List.set_cons_succ, List.getElem_toArray, List.getElem_cons_succ, List.getElem_cons_zero]
  refine wpAnyH_done (by kernel_rfl) ?_ _
  obtain ⟨b, hb⟩ : ∃ b, b = w2.heap.size := ⟨_, rfl⟩
  rw [← hb] at HST ⊢
  have hwb : w.heap.size ≤ b := by omega
  clear hb hx2 hS0
  go_wp2_with fail
  refine (ways_any _ _).mono ?_
  rintro e w4 ⟨m, rfl, hm, hown, hb4⟩
  obtain ⟨fv, fps, hrun, hfv⟩ := hown.look_ok keyed_int Tryd.underlying76 (Tryd.zeroValue74 w4) (z := _) (zd := .held _) (zp := []) rfl (Maps.keyOf_int_mk Tryd.underlying3 (unhide HWF))
  have hfv2 := held_inj hfv (unhide HD b _).2
  subst hfv2
  rw [(unhide HD b (.held .nilFunc)).1] at hrun
  unfold wayV at hrun
  have HST4 := hide ((unhide HST).below hb4)
  have hbt := (unhide HST4).box.lt
  have hx4 := unhide HX3 w4 hb4
  have HB4 := hide ((unhide HB23).trans (hb4.mono (by omega)))
  clear hb4 hown hfv HST HD HX3 HX1 hx3 hx1c
  go_wp2
  go_loopw [28] (fun i wr => ∃ (k : Nat) (x' z' : Value), k ≤ g.length ∧ i = .int .i64 k ∧ StO w.heap.size wr b (runS how (begS g) k) x' (.slice (some ⟨w.heap.size + 1, 0, none⟩) g.length g.length) z' ∧ Below w.heap.size w wr) (fun i wr => g.length - (intOf i).toNat)
  case atStart => exact ⟨0, _, _, by omega, rfl, unhide HST4, unhide HB4⟩
  case round =>
    clear hx4 HST4 HB4 hrun hbt
    obtain ⟨k, x', z', hk, rfl, hst, hbel⟩ := hrel
    rename World => wr
    have hzr := hbel.size
    have hok := (begS_ok (unhide HR)).run (how := how) hk
    by_cases hkl : k < g.length
    · have hl := least_ok (f := worthW how (runS how (begS g) k).g (runS how (begS g) k).t) (t := (runS how (begS g) k).t) (by have := hok.left; omega)
      have hsu : runS how (begS g) (k + 1) = takeS how (runS how (begS g) k) (leastL (worthW how (runS how (begS g) k).g (runS how (begS g) k).t) (runS how (begS g) k).t) := rfl
      have hlt : (leastL (worthW how (runS how (begS g) k).g (runS how (begS g) k).t) (runS how (begS g) k).t).toNat < (runS how (begS g) k).t.length := by omega
      have HLE := hide (leastS_any hst.st (F := F) (f := worthW how (runS how (begS g) k).g (runS how (begS g) k).t) (by rw [hok.tlen]; omega)
        (fun a W hb => (unhide HF).1 W b _ x' _ z' a (hst.st.below hb) hok.right (hok.tlen.trans hok.glen.symm) (unhide HT W (hbel.trans (hb.mono hzr)))) (unhide HF).2)
      obtain ⟨a, ha⟩ : ∃ a : Nat, (a : Int) = leastL (worthW how (runS how (begS g) k).g (runS how (begS g) k).t) (runS how (begS g) k).t := ⟨_, Int.toNat_of_nonneg hl.1⟩
      rw [← ha] at hl hsu hlt HLE
      simp only [Int.toNat_natCast] at hlt
      have HTK := hide (fun W (hb : Below wr.heap.size wr W) => takeS_any (how := how) (hst.below hb) hok.right (hok.tlen.trans hok.glen.symm) (by rw [hok.olen]; omega) (unhide HT W (hbel.trans (hb.mono hzr))) hlt (by have := hb.size; omega) hB0)
      rw [← hsu] at HTK
      have HBE := hide hbel
      clear hst hbel hok hl hsu ha hlt
      generalize runS how (begS g) k = s at *
      obtain ⟨s', hs'⟩ : ∃ s', s' = runS how (begS g) (k + 1) := ⟨_, rfl⟩
      rw [← hs'] at HTK
      have HS' := hide hs'
      clear hs'
      go_wp2_with fail
      refine (unhide HLE).mono ?_
      rintro e w6 ⟨rfl, hb6⟩
      have HTK6 := hide (unhide HTK w6 hb6)
      have hB6 := (unhide HBE).trans (hb6.mono hzr)
      have HB6 := hide hB6
      have hz6 := hB6.size
      clear hb6 hB6 HTK HLE
      go_wp2_with fail
      refine (unhide HTK6).mono ?_
      rintro e w7 ⟨x7, z7, rfl, hst7, hb7⟩
      have HF7 := hide (And.intro hst7 ((unhide HB6).trans hb7))
      clear hst7 hb7 HTK6
      go_wp2
      go_roundw
      case rel => exact ⟨k + 1, _, _, by omega, by go_num, by rw [← unhide HS']; exact (unhide HF7).1, (unhide HF7).2⟩
      case measure => simp [intOf]; omega
    · obtain rfl : k = g.length := by omega
      obtain ⟨y0, y1, y2⟩ := hst.box.cells
      go_wp2
      go_ret2
      exact ⟨_, rfl, hst.o, hbel⟩

end Go.Proofs.YtcglbopmfdilfaaDoor

namespace Go.Proofs.YtcglbopmfdilfaaDoor
open Go.RowKit
set_option linter.unusedVariables false
set_option linter.unusedSimpArgs false
set_option maxRecDepth 20000

/-- Is there an order by which nothing is joined? -/
def chordB (g : List Nat) : Bool := decide (fillG g (ofL 3 g) = g)
theorem chordB_iff {g : List Nat} (hr : RightG g) : chordB g = true ↔ ChordG g := by
  unfold chordB
  rw [decide_eq_true_eq]
  exact (chord_iff hr).symm

set_option maxHeartbeats 1000000 in
theorem chordal_any {g : List Nat} {x : Value} {w : World} (hg : Words w x g) (hr : RightG g) (hT : TabD w) :
    Calls Tryd.prog 18 #[.agg #[x]] w fun e w' => e = .returned (.bool (chordB g)) ∧ Below w.heap.size w w' := by
  unfold chordB
  obtain ⟨ax, cx, rfl, hxl, hxc⟩ := hg.form
  unfold maxLen at hxc
  obtain ⟨W0, hW0, hbA, hzA, hxA⟩ := boxedG w (.slice ax g.length cx)
  have hx1 := hxA.cell
  have HO := hide (of_any (how := 3) (hg.below hbA) hr (hT.below hbA) (by decide) (by decide))
  have HX := hide (fun W (hb : Below W0.heap.size W0 W) => (hxA.below hb (by omega)).cell)
  have HG := hide (fun W (hb : Below W0.heap.size W0 W) => (hg.below hbA).below hb)
  have HT := hide (fun W (hb : Below W0.heap.size W0 W) => (hT.below hbA).below hb)
  have HB0 := hide hbA
  have hor := ofL_ord (how := 3) hr
  have HFI := hide (fun W (v : Value) (hb : Below W0.heap.size W0 W) (hv : Ints W v (ofL 3 g)) => filled_yes ((hg.below hbA).below hb) hr ((hT.below hbA).below hb) hv hor)
  have hol := ord_len hor
  rw [hW0] at hx1
  have HW0 := hide hW0
  clear hg hr hT hbA hxA hW0 hor
  generalize ofL 3 g = o at *
  generalize fillG g o = G at *
  have HOL := hide hol
  clear hol
  go_enter Tryd.func18, Tryd.ntmps18
  go_wp2_with fail
  rw [← unhide HW0]
  refine (unhide HO).mono ?_
  rintro e w2 ⟨v, rfl, hv, hb2⟩
  have hI := Seq.of_own hv
  obtain ⟨av, cv, rfl, _, _⟩ := hI.form
  have HF := hide (unhide HFI w2 _ hb2 hI)
  have y2 := unhide HX w2 hb2
  have HB2 := hide hb2
  have hz2 := hb2.size
  clear hv hI hb2 hx1 HO HFI
  go_wp2_with fail
  refine (unhide HF).mono ?_
  rintro e w3 ⟨y, rfl, hy, hb3⟩
  have hyw := Seq.of_own hy
  obtain ⟨ay, cy, rfl, _, _⟩ := hyw.form
  obtain ⟨W4, hW4, hb4, hz4, hx4⟩ := boxedG w3 (.slice ay G.length cy)
  have hb24 := hb3.trans (hb4.mono hb3.size)
  have hb04 := (unhide HB2).trans (hb24.mono hz2)
  have hE := equalW_any (hyw.below hb4) (unhide HG W4 hb04)
  have HE := hide hE
  have y4 := unhide HX W4 hb04
  have y5 := hx4.cell
  have HBF := hide ((unhide HB0).trans (hb04.mono (by omega)))
  rw [hW4] at y4 y5
  have HW4 := hide hW4
  clear hy hyw hb3 hb4 hx4 hb24 hb04 hE HX HG HT HF y2 hW4
  go_wp2_with fail
  first | rw [← unhide HW4] | skip
  refine (unhide HE).mono ?_
  rintro e w5 ⟨rfl, n, rfl⟩
  have HBD := hide (Below.drewN1 (unhide HBF) n)
  clear y4 y5 HE
  go_wp2
  go_ret
  exact ⟨rfl, unhide HBD⟩

end Go.Proofs.YtcglbopmfdilfaaDoor

namespace Go.Proofs.YtcglbopmfdilfaaDoor
open Go.RowKit
set_option linter.unusedVariables false
set_option linter.unusedSimpArgs false
set_option maxRecDepth 20000

set_option maxHeartbeats 4000000 in
theorem refGraphC_any {B0 : Nat} {M : List (List Bool)} {v : Value} {bs : List (Nat × Nat)} {w : World} (hM : MatC B0 w v M.length M bs) (hl : M.length ≤ 40) :
    Calls Tryd.prog 12 #[v] w fun e w' => ∃ x, e = .returned (.agg #[x]) ∧ OwnW w.heap.size w' x (graphR M) ∧ Below w.heap.size w w' := by
  have HM := hide (fun W (hb : Below w.heap.size w W) => hM.below hb)
  obtain ⟨a0, c0, rfl, hl0, hc0⟩ := hM.form
  unfold maxLen at hc0
  obtain ⟨W1, hW1⟩ : ∃ W, W = (w.alloc (.cells #[.slice none 0 0] 29)).alloc (.cells #[.slice none 0 0] 29) := ⟨_, rfl⟩
  have hb1 : Below w.heap.size w W1 := by rw [hW1]; exact ((Below.refl _ _).alloc (Nat.le_refl _) _).alloc (by simp) _
  have hz1 : W1.heap.size = w.heap.size + 2 := by rw [hW1]; simp
  have hx2 : BoxG W1 w.heap.size (.slice none 0 0) := by rw [hW1]; exact (BoxG.new w _).below ((Below.refl _ _).alloc (Nat.le_refl _) _) (by simp)
  have hx3 : BoxG W1 (w.heap.size + 1) (.slice none 0 0) := by rw [hW1]; have := BoxG.new (w.alloc (.cells #[.slice none 0 0] 29)) (.slice none 0 0); simpa using this
  have HX3 := hide hx3
  have HX2 := hide hx2
  have HB1 := hide hb1
  have HW1 := hide hW1
  have hwid := hM.wide
  have HWI := hide hwid
  clear hM hb1 hx2 hx3 hW1 hwid
  obtain ⟨G, hG⟩ : ∃ G, G = graphR M := ⟨_, rfl⟩
  rw [← hG]
  have hGl : G.length = M.length := by rw [hG, graphR_len]
  have HG := hide (fun (k : Nat) (h : k < G.length) => show G[k] = wordUp (M.getD k []) M.length by
    subst hG
    have h2 : k < M.length := by rw [graphR_len] at h; exact h
    rw [List.getD_eq_getElem?_getD, List.getElem?_eq_getElem h2]
    simp [graphR])
  clear hG
  go_enter Tryd.func12, Tryd.ntmps12
  go_wp2
  rw [← unhide HW1]
  go_loopw [4] (fun i wr => ∃ (k : Nat) (x : Value), i = .int .i64 k ∧ k ≤ M.length ∧ BoxG wr w.heap.size (.slice none 0 0) ∧ BoxG wr (w.heap.size + 1) x ∧ OwnW W1.heap.size wr x (G.take k) ∧ Below w.heap.size w wr ∧ W1.heap.size ≤ wr.heap.size) (fun i _ => M.length - (intOf i).toNat)
  case atStart => exact ⟨0, .slice none 0 0, rfl, by omega, unhide HX2, unhide HX3, own_nilW _ _, unhide HB1, Nat.le_refl _⟩
  case round =>
    clear HX3 HX2
    obtain ⟨k, x, rfl, hk, hx2, hx3, hown, hbel, hszr⟩ := hrel
    rename World => wr
    obtain ⟨ax, cx, rfl, hlx, hcx⟩ := (Seq.of_own hown).form
    unfold maxLen at hcx
    have hkG : (G.take k).length = k := by rw [List.length_take]; omega
    rw [hkG] at hown hlx hx3
    have q3 := hx3.cell
    have f3 := hx3.frozen
    by_cases hkl : k < M.length
    · obtain ⟨L, hL⟩ : ∃ L, L = M.length := ⟨_, rfl⟩
      have HO := hide hown
      have HX2 := hide hx2
      have HX3 := hide hx3
      have HBE := hide hbel
      have hMw := unhide HM wr hbel
      have HMW := hide hMw
      clear hown hx2 hx3 hbel hMw
      go_wp2
      go_loop [5, 6] (fun x j => ∃ m : Nat, m ≤ M.length ∧ j = .int .i64 m ∧ x = .int .u64 (wordUp (M.getD k []) m : Nat)) (fun _ j => M.length - (intOf j).toNat)
      case atStart => exact ⟨0, by omega, rfl, rfl⟩
      case round =>
        obtain ⟨m, hm, rfl, rfl⟩ := hrel
        by_cases hml : m < M.length
        · obtain ⟨b, o, r, e, c1, c2, _⟩ := (unhide HMW).at hkl hml
          subst e
          have hwl := wordUp_lt (M.getD k []) m
          have h40 : 2 ^ m ≤ 2 ^ 40 := Nat.pow_le_pow_right (by decide) (by omega)
          have h64 : (2 : Nat) ^ 40 = 1099511627776 := by decide
          have hsh := shl_nat (k := m) (by omega)
          have hstep : wordUp (M.getD k []) (m + 1) = wordUp (M.getD k []) m + if (M.getD k []).getD m false = true then 2 ^ m else 0 := rfl
          cases hb : (M.getD k []).getD m false with
          | true =>
            rw [hb] at c2 hstep
            rw [if_pos rfl] at hstep
            have HS := hide hstep
            have HSH := hide hsh
            have HH := hide (And.intro hwl (And.intro h40 h64))
            generalize wordUp (M.getD k []) m = y at *
            clear hwl h40 h64 hstep hb hsh
            go_wp2
            go_round
            case rel =>
              refine ⟨m + 1, by omega, by go_num, ?_⟩
              rw [unhide HS, unhide HSH, IntKind.wrap_u64]
              obtain ⟨h1, h2, h3⟩ := unhide HH
              rw [h3] at h2
              generalize 2 ^ m = z at *
              congr 1
              omega
            case measure => simp [intOf]; omega
          | false =>
            rw [hb] at c2 hstep
            have hstep : wordUp (M.getD k []) (m + 1) = wordUp (M.getD k []) m := by rw [hstep]; simp
            have HS := hide hstep
            clear hwl h40 h64 hstep hb hsh
            go_wp2
            go_round
            case rel => exact ⟨m + 1, by omega, by go_num, by rw [unhide HS]⟩
            case measure => simp [intOf]; omega
        · have hmM : m = M.length := by omega
          subst hmM
          have hG := unhide HG k (by omega)
          have htk : G.take (k + 1) = G.take k ++ [G[k]'(by omega)] := List.take_succ_eq_append_getElem (by omega)
          rw [hG] at htk
          have HTK := hide htk
          generalize wordUp (M.getD k []) M.length = y at *
          clear hG htk
          go_wp2_with (at_builtin; refine wp_app_word rfl (.tmp 33) (.tmp 35) rfl (B := W1.heap.size) (l := G.take k) (unhide HO) rfl (by omega) rfl (by omega) ?_; intro v6 w6 hown6 hg6; have hx6 : BoxG w6 (w.heap.size + 1) (.slice ax k cx) := (hg6.by_.block _ (unhide HX3).lt (fun e => by have := (unhide HO).lt _ e.symm; omega)).trans (unhide HX3); have k6 := hx6.cell; have f6 := hx6.frozen; have HX6 := hide hx6; have HX26 := hide ((hg6.by_.block _ (unhide HX2).lt (fun e => by have := (unhide HO).lt _ e.symm; omega)).trans (unhide HX2) : BoxG w6 w.heap.size (.slice none 0 0)); have HB6 := hide ((unhide HBE).trans (hg6.below.mono (by omega))); have hs6 := hg6.below.size; have HW6 := hide hown6; obtain ⟨a6, c6, rfl, _, _⟩ := (Seq.of_own hown6).form; clear hown6 hg6 hx6)
          go_roundw
          case rel =>
            have e9 : (G.take k ++ [y]).length = k + 1 := by simp; omega
            have h9 : OwnW W1.heap.size (w6.setCell ⟨w.heap.size + 1, 0, none⟩ (.slice a6 (k + 1) c6)) (.slice a6 (k + 1) c6) (G.take k ++ [y]) := by
              have h10 := ownsRow_setCell_below (unhide HW6) (a := ⟨w.heap.size + 1, 0, none⟩) (by show w.heap.size + 1 < W1.heap.size; omega) (.slice a6 (k + 1) c6)
              rw [e9] at h10
              rw [OwnW, e9]
              exact h10
            exact ⟨k + 1, _, by go_num, by omega, BoxG.setO (unhide HX26) (by omega) _, BoxG.set (unhide HX6) _, by rw [unhide HTK]; exact h9, (unhide HB6).setCell (Nat.le_succ _) _, by simp; omega⟩
          case measure => simp [intOf]; omega
    · have hkM : k = M.length := by omega
      subst hkM
      have hGk : G.take M.length = G := List.take_of_length_le (by omega)
      rw [hGk] at hown
      have q2 := hx2.cell
      have f2 := hx2.frozen
      have HO := hide hown
      have HBE := hide hbel
      clear hown hbel hx2 hx3 hGk hkG
      go_wp2
      refine bodyPost_ret (v := .agg #[.slice ax M.length cx]) (by simp [results, Tryd.results12, go_sem, q2]) rfl ⟨_, rfl, ?_, (unhide HBE).setCell (Nat.le_refl _) _⟩
      exact own_mono (by exact ownsRow_setCell_below (unhide HO) (by show w.heap.size < W1.heap.size; omega) _) (by omega)

end Go.Proofs.YtcglbopmfdilfaaDoor

namespace Go.Proofs.YtcglbopmfdilfaaDoor
open Go.RowKit
set_option linter.unusedVariables false
set_option linter.unusedSimpArgs false
set_option maxRecDepth 20000

set_option maxHeartbeats 4000000 in
theorem alike_any {B0 : Nat} {g : List Nat} {M : List (List Bool)} {bs : List (Nat × Nat)} {x v : Value} {w : World} (hg : Words w x g) (hM : MatC B0 w v M.length M bs) (hl : M.length ≤ 40) :
    Calls Tryd.prog 22 #[.agg #[x], v] w fun e w' => e = .returned (.bool (decide (g = graphR M))) ∧ Below w.heap.size w w' := by
  obtain ⟨ax, cx, rfl, hxl, hxc⟩ := hg.form
  unfold maxLen at hxc
  obtain ⟨av, cv, rfl, hvl, hvm⟩ := hM.form
  obtain ⟨W0, hW0, hbA, hzA, hxA⟩ := boxedG w (.slice ax g.length cx)
  have hx1 := hxA.cell
  have HGR := hide (refGraphC_any (hM.below hbA) hl)
  have HX := hide (fun W (hb : Below W0.heap.size W0 W) => (hxA.below hb (by omega)).cell)
  have HG := hide (fun W (hb : Below W0.heap.size W0 W) => (hg.below hbA).below hb)
  have HB0 := hide hbA
  rw [hW0] at hx1
  have HW0 := hide hW0
  clear hg hM hbA hxA hW0
  generalize hGG : graphR M = G at *
  clear hGG
  go_enter Tryd.func22, Tryd.ntmps22
  go_wp2_with fail
  rw [← unhide HW0]
  refine (unhide HGR).mono ?_
  rintro e w2 ⟨y, rfl, hy, hb2⟩
  obtain ⟨ay, cy, rfl, hyl, hyc⟩ := (Seq.of_own hy).form
  unfold maxLen at hyc
  obtain ⟨W3, hW3, hb3, hz3, hx3⟩ := boxedG w2 (.slice ay G.length cy)
  have hz2 := hb2.size
  have hb03 := hb2.trans (hb3.mono hz2)
  have y3 := unhide HX W3 hb03
  have y4 := hx3.cell
  have HX3 := hide (fun W (hb : Below W3.heap.size W3 W) => And.intro (Below.cell_of hb y3) (Below.cell_of hb y4))
  have hxg := (unhide HG W3 hb03)
  have hyg := (Seq.of_own hy).below hb3
  have HBF := hide ((unhide HB0).trans (hb03.mono (by omega)))
  rw [hW3] at y3 y4
  have HW3 := hide hW3
  clear hy hb2 hb3 hb03 HGR HX HG hx1 hx3 hW3 HB0
  by_cases hln : g.length = G.length
  · have hne : ((g.length : Int) != (G.length : Int)) = false := by simp [hln]
    have HLN := hide hln
    have hlx : g.length ≤ G.length := by omega
    clear hln
    go_wp2
    first | rw [← unhide HW3] | skip
    clear y3 y4
    obtain ⟨y3, y4⟩ := unhide HX3 W3 (Below.refl _ _)
    go_loopw [6] (fun i wr => ∃ k n : Nat, k ≤ g.length ∧ i = .int .i64 k ∧ wr = W3.drewN n ∧ Hid (∀ j (hj : j < g.length) (hj' : j < G.length), j < k → g[j] = G[j])) (fun i _ => g.length - (intOf i).toNat)
    case atStart => exact ⟨0, 0, by omega, rfl, rfl, hide (fun j hj hj' h => by omega)⟩
    case round =>
      obtain ⟨k, n, hk, rfl, rfl, hc⟩ := hrel
      by_cases hka : k < g.length
      · have hkb : k < G.length := by omega
        obtain ⟨ba, oa, rfl, hca'⟩ := hxg.at hka
        obtain ⟨bb, ob, rfl, hcb'⟩ := hyg.at hkb
        clear hxg hyg
        by_cases he : g[k] = G[k]
        · have he1 : ((g[k] : Int) != (G[k] : Int)) = false := by simp [he]
          have Hc : Hid (∀ j (hj : j < g.length) (hj' : j < G.length), j < k + 1 → g[j] = G[j]) := hide (fun j hj hj' h => by
            rcases Nat.lt_or_ge j k with e | e
            · exact unhide hc j hj hj' e
            · have : j = k := by omega
              subst this; exact he)
          clear he hc
          go_wp2
          go_quiet (fail)
          go_wp2
          go_roundw
          case rel => exact ⟨k + 1, _, by omega, by go_num, rfl, Hc⟩
          case measure => simp [intOf]; omega
        · have he1 : ((g[k] : Int) != (G[k] : Int)) = true := by simp; omega
          have HP := hide (show decide (g = G) = false by simp only [decide_eq_false_iff_not]; intro e; subst e; exact he rfl)
          clear he hc
          go_wp2
          go_quiet (fail)
          go_wp2
          go_ret
          exact ⟨ret_bool (unhide HP).symm, Below.drewN1 (Below.drewN1 (unhide HBF) _) _⟩
      · have HP := hide (show decide (g = G) = true by simp only [decide_eq_true_eq]; exact List.ext_getElem (unhide HLN) (fun i h h' => unhide hc i h h' (by omega)))
        clear hxg hyg hc
        go_wp2
        go_ret
        exact ⟨ret_bool (unhide HP).symm, Below.drewN1 (unhide HBF) _⟩
  · have hne : ((g.length : Int) != (G.length : Int)) = true := by simp; omega
    have HP := hide (show decide (g = G) = false by simp only [decide_eq_false_iff_not]; exact fun e => hln (by rw [e]))
    clear hln hxg hyg
    go_wp2
    go_ret
    exact ⟨ret_bool (unhide HP).symm, by first | (rw [← unhide HW3]; exact unhide HBF) | exact unhide HBF⟩

end Go.Proofs.YtcglbopmfdilfaaDoor

namespace Go.Proofs.YtcglbopmfdilfaaDoor
open Go.RowKit
set_option linter.unusedVariables false
set_option linter.unusedSimpArgs false
set_option maxRecDepth 20000

/-- What Right asks of a point. -/
def ptS (g : List Nat) (a : Nat) : Bool := (andNot64 (g.getD a 0) (bitsN g.length (ptsL g.length)) == 0) && (!besI g a a && (nbL g a).all fun b => besI g b a)
def rightGS (g : List Nat) : Bool := decide (g.length ≤ 40) && (List.range g.length).all (ptS g)

theorem rightGS_iff {g : List Nat} (hw : W64 g) : rightGS g = true ↔ RightG g := by
  unfold rightGS
  rw [Bool.and_eq_true, decide_eq_true_eq, List.all_eq_true]
  have hbes : ∀ a b : Nat, besI g (a : Int) (b : Int) = (decide (a < g.length) && (decide (b < g.length) && besB g a b)) := fun a b => by
    rw [besI_eq, ptB_nat, ptB_nat]; simp
  constructor
  · rintro ⟨h1, h2⟩
    have hn : g.length ≤ 64 := by omega
    have hp : ∀ a, a < g.length → (∀ i, besB g a i = true → i < g.length) ∧ besB g a a = false ∧ ∀ b, b < g.length → besB g a b = true → besB g b a = true := by
      intro a ha
      have h3 := h2 a (List.mem_range.2 ha)
      unfold ptS at h3
      rw [Bool.and_eq_true, Bool.and_eq_true, Bool.not_eq_true', List.all_eq_true] at h3
      obtain ⟨h4, h5, h6⟩ := h3
      refine ⟨fun i hi => ?_, ?_, fun b hb hab => ?_⟩
      · have h7 := (zero_iff_test _).1 h4 i
        rw [andNot64_test (getD_lt hw _) (bitsN_lt hn _), bitsN_test] at h7
        have h8 : (g.getD a 0).testBit i = true := hi
        rw [h8] at h7
        simp at h7
        exact h7.1
      · rw [hbes] at h5
        simpa [ha] using h5
      · have h9 := h6 (b : Int) (mem_nbL.2 ⟨by rw [ptB_nat]; simpa using ha, b, hb, by simpa using hab, rfl⟩)
        rw [hbes] at h9
        simp at h9
        exact h9.2.2
    refine ⟨h1, hw, fun a b hab => (hp a (besB_lt hab)).1 b hab, fun a => ?_, fun a b hab => (hp a (besB_lt hab)).2.2 b ((hp a (besB_lt hab)).1 b hab) hab⟩
    cases h : besB g a a with
    | false => rfl
    | true => rw [(hp a (besB_lt h)).2.1] at h; cases h
  · intro h
    have hn : g.length ≤ 64 := by have := h.few; omega
    refine ⟨h.few, fun a ha => ?_⟩
    have ha := List.mem_range.1 ha
    unfold ptS
    rw [Bool.and_eq_true, Bool.and_eq_true, Bool.not_eq_true', List.all_eq_true]
    refine ⟨(zero_iff_test _).2 (fun i => ?_), ?_, fun b hb => ?_⟩
    · rw [andNot64_test (getD_lt hw _) (bitsN_lt hn _), bitsN_test]
      cases hi : (g.getD a 0).testBit i with
      | false => rfl
      | true =>
        have h1 := h.pts a i hi
        have : (i : Int) ∈ ptsL g.length := mem_ptsL.2 (by rw [ptB_nat]; simpa using h1)
        simp [h1, this]
    · rw [hbes, h.irr]; simp
    · obtain ⟨_, k, h1, h2, rfl⟩ := mem_nbL.1 hb
      have h2 : besB g a k = true := by simpa using h2
      rw [hbes, h.sym _ _ h2]
      simp [h1, ha]

theorem drop_range {n k : Nat} (h : k < n) (p : Nat → Bool) : ((List.range n).drop k).all p = (p k && ((List.range n).drop (k + 1)).all p) := by
  rw [List.drop_eq_getElem_cons (by simpa using h)]
  simp

end Go.Proofs.YtcglbopmfdilfaaDoor

namespace Go.Proofs.YtcglbopmfdilfaaDoor
open Go.RowKit
set_option linter.unusedVariables false
set_option linter.unusedSimpArgs false
set_option maxRecDepth 20000

theorem ring_right : RightG [10, 5, 10, 5] := (rightGS_iff (by decide)).1 (by decide +kernel)
theorem pair_right : RightG [2, 1] := (rightGS_iff (by decide)).1 (by decide +kernel)
theorem ring_bags : bagsU [10, 5, 10, 5] [0, 1, 2, 3] 4 = [[0, 1, 3], [1, 2, 3], [2, 3], [3]] := by decide +kernel
theorem ring_ord : ordB 4 [0, 1, 2, 3] = true := by decide +kernel
theorem ring_no : ordB 4 [0, 1, 2] = false := by decide +kernel
theorem ring_chord : chordB [10, 5, 10, 5] = false := by decide +kernel
theorem pair_chord : chordB [2, 1] = true := by decide +kernel

set_option maxHeartbeats 4000000 in
theorem shown10_any {w : World} (hT : TabD w) : Calls Tryd.prog 10 #[] w fun e w' => e = .returned (.bool true) ∧ Below w.heap.size w w' := by
  have HT := hide (fun W (hb : Below w.heap.size w W) => hT.below hb)
  clear hT
  obtain ⟨W1, hW1⟩ : ∃ W, W = w.alloc (.cells #[.int .u64 10, .int .u64 5, .int .u64 10, .int .u64 5] 61) := ⟨_, rfl⟩
  have hb1 : Below w.heap.size w W1 := by rw [hW1]; exact (Below.refl _ _).alloc (Nat.le_refl _) _
  have hg1 : Words W1 (.slice (some ⟨w.heap.size, 0, none⟩) 4 4) [10, 5, 10, 5] := by rw [hW1]; exact gLit_at (heap_alloc_new _ _) rfl rfl (by decide)
  have hz1 : W1.heap.size = w.heap.size + 1 := by rw [hW1]; simp
  obtain ⟨W2, hW2, hb2, hz2, hx2⟩ := boxedG W1 (.slice (some ⟨w.heap.size, 0, none⟩) 4 4)
  have hB2 := hb1.trans (hb2.mono (by omega))
  have HG := hide (fun W (hb : Below W2.heap.size W2 W) => (hg1.below hb2).below hb)
  have HX := hide (fun W (hb : Below W2.heap.size W2 W) => (hx2.below hb (by omega)).cell)
  rw [hz1] at HX
  have hx2c := hx2.cell
  -- the first row of numbers
  obtain ⟨W3, hW3⟩ : ∃ W, W = W2.alloc (.cells #[.int .i64 0, .int .i64 1, .int .i64 2, .int .i64 3] 3) := ⟨_, rfl⟩
  have hb3 : Below W2.heap.size W2 W3 := by rw [hW3]; exact (Below.refl _ _).alloc (Nat.le_refl _) _
  have hl3 : Ints W3 (.slice (some ⟨W2.heap.size, 0, none⟩) 4 4) [0, 1, 2, 3] := by rw [hW3]; exact gLit_at (heap_alloc_new _ _) rfl rfl (by decide)
  have hB3 := hB2.trans (hb3.mono (by omega))
  have HBG := hide (bags_yes (unhide HG W3 hb3) ring_right (unhide HT W3 hB3) hl3 ring_ord)
  rw [show ([10, 5, 10, 5] : List Nat).length = 4 from rfl, ring_bags] at HBG
  rw [show W2.heap.size = w.heap.size + 1 + 1 by omega] at HBG
  have HB3 := hide hB3
  have HB23 := hide hb3
  have HW2 := hide hW2
  have HW3 := hide hW3
  have HW1 := hide hW1
  rw [hW2, hW1] at hx2c
  have h12 : W2.heap.size = w.heap.size + 2 := by omega
  clear hb1 hg1 hb2 hx2 hb3 hl3 hW1 hW2 hW3 hB2 hB3
  go_enter Tryd.func10, Tryd.ntmps10
  go_wp2_with fail
  rw [← unhide HW1, ← unhide HW2, ← unhide HW3]
  clear hx2c
  refine (unhide HBG).mono ?_
  rintro e w4 ⟨z, rfl, hz, hb4⟩
  have h24 := (unhide HB23).trans (hb4.mono (unhide HB23).size)
  have hB4 := (unhide HB3).trans (hb4.mono (unhide HB3).size)
  have hzt := hz.tups
  obtain ⟨az, cz, rfl, _, _⟩ := hzt.form
  have y4 := unhide HX w4 h24
  have HZ := hide (fun W (hb : Below w4.heap.size w4 W) => (show ∃ b o p q c, (Value.slice az 4 cz) = .slice (some ⟨b, o, none⟩) 4 cz ∧ W.cell? ⟨b, o, none⟩ = some (.slice (some ⟨p, q, none⟩) 3 c) ∧ W.cell? ⟨p, q + 2, none⟩ = some (.int .i64 3) from by
    obtain ⟨b, o, u, e1, q1, hu⟩ := (hzt.below hb).at (k := 0) (by decide)
    obtain ⟨a, c, rfl, _, _⟩ := hu.form
    obtain ⟨p, q, e2, q2⟩ := hu.at (k := 2) (by decide)
    subst e2
    subst e1
    exact ⟨b, o, p, q, c, rfl, by simpa using q1, q2⟩))
  obtain ⟨W5, hW5⟩ : ∃ W, W = w4.alloc (.cells #[.int .i64 0, .int .i64 1, .int .i64 2, .int .i64 3] 3) := ⟨_, rfl⟩
  have hb5 : Below w4.heap.size w4 W5 := by rw [hW5]; exact (Below.refl _ _).alloc (Nat.le_refl _) _
  have hl5 : Ints W5 (.slice (some ⟨w4.heap.size, 0, none⟩) 4 4) [0, 1, 2, 3] := by rw [hW5]; exact gLit_at (heap_alloc_new _ _) rfl rfl (by decide)
  have h25 := h24.trans (hb5.mono h24.size)
  have hB5 := hB4.trans (hb5.mono hB4.size)
  have HWI := hide (width_yes (unhide HG W5 h25) ring_right (unhide HT W5 hB5) hl5 ring_ord)
  rw [show ([10, 5, 10, 5] : List Nat).length = 4 from rfl, ring_bags, show ((mostL [[0, 1, 3], [1, 2, 3], [2, 3], [3]] : Nat) : Int) - 1 = 2 from rfl] at HWI
  have HB45 := hide hb5
  have H25 := hide h25
  have HB5 := hide hB5
  have HW5 := hide hW5
  clear hz hzt hb4 h24 hB4 hb5 hl5 h25 hB5 hW5 HBG HB3 HB23
  go_wp2_with fail
  rw [← unhide HW5]
  refine (unhide HWI).mono ?_
  rintro e w6 ⟨rfl, hb6⟩
  have h26 := (unhide H25).trans (hb6.mono (unhide H25).size)
  have hB6 := (unhide HB5).trans (hb6.mono (unhide HB5).size)
  have h46 := (unhide HB45).trans (hb6.mono (unhide HB45).size)
  have y6 := unhide HX w6 h26
  obtain ⟨W7, hW7⟩ : ∃ W, W = w6.alloc (.cells #[.int .i64 0, .int .i64 1, .int .i64 2] 3) := ⟨_, rfl⟩
  have hb7 : Below w6.heap.size w6 W7 := by rw [hW7]; exact (Below.refl _ _).alloc (Nat.le_refl _) _
  have hl7 : Ints W7 (.slice (some ⟨w6.heap.size, 0, none⟩) 3 3) [0, 1, 2] := by rw [hW7]; exact gLit_at (heap_alloc_new _ _) rfl rfl (by decide)
  have h27 := h26.trans (hb7.mono h26.size)
  have hB7 := hB6.trans (hb7.mono hB6.size)
  have h47 := h46.trans (hb7.mono h46.size)
  have HFI := hide (filled_no (unhide HG W7 h27) hl7 (by decide) ring_no)
  have H47 := hide h47
  have H27 := hide h27
  have HB7 := hide hB7
  have HW7 := hide hW7
  clear hb6 h26 hB6 h46 hb7 hl7 h27 hB7 h47 hW7 y4 HWI HB45 H25 HB5 HW5
  go_wp2_with fail
  rw [← unhide HW7]
  refine (unhide HFI).mono ?_
  rintro e w8 ⟨rfl, hb8⟩
  have hb9 : Below w8.heap.size w8 (w8.alloc (.cells #[.slice none 0 0] 29)) := (Below.refl _ _).alloc (Nat.le_refl _) _
  obtain ⟨W9, hW9⟩ : ∃ W, W = w8.alloc (.cells #[.slice none 0 0] 29) := ⟨_, rfl⟩
  rw [← hW9] at hb9
  have hb79 := hb8.trans (hb9.mono hb8.size)
  have h29 := (unhide H27).trans (hb79.mono (unhide H27).size)
  have hB9 := (unhide HB7).trans (hb79.mono (unhide HB7).size)
  have h49 := (unhide H47).trans (hb79.mono (unhide H47).size)
  have y9 := unhide HX W9 h29
  obtain ⟨bz, oz, pz, qz, c0, e1, z1, z2⟩ := unhide HZ W9 h49
  cases e1
  have HC9 := hide (chordal_any (unhide HG W9 h29) ring_right (unhide HT W9 hB9))
  rw [ring_chord] at HC9
  have HB9 := hide hB9
  have HW9 := hide hW9
  rw [hW9] at y9 z1 z2
  clear hb8 hb9 hb79 h29 hB9 h49 hW9 y6 HFI H47 H27 HB7 HW7
  go_wp2_with fail
  rw [← unhide HW9]
  refine (unhide HC9).mono ?_
  rintro e w10 ⟨rfl, hb10⟩
  obtain ⟨W11, hW11⟩ : ∃ W, W = w10.alloc (.cells #[.int .u64 2, .int .u64 1] 61) := ⟨_, rfl⟩
  have hb11 : Below w10.heap.size w10 W11 := by rw [hW11]; exact (Below.refl _ _).alloc (Nat.le_refl _) _
  have hg11 : Words W11 (.slice (some ⟨w10.heap.size, 0, none⟩) 2 2) [2, 1] := by rw [hW11]; exact gLit_at (heap_alloc_new _ _) rfl rfl (by decide)
  have hB11 := (unhide HB9).trans ((hb10.trans (hb11.mono hb10.size)).mono (unhide HB9).size)
  have HC11 := hide (chordal_any hg11 pair_right (unhide HT W11 hB11))
  rw [pair_chord] at HC11
  have HB11 := hide hB11
  have HW11 := hide hW11
  clear hb10 hb11 hg11 hB11 hW11 y9 z1 z2 HC9 HB9 HW9
  go_wp2_with fail
  rw [← unhide HW11]
  refine (unhide HC11).mono ?_
  rintro e w12 ⟨rfl, hb12⟩
  have HF := hide ((unhide HB11).trans (hb12.mono (unhide HB11).size))
  clear hb12 HC11 HB11 HW11
  go_wp2
  go_ret
  exact ⟨rfl, unhide HF⟩

end Go.Proofs.YtcglbopmfdilfaaDoor

namespace Go.Proofs.YtcglbopmfdilfaaDoor
open Go.RowKit
set_option linter.unusedVariables false
set_option linter.unusedSimpArgs false
set_option maxRecDepth 20000

theorem run_dropI (a : Option Addr) (len cap : Nat) (h : Int) (n : Nat) (hn : h = n) (h1 : n ≤ len) (h2 : len ≤ cap) (w : World) :
    (Instr.slice 23 (.slice a len cap) (some (.int .i64 h)) none none).run Tryd.prog w = .ok (.slice (dropA a cap n) (len - n) (cap - n)) w := by
  have hu : Tryd.prog.underlying 23 = some (.slice (Tryd.prog.elem 23)) := by kernel_rfl
  have hsz : (sizeOf (Tryd.prog.elem 23)).run Tryd.prog w = .ok 1 w := by kernel_rfl
  subst hn
  rw [run_slice_l w 23 a len cap hu .i64 (n : Int) (by omega) (by omega), hsz]
  simp [Result.andThen_ok, sliced, dropA]

theorem ptsL_succ (n : Nat) : ptsL (n + 1) = ptsL n ++ [(n : Int)] := by simp [ptsL, List.range_succ]
theorem ptsL_nodup (n : Nat) : (ptsL n).Nodup := by
  unfold ptsL List.Nodup
  rw [List.pairwise_map]
  exact List.nodup_range.imp (fun h e => h (Int.ofNat.inj e))
theorem perm_take {L : List Int} {k : Nat} (hk : k < L.length) : (L[k] :: (L.take k ++ L.drop (k + 1))).Perm L := by
  have h1 : L = L.take k ++ (L[k] :: L.drop (k + 1)) := by
    rw [List.getElem_cons_drop, List.take_append_drop]
  have h2 : (L.take k ++ (L[k] :: L.drop (k + 1))).Perm (L[k] :: (L.take k ++ L.drop (k + 1))) := List.perm_middle
  exact h2.symm.trans (by rw [← h1])
theorem ord_perm {n : Nat} {l : List Int} (h : l.Perm (ptsL n)) : ordB (n : Int) l = true := by
  refine ordB_iff.2 ⟨by rw [h.length_eq, ptsL_len], fun x hx => ?_, h.nodup_iff.2 (ptsL_nodup n)⟩
  have := mem_ptsL.1 (h.mem_iff.1 hx)
  exact ptB_iff.1 this

set_option maxHeartbeats 8000000 in
theorem given_any {n : Nat} {l : List Int} {v : Value} {w : World} (hn : n ≤ 1000) (hl : Ints w v l) :
    Calls Tryd.prog 13 #[.int .i64 (n : Int), v] w fun e w' => ∃ u o, e = .returned u ∧ OwnI w.heap.size w' u o ∧ ordB (n : Int) o = true ∧ Below w.heap.size w w' := by
  have HI := hide (fun W (hb : Below w.heap.size w W) => hl.below hb)
  obtain ⟨a0, c0, rfl, hl0, hc0⟩ := hl.form
  unfold maxLen at hc0
  clear hl
  go_enter Tryd.func13, Tryd.ntmps13
  go_wp2
  go_loopw [5, 6] (fun u i wr => ∃ k : Nat, k ≤ n ∧ i = .int .i64 k ∧ OwnI w.heap.size wr u (ptsL k) ∧ Below w.heap.size w wr) (fun _ i _ => n - (intOf i).toNat)
  case atStart => exact ⟨0, by omega, rfl, own_nilI _ _, Below.refl _ _⟩
  case round =>
    obtain ⟨k, hk, rfl, hown, hbel⟩ := hrel
    rename World => wr
    have hzr := hbel.size
    have hpl := ptsL_len k
    by_cases hkn : k < n
    · have HO := hide hown
      have HS := hide (ptsL_succ k)
      have HBE := hide hbel
      have hpl2 : (ptsL k).length < 100000000000 := by omega
      clear hown hbel
      generalize ptsL k = P at *
      clear hpl
      go_wp2_with (at_builtin; refine wp_app_int rfl (.tmp 15) (.tmp 17) rfl (B := w.heap.size) (unhide HO) rfl (by omega) rfl hpl2 ?_; intro v5 w5 ho5 hg5)
      go_roundw
      case rel => exact ⟨k + 1, by omega, by go_num, by rw [unhide HS]; exact ho5, (unhide HBE).trans hg5.below⟩
      case measure => simp [intOf]; omega
    · obtain rfl : k = n := by omega
      obtain ⟨a5, c5, rfl, hl5, hc5⟩ := (Seq.of_own hown).form
      have hlt5 := hown.lt
      have hob := own_litI (B := w.heap.size) hzr
      have hba := (Below.refl w.heap.size wr).alloc hzr (.cells #[] 3)
      have hoa := own_below hown ((Below.refl _ wr).alloc (Nat.le_refl _) (.cells #[] 3))
      have HST := hide (And.intro hoa (And.intro hob (hbel.trans hba)))
      have HSEP := hide (show Sep (.slice a5 (ptsL k).length c5) (.slice (some ⟨wr.heap.size, 0, none⟩) 0 0) from fun g h1 h2 => by
        have h3 := hlt5 g h1
        have h4 : wr.heap.size = g := by injection h2
        omega)
      have HPE := hide (show (([] : List Int) ++ ptsL k).Perm (ptsL k) from List.Perm.refl _)
      clear hown hbel hob hba hoa hlt5
      go_wp2
      go_loopw [5, 7, 8] (fun lv ov i wq => ∃ (j : Nat) (L O : List Int), j ≤ k ∧ i = .int .i64 j ∧ OwnI w.heap.size wq lv L ∧ OwnI w.heap.size wq ov O ∧ Sep lv ov ∧ Hid ((O ++ L).Perm (ptsL k)) ∧ L.length + j = k ∧ O.length = j ∧ Below w.heap.size w wq) (fun _ _ i _ => k - (intOf i).toNat)
      case atStart => exact ⟨0, ptsL k, [], by omega, rfl, (unhide HST).1, (unhide HST).2.1, unhide HSEP, HPE, by omega, rfl, (unhide HST).2.2⟩
      case round =>
        clear HST HSEP HPE
        obtain ⟨j, L, O, hj, rfl, hl, ho, hsep, HP, hLl, hOl, hbel⟩ := hrel
        rename World => wq
        have hzq := hbel.size
        obtain ⟨a5, c5, rfl, hl5, hc5⟩ := (Seq.of_own hl).form
        obtain ⟨a7, c7, rfl, hl7, hc7⟩ := (Seq.of_own ho).form
        unfold maxLen at hc5 hc7
        by_cases hjk : j < k
        · have hL0 : 0 < L.length := by omega
          by_cases hjl : j < l.length
          · obtain ⟨b9, o9, e9, q9⟩ := (unhide HI wq hbel).at hjl
            subst e9
            have hA := rndN_lt (x := l[j]) hL0
            have hAe := rndN_eq (x := l[j]) hL0
            generalize l[j] = y at *
            generalize rndN y L.length = A at *
            have hat : A < L.length := hA
            have HL0 := hL0
            obtain ⟨b5, o5, e5, q5⟩ := (Seq.of_own hl).at hat
            subst e5
            have hpm := perm_take hat
            obtain ⟨x, hx⟩ : ∃ x, x = L[A] := ⟨_, rfl⟩
            rw [← hx] at q5 hpm
            have hcL : (L.length : Int) ≤ (c5 : Int) := by omega
            have hcat : ((A : Nat) : Int) ≤ (c5 : Int) := by omega
            have hdrop := fun W => run_dropI (some ⟨b5, o5, none⟩) L.length c5 (IntKind.i64.wrap (((A : Nat) : Int) + 1)) (A + 1) (by rw [IntKind.wrap_i64]; omega) (by omega) (by omega) W
            have HLs := hide hl
            have HOs := hide ho
            have HPM := hide hpm
            clear hx hl hpm HL0
            go_wp2_with (at_builtin; refine wp_app_int rfl (.tmp 37) (.tmp 42) rfl (B := w.heap.size) (unhide HOs) rfl (by omega) rfl (by omega) ?_; intro v7 w7 ho7 hg7)
            have hl7 := own_grew (unhide HLs) hg7 hsep.or
            have hs7 : Sep (.slice (some ⟨b5, o5, none⟩) L.length c5) v7 := hsep.grewN (A := w.heap.size) (unhide HLs).lt hg7
            have hz7 := hg7.by_.size
            have HL7 := hide hl7
            have HO7 := hide ho7
            have HS7 := hide hs7
            have HB7 := hide (hbel.trans hg7.below)
            have hz70 := (unhide HB7).size
            have hS0 : True ∧ True := ⟨trivial, trivial⟩
            clear hl7 ho7 hs7 hg7 HLs HOs q5 hbel
            refine wp_region_held (S := fun _ => True ∧ True) (by kernel_rfl) ?_
            refine wpAnyH_take (i := 1) (v := ?_) rfl (by kernel_rfl) (by kernel_rfl) (by kernel_rfl) (fun _ _ _ h => h) (Or.inl ⟨by kernel_rfl, ?_⟩) (by assumption) ?_
            rotate_left
            · intro W hSW; obtain ⟨hS1, _⟩ := hSW; go_simp; first | done | rfl
            simp only [Act.put, List.setIfInBounds_toArray, List.set_cons_zero, List.set_cons_succ, List.getElem_toArray, List.getElem_cons_succ, List.getElem_cons_zero]
            refine wpAnyH_take (i := 2) (v := ?_) rfl (by kernel_rfl) (by kernel_rfl) (by kernel_rfl) (fun _ _ _ h => h) (Or.inl ⟨by kernel_rfl, ?_⟩) (by assumption) ?_
            rotate_left
            · intro W hSW; obtain ⟨hS1, _⟩ := hSW; go_simp; first | done | rfl
            simp only [Act.put, List.setIfInBounds_toArray, List.set_cons_zero, List.set_cons_succ, List.getElem_toArray, List.getElem_cons_succ, List.getElem_cons_zero]
            refine wpAnyH_take (i := 3) (v := ?_) rfl (by kernel_rfl) (by kernel_rfl) (by kernel_rfl) (fun _ _ _ h => h) (Or.inl ⟨by kernel_rfl, ?_⟩) (by assumption) ?_
            rotate_left
            · intro W hSW; obtain ⟨hS1, _⟩ := hSW; go_simp; first | done | rfl
            simp only [Act.put, List.setIfInBounds_toArray, List.set_cons_zero, List.set_cons_succ, List.getElem_toArray, List.getElem_cons_succ, List.getElem_cons_zero]
            refine wpAnyH_take (i := 5) (v := ?_) rfl (by kernel_rfl) (by kernel_rfl) (by kernel_rfl) (fun _ _ _ h => h) (Or.inl ⟨by kernel_rfl, ?_⟩) (by assumption) ?_
            rotate_left
            · intro W hSW; obtain ⟨hS1, _⟩ := hSW; go_simp; first | done | rfl
            simp only [Act.put, List.setIfInBounds_toArray, List.set_cons_zero, List.set_cons_succ, List.getElem_toArray, List.getElem_cons_succ, List.getElem_cons_zero]
            refine wpAnyH_take (i := 6) (v := ?_) rfl (by kernel_rfl) (by kernel_rfl) (by kernel_rfl) (fun _ _ _ h => h) (Or.inl ⟨by kernel_rfl, ?_⟩) (by assumption) ?_
            rotate_left
            · intro W hSW; obtain ⟨hS1, _⟩ := hSW; go_simp; first | done | rfl
            simp only [Act.put, List.setIfInBounds_toArray, List.set_cons_zero, List.set_cons_succ, List.getElem_toArray, List.getElem_cons_succ, List.getElem_cons_zero]
            refine wpAnyH_take (i := 7) (v := ?_) rfl (by kernel_rfl) (by kernel_rfl) (by kernel_rfl) (fun _ _ _ h => h) (Or.inl ⟨by kernel_rfl, ?_⟩) (by assumption) ?_
            rotate_left
            · intro W hSW; obtain ⟨hS1, _⟩ := hSW; go_simp; first | done | rfl
            simp only [Act.put, List.setIfInBounds_toArray, List.set_cons_zero, List.set_cons_succ, List.getElem_toArray, List.getElem_cons_succ, List.getElem_cons_zero]
            refine wpAnyH_take (i := 8) (v := ?_) rfl (by kernel_rfl) (by kernel_rfl) (by kernel_rfl) (fun _ _ _ h => h) (Or.inl ⟨by kernel_rfl, ?_⟩) (by assumption) ?_
            rotate_left
            · intro W hSW; obtain ⟨hS1, _⟩ := hSW; go_simp; first | done | rfl
            simp only [Act.put, List.setIfInBounds_toArray, List.set_cons_zero, List.set_cons_succ, List.getElem_toArray, List.getElem_cons_succ, List.getElem_cons_zero]
            refine held_one (i := 0) (by kernel_rfl) rfl (by kernel_rfl) (fun K hK => ?_)
            go_simp
            refine hK.out _ _ ⟨trivial, trivial⟩ ?_
            clear hK K
            try simp only [Act.put, List.setIfInBounds_toArray, List.set_cons_zero, List.set_cons_succ, List.getElem_toArray, List.getElem_cons_succ, List.getElem_cons_zero]
            have hb8 : Below w7.heap.size w7 (w7.alloc (.cells #[] 3)).drew := by
              have h1 := (Below.refl w7.heap.size w7).alloc (Nat.le_refl _) (.cells #[] 3)
              exact ⟨h1.os, h1.tape, h1.output, h1.size, h1.block⟩
            have ho8 : OwnI w7.heap.size (w7.alloc (.cells #[] 3)).drew (.slice (some ⟨w7.heap.size, 0, none⟩) 0 0) [] := own_litI (w := w7) (Nat.le_refl _)
            have hl8 := own_below (unhide HL7) hb8
            have hO8 := own_below (unhide HO7) hb8
            have hz8 := hb8.size
            have ht8 := (Seq.of_own hl8).take (k := A) (by omega)
            have hr8 := (Seq.of_own hl8).drop (k := A + 1) (by omega)
            refine held_one (i := 4) (by kernel_rfl) rfl (by kernel_rfl) (fun K hK => ?_)
            refine op_app_ints _ _ rfl (B := w7.heap.size) ho8 rfl hz8 ht8 rfl (by first | (simp; done) | (simp; omega)) ?_
            intro v9 w9 ho9 hg9
            have hr9 := hr8.grew hg9 (fun hne g h1 h2 => by
              have h3 := (Seq.of_own (unhide HL7)).inheap (by rintro rfl; simp at hat) g (by
                have h5 : (dropA (some ⟨b5, o5, none⟩) c5 (A + 1)) = some ⟨b5, o5, none⟩ ∨ (dropA (some ⟨b5, o5, none⟩) c5 (A + 1)) = some ⟨b5, o5 + (A + 1), none⟩ := by
                  unfold dropA
                  split
                  · exact .inl rfl
                  · exact .inr rfl
                rcases h5 with h5 | h5 <;> (rw [h5] at h1; exact h1))
              have h4 : w7.heap.size = g := by injection h2
              have h6 := h3.2
              omega)
            have hO9 := hO8.kept hg9.by_ (.inr (fun e => by
              have h3 := (unhide HO7).lt w7.heap.size (by rw [e]; rfl)
              omega))
            refine hK.out _ _ ⟨trivial, trivial⟩ ?_
            clear hK K
            try simp only [Act.put, List.setIfInBounds_toArray, List.set_cons_zero, List.set_cons_succ, List.getElem_toArray, List.getElem_cons_succ, List.getElem_cons_zero]
            have hz9 := hg9.by_.size
            refine held_one (i := 9) (by kernel_rfl) rfl (by kernel_rfl) (fun K hK => ?_)
            refine op_app_ints _ _ rfl (B := w7.heap.size) ho9 rfl (by omega) hr9 rfl (by first | (simp; done) | (simp; omega)) ?_
            intro v10 w10 ho10 hg10
            have hO10 := hO9.kept hg10.by_ (.inr (fun e => by
              have h3 : ∀ g, v7.ownBlock = some g → g < w7.heap.size := fun g hg => ((unhide HO7).lt g hg).2
              rcases hg9.at_ with h4 | ⟨g, h4, h5⟩
              · have := h3 w7.heap.size (by rw [e, h4]; rfl); omega
              · have := h3 g (by rw [e, h4]); omega))
            refine hK.out _ _ ⟨trivial, trivial⟩ ?_
            clear hK K
            try simp only [Act.put, List.setIfInBounds_toArray, List.set_cons_zero, List.set_cons_succ, List.getElem_toArray, List.getElem_cons_succ, List.getElem_cons_zero]
            refine wpAnyH_take (i := 10) (v := ?_) rfl (by kernel_rfl) (by kernel_rfl) (by kernel_rfl) (fun _ _ _ h => h) (Or.inl ⟨by kernel_rfl, ?_⟩) (by assumption) ?_
            rotate_left
            · intro W hSW; obtain ⟨hS1, _⟩ := hSW; go_simp; first | done | rfl
            simp only [Act.put, List.setIfInBounds_toArray, List.set_cons_zero, List.set_cons_succ, List.getElem_toArray, List.getElem_cons_succ, List.getElem_cons_zero]
            refine wpAnyH_done (by kernel_rfl) ?_ _
            have HF := hide (show OwnI w.heap.size w10 v10 (L.take A ++ L.drop (A + 1)) ∧ OwnI w.heap.size w10 v7 (O ++ [x]) ∧ Sep v10 v7 ∧ ((O ++ [x]) ++ (L.take A ++ L.drop (A + 1))).Perm (ptsL k) ∧ (L.take A ++ L.drop (A + 1)).length + (j + 1) = k ∧ (O ++ [x]).length = j + 1 ∧ Below w.heap.size w w10 from by
              rw [List.nil_append] at ho10
              refine ⟨own_mono ho10 hz70, hO10, ?_, ?_, ?_, by simp [hOl], ?_⟩
              · intro g h1 h2
                have h3 := (ho10.lt g h1).1
                have h4 := ((unhide HO7).lt g h2).2
                omega
              · refine List.Perm.trans ?_ (unhide HP)
                rw [List.append_assoc]
                exact List.Perm.append_left _ (unhide HPM)
              · simp
                omega
              · exact (unhide HB7).trans ((hb8.mono hz70).trans ((hg9.below.mono hz70).trans (hg10.below.mono hz70))))
            clear hb8 ho8 hl8 hO8 ht8 hr8 ho9 hg9 hr9 hO9 ho10 hg10 hO10 hdrop HL7 HO7 HS7
            go_wp2
            go_roundw
            case rel => exact ⟨j + 1, _, _, by omega, by go_num, (unhide HF).1, (unhide HF).2.1, (unhide HF).2.2.1, hide (unhide HF).2.2.2.1, (unhide HF).2.2.2.2.1, (unhide HF).2.2.2.2.2.1, (unhide HF).2.2.2.2.2.2⟩
            case measure => simp [intOf]; omega
          · have hat : 0 < L.length := hL0
            have HL0 := hL0
            obtain ⟨b5, o5, e5, q5⟩ := (Seq.of_own hl).at hat
            subst e5
            have hpm := perm_take hat
            obtain ⟨x, hx⟩ : ∃ x, x = L[0] := ⟨_, rfl⟩
            rw [← hx] at q5 hpm
            rw [Nat.add_zero] at q5
            have hcL : (L.length : Int) ≤ (c5 : Int) := by omega
            have hcat : (0 : Int) ≤ (c5 : Int) := by omega
            have hdrop := fun W => run_dropI (some ⟨b5, o5, none⟩) L.length c5 (IntKind.i64.wrap 1) 1 (by decide) (by omega) (by omega) W
            have HLs := hide hl
            have HOs := hide ho
            have HPM := hide hpm
            clear hx hl hpm HL0
            go_wp2_with (at_builtin; refine wp_app_int rfl (.tmp 37) (.tmp 42) rfl (B := w.heap.size) (unhide HOs) rfl (by omega) rfl (by omega) ?_; intro v7 w7 ho7 hg7)
            have hl7 := own_grew (unhide HLs) hg7 hsep.or
            have hs7 : Sep (.slice (some ⟨b5, o5, none⟩) L.length c5) v7 := hsep.grewN (A := w.heap.size) (unhide HLs).lt hg7
            have hz7 := hg7.by_.size
            have HL7 := hide hl7
            have HO7 := hide ho7
            have HS7 := hide hs7
            have HB7 := hide (hbel.trans hg7.below)
            have hz70 := (unhide HB7).size
            have hS0 : True ∧ True := ⟨trivial, trivial⟩
            clear hl7 ho7 hs7 hg7 HLs HOs q5 hbel
            refine wp_region_held (S := fun _ => True ∧ True) (by kernel_rfl) ?_
            refine wpAnyH_take (i := 1) (v := ?_) rfl (by kernel_rfl) (by kernel_rfl) (by kernel_rfl) (fun _ _ _ h => h) (Or.inl ⟨by kernel_rfl, ?_⟩) (by assumption) ?_
            rotate_left
            · intro W hSW; obtain ⟨hS1, _⟩ := hSW; go_simp; first | done | rfl
            simp only [Act.put, List.setIfInBounds_toArray, List.set_cons_zero, List.set_cons_succ, List.getElem_toArray, List.getElem_cons_succ, List.getElem_cons_zero]
            refine wpAnyH_take (i := 2) (v := ?_) rfl (by kernel_rfl) (by kernel_rfl) (by kernel_rfl) (fun _ _ _ h => h) (Or.inl ⟨by kernel_rfl, ?_⟩) (by assumption) ?_
            rotate_left
            · intro W hSW; obtain ⟨hS1, _⟩ := hSW; go_simp; first | done | rfl
            simp only [Act.put, List.setIfInBounds_toArray, List.set_cons_zero, List.set_cons_succ, List.getElem_toArray, List.getElem_cons_succ, List.getElem_cons_zero]
            refine wpAnyH_take (i := 3) (v := ?_) rfl (by kernel_rfl) (by kernel_rfl) (by kernel_rfl) (fun _ _ _ h => h) (Or.inl ⟨by kernel_rfl, ?_⟩) (by assumption) ?_
            rotate_left
            · intro W hSW; obtain ⟨hS1, _⟩ := hSW; go_simp; first | done | rfl
            simp only [Act.put, List.setIfInBounds_toArray, List.set_cons_zero, List.set_cons_succ, List.getElem_toArray, List.getElem_cons_succ, List.getElem_cons_zero]
            refine wpAnyH_take (i := 5) (v := ?_) rfl (by kernel_rfl) (by kernel_rfl) (by kernel_rfl) (fun _ _ _ h => h) (Or.inl ⟨by kernel_rfl, ?_⟩) (by assumption) ?_
            rotate_left
            · intro W hSW; obtain ⟨hS1, _⟩ := hSW; go_simp; first | done | rfl
            simp only [Act.put, List.setIfInBounds_toArray, List.set_cons_zero, List.set_cons_succ, List.getElem_toArray, List.getElem_cons_succ, List.getElem_cons_zero]
            refine wpAnyH_take (i := 6) (v := ?_) rfl (by kernel_rfl) (by kernel_rfl) (by kernel_rfl) (fun _ _ _ h => h) (Or.inl ⟨by kernel_rfl, ?_⟩) (by assumption) ?_
            rotate_left
            · intro W hSW; obtain ⟨hS1, _⟩ := hSW; go_simp; first | done | rfl
            simp only [Act.put, List.setIfInBounds_toArray, List.set_cons_zero, List.set_cons_succ, List.getElem_toArray, List.getElem_cons_succ, List.getElem_cons_zero]
            refine wpAnyH_take (i := 7) (v := ?_) rfl (by kernel_rfl) (by kernel_rfl) (by kernel_rfl) (fun _ _ _ h => h) (Or.inl ⟨by kernel_rfl, ?_⟩) (by assumption) ?_
            rotate_left
            · intro W hSW; obtain ⟨hS1, _⟩ := hSW; go_simp; first | done | rfl
            simp only [Act.put, List.setIfInBounds_toArray, List.set_cons_zero, List.set_cons_succ, List.getElem_toArray, List.getElem_cons_succ, List.getElem_cons_zero]
            refine wpAnyH_take (i := 8) (v := ?_) rfl (by kernel_rfl) (by kernel_rfl) (by kernel_rfl) (fun _ _ _ h => h) (Or.inl ⟨by kernel_rfl, ?_⟩) (by assumption) ?_
            rotate_left
            · intro W hSW; obtain ⟨hS1, _⟩ := hSW; go_simp; first | done | rfl
            simp only [Act.put, List.setIfInBounds_toArray, List.set_cons_zero, List.set_cons_succ, List.getElem_toArray, List.getElem_cons_succ, List.getElem_cons_zero]
            refine held_one (i := 0) (by kernel_rfl) rfl (by kernel_rfl) (fun K hK => ?_)
            go_simp
            refine hK.out _ _ ⟨trivial, trivial⟩ ?_
            clear hK K
            try simp only [Act.put, List.setIfInBounds_toArray, List.set_cons_zero, List.set_cons_succ, List.getElem_toArray, List.getElem_cons_succ, List.getElem_cons_zero]
            have hb8 : Below w7.heap.size w7 (w7.alloc (.cells #[] 3)).drew := by
              have h1 := (Below.refl w7.heap.size w7).alloc (Nat.le_refl _) (.cells #[] 3)
              exact ⟨h1.os, h1.tape, h1.output, h1.size, h1.block⟩
            have ho8 : OwnI w7.heap.size (w7.alloc (.cells #[] 3)).drew (.slice (some ⟨w7.heap.size, 0, none⟩) 0 0) [] := own_litI (w := w7) (Nat.le_refl _)
            have hl8 := own_below (unhide HL7) hb8
            have hO8 := own_below (unhide HO7) hb8
            have hz8 := hb8.size
            have ht8 := (Seq.of_own hl8).take (k := 0) (by omega)
            have hr8 := (Seq.of_own hl8).drop (k := 1) (by omega)
            refine held_one (i := 4) (by kernel_rfl) rfl (by kernel_rfl) (fun K hK => ?_)
            refine op_app_ints _ _ rfl (B := w7.heap.size) ho8 rfl hz8 ht8 rfl (by first | (simp; done) | (simp; omega)) ?_
            intro v9 w9 ho9 hg9
            have hr9 := hr8.grew hg9 (fun hne g h1 h2 => by
              have h3 := (Seq.of_own (unhide HL7)).inheap (by rintro rfl; simp at hat) g (by
                have h5 : (dropA (some ⟨b5, o5, none⟩) c5 (1)) = some ⟨b5, o5, none⟩ ∨ (dropA (some ⟨b5, o5, none⟩) c5 (1)) = some ⟨b5, o5 + (1), none⟩ := by
                  unfold dropA
                  split
                  · exact .inl rfl
                  · exact .inr rfl
                rcases h5 with h5 | h5 <;> (rw [h5] at h1; exact h1))
              have h4 : w7.heap.size = g := by injection h2
              have h6 := h3.2
              omega)
            have hO9 := hO8.kept hg9.by_ (.inr (fun e => by
              have h3 := (unhide HO7).lt w7.heap.size (by rw [e]; rfl)
              omega))
            refine hK.out _ _ ⟨trivial, trivial⟩ ?_
            clear hK K
            try simp only [Act.put, List.setIfInBounds_toArray, List.set_cons_zero, List.set_cons_succ, List.getElem_toArray, List.getElem_cons_succ, List.getElem_cons_zero]
            have hz9 := hg9.by_.size
            refine held_one (i := 9) (by kernel_rfl) rfl (by kernel_rfl) (fun K hK => ?_)
            refine op_app_ints _ _ rfl (B := w7.heap.size) ho9 rfl (by omega) hr9 rfl (by first | (simp; done) | (simp; omega)) ?_
            intro v10 w10 ho10 hg10
            have hO10 := hO9.kept hg10.by_ (.inr (fun e => by
              have h3 : ∀ g, v7.ownBlock = some g → g < w7.heap.size := fun g hg => ((unhide HO7).lt g hg).2
              rcases hg9.at_ with h4 | ⟨g, h4, h5⟩
              · have := h3 w7.heap.size (by rw [e, h4]; rfl); omega
              · have := h3 g (by rw [e, h4]); omega))
            refine hK.out _ _ ⟨trivial, trivial⟩ ?_
            clear hK K
            try simp only [Act.put, List.setIfInBounds_toArray, List.set_cons_zero, List.set_cons_succ, List.getElem_toArray, List.getElem_cons_succ, List.getElem_cons_zero]
            refine wpAnyH_take (i := 10) (v := ?_) rfl (by kernel_rfl) (by kernel_rfl) (by kernel_rfl) (fun _ _ _ h => h) (Or.inl ⟨by kernel_rfl, ?_⟩) (by assumption) ?_
            rotate_left
            · intro W hSW; obtain ⟨hS1, _⟩ := hSW; go_simp; first | done | rfl
            simp only [Act.put, List.setIfInBounds_toArray, List.set_cons_zero, List.set_cons_succ, List.getElem_toArray, List.getElem_cons_succ, List.getElem_cons_zero]
            refine wpAnyH_done (by kernel_rfl) ?_ _
            have HF := hide (show OwnI w.heap.size w10 v10 (L.take 0 ++ L.drop (1)) ∧ OwnI w.heap.size w10 v7 (O ++ [x]) ∧ Sep v10 v7 ∧ ((O ++ [x]) ++ (L.take 0 ++ L.drop (1))).Perm (ptsL k) ∧ (L.take 0 ++ L.drop (1)).length + (j + 1) = k ∧ (O ++ [x]).length = j + 1 ∧ Below w.heap.size w w10 from by
              rw [List.nil_append] at ho10
              refine ⟨own_mono ho10 hz70, hO10, ?_, ?_, ?_, by simp [hOl], ?_⟩
              · intro g h1 h2
                have h3 := (ho10.lt g h1).1
                have h4 := ((unhide HO7).lt g h2).2
                omega
              · refine List.Perm.trans ?_ (unhide HP)
                rw [List.append_assoc]
                exact List.Perm.append_left _ (unhide HPM)
              · simp
                omega
              · exact (unhide HB7).trans ((hb8.mono hz70).trans ((hg9.below.mono hz70).trans (hg10.below.mono hz70))))
            clear hb8 ho8 hl8 hO8 ht8 hr8 ho9 hg9 hr9 hO9 ho10 hg10 hO10 hdrop HL7 HO7 HS7
            go_wp2
            go_roundw
            case rel => exact ⟨j + 1, _, _, by omega, by go_num, (unhide HF).1, (unhide HF).2.1, (unhide HF).2.2.1, hide (unhide HF).2.2.2.1, (unhide HF).2.2.2.2.1, (unhide HF).2.2.2.2.2.1, (unhide HF).2.2.2.2.2.2⟩
            case measure => simp [intOf]; omega
        · obtain rfl : j = k := by omega
          have hL : L = [] := List.length_eq_zero_iff.1 (by omega)
          subst hL
          rw [List.append_nil] at HP
          have HV := hide (ord_perm (unhide HP))
          go_wp2
          go_ret
          exact ⟨_, O, rfl, ho, unhide HV, hbel⟩

end Go.Proofs.YtcglbopmfdilfaaDoor

namespace Go.Proofs.YtcglbopmfdilfaaDoor
set_option linter.unusedVariables false
set_option linter.unusedSimpArgs false

theorem bag_fill {g : List Nat} {o : List Int} (hr : RightG g) (ho : ordB (g.length : Int) o = true) {k : Nat} (hk : k < g.length) : bagS (elimU (fillG g o) o k) (o.getD k 0) = bagS (elimU g o k) (o.getD k 0) := by
  have hF := fill_ok hr ho
  have ho' : ordB ((fillG g o).length : Int) o = true := by rw [hF.2]; exact ho
  refine Asc.ext (bagS_asc _ _) (bagS_asc _ _) (fun x => ?_)
  rw [mem_bag hr ho hk, mem_bag hF.1 ho' (by rw [hF.2]; exact hk), hF.2]
  unfold besF
  rw [fill_twice hr ho]
theorem bags_fill {g : List Nat} {o : List Int} (hr : RightG g) (ho : ordB (g.length : Int) o = true) : bagsU (fillG g o) o g.length = bagsU g o g.length := by
  unfold bagsU
  refine List.map_congr_left (fun k hk => ?_)
  exact bag_fill hr ho (List.mem_range.1 hk)

theorem bag_clq {g : List Nat} {o : List Int} (hr : RightG g) (ho : ordB (g.length : Int) o = true) {k : Nat} (hk : k < g.length) : clqB (fillG g o) (bagS (elimU g o k) (o.getD k 0)) = true := by
  have hF := fill_ok hr ho
  unfold clqB
  rw [List.all_eq_true]
  intro a ha
  obtain ⟨i, hi, rfl, h1⟩ := (mem_bag hr ho hk).1 ha
  rw [Bool.and_eq_true, ptB_nat, List.all_eq_true, hF.2]
  refine ⟨by simpa using (ord_at ho hi).2, fun b hb => ?_⟩
  obtain ⟨j, hj, rfl, h2⟩ := (mem_bag hr ho hk).1 hb
  rw [Bool.or_eq_true]
  by_cases hij : i = j
  · subst hij; exact .inl (by simp)
  · right
    simp only [Int.toNat_natCast]
    rcases h1 with rfl | ⟨h1, h3⟩
    · rcases h2 with rfl | ⟨h2, h4⟩
      · exact absurd rfl hij
      · exact h4
    · rcases h2 with rfl | ⟨h2, h4⟩
      · exact hF.1.sym _ _ h3
      · exact fill_peo hr ho k i j h1 h2 hij (by rw [hF.2]; exact hi) (by rw [hF.2]; exact hj) h3 h4

/-- How many a bag has at most: those that are left. -/
theorem bag_left {g : List Nat} {o : List Int} (hr : RightG g) (ho : ordB (g.length : Int) o = true) {k : Nat} (hk : k < g.length) : (bagS (elimU g o k) (o.getD k 0)).length ≤ g.length - k := by
  have := nodupI_len (bagS (elimU g o k) (o.getD k 0)) (((List.range g.length).drop k).map fun j => (ptO o j : Int)) ((bagS_asc _ _).imp (fun h => by omega)) (fun x hx => by
    obtain ⟨j, hj, rfl, h⟩ := (mem_bag hr ho hk).1 hx
    refine List.mem_map.2 ⟨j, ?_, rfl⟩
    rw [List.mem_drop_iff_getElem]
    refine ⟨j - k, by rw [List.length_range]; omega, ?_⟩
    rw [List.getElem_range]; omega)
  rw [List.length_map, List.length_drop, List.length_range] at this
  exact this

theorem mostL_le {ll : List (List Int)} {m : Nat} (h : ∀ l ∈ ll, l.length ≤ m) : mostL ll ≤ m := by
  unfold mostL
  have : ∀ (ll : List (List Int)) (a : Nat), a ≤ m → (∀ l ∈ ll, l.length ≤ m) → ll.foldl (fun m l => max m l.length) a ≤ m := by
    intro ll
    induction ll with
    | nil => intro a ha _; exact ha
    | cons l r ih => intro a ha h; exact ih _ (Nat.max_le.2 ⟨ha, h l List.mem_cons_self⟩) (fun l' hl' => h l' (List.mem_cons_of_mem _ hl'))
  exact this ll 0 (Nat.zero_le _) h
theorem le_mostL {ll : List (List Int)} {l : List Int} (h : l ∈ ll) : l.length ≤ mostL ll := by
  unfold mostL
  have mono : ∀ (ll : List (List Int)) (a : Nat), a ≤ ll.foldl (fun m l => max m l.length) a := by
    intro ll
    induction ll with
    | nil => intro a; exact Nat.le_refl _
    | cons l r ih => intro a; exact Nat.le_trans (Nat.le_max_left _ _) (ih _)
  have : ∀ (ll : List (List Int)) (a : Nat), l ∈ ll → l.length ≤ ll.foldl (fun m l => max m l.length) a := by
    intro ll
    induction ll with
    | nil => intro a h; cases h
    | cons x r ih =>
      intro a h
      rcases List.mem_cons.1 h with rfl | h
      · exact Nat.le_trans (Nat.le_max_right a _) (mono _ _)
      · exact ih _ h
  exact this ll 0 h

/-- More edges, more in each bag. -/
theorem fill_sub {g h : List Nat} {o : List Int} (hr : RightG g) (hrh : RightG h) (hl : h.length = g.length) (ho : ordB (g.length : Int) o = true) (hs : ∀ x y, besB g x y = true → besB h x y = true) {x y : Nat} (hb : besB (fillG g o) x y = true) : besB (fillG h o) x y = true := by
  have ho' : ordB (h.length : Int) o = true := by rw [hl]; exact ho
  exact fill_least hr ho (by rw [(fill_ok hrh ho').2, hl]) (fun x y h1 => fill_mono hrh ho' (hs x y h1)) (fill_peo hrh ho') hb
theorem most_sub {g h : List Nat} {o : List Int} (hr : RightG g) (hrh : RightG h) (hl : h.length = g.length) (ho : ordB (g.length : Int) o = true) (hs : ∀ x y, besB g x y = true → besB h x y = true) : mostL (bagsU g o g.length) ≤ mostL (bagsU h o h.length) := by
  have ho' : ordB (h.length : Int) o = true := by rw [hl]; exact ho
  refine mostL_le (fun l hl' => ?_)
  obtain ⟨k, hk, rfl⟩ := List.mem_map.1 hl'
  have hk := List.mem_range.1 hk
  refine Nat.le_trans (nodupI_len _ (bagS (elimU h o k) (o.getD k 0)) ((bagS_asc _ _).imp (fun h => by omega)) (fun x hx => ?_)) (le_mostL (List.mem_map.2 ⟨k, List.mem_range.2 (by rw [hl]; exact hk), rfl⟩))
  obtain ⟨j, hj, rfl, h1⟩ := (mem_bag hr ho hk).1 hx
  refine (mem_bag hrh ho' (by rw [hl]; exact hk)).2 ⟨j, by rw [hl]; exact hj, rfl, ?_⟩
  rcases h1 with h1 | ⟨h1, h2⟩
  · exact .inl h1
  · exact .inr ⟨h1, fill_sub hr hrh hl ho hs h2⟩
theorem most_le {g : List Nat} {o : List Int} (hr : RightG g) (ho : ordB (g.length : Int) o = true) : mostL (bagsU g o g.length) ≤ g.length := by
  refine mostL_le (fun l hl' => ?_)
  obtain ⟨k, hk, rfl⟩ := List.mem_map.1 hl'
  have := bag_left hr ho (List.mem_range.1 hk)
  omega
theorem most_pos {g : List Nat} {o : List Int} (hr : RightG g) (ho : ordB (g.length : Int) o = true) (hn : 0 < g.length) : 0 < mostL (bagsU g o g.length) := by
  refine Nat.lt_of_lt_of_le ?_ (le_mostL (List.mem_map.2 ⟨0, List.mem_range.2 hn, rfl⟩))
  exact List.length_pos_of_mem ((mem_bag hr ho hn).2 ⟨0, hn, rfl, .inl rfl⟩)
/-- Three that are beside each other are in some bag. -/
theorem most_three {g : List Nat} {o : List Int} (hr : RightG g) (ho : ordB (g.length : Int) o = true) {x y z : Nat} (h1 : besB g x y = true) (h2 : besB g y z = true) (h3 : besB g x z = true) : 3 ≤ mostL (bagsU g o g.length) := by
  have pt : ∀ {x y : Nat}, besB g x y = true → x < g.length ∧ y < g.length ∧ x ≠ y := fun h => ⟨hr.pts _ _ (hr.sym _ _ h), hr.pts _ _ h, fun e => by subst e; rw [hr.irr] at h; cases h⟩
  obtain ⟨i, hi, rfl⟩ := ord_sur ho (pt h1).1
  obtain ⟨j, hj, rfl⟩ := ord_sur ho (pt h1).2.1
  obtain ⟨k, hk, rfl⟩ := ord_sur ho (pt h2).2.1
  have hij : i ≠ j := fun e => (pt h1).2.2 (by rw [e])
  have hjk : j ≠ k := fun e => (pt h2).2.2 (by rw [e])
  have hik : i ≠ k := fun e => (pt h3).2.2 (by rw [e])
  have key : ∀ a b c, a < g.length → b < g.length → c < g.length → a < b → a < c → b ≠ c → besB g (ptO o a) (ptO o b) = true → besB g (ptO o a) (ptO o c) = true → 3 ≤ mostL (bagsU g o g.length) := by
    intro a b c ha hb hc hab hac hbc e1 e2
    refine Nat.le_trans ?_ (le_mostL (List.mem_map.2 ⟨a, List.mem_range.2 ha, rfl⟩))
    have := nodupI_len [(ptO o a : Int), (ptO o b : Int), (ptO o c : Int)] (bagS (elimU g o a) (o.getD a 0)) (by
      have n1 : ptO o a ≠ ptO o b := fun e => by have := ord_inj ho ha hb e; omega
      have n2 : ptO o a ≠ ptO o c := fun e => by have := ord_inj ho ha hc e; omega
      have n3 : ptO o b ≠ ptO o c := fun e => hbc (ord_inj ho hb hc e)
      simp only [List.nodup_cons, List.mem_cons, List.not_mem_nil, or_false, not_or, List.nodup_nil, not_false_eq_true, and_true]
      refine ⟨⟨?_, ?_⟩, ?_⟩ <;> omega) (fun x hx => by
      simp only [List.mem_cons, List.not_mem_nil, or_false] at hx
      rcases hx with rfl | rfl | rfl
      · exact (mem_bag hr ho ha).2 ⟨a, ha, rfl, .inl rfl⟩
      · exact (mem_bag hr ho ha).2 ⟨b, hb, rfl, .inr ⟨hab, fill_mono hr ho e1⟩⟩
      · exact (mem_bag hr ho ha).2 ⟨c, hc, rfl, .inr ⟨hac, fill_mono hr ho e2⟩⟩)
    exact this
  rcases Nat.lt_or_ge i j with a1 | a1
  · rcases Nat.lt_or_ge i k with a2 | a2
    · exact key i j k hi hj hk a1 a2 hjk h1 h3
    · exact key k i j hk hi hj (by omega) (by omega) hij (hr.sym _ _ h3) (hr.sym _ _ h2)
  · rcases Nat.lt_or_ge j k with a2 | a2
    · exact key j i k hj hi hk (by omega) a2 hik (hr.sym _ _ h1) h2
    · exact key k i j hk hi hj (by omega) (by omega) hij (hr.sym _ _ h3) (hr.sym _ _ h2)

end Go.Proofs.YtcglbopmfdilfaaDoor

namespace Go.Proofs.YtcglbopmfdilfaaDoor
open Go.RowKit
set_option linter.unusedVariables false
set_option linter.unusedSimpArgs false
set_option maxRecDepth 20000

theorem bag_self {g : List Nat} {o : List Int} (hr : RightG g) (ho : ordB (g.length : Int) o = true) {k : Nat} (hk : k < g.length) : o.getD k 0 ∈ bagS (elimU g o k) (o.getD k 0) :=
  (mem_bag hr ho hk).2 ⟨k, hk, (ord_at ho hk).1, .inl rfl⟩
theorem bag_ahead {g : List Nat} {o : List Int} (hr : RightG g) (ho : ordB (g.length : Int) o = true) {k : Nat} (hk : k < g.length) : meetL (bagS (elimU g o k) (o.getD k 0)) (o.take k) = [] := by
  unfold meetL
  rw [List.filter_eq_nil_iff]
  intro x hx hm
  obtain ⟨j, hj, rfl, h⟩ := (mem_bag hr ho hk).1 hx
  simp only [decide_eq_true_eq, List.contains_iff_mem] at hm
  obtain ⟨i, hi, e⟩ := List.getElem_of_mem hm
  have hik : i < k := by rw [List.length_take] at hi; omega
  have hol := ord_len ho
  have e2 : o.getD i 0 = (ptO o j : Int) := by
    rw [List.getElem_take] at e
    rw [List.getD_eq_getElem?_getD, List.getElem?_eq_getElem (by omega)]; exact e
  rw [(ord_at ho (show i < g.length by omega)).1] at e2
  have := ord_inj ho (show i < g.length by omega) hj (by omega)
  omega
theorem bag_edge {g : List Nat} {o : List Int} (hr : RightG g) (ho : ordB (g.length : Int) o = true) {k j : Nat} (hk : k < j) (hj : j < g.length) (h : besB g (ptO o k) (ptO o j) = true) : o.getD j 0 ∈ bagS (elimU g o k) (o.getD k 0) :=
  (mem_bag hr ho (show k < g.length by omega)).2 ⟨j, hj, (ord_at ho hj).1, .inr ⟨hk, fill_mono hr ho h⟩⟩

/-- So many points of a ring are joined with the next. -/
def ringU (n : Nat) : Nat → List (List Bool)
  | 0 => falses n n
  | i + 1 => setM (setM (ringU n i) i ((i + 1) % n)) ((i + 1) % n) i
theorem ringU_len (n : Nat) : ∀ i, (ringU n i).length = n
  | 0 => by simp [ringU, falses]
  | i + 1 => by simp [ringU, setM, ringU_len n i]
/-- .. and so many with one. -/
def hubU (n a : Nat) : Nat → List (List Bool)
  | 0 => ringU n n
  | i + 1 => if i = a then hubU n a i else setM (setM (hubU n a i) a i) i a
theorem hubU_len (n a : Nat) : ∀ i, (hubU n a i).length = n
  | 0 => ringU_len n n
  | i + 1 => by
    unfold hubU
    split
    · exact hubU_len n a i
    · simp [setM, hubU_len n a i]
theorem ring_facts : ∀ n : Fin 10, 4 ≤ n.1 → rightGS (graphR (ringU n.1 n.1)) = true ∧ (∀ x ∈ graphR (ringU n.1 n.1), x < 2 ^ 64) ∧ chordB (graphR (ringU n.1 n.1)) = false := by decide +kernel
theorem hub_facts : ∀ n : Fin 10, 4 ≤ n.1 → ∀ a : Fin 10, a.1 < n.1 → rightGS (graphR (hubU n.1 a.1 n.1)) = true ∧ (∀ x ∈ graphR (hubU n.1 a.1 n.1), x < 2 ^ 64) ∧ chordB (graphR (hubU n.1 a.1 n.1)) = true := by decide +kernel
theorem ring_ok {n : Nat} (h4 : 4 ≤ n) (h9 : n ≤ 9) : RightG (graphR (ringU n n)) ∧ chordB (graphR (ringU n n)) = false := by
  obtain ⟨h1, h2, h3⟩ := ring_facts ⟨n, by omega⟩ h4
  exact ⟨(rightGS_iff h2).1 h1, h3⟩
theorem hub_ok {n a : Nat} (h4 : 4 ≤ n) (h9 : n ≤ 9) (ha : a < n) : RightG (graphR (hubU n a n)) ∧ chordB (graphR (hubU n a n)) = true := by
  obtain ⟨h1, h2, h3⟩ := hub_facts ⟨n, by omega⟩ h4 ⟨a, by omega⟩ ha
  exact ⟨(rightGS_iff h2).1 h1, h3⟩

/-- The truths, where so many rows, and so many of the next, say that each is beside each other one. -/
structure WholeTo (n : Nat) (M : List (List Bool)) (i k : Nat) : Prop where
  len : M.length = n
  wide : ∀ r ∈ M, r.length = n
  tells : ∀ a b, atM M a b = true ↔ a < n ∧ b < n ∧ a ≠ b ∧ (a < i ∨ (a = i ∧ b < k))
theorem WholeTo.start (n : Nat) : WholeTo n (falses n n) 0 0 := ⟨by simp [falses], fun r hr => by unfold falses at hr; rw [List.mem_replicate] at hr; rw [hr.2]; simp, fun a b => by rw [atM_falses]; simp⟩
theorem WholeTo.row {n i : Nat} {M : List (List Bool)} (h : WholeTo n M i n) : WholeTo n M (i + 1) 0 := ⟨h.len, h.wide, fun a b => by
  rw [h.tells a b]
  constructor
  · rintro ⟨h1, h2, h3, h4⟩; exact ⟨h1, h2, h3, by omega⟩
  · rintro ⟨h1, h2, h3, h4⟩; exact ⟨h1, h2, h3, by omega⟩⟩
theorem WholeTo.put {n i k : Nat} {M : List (List Bool)} (h : WholeTo n M i k) (hi : i < n) (hk : k < n) : WholeTo n (setMv M i k (decide (i ≠ k))) i (k + 1) :=
  ⟨by rw [setMv_len, h.len], setMv_wide h.wide (by rw [h.len]; exact hi), fun a b => by
    rw [atM_setv h.wide (by rw [h.len]; exact hi) hk]
    split
    · rename_i e
      obtain ⟨rfl, rfl⟩ := e
      rw [decide_eq_true_eq]
      constructor
      · intro h1; exact ⟨hi, hk, h1, by omega⟩
      · exact fun h1 => h1.2.2.1
    · rename_i e
      rw [h.tells a b]
      constructor
      · rintro ⟨h1, h2, h3, h4⟩; exact ⟨h1, h2, h3, by omega⟩
      · rintro ⟨h1, h2, h3, h4⟩
        refine ⟨h1, h2, h3, ?_⟩
        rcases h4 with h4 | ⟨h4, h5⟩
        · exact .inl h4
        · exact .inr ⟨h4, by
            have : b ≠ k := fun e2 => e ⟨h4, e2⟩
            omega⟩⟩
theorem WholeTo.ok {n : Nat} {M : List (List Bool)} (h : WholeTo n M n 0) : MatOk M ∧ M.length = n ∧ ∀ a b, atM M a b = true ↔ a < n ∧ b < n ∧ a ≠ b := by
  have ht : ∀ a b, atM M a b = true ↔ a < n ∧ b < n ∧ a ≠ b := fun a b => by
    rw [h.tells a b]
    constructor
    · rintro ⟨h1, h2, h3, _⟩; exact ⟨h1, h2, h3⟩
    · rintro ⟨h1, h2, h3⟩; exact ⟨h1, h2, h3, .inl h1⟩
  refine ⟨⟨fun r hr => by rw [h.wide r hr, h.len], fun a => ?_, fun a b hb => ?_⟩, h.len, ht⟩
  · rw [Bool.eq_false_iff]; intro hb; exact ((ht a a).1 hb).2.2 rfl
  · have := (ht a b).1 hb; exact (ht b a).2 ⟨this.2.1, this.1, fun e => this.2.2 e.symm⟩

/-- What is there where each is beside each. -/
structure AllEnds (g : List Nat) (o : List Int) : Prop where
  fill : fillG g o = g
  bag : ∀ k, k < g.length → ((bagsU g o g.length).getD k []).length = g.length - k
  most : mostL (bagsU g o g.length) = g.length
  chord : chordB g = true
theorem all_ends {g : List Nat} {o : List Int} (hr : RightG g) (ho : ordB (g.length : Int) o = true) (hn : 0 < g.length) (ha : ∀ a b, a < g.length → b < g.length → a ≠ b → besB g a b = true) : AllEnds g o := by
  have hp : PeoG g o := fun k i j hki hkj hij hi hj h1 h2 => ha _ _ (ord_at ho hi).2 (ord_at ho hj).2 (fun e => hij (ord_inj ho hi hj e))
  have hb : ∀ k, k < g.length → ((bagsU g o g.length).getD k []).length = g.length - k := by
    intro k hk
    rw [bags_at _ _ hk]
    refine Nat.le_antisymm (bag_left hr ho hk) ?_
    have := nodupI_len (((List.range g.length).drop k).map fun j => (ptO o j : Int)) (bagS (elimU g o k) (o.getD k 0)) (by
      rw [List.Nodup, List.pairwise_map]
      refine List.Pairwise.imp_of_mem (fun {a b} ha hb hab e => ?_) ((List.nodup_range (n := g.length)).sublist (List.drop_sublist _ _))
      have hma := List.mem_range.1 (List.mem_of_mem_drop ha)
      have hmb := List.mem_range.1 (List.mem_of_mem_drop hb)
      exact hab (ord_inj ho hma hmb (by omega))) (fun x hx => by
      obtain ⟨j, hj, rfl⟩ := List.mem_map.1 hx
      obtain ⟨i, hi, e⟩ := List.mem_drop_iff_getElem.1 hj
      rw [List.getElem_range] at e
      rw [List.length_range] at hi
      have hjl : j < g.length := by omega
      refine (mem_bag hr ho hk).2 ⟨j, hjl, rfl, ?_⟩
      rcases Nat.eq_or_lt_of_le (show k ≤ j by omega) with e2 | e2
      · exact .inl e2.symm
      · refine .inr ⟨e2, fill_mono hr ho (ha _ _ (ord_at ho hk).2 (ord_at ho hjl).2 (fun e3 => ?_))⟩
        have := ord_inj ho hk hjl e3
        omega)
    simpa using this
  refine ⟨(fill_id hr ho).2 hp, hb, ?_, (chordB_iff hr).2 ⟨o, ho, hp⟩⟩
  refine Nat.le_antisymm (most_le hr ho) ?_
  have h0 := hb 0 hn
  have hm : (bagsU g o g.length).getD 0 [] ∈ bagsU g o g.length := by
    rw [List.getD_eq_getElem?_getD, List.getElem?_eq_getElem (by rw [bagsU_len]; exact hn)]
    exact List.getElem_mem _
  have := le_mostL hm
  omega
/-- .. where none is beside any. -/
structure NoneEnds (g : List Nat) (o : List Int) : Prop where
  bag : ∀ k, k < g.length → (bagsU g o g.length).getD k [] = [o.getD k 0]
  most : mostL (bagsU g o g.length) = 1
  chord : chordB g = true
theorem none_ends {g : List Nat} {o : List Int} (hr : RightG g) (ho : ordB (g.length : Int) o = true) (hn : 0 < g.length) (ha : ∀ a b, besB g a b = false) : NoneEnds g o := by
  have hp : PeoG g o := fun k i j hki hkj hij hi hj h1 h2 => by rw [ha] at h1; cases h1
  have hb : ∀ k, k < g.length → (bagsU g o g.length).getD k [] = [o.getD k 0] := by
    intro k hk
    rw [bags_at _ _ hk]
    refine Asc.ext (bagS_asc _ _) (by simp) (fun x => ?_)
    rw [mem_bag hr ho hk, List.mem_singleton]
    constructor
    · rintro ⟨j, hj, rfl, h | ⟨h1, h2⟩⟩
      · rw [h]; exact (ord_at ho hk).1.symm
      · unfold besF at h2
        rw [(fill_id hr ho).2 hp, ha] at h2; cases h2
    · intro e; exact ⟨k, hk, by rw [e]; exact (ord_at ho hk).1, .inl rfl⟩
  refine ⟨hb, ?_, (chordB_iff hr).2 ⟨o, ho, hp⟩⟩
  refine Nat.le_antisymm (mostL_le (fun l hl => ?_)) (most_pos hr ho hn)
  obtain ⟨k, hk, rfl⟩ := List.getElem_of_mem hl
  have hk' : k < g.length := by rw [bagsU_len] at hk; exact hk
  have := hb k hk'
  rw [List.getD_eq_getElem?_getD, List.getElem?_eq_getElem hk] at this
  simp only [Option.getD_some] at this
  rw [this]; simp

end Go.Proofs.YtcglbopmfdilfaaDoor

namespace Go.Proofs.YtcglbopmfdilfaaDoor.fillWhole
open Go.RowKit Go.ChangeShapes Go.WideShapes Go.ChangeAt
set_option linter.unusedVariables false
set_option linter.unusedSimpArgs false
set_option maxRecDepth 20000

set_option maxHeartbeats 8000000 in
theorem walk {l0 : Int} {v0 : Value} {l1 : List Int} {v1 : Value} {w : World} (hT : TabD w) (i0 : v0 = .int .i64 l0) (m0 : InI64 l0) (i1 : Ints w v1 l1) (m1 : ∀ n ∈ l1, InI64 n) :
    Calls Tryd.prog 9 #[v0, v1] w fun e w' => e = .returned (.bool true) ∧ Below w.heap.size w w' := by
  subst i0
  clear m0 m1
  have HT := hide (fun W (hb : Below w.heap.size w W) => hT.below hb)
  have HI := hide (fun W (hb : Below w.heap.size w W) => i1.below hb)
  have HSH := hide (shown10_any hT)
  obtain ⟨a1, c1, rfl, hl1, hc1⟩ := i1.form
  unfold maxLen at hc1
  have hR := rndN_lt (x := l0) (n := 12) (by decide)
  have hRe : (bits .and .i64 l0 65535).tmod 12 = (rndN l0 12 : Int) := rndN_eq (by decide)
  generalize rndN l0 12 = R at *
  obtain ⟨N, hN⟩ : ∃ N, N = 1 + R := ⟨_, rfl⟩
  have h1 : 1 ≤ N := by omega
  have h12 : N ≤ 12 := by omega
  have hw : IntKind.i64.wrap (1 + (R : Int)) = (N : Int) := by rw [IntKind.wrap_i64]; omega
  clear hT hR hN i1
  go_enter Tryd.func9, Tryd.ntmps9
  go_wp2_with fail
  refine (unhide HSH).mono ?_
  rintro e w1 ⟨rfl, hb1⟩
  have HGI := hide (given_any (n := N) (by omega) (unhide HI w1 hb1))
  have HB1 := hide hb1
  have hz1 := hb1.size
  clear hb1 HSH HI
  go_wp2_with fail
  refine (unhide HGI).mono ?_
  rintro e w2 ⟨v2, o, rfl, ho2, hor, hb2⟩
  have hol := ord_len hor
  obtain ⟨ao, co, e2, hol2, hom2⟩ := (Seq.of_own ho2).form
  rw [hol] at e2 hol2
  subst e2
  unfold maxLen at hom2
  have hB2 := (unhide HB1).trans (hb2.mono hz1)
  have HO2 := hide ho2
  have HOR := hide hor
  have HOL := hide hol
  have HE := hide (empty_any N (by omega) w2)
  have HB2 := hide hB2
  have hz2 := hB2.size
  have hz12 := hb2.size
  clear hor hol hb2 hB2 HGI HB1 ho2 hw hRe
  go_wp2_with fail
  refine (unhide HE).mono ?_
  rintro e w3 ⟨u, bs, rfl, hown3, hb3⟩
  obtain ⟨au, cu, rfl, hul, hum⟩ := hown3.form
  have hfl : (falses N N).length = N := by simp [falses]
  rw [hfl] at hown3 hul ⊢
  unfold maxLen at hum
  have HGR := hide (refGraph_any (show OwnMat w2.heap.size w3 (.slice au N cu) (falses N N).length (falses N N) bs from by rw [hfl]; exact hown3) (by rw [hfl]; omega))
  have hgl := graphR_len (falses N N)
  rw [hfl] at hgl
  have HG0 := hide (show RightG (graphR (falses N N)) ∧ ∀ a b, besB (graphR (falses N N)) a b = false from ⟨graphR_right (MatOk.falses N) (by rw [hfl]; omega), fun a b => by rw [graphR_at (MatOk.falses N).wide, atM_falses]⟩)
  have HM3 := hide hown3
  have HLT := hide (fun (r : Nat) (hr : r ∈ bs) => hown3.lt hr)
  have HB3 := hide hb3
  have hz3 := hb3.size
  generalize graphR (falses N N) = G0 at *
  have HGL0 := hide hgl
  clear hown3 hb3 hgl hfl HE
  go_wp2_with fail
  refine (unhide HGR).mono ?_
  rintro e w4 ⟨x, rfl, hx4, hb4⟩
  obtain ⟨ax, cx, e4, hxl, hxm⟩ := (Seq.of_own hx4).form
  rw [unhide HGL0] at e4 hxl
  subst e4
  obtain ⟨W5, hW5, hb5, hz5, hx5⟩ := boxedG w4 (.slice ax N cx)
  have h35 := hb4.trans (hb5.mono hb4.size)
  have h25 := (unhide HB3).trans (h35.mono hz3)
  have hz4 := hb4.size
  have HZ34 := hide hz4
  have hz05 := h25.size
  have HB5 := hide h25
  have HX0 := hide hx5
  have HN0 := hide ((Seq.of_own hx4).below hb5)
  have HNL := hide (fun (g : Nat) (hg : (Value.slice ax N cx).ownBlock = some g) => (hx4.lt g hg))
  have HM5 := hide ((unhide HM3).below h35)
  have HO5 := hide ((Seq.of_own (unhide HO2)).below h25)
  have HOB := hide (fun (g : Nat) (hg : (Value.slice ao N co).ownBlock = some g) => ((unhide HO2).lt g hg))
  have HW5 := hide hW5
  clear hx4 hb4 hb5 hx5 h35 h25 hW5 HGR HM3 HO2 HB3
  go_wp2_with fail
  rw [← unhide HW5]
  clear HW5
  go_wp2
  go_loopw [9] (fun i wr => ∃ (k : Nat) (M : List (List Bool)), k ≤ N ∧ i = .int .i64 k ∧ OwnMat w2.heap.size wr (.slice au N cu) N M bs ∧ Hid (WholeTo N M k 0) ∧ Keeps (fun b => b ∈ bs) W5 wr) (fun i _ => N - (intOf i).toNat)
  case atStart => exact ⟨0, falses N N, by omega, rfl, unhide HM5, hide (WholeTo.start N), Keeps.refl _ _⟩
  case round =>
    clear HM5
    obtain ⟨k, M, hk, rfl, hown, HWT, hkp⟩ := hrel
    rename World => wr
    by_cases hkn : k < N
    · have HOW := hide hown
      have HKP := hide hkp
      have HW0 := hide (show WholeTo N M k 0 from unhide HWT)
      clear hown hkp HWT
      go_wp2
      go_loopw [10] (fun i wq => ∃ (j : Nat) (M' : List (List Bool)), j ≤ N ∧ i = .int .i64 j ∧ OwnMat w2.heap.size wq (.slice au N cu) N M' bs ∧ Hid (WholeTo N M' k j) ∧ Keeps (fun b => b ∈ bs) W5 wq) (fun i _ => N - (intOf i).toNat)
      case atStart => exact ⟨0, M, by omega, rfl, unhide HOW, HW0, unhide HKP⟩
      case round =>
        clear HOW HKP HW0
        obtain ⟨j, M', hj, rfl, hown, HWT, hkp⟩ := hrel
        rename World => wq
        have hMl := (unhide HWT).len
        by_cases hjn : j < N
        · obtain ⟨bu, ou, r, e2, c1, c2, c3⟩ := hown.at (i := k) (k := j) (by omega) hjn
          subst e2
          obtain ⟨⟨u1, d1⟩, f1, hown2, hb2⟩ := hown.setv (i := k) (k := j) (by omega) hjn c3 (decide (k ≠ j))
          have HW2 := hide ((unhide HWT).put hkn hjn)
          have hrb := List.mem_of_getElem? c3
          have hk2 : Keeps (fun b => b ∈ bs) W5 (wq.setCell ⟨r, j, none⟩ (.bool (decide (k ≠ j)))) := hkp.then (Keeps.grown (grown_setG _ _ _ _) (fun b e => by injection e with e; rw [← e]; exact hrb))
          have hde : ((k : Int) != (j : Int)) = decide (k ≠ j) := by
            rw [Bool.eq_iff_iff, bne_iff_ne, decide_eq_true_eq]
            constructor <;> intro h <;> omega
          generalize decide (k ≠ j) = dd at *
          have HF := hide (And.intro hown2 hk2)
          clear hown hown2 hb2 hkp hk2 c2 c3 hMl hrb HWT
          go_wp2
          go_roundw
          case rel => exact ⟨j + 1, _, by omega, by go_num, (unhide HF).1, HW2, (unhide HF).2⟩
          case measure => simp [intOf]; omega
        · obtain rfl : j = N := by omega
          have HF := hide (And.intro hown hkp)
          have HW2 := hide ((unhide HWT).row)
          clear hown hkp HWT hMl
          go_wp2
          go_roundw
          case rel => exact ⟨k + 1, M', by omega, by go_num, (unhide HF).1, HW2, (unhide HF).2⟩
          case measure => simp [intOf]; omega
    · have ekn : k = N := by omega
      rw [ekn] at HWT ⊢
      clear ekn hkn hk
      have hok := (unhide HWT).ok
      have hr1 := graphR_right hok.1 (by rw [hok.2.1]; omega)
      have hg1l := graphR_len M
      rw [hok.2.1] at hg1l
      have hall : ∀ a b, a < (graphR M).length → b < (graphR M).length → a ≠ b → besB (graphR M) a b = true := fun a b ha hb hne => by
        rw [hg1l] at ha hb
        rw [graphR_at hok.1.wide]; exact (hok.2.2 a b).2 ⟨ha, hb, hne⟩
      have ho1 : ordB ((graphR M).length : Int) o = true := by rw [hg1l]; exact unhide HOR
      have ho0 : ordB (G0.length : Int) o = true := by rw [unhide HGL0]; exact unhide HOR
      have ha1 := all_ends hr1 ho1 (by rw [hg1l]; omega) hall
      have ha0 := none_ends (unhide HG0).1 ho0 (by rw [unhide HGL0]; omega) (unhide HG0).2
      have hownM : OwnMat w2.heap.size wr (.slice au N cu) M.length M bs := by rw [hok.2.1]; exact hown
      have hMl : M.length = N := hok.2.1
      have HGR := hide (refGraph_any hownM (by omega))
      have hz34 := unhide HZ34
      have hx0r := hkp.cell (unhide HX0).cell (fun hm => by have := (unhide HLT _ hm).2; have e : (⟨w4.heap.size, 0, none⟩ : Addr).block = w4.heap.size := rfl; omega)
      have hn0r := hkp.seq (unhide HN0) (fun _ g hg hm => by have := (unhide HNL g hg).1; have := (unhide HLT g hm).2; omega)
      have ho0r := hkp.seq (unhide HO5) (fun _ g hg hm => by have := (unhide HOB g hg).2; have := (unhide HLT g hm).1; omega)
      have hBr := ((unhide HB2).trans ((unhide HB5).mono hz2)).trans (hkp.to (B := w.heap.size) (fun g hg => by have := (unhide HLT g hg).1; omega) (by omega))
      have hbm1 : bagsU (graphR M) o (graphR M).length = bagsU (graphR M) o N := by rw [hg1l]
      have hbm0 : bagsU G0 o G0.length = bagsU G0 o N := by rw [unhide HGL0]
      obtain ⟨f1, f2, f3, f4⟩ := ha1
      obtain ⟨k2, k3, k4⟩ := ha0
      rw [hg1l] at f2 f3
      rw [unhide HGL0] at k2 k3
      have hal := bagsU_len (graphR M) o N
      have hbl := bagsU_len G0 o N
      have HOM := hide hownM
      have HML := hide hMl
      have HGM := hide (show ∀ G, G = graphR M → decide (G = graphR M) = true from fun G e => decide_eq_true e)
      obtain ⟨G1, hG1⟩ : ∃ G, G = graphR M := ⟨_, rfl⟩
      have HG1E := hide hG1
      rw [← hG1] at HGR hr1 hg1l ho1 f1 f2 f3 f4 hal hbm1
      have HR1 := hide hr1
      have HR0 := hide (unhide HG0).1
      have HO1 := hide ho1
      have HO0 := hide ho0
      have HF1 := hide f1
      have HF2 := hide f2
      have HF3 := hide f3
      have HF4 := hide f4
      have HK2 := hide k2
      have HK3 := hide k3
      have HK4 := hide k4
      have HAL := hide hal
      have HBL := hide hbl
      have HBM1 := hide hbm1
      have HBM0 := hide hbm0
      have HN0R := hide hn0r
      have HX0R := hide hx0r
      have HO0R := hide ho0r
      have HBR := hide hBr
      have HGL1 := hide hg1l
      have hzr := hBr.size
      clear hown hownM hok hr1 hg1l hall ho1 ho0 hz34 hx0r hn0r ho0r hBr hbm1 hbm0 f1 f2 f3 f4 k2 k3 k4 hal hbl hkp hMl hG1 HWT HG0 HX0 HN0 HNL HO5 HOB HB5 HB2 HLT
      go_wp2_with fail
      refine (unhide HGR).mono ?_
      rintro e w6 ⟨x6, rfl, hx6, hb6⟩
      obtain ⟨a6, c6, e6, hl6, hc6⟩ := (Seq.of_own hx6).form
      rw [unhide HGL1] at e6 hl6
      subst e6
      obtain ⟨W7, hW7, hb7, hz7, hx7⟩ := boxedG w6 (.slice a6 N c6)
      have hr7 := hb6.trans (hb7.mono hb6.size)
      have hzr7 := hr7.size
      have HV1 := hide (fun W (hb : Below W7.heap.size W7 W) => ((Seq.of_own hx6).below hb7).below hb)
      have HX1 := hide (fun W (hb : Below W7.heap.size W7 W) => (hx7.below hb (by omega)).cell)
      have HV0 := hide (fun W (hb : Below W7.heap.size W7 W) => (unhide HN0R).below (hr7.trans (hb.mono hzr7)))
      have HX0 := hide (fun W (hb : Below W7.heap.size W7 W) => Below.cell_of (hr7.trans (hb.mono hzr7)) (unhide HX0R))
      have HO7 := hide (fun W (hb : Below W7.heap.size W7 W) => (unhide HO0R).below (hr7.trans (hb.mono hzr7)))
      have HM7 := hide (fun W (hb : Below W7.heap.size W7 W) => MatC.of ((unhide HOM).below (hr7.trans (hb.mono hzr7))))
      have hB7 := (unhide HBR).trans (hr7.mono hzr)
      have hz7 := hB7.size
      have HT7 := hide (fun W (hb : Below W7.heap.size W7 W) => unhide HT W (hB7.trans (hb.mono hz7)))
      have HB7 := hide hB7
      have HC1 := hide (fun W (hb : Below W7.heap.size W7 W) => bags_yes (unhide HV1 W hb) (unhide HR1) (unhide HT7 W hb) (unhide HO7 W hb) (unhide HO1))
      rw [unhide HBM1] at HC1
      have HC2 := hide (fun W (hb : Below W7.heap.size W7 W) => bags_yes (unhide HV0 W hb) (unhide HR0) (unhide HT7 W hb) (unhide HO7 W hb) (unhide HO0))
      rw [unhide HBM0] at HC2
      have HC3 := hide (fun W (hb : Below W7.heap.size W7 W) => width_yes (unhide HV1 W hb) (unhide HR1) (unhide HT7 W hb) (unhide HO7 W hb) (unhide HO1))
      rw [unhide HBM1, HF3.out] at HC3
      have HC4 := hide (fun W (hb : Below W7.heap.size W7 W) => width_yes (unhide HV0 W hb) (unhide HR0) (unhide HT7 W hb) (unhide HO7 W hb) (unhide HO0))
      rw [unhide HBM0, HK3.out, show ((1 : Nat) : Int) - 1 = 0 from rfl] at HC4
      have HC5 := hide (fun W (hb : Below W7.heap.size W7 W) => filled_yes (unhide HV1 W hb) (unhide HR1) (unhide HT7 W hb) (unhide HO7 W hb) (unhide HO1))
      rw [HF1.out] at HC5
      have HC6 := hide (fun W (hb : Below W7.heap.size W7 W) => chordal_any (unhide HV1 W hb) (unhide HR1) (unhide HT7 W hb))
      rw [HF4.out] at HC6
      have HC7 := hide (fun W (hb : Below W7.heap.size W7 W) => chordal_any (unhide HV0 W hb) (unhide HR0) (unhide HT7 W hb))
      rw [HK4.out] at HC7
      obtain ⟨A, hA⟩ : ∃ A, A = bagsU G1 o N := ⟨_, rfl⟩
      obtain ⟨Z, hZ⟩ : ∃ Z, Z = bagsU G0 o N := ⟨_, rfl⟩
      rw [← hA] at HC1 HAL HF2
      rw [← hZ] at HC2 HBL HK2
      have y7 := hx7.cell
      have HW7 := hide hW7
      rw [hW7] at y7
      have hq7 := Below.refl W7.heap.size W7
      clear hx6 hb6 hb7 hx7 hr7 hB7 hW7 hA hZ HGR HBM1 HBM0 HN0R HX0R HO0R HBR HOM HF1 HF3 HF4 HK3 HK4 HT HR0 HR1 HO1 HO0
      go_wp2_with fail
      rw [← unhide HW7]
      refine (unhide HC1 _ hq7).mono ?_
      rintro e w8 ⟨z8, rfl, hz8t, hb8⟩
      have hct := hz8t.tups
      obtain ⟨a8, c8, e8, hl8, hc8⟩ := hct.form
      rw [unhide HAL] at e8 hl8
      subst e8
      unfold maxLen at hc8
      have HA8 := hide (fun W (hb : Below w8.heap.size w8 W) => hct.below hb)
      have y8 := unhide HX0 w8 hb8
      have HB8 := hide hb8
      clear hct hz8t y7 HC1 HW7 hq7 hb8
      go_wp2_with fail
      refine (unhide HC2 _ (unhide HB8)).mono ?_
      rintro e w9 ⟨z9, rfl, hz9t, hb9⟩
      have hct := hz9t.tups
      obtain ⟨a9, c9, e9, hl9, hc9⟩ := hct.form
      rw [unhide HBL] at e9 hl9
      subst e9
      unfold maxLen at hc9
      have HA9 := hide (fun W (hb : Below w9.heap.size w9 W) => unhide HA8 W (hb9.trans (hb.mono hb9.size)))
      have HZ9 := hide (fun W (hb : Below w9.heap.size w9 W) => hct.below hb)
      have h79 := (unhide HB8).trans (hb9.mono (unhide HB8).size)
      have y9 := unhide HX1 w9 h79
      have HB9 := hide h79
      clear hct hz9t y8 HC2 hb9 h79 HA8 HB8
      go_wp2_with fail
      refine (unhide HC3 _ (unhide HB9)).mono ?_
      rintro e w10 ⟨rfl, hb10⟩
      have h710 := (unhide HB9).trans (hb10.mono (unhide HB9).size)
      have y10 := unhide HX0 w10 h710
      have HB10 := hide h710
      have HB910 := hide hb10
      clear hb10 h710 y9 HC3 HB9
      go_wp2_with fail
      refine (unhide HC4 _ (unhide HB10)).mono ?_
      rintro e w11 ⟨rfl, hb11⟩
      have h711 := (unhide HB10).trans (hb11.mono (unhide HB10).size)
      have y11 := unhide HX1 w11 h711
      have HB11 := hide h711
      have HB911 := hide ((unhide HB910).trans (hb11.mono (unhide HB910).size))
      clear hb11 h711 y10 HC4 HB10 HB910
      go_wp2_with fail
      refine (unhide HC5 _ (unhide HB11)).mono ?_
      rintro e w12 ⟨x12, rfl, hx12, hb12⟩
      obtain ⟨a12, c12, e12, hl12, hc12⟩ := (Seq.of_own hx12).form
      rw [unhide HGL1] at e12 hl12
      subst e12
      obtain ⟨W13, hW13, hb13, hz13, hx13⟩ := boxedG w12 (.slice a12 N c12)
      have h1113 := hb12.trans (hb13.mono hb12.size)
      have h713 := (unhide HB11).trans (h1113.mono (unhide HB11).size)
      have h913 := (unhide HB911).trans (h1113.mono (unhide HB911).size)
      have HALK := hide (alike_any ((Seq.of_own hx12).below hb13) (unhide HM7 W13 h713) (by rw [unhide HML]; omega))
      rw [unhide HGM _ (unhide HG1E)] at HALK
      have y13 := hx13.cell
      have HW13 := hide hW13
      rw [hW13] at y13
      have HB13 := hide h713
      have HB913 := hide h913
      clear hx12 hb12 hb13 hx13 h1113 h713 h913 hW13 y11 HC5 HB11 HB911 HM7 HGM HG1E HML
      go_wp2_with fail
      first | rw [← unhide HW13] | skip
      refine (unhide HALK).mono ?_
      rintro e w14 ⟨rfl, hb14⟩
      have HB14 := hide ((unhide HB13).trans (hb14.mono (unhide HB13).size))
      have h914 := (unhide HB913).trans (hb14.mono (unhide HB913).size)
      have HA14 := hide (fun W (hb : Below w14.heap.size w14 W) => unhide HA9 W (h914.trans (hb.mono h914.size)))
      have HZ14 := hide (fun W (hb : Below w14.heap.size w14 W) => unhide HZ9 W (h914.trans (hb.mono h914.size)))
      clear hb14 h914 y13 HALK HW13 HB13 HB913 HA9 HZ9
      go_wp2
      go_loopw [22] (fun i wq => ∃ j : Nat, j ≤ N ∧ i = .int .i64 j ∧ Below w14.heap.size w14 wq) (fun i _ => N - (intOf i).toNat)
      case atStart => exact ⟨0, by omega, rfl, Below.refl _ _⟩
      case round =>
        obtain ⟨j, hj, rfl, hbq⟩ := hrel
        rename World => wq
        by_cases hjn : j < N
        · obtain ⟨ba, oa, va, e1, q1, hva⟩ := (unhide HA14 wq hbq).at (k := j) (by rw [unhide HAL]; exact hjn)
          subst e1
          obtain ⟨bz, oz, vz, e2, q2, hvz⟩ := (unhide HZ14 wq hbq).at (k := j) (by rw [unhide HBL]; exact hjn)
          subst e2
          have h7q := (unhide HB14).trans (hbq.mono (unhide HB14).size)
          obtain ⟨bo, oo, e3, q3⟩ := (unhide HO7 wq h7q).at (k := j) (by rw [unhide HOL]; exact hjn)
          subst e3
          obtain ⟨D, hD⟩ : ∃ D, D = N - j := ⟨_, rfl⟩
          have hla : (A[j]'(by rw [unhide HAL]; exact hjn)).length = D := by
            have := unhide HF2 j hjn
            rw [List.getD_eq_getElem?_getD, List.getElem?_eq_getElem (by rw [unhide HAL]; exact hjn)] at this
            rw [hD]; exact this
          have hlz : Z[j]'(by rw [unhide HBL]; exact hjn) = [o.getD j 0] := by
            have := unhide HK2 j hjn
            rw [List.getD_eq_getElem?_getD, List.getElem?_eq_getElem (by rw [unhide HBL]; exact hjn)] at this
            exact this
          have hlo : o[j]'(by rw [unhide HOL]; exact hjn) = o.getD j 0 := by rw [List.getD_eq_getElem?_getD, List.getElem?_eq_getElem (by rw [unhide HOL]; exact hjn)]; rfl
          rw [hlo] at q3
          rw [hlz] at hvz
          generalize o.getD j 0 = x at *
          obtain ⟨pa, ca, e4, _, _⟩ := hva.form
          rw [hla] at e4
          subst e4
          obtain ⟨pz, cz, e5, _, _⟩ := hvz.form
          rw [List.length_singleton] at e5
          subst e5
          obtain ⟨bv, ov, e6, q6⟩ := hvz.at (k := 0) (by simp)
          subst e6
          have q7 : wq.cell? ⟨bv, ov, none⟩ = some (.int .i64 x) := by simpa using q6
          have hDI : (D : Int) = (N : Int) - (j : Int) := by omega
          have hdd : ((D : Int) != (N : Int) - (j : Int)) = false := by rw [hDI]; simp
          have hxx : (x != x) = false := by simp
          have HBQ := hide hbq
          clear hva hvz hla hlz hlo hD hbq h7q q6
          go_wp2
          go_quiet (fail)
          go_wp2
          go_roundw
          case rel => exact ⟨j + 1, by omega, by go_num, Below.drewN1 (unhide HBQ) _⟩
          case measure => simp [intOf]; omega
        · obtain rfl : j = N := by omega
          have h7q := (unhide HB14).trans (hbq.mono (unhide HB14).size)
          have z1 := unhide HX1 wq h7q
          have HCH := hide (unhide HC6 wq h7q)
          have H7Q := hide h7q
          clear hbq h7q HA14 HZ14
          go_wp2_with fail
          refine (unhide HCH).mono ?_
          rintro e w15 ⟨rfl, hb15⟩
          have h715 := (unhide H7Q).trans (hb15.mono (unhide H7Q).size)
          have z0 := unhide HX0 w15 h715
          have HCH0 := hide (unhide HC7 w15 h715)
          have H715 := hide h715
          clear hb15 h715 z1 HCH H7Q
          go_wp2_with fail
          refine (unhide HCH0).mono ?_
          rintro e w16 ⟨rfl, hb16⟩
          have HFIN := hide ((unhide HB7).trans (((unhide H715).trans (hb16.mono (unhide H715).size)).mono hz7))
          clear hb16 HCH0 H715 z0
          go_wp2
          go_ret
          exact ⟨rfl, unhide HFIN⟩

set_option maxRecDepth 100000 in
theorem lifted (os : Os) (started : os.Started) (H : Type) (enc : TypeId × Value → H) :
    ReturnsInHanded {} Tryd.checked os 9 .any (fun w args => (Rows.fillWholeSpec.pre enc Tryd.prog Tryd.f9 [] false w args ∧ laidMetH Tryd.prog laidIn w) ∧ sizedMet enc Tryd.prog Tryd.f9 (OpenSpec.ofChange Rows.fillWholeSpec) false w args)
      (Rows.fillWholeSpec.post enc Tryd.prog Tryd.f9 false true false false) := by
  refine returnsInHanded_of_change_and (C := Tryd.checked) (X := fun w _ => laidMetH Tryd.prog laidIn w) (fun _ _ _ hh h => h.of_heap hh) own started (by kernel_rfl) Tryd.func9
    (ChangeSpec.witness_shaped (enc := enc) (C := Tryd.checked) (os := os) (X := fun w _ => laidMetH Tryd.prog laidIn w) false (World.doorLaid Tryd.prog doorN os) #[.int .i64 0, .slice none 0 0] 8 rfl (World.shaped_of_RefB (by kernel_rfl) (by kernel_rfl)) (by kernel_rfl) (by kernel_rfl) (by kernel_rfl) (door_met os _)) ?_
  intro W base args ds gs before hval0 hW _ _ hL _
  have hval : ∀ (j : Nat) t v, Tryd.f9.params[j]? = some t → args[j]? = some v → Value.okWide Tryd.prog W .any base t v := hval0
  have hW' := hW
  obtain ⟨p, q, hA0, hV, rfl, hfz, hnd⟩ := hW
  have hA : DataW.TrodAll enc Tryd.prog W 0 (fun _ => true) true Tryd.f9.params.toList args.toList ds p := hA0
  rw [Tryd.params9] at hA hval
  obtain ⟨v0, vs0, d0, ds0, p0, q0, hargs, rfl, rfl, h0, r0⟩ := trodAll_cons hA
  obtain ⟨v1, vs1, d1, ds1, p1, q1, rfl, rfl, rfl, h1, r1⟩ := trodAll_cons r0
  obtain ⟨rfl, rfl, rfl⟩ := trodAll_nil r1
  obtain rfl : args = #[v0, v1] := by cases args; simp_all
  obtain ⟨rfl, rfl⟩ := trodVars_none hV
  obtain ⟨l0, i0, m0⟩ := read_int h0 (hval 0 3 v0 rfl rfl)
  have lt0 : ∀ x ∈ p0, x.block < W.heap.size := by obtain ⟨m, hm⟩ := h0; exact DataW.trod_lt m _ _ _ hm
  obtain ⟨l1, i1, m1⟩ := read_ints h1 (okWide_slice Tryd.underlying23 (hval 1 23 v1 rfl rfl))
  have lt1 : ∀ x ∈ p1, x.block < W.heap.size := by obtain ⟨m, hm⟩ := h1; exact DataW.trod_lt m _ _ _ hm
  clear hA0 hval0
  refine (walk (tabs_of hL) i0 m0 i1 m1).mono fun e W' ⟨he, bel⟩ => ?_
  subst he
  exact ⟨_, rfl, _, _, _, [], _, [], hW', trodAll_mk1 (shut_bool Tryd.underlying4 _), (trodAll_cons_mk (Below.trod laidOut (by kernel_rfl) (of_decide_eq_true (by kernel_rfl)) h0 bel lt0) (trodAll_cons_mk (Below.trod laidOut (by kernel_rfl) (of_decide_eq_true (by kernel_rfl)) h1 bel lt1) trodAll_mk0)), rfl, bel.frame _, fun h => by cases h⟩

theorem over : Rows.fillWholeRow.holds Tryd.pinned (OpenSpec.ofChange Rows.fillWholeSpec) :=
  OpenClaim.holds_of_wide 9 Tryd.f9 rfl rfl rfl rfl rfl rfl rfl ⟨rfl, rfl, rfl, rfl, rfl⟩ rfl rfl rfl rfl rfl (by kernel_rfl) Tryd.func9 (by kernel_rfl)
    (of_decide_eq_true (by kernel_rfl)) (by unfold Func.isWrapper; first | (rw [if_pos (by decide +kernel)]; kernel_rfl) | (rw [if_neg (by decide +kernel)]; exact ⟨rfl, rfl⟩))
    (fun os started H enc _ => lifted os started H enc)

/-- The statement: the tied card. -/
theorem proved : Rows.FillWholeCardSaid :=
  Claim7.holds_tied_plain_at .later [] [.data] true (true, "6ca461ad2d0e272a0487001049e8faa726419818016388472b9d03fa818b05b0") false
    over (fun _ h => by cases h) (by kernel_rfl) (fun _ h => by cases h) fillWhole_row_tie rfl ⟨rfl, rfl⟩ (by kernel_rfl) rfl
    (fun f fn hf hfn => by
      obtain rfl : f = 9 := Option.some.inj ((show Tryd.prog.funcNamed "arborist/arboristlaw10.FillWhole" = some 9 by kernel_rfl).symm.trans hf) |>.symm
      obtain rfl : fn = Tryd.f9 := (Option.some.inj (Tryd.func9.symm.trans hfn)).symm
      exact ⟨by kernel_rfl, fun j t ht => by
        rw [Tryd.params9] at ht
        have hm : t ∈ [3, 23] := by simpa using Array.mem_of_getElem? ht
        have hall : ([3, 23].all fun u => !Tryd.prog.wantsStandIn u) = true := by kernel_rfl
        exact (show Tryd.prog.wantsStandIn t = false by simpa using List.all_eq_true.1 hall t hm)⟩)
    (by kernel_rfl)

#print axioms proved
end Go.Proofs.YtcglbopmfdilfaaDoor.fillWhole
