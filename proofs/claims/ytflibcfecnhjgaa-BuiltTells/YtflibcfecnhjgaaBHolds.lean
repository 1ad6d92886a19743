/-
  What constraints say of values: the contracts of isAmong, areUnlike, areTheSame, sumHolds, Holds, Cost.
-/
import Derived.Test.YtflibcfecnhjgaaConS
import Derived.Test.YtflibcfecnhjgaaContI
import Derived.Test.YtflibcfecnhjgaaTupFind
import Derived.Test.YtflibcfecnhjgaaTupSets
namespace Go.Proofs.Ytflibcfecnhjgaa
open Go.RowKit
set_option linter.unusedVariables false
set_option linter.unusedSimpArgs false
set_option maxRecDepth 20000

theorem isAt_low {ll : List (List Int)} (hs : AscL ll) (t : List Int) : isAt ll t (lowN ll t) = decide (t ∈ ll) := by
  rw [Bool.eq_iff_iff, decide_eq_true_eq]
  constructor
  · intro h
    unfold isAt at h
    split at h
    · rw [decide_eq_true_eq] at h
      rw [← cmpL_eq h]
      exact List.getElem_mem _
    · cases h
  · intro h
    obtain ⟨k, hk, rfl⟩ := List.getElem_of_mem h
    have hl : lowN ll ll[k] = k := low_is hs (by omega) (fun i hi hik => List.pairwise_iff_getElem.1 hs i k hi hk hik) (fun i hi hki => by
      rcases Nat.lt_or_ge k i with h1 | h1
      · have := List.pairwise_iff_getElem.1 hs k i hk hi h1
        have := cmpL_swap ll[i] ll[k]
        omega
      · obtain rfl : i = k := by omega
        rw [cmpL_refl]; omega)
    rw [hl]
    unfold isAt
    rw [dif_pos hk, cmpL_refl]
    rfl

set_option maxHeartbeats 1000000 in
theorem isAmong_any {ll : List (List Int)} {t : List Int} {v vt : Value} {w : World} (h : Tups w v ll) (ht : Ints w vt t) (hs : AscL ll) (hlen : ll.length < 100000000000) :
    Calls Try.prog 19 #[v, vt] w fun e w' => e = .returned (.bool (decide (t ∈ ll))) ∧ ∃ n, w' = w.drewN n := by
  have HC := hide (find_any h ht hs hlen)
  have HA := hide (isAt_low hs t)
  generalize isAt ll t (lowN ll t) = q at *
  generalize lowN ll t = k at *
  clear h ht
  go_enter Try.func19, Try.ntmps19
  go_wp2_with fail
  refine (unhide HC).mono ?_
  rintro e w' ⟨rfl, m, rfl⟩
  go_wp2
  go_ret
  exact ⟨ret_bool (unhide HA), _, rfl⟩

/-- No two are the same. -/
def unlikeB (l : List Int) : Bool := decide (∀ j (h : j < l.length), l[j] ∉ l.take j)

theorem unlike_nodup (l : List Int) : unlikeB l = decide l.Nodup := by
  rw [Bool.eq_iff_iff, unlikeB, decide_eq_true_eq, decide_eq_true_eq, List.Nodup, List.pairwise_iff_getElem]
  constructor
  · intro h i j hi hj hij e
    refine h j hj ?_
    rw [← e]
    rw [List.mem_iff_getElem]
    exact ⟨i, by simp; omega, by simp⟩
  · intro h j hj hm
    obtain ⟨i, hi, e⟩ := List.mem_iff_getElem.1 hm
    simp only [List.length_take] at hi
    rw [List.getElem_take] at e
    exact h i j (by omega) hj (by omega) e

set_option maxHeartbeats 1000000 in
theorem areUnlike_any {l : List Int} {v : Value} {w : World} (h : Ints w v l) :
    Calls Try.prog 20 #[v] w fun e w' => e = .returned (.bool (unlikeB l)) ∧ w' = w := by
  obtain ⟨a, ca, rfl, hla, hca⟩ := h.form
  unfold maxLen at hca
  obtain ⟨q, hq⟩ : ∃ q, q = unlikeB l := ⟨_, rfl⟩
  rw [← hq]
  have HQ := hide hq
  clear hq
  go_enter Try.func20, Try.ntmps20
  go_wp2
  go_loop [7] (fun i => ∃ k : Nat, k ≤ l.length ∧ i = .int .i64 k ∧ Hid (∀ j (h : j < l.length), j < k → l[j] ∉ l.take j)) (fun i => l.length - (intOf i).toNat)
  case atStart => exact ⟨0, by omega, rfl, hide (fun j h h' => by omega)⟩
  case round =>
    obtain ⟨k, hk, rfl, HR⟩ := hrel
    by_cases hlt : k < l.length
    · obtain ⟨bb, oo, rfl, hc⟩ := h.at hlt
      have hcont := containsI_any (n := l[k]) (h.take (k := k) (by omega))
      by_cases hm : l[k] ∈ l.take k
      · have HQ2 : Hid (q = false) := hide (by rw [HQ.out]; unfold unlikeB; simp only [decide_eq_false_iff_not]; exact fun h => h k hlt hm)
        rw [decide_eq_true hm] at hcont
        have HC := hide hcont
        clear hcont h hm HQ HR
        go_wp2_with (refine (unhide HC).mono ?_; rintro e w' ⟨rfl, rfl⟩)
        go_ret
        exact ⟨ret_bool HQ2.out.symm, rfl⟩
      · have HR2 : Hid (∀ j (h : j < l.length), j < k + 1 → l[j] ∉ l.take j) := hide (fun j hj hjk => by
          rcases Nat.lt_or_ge j k with h1 | h1
          · exact HR.out j hj h1
          · obtain rfl : j = k := by omega
            exact hm)
        rw [decide_eq_false hm] at hcont
        have HC := hide hcont
        clear hcont h hm HQ HR
        go_wp2_with (refine (unhide HC).mono ?_; rintro e w' ⟨rfl, rfl⟩)
        go_round
        case rel => exact ⟨k + 1, by omega, by go_num, HR2⟩
        case measure => simp [intOf]; omega
    · have HQ2 : Hid (q = true) := hide (by rw [HQ.out]; unfold unlikeB; simp only [decide_eq_true_eq]; exact fun j hj => HR.out j hj (by omega))
      clear h HQ HR
      go_wp2
      go_ret
      exact ⟨ret_bool HQ2.out.symm, rfl⟩

/-- All are the same. -/
def alikeB (l : List Int) : Bool := decide (∀ j (h : j < l.length), l[j] = l.getD 0 0)

set_option maxHeartbeats 1000000 in
theorem areTheSame_any {l : List Int} {v : Value} {w : World} (h : Ints w v l) :
    Calls Try.prog 21 #[v] w fun e w' => e = .returned (.bool (alikeB l)) ∧ w' = w := by
  obtain ⟨a, ca, rfl, hla, hca⟩ := h.form
  unfold maxLen at hca
  obtain ⟨q, hq⟩ : ∃ q, q = alikeB l := ⟨_, rfl⟩
  rw [← hq]
  have HQ := hide hq
  clear hq
  go_enter Try.func21, Try.ntmps21
  go_wp2
  go_loop [7] (fun i => ∃ k : Nat, k ≤ l.length ∧ i = .int .i64 k ∧ Hid (∀ j (h : j < l.length), j < k → l[j] = l.getD 0 0)) (fun i => l.length - (intOf i).toNat)
  case atStart => exact ⟨0, by omega, rfl, hide (fun j h h' => by omega)⟩
  case round =>
    obtain ⟨k, hk, rfl, HR⟩ := hrel
    by_cases hlt : k < l.length
    · have h0 : 0 < l.length := by omega
      obtain ⟨bb, oo, e1, hc⟩ := h.at hlt
      obtain ⟨bb2, oo2, e2, hc0⟩ := h.at h0
      rw [e1] at e2
      cases e2
      subst e1
      have hg : l.getD 0 0 = l[0] := by simp [List.getD_eq_getElem?_getD, h0]
      rw [Nat.add_zero] at hc0
      rw [hg] at HR
      by_cases hm : l[k] = l[0]
      · have HR2 : Hid (∀ j (h : j < l.length), j < k + 1 → l[j] = l.getD 0 0) := hide (fun j hj hjk => by
          rw [hg]
          rcases Nat.lt_or_ge j k with h1 | h1
          · exact HR.out j hj h1
          · obtain rfl : j = k := by omega
            exact hm)
        have hne : (l[k] != l[0]) = false := by simpa using hm
        clear h hm HQ HR hg
        go_wp2
        go_round
        case rel => exact ⟨k + 1, by omega, by go_num, HR2⟩
        case measure => simp [intOf]; omega
      · have HQ2 : Hid (q = false) := hide (by rw [HQ.out]; unfold alikeB; simp only [decide_eq_false_iff_not]; exact fun h => hm (by rw [← hg]; exact h k hlt))
        have hne : (l[k] != l[0]) = true := by simpa using hm
        clear h hm HQ HR hg
        go_wp2
        go_ret
        exact ⟨ret_bool HQ2.out.symm, rfl⟩
    · have HQ2 : Hid (q = true) := hide (by rw [HQ.out]; unfold alikeB; simp only [decide_eq_true_eq]; exact fun j hj => HR.out j hj (by omega))
      clear h HQ HR
      go_wp2
      go_ret
      exact ⟨ret_bool HQ2.out.symm, rfl⟩

/-- The sum of the products. -/
def dotL : List Int → List Int → Int
  | x :: a, y :: b => x * y + dotL a b
  | _, _ => 0

theorem dot_step {a b : List Int} {k : Nat} (h1 : k < a.length) (h2 : k < b.length) : dotL (a.drop k) (b.drop k) = a[k] * b[k] + dotL (a.drop (k + 1)) (b.drop (k + 1)) := by
  rw [List.drop_eq_getElem_cons h1, List.drop_eq_getElem_cons h2, dotL]
theorem dot_end {a b : List Int} {k : Nat} (h : b.length ≤ k) : dotL (a.drop k) (b.drop k) = 0 := by
  rw [List.drop_eq_nil_of_le h]; cases a.drop k <;> rfl

/-- What a linear constraint says, of values as many as it has variables. -/
def linB (args t : List Int) : Bool :=
  if args.length = t.length + 2 then
    if args.getD t.length 0 = 0 then dotL args t == args.getD (t.length + 1) 0
    else if args.getD t.length 0 = 1 then decide (dotL args t ≤ args.getD (t.length + 1) 0)
    else if args.getD t.length 0 = 2 then dotL args t != args.getD (t.length + 1) 0
    else false
  else false

def Mill (l : List Int) : Prop := ∀ x ∈ l, -1000000 ≤ x ∧ x ≤ 1000000

theorem mul_mill {x y : Int} (hx : -1000000 ≤ x ∧ x ≤ 1000000) (hy : -1000000 ≤ y ∧ y ≤ 1000000) : -1000000000000 ≤ x * y ∧ x * y ≤ 1000000000000 := by
  have h1 : (x * y).natAbs ≤ 1000000 * 1000000 := by rw [Int.natAbs_mul]; exact Nat.mul_le_mul (by omega) (by omega)
  omega

set_option maxHeartbeats 2000000 in
theorem sumHolds_any {ar t : List Int} {v vt : Value} {w : World} (h : Ints w v ar) (ht : Ints w vt t) (hm : Mill ar) (hmt : Mill t) (hlen : t.length < 1000) :
    Calls Try.prog 23 #[v, vt] w fun e w' => e = .returned (.bool (linB ar t)) ∧ ∃ n, w' = w.drewN n := by
  obtain ⟨a, ca, rfl, hla, hca⟩ := h.form
  obtain ⟨b, cb, rfl, hlb, hcb⟩ := ht.form
  unfold maxLen at hca hcb
  obtain ⟨q, hq⟩ : ∃ q, q = linB ar t := ⟨_, rfl⟩
  rw [← hq]
  by_cases hl : ar.length = t.length + 2
  · have hn1 : t.length < ar.length := by omega
    have hn2 : t.length + 1 < ar.length := by omega
    obtain ⟨b1, o1, e1, hc1⟩ := h.at hn1
    obtain ⟨b2, o2, e2, hc2⟩ := h.at hn2
    have hgd : ((ar.length : Int) != (t.length : Int) + 2) = false := by rw [bne_eq_false_iff_eq]; omega
    have hm2 := hm _ (List.getElem_mem hn2)
    unfold linB at hq
    rw [if_pos hl, show ar.getD t.length 0 = ar[t.length] by simp [List.getD_eq_getElem?_getD, hn1], show ar.getD (t.length + 1) 0 = ar[t.length + 1] by simp [List.getD_eq_getElem?_getD, hn2]] at hq
    generalize ar[t.length] = how at *
    generalize ar[t.length + 1] = num at *
    rw [e1] at e2
    cases e2
    subst e1
    have htk := h.take (k := t.length) (by omega)
    have HQ := hide hq
    have hn0 : ar.length < 2000 := by omega
    clear hq hl
    go_enter Try.func23, Try.ntmps23
    go_wp2
    go_loop [6, 22] (fun s i => ∃ (k : Nat) (z : Int), k ≤ t.length ∧ i = .int .i64 k ∧ s = .int .i64 z ∧ -(k * 1000000000000 : Int) ≤ z ∧ z ≤ (k * 1000000000000 : Int) ∧ Hid (dotL ar t = z + dotL (ar.drop k) (t.drop k))) (fun _ i => t.length - (intOf i).toNat)
    case atStart => exact ⟨0, 0, by omega, rfl, rfl, by simp, by simp, hide (by simp)⟩
    case round =>
      obtain ⟨k, z, hk, rfl, rfl, hz1, hz2, HD⟩ := hrel
      by_cases hlt : k < t.length
      · have hka : k < ar.length := by omega
        obtain ⟨b3, o3, e3, hc3⟩ := h.at hka
        cases e3
        obtain ⟨b4, o4, rfl, hc4⟩ := ht.at hlt
        have hd := HD.out
        rw [dot_step hka hlt] at hd
        have hp := mul_mill (hm _ (List.getElem_mem hka)) (hmt _ (List.getElem_mem hlt))
        generalize ar[k] = x at *
        generalize t[k] = y at *
        obtain ⟨hp1, hp2⟩ := hp
        have HD2 : Hid (dotL ar t = (z + x * y) + dotL (ar.drop (k + 1)) (t.drop (k + 1))) := hide (by omega)
        clear hd HD h ht htk HQ hm hmt
        go_wp2
        go_round
        case rel => exact ⟨k + 1, z + x * y, by omega, by go_num, by go_num, by omega, by omega, HD2⟩
        case measure => simp [intOf]; omega
      · have hd := HD.out
        rw [dot_end (by omega)] at hd
        have HD2 : Hid (dotL ar t = z) := hide (by omega)
        clear hd HD h ht htk hm hmt
        by_cases h0 : how = 0
        · subst h0
          have HQ2 : Hid (q = (z == num)) := hide (by rw [HQ.out, HD2.out]; rfl)
          clear HQ HD2
          go_wp2
          go_quiet (fail)
          go_wp2
          go_ret
          exact ⟨ret_bool HQ2.out.symm, by first | exact ⟨_, rfl⟩ | (simp only [World.drewN_drewN]; exact ⟨_, rfl⟩)⟩
        · by_cases h1 : how = 1
          · subst h1
            have HQ2 : Hid (q = decide (z ≤ num)) := hide (by rw [HQ.out, HD2.out]; rfl)
            clear HQ HD2 h0
            go_wp2
            go_quiet (fail)
            go_wp2
            go_ret
            exact ⟨ret_bool HQ2.out.symm, by first | exact ⟨_, rfl⟩ | (simp only [World.drewN_drewN]; exact ⟨_, rfl⟩)⟩
          · by_cases h2 : how = 2
            · subst h2
              have HQ2 : Hid (q = (z != num)) := hide (by rw [HQ.out, HD2.out]; rfl)
              clear HQ HD2 h0 h1
              go_wp2
              go_quiet (fail)
              go_wp2
              go_ret
              exact ⟨ret_bool HQ2.out.symm, by first | exact ⟨_, rfl⟩ | (simp only [World.drewN_drewN]; exact ⟨_, rfl⟩)⟩
            · have HQ2 : Hid (q = false) := hide (by rw [HQ.out, if_neg h0, if_neg h1, if_neg h2])
              have g0 : (how == 0) = false := by simpa using h0
              have g1 : (how == 1) = false := by simpa using h1
              have g2 : (how == 2) = false := by simpa using h2
              clear HQ HD2 h0 h1 h2
              go_wp2
              go_quiet (fail)
              go_wp2
              go_ret
              exact ⟨ret_bool HQ2.out.symm, by first | exact ⟨_, rfl⟩ | (simp only [World.drewN_drewN]; exact ⟨_, rfl⟩)⟩
  · have hgd : ((ar.length : Int) != (t.length : Int) + 2) = true := by rw [bne_iff_ne]; omega
    have HQ : Hid (q = false) := hide (by rw [hq, linB, if_neg hl])
    clear hq h ht hl hm hmt
    go_enter Try.func23, Try.ntmps23
    go_wp2
    go_ret
    exact ⟨ret_bool HQ.out.symm, 0, rfl⟩

/-- The value is a constraint. -/
def ConV (w : World) (v : Value) (c : Con) : Prop := ∃ vs vr va, v = .agg #[.int .i64 c.kind, vs, vr, va] ∧ Ints w vs c.scope ∧ Tups w vr c.rows ∧ Ints w va c.args
theorem ConV.below {w w' : World} {v : Value} {c : Con} (h : ConV w v c) (hb : Below w.heap.size w w') : ConV w' v c := by
  obtain ⟨vs, vr, va, h1, h2, h3, h4⟩ := h
  exact ⟨vs, vr, va, h1, h2.below hb, h3.below hb, h4.below hb⟩
/-- .. a soft one. -/
def SftV (w : World) (v : Value) (s : Sft) : Prop := ∃ vs vr vc, v = .agg #[vs, vr, vc, .int .i64 s.dflt] ∧ Ints w vs s.scope ∧ Tups w vr s.rows ∧ Ints w vc s.costs
theorem SftV.below {w w' : World} {v : Value} {c : Sft} (h : SftV w v c) (hb : Below w.heap.size w w') : SftV w' v c := by
  obtain ⟨vs, vr, va, h1, h2, h3, h4⟩ := h
  exact ⟨vs, vr, va, h1, h2.below hb, h3.below hb, h4.below hb⟩

/-- What a constraint says of values. -/
def holdsB (c : Con) (t : List Int) : Bool :=
  if t.length = c.scope.length then
    if c.kind = 1 then decide (t ∈ c.rows)
    else if c.kind = 2 then !decide (t ∈ c.rows)
    else if c.kind = 3 then unlikeB t
    else if c.kind = 4 then alikeB t
    else if c.kind = 5 then risB t
    else if c.kind = 6 then linB c.args t
    else false
  else false

/-- What is wanted of a constraint, that Holds may be asked. -/
structure Sane (c : Con) : Prop where
  rows : AscL c.rows
  len : c.rows.length < 100000000
  args : Mill c.args
  scope : c.scope.length < 1000

set_option maxHeartbeats 2000000 in
theorem holds_any {c : Con} {t : List Int} {v vt : Value} {w : World} (h : ConV w v c) (ht : Ints w vt t) (hs : Sane c) (hm : Mill t) :
    Calls Try.prog 7 #[v, vt] w fun e w' => e = .returned (.bool (holdsB c t)) ∧ Below w.heap.size w w' := by
  obtain ⟨kd, sc, ll, ar⟩ := c
  obtain ⟨vs, vr, va, rfl, h1, h2, h3⟩ := h
  obtain ⟨g1, g2, g3, g4⟩ := hs
  simp only [] at h1 h2 h3 g1 g2 g3 g4
  obtain ⟨a1, c1, rfl, hl1, hc1⟩ := h1.form
  obtain ⟨a2, c2, rfl, hl2, hc2⟩ := h2.form
  obtain ⟨a3, c3, rfl, hl3, hc3⟩ := h3.form
  obtain ⟨b, cb, rfl, hlb, hcb⟩ := ht.form
  unfold maxLen at hc1 hc2 hc3 hcb
  simp only []
  have hb0 := (Below.refl w.heap.size w).alloc (Nat.le_refl _) (.cells #[.int .i64 kd, .slice a1 sc.length c1, .slice a2 ll.length c2, .slice a3 ar.length c3] 31)
  have HB := hide hb0
  obtain ⟨q, hq⟩ : ∃ q, q = holdsB ⟨kd, sc, ll, ar⟩ t := ⟨_, rfl⟩
  rw [← hq]
  unfold holdsB at hq
  simp only [] at hq
  by_cases hl : t.length = sc.length
  · have hgd : ((t.length : Int) != (sc.length : Int)) = false := by rw [bne_eq_false_iff_eq]; omega
    rw [if_pos hl] at hq
    by_cases k1 : kd = 1
    · subst k1
      have HA := hide (isAmong_any (h2.below hb0) (ht.below hb0) g1 (by omega))
      have HQ : Hid (q = decide (t ∈ ll)) := hide hq
      generalize decide (t ∈ ll) = p at *
      clear h1 h2 h3 ht g1 g3 hm hq hb0 hl
      go_enter Try.func7, Try.ntmps7
      go_wp2_with fail
      refine (unhide HA).mono ?_
      rintro e w' ⟨rfl, m, rfl⟩
      go_wp2
      go_ret
      exact ⟨ret_bool HQ.out.symm, Below.drewN1 (unhide HB) _⟩
    · rw [if_neg k1] at hq
      have kk1 : (kd == 1) = false := by simpa using k1
      by_cases k2 : kd = 2
      · subst k2
        have HA := hide (isAmong_any (h2.below hb0) (ht.below hb0) g1 (by omega))
        have HQ : Hid (q = !decide (t ∈ ll)) := hide hq
        generalize decide (t ∈ ll) = p at *
        clear h1 h2 h3 ht g1 g3 hm hq hb0 hl k1
        go_enter Try.func7, Try.ntmps7
        go_wp2_with fail
        refine (unhide HA).mono ?_
        rintro e w' ⟨rfl, m, rfl⟩
        go_wp2
        go_ret
        exact ⟨ret_bool HQ.out.symm, Below.drewN1 (unhide HB) _⟩
      · rw [if_neg k2] at hq
        have kk2 : (kd == 2) = false := by simpa using k2
        by_cases k3 : kd = 3
        · subst k3
          have HA := hide (areUnlike_any (ht.below hb0))
          have HQ : Hid (q = unlikeB t) := hide hq
          generalize unlikeB t = p at *
          clear h1 h2 h3 ht g1 g3 hm hq hb0 hl k1 k2
          go_enter Try.func7, Try.ntmps7
          go_wp2_with fail
          refine (unhide HA).mono ?_
          rintro e w' ⟨rfl, rfl⟩
          go_wp2
          go_ret
          exact ⟨ret_bool HQ.out.symm, unhide HB⟩
        · rw [if_neg k3] at hq
          have kk3 : (kd == 3) = false := by simpa using k3
          by_cases k4 : kd = 4
          · subst k4
            have HA := hide (areTheSame_any (ht.below hb0))
            have HQ : Hid (q = alikeB t) := hide hq
            generalize alikeB t = p at *
            clear h1 h2 h3 ht g1 g3 hm hq hb0 hl k1 k2 k3
            go_enter Try.func7, Try.ntmps7
            go_wp2_with fail
            refine (unhide HA).mono ?_
            rintro e w' ⟨rfl, rfl⟩
            go_wp2
            go_ret
            exact ⟨ret_bool HQ.out.symm, unhide HB⟩
          · rw [if_neg k4] at hq
            have kk4 : (kd == 4) = false := by simpa using k4
            by_cases k5 : kd = 5
            · subst k5
              have HA := hide (rising_any (ht.below hb0))
              have HQ : Hid (q = risB t) := hide hq
              generalize risB t = p at *
              clear h1 h2 h3 ht g1 g3 hm hq hb0 hl k1 k2 k3 k4
              go_enter Try.func7, Try.ntmps7
              go_wp2_with fail
              refine (unhide HA).mono ?_
              rintro e w' ⟨rfl, m, rfl⟩
              go_wp2
              go_ret
              exact ⟨ret_bool HQ.out.symm, Below.drewN1 (unhide HB) _⟩
            · rw [if_neg k5] at hq
              have kk5 : (kd == 5) = false := by simpa using k5
              by_cases k6 : kd = 6
              · subst k6
                have HA := hide (sumHolds_any (h3.below hb0) (ht.below hb0) g3 hm (by omega))
                have HQ : Hid (q = linB ar t) := hide hq
                generalize linB ar t = p at *
                clear h1 h2 h3 ht g1 g3 hm hq hb0 hl k1 k2 k3 k4 k5
                go_enter Try.func7, Try.ntmps7
                go_wp2_with fail
                refine (unhide HA).mono ?_
                rintro e w' ⟨rfl, m, rfl⟩
                go_wp2
                go_ret
                exact ⟨ret_bool HQ.out.symm, Below.drewN1 (unhide HB) _⟩
              · rw [if_neg k6] at hq
                have kk6 : (kd == 6) = false := by simpa using k6
                have HQ : Hid (q = false) := hide hq
                clear h1 h2 h3 ht g1 g3 hm hq hb0 hl k1 k2 k3 k4 k5 k6
                go_enter Try.func7, Try.ntmps7
                go_wp2
                go_ret
                exact ⟨ret_bool HQ.out.symm, unhide HB⟩
  · have hgd : ((t.length : Int) != (sc.length : Int)) = true := by rw [bne_iff_ne]; omega
    rw [if_neg hl] at hq
    have HQ : Hid (q = false) := hide hq
    clear h1 h2 h3 ht g1 g3 hm hq hb0 hl
    go_enter Try.func7, Try.ntmps7
    go_wp2
    go_ret
    exact ⟨ret_bool HQ.out.symm, unhide HB⟩

/-- What a row costs. -/
def costB (s : Sft) (t : List Int) : Int := if t ∈ s.rows then s.costs.getD (lowN s.rows t) s.dflt else s.dflt

set_option maxHeartbeats 2000000 in
theorem cost_any {s : Sft} {t : List Int} {v vt : Value} {w : World} (h : SftV w v s) (ht : Ints w vt t) (hs : AscL s.rows) (hlen : s.rows.length < 100000000) :
    Calls Try.prog 14 #[v, vt] w fun e w' => e = .returned (.int .i64 (costB s t)) ∧ Below w.heap.size w w' := by
  obtain ⟨sc, ll, co, df⟩ := s
  obtain ⟨vs, vr, va, rfl, h1, h2, h3⟩ := h
  simp only [] at h1 h2 h3 hs hlen
  obtain ⟨a1, c1, rfl, hl1, hc1⟩ := h1.form
  obtain ⟨a2, c2, rfl, hl2, hc2⟩ := h2.form
  obtain ⟨a3, c3, rfl, hl3, hc3⟩ := h3.form
  obtain ⟨b, cb, rfl, hlb, hcb⟩ := ht.form
  unfold maxLen at hc1 hc2 hc3 hcb
  simp only []
  have hb0 := (Below.refl w.heap.size w).alloc (Nat.le_refl _) (.cells #[.slice a1 sc.length c1, .slice a2 ll.length c2, .slice a3 co.length c3, .int .i64 df] 43)
  have HB := hide hb0
  have HA := hide (find_any (h2.below hb0) (ht.below hb0) hs (by omega))
  have hat := isAt_low hs t
  have hlo := lowN_le ll t
  obtain ⟨q, hq⟩ : ∃ q, q = costB ⟨sc, ll, co, df⟩ t := ⟨_, rfl⟩
  rw [← hq]
  unfold costB at hq
  simp only [] at hq
  rw [hat] at HA
  by_cases hm : t ∈ ll
  · rw [if_pos hm] at hq
    rw [decide_eq_true hm] at HA
    generalize lowN ll t = k at *
    by_cases hk : k < co.length
    · have hco := h3.below hb0
      obtain ⟨bb, oo, rfl, hcell⟩ := hco.at hk
      have hg : co.getD k df = co[k] := by simp [List.getD_eq_getElem?_getD, hk]
      rw [hg] at hq
      have HQ := hide hq
      clear h1 h2 h3 ht hs hq hb0 hat hm hco hg
      go_enter Try.func14, Try.ntmps14
      go_wp2_with fail
      refine (unhide HA).mono ?_
      rintro e w' ⟨rfl, m, rfl⟩
      go_wp2
      go_ret
      exact ⟨ret_int HQ.out.symm, Below.drewN1 (unhide HB) _⟩
    · have hg : co.getD k df = df := by simp [List.getD_eq_getElem?_getD, List.getElem?_eq_none (Nat.le_of_not_lt hk)]
      rw [hg] at hq
      have HQ := hide hq
      clear h1 h2 h3 ht hs hq hb0 hat hm hg
      go_enter Try.func14, Try.ntmps14
      go_wp2_with fail
      refine (unhide HA).mono ?_
      rintro e w' ⟨rfl, m, rfl⟩
      go_wp2
      go_ret
      exact ⟨ret_int HQ.out.symm, Below.drewN1 (unhide HB) _⟩
  · rw [if_neg hm] at hq
    rw [decide_eq_false hm] at HA
    generalize lowN ll t = k at *
    have HQ := hide hq
    clear h1 h2 h3 ht hs hq hb0 hat hm
    go_enter Try.func14, Try.ntmps14
    go_wp2_with fail
    refine (unhide HA).mono ?_
    rintro e w' ⟨rfl, m, rfl⟩
    go_wp2
    go_ret
    exact ⟨ret_int HQ.out.symm, Below.drewN1 (unhide HB) _⟩

end Go.Proofs.Ytflibcfecnhjgaa
