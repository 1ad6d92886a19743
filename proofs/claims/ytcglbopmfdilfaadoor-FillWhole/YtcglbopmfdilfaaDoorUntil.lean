/-
  A region that draws its order and whose last operation writes a cell that an earlier one reads: the condition on the world is asked for ahead of that last operation alone. Nothing of the program is spoken of here.
-/
import Derived.Test.YtcglbopmfdilfaaDoorBase
import Derived.Deep.RegionHeld3
namespace Go.Proofs.YtcglbopmfdilfaaDoor
open Go.RowKit
set_option linter.unusedVariables false
set_option linter.unusedSimpArgs false

section
variable {P : Program} {ops : Array Oper} {Q : Exit → Act → World → Prop} {md : Region.Mode} {S : World → Prop} {st : Nat}

/-- Whatever order is picked; S holds behind each operation but number st. -/
def wpTill (P : Program) (md : Region.Mode) (ops : Array Oper) (Q : Exit → Act → World → Prop) (S : World → Prop) (st : Nat) : Nat → Array Bool → Act → World → Prop
  | 0, done, a, w => Region.ready md ops done = [] ∧ Q .normal a w
  | n + 1, done, a, w =>
    (Region.ready md ops done = [] → Q .normal a w) ∧
    ∀ k ∈ Region.ready md ops done, wpOp P ops Q k (fun b u => (k ≠ st → S u) ∧ wpTill P md ops Q S st n (done.setIfInBounds k true) b u) a w

theorem wpTill.any : ∀ (n : Nat) (done : Array Bool) (a : Act) (w : World), wpTill P md ops Q S st n done a w → wpAny P md ops Q n done a w
  | 0, _, _, _, h => h
  | n + 1, _, _, _, h => ⟨h.1, fun k hk => wpOp_mono (fun b u h' => wpTill.any n _ b u h'.2) (h.2 k hk)⟩

/-- Does number st wait for number i? -/
def waits (md : Region.Mode) (ops : Array Oper) (st i : Nat) : Bool := match ops[st]? with
  | none => false
  | some o => o.after.any fun e => Region.binds md e && e.on == i

theorem not_ready {done : Array Bool} {i : Nat} (hw : waits md ops st i = true) (hi : i ∈ Region.ready md ops done) : st ∉ Region.ready md ops done := by
  intro hst
  obtain ⟨_, o, ho, hall⟩ := mem_ready.1 hst
  unfold waits at hw
  rw [ho] at hw
  obtain ⟨e, he, hb⟩ := Array.any_eq_true'.1 hw
  simp only [Bool.and_eq_true, beq_iff_eq] at hb
  have h1 := hall e he hb.1
  rw [hb.2] at h1
  have h0 := (mem_ready.1 hi).1
  rcases Nat.lt_or_ge i done.size with h' | h'
  · simp [h'] at h0 h1; rw [h0] at h1; cases h1
  · simp [Array.getElem?_eq_none h'] at h1

theorem wpTill.first {i : Nat} {o : Oper} {v : Value} (hi : ops[i]? = some o) (hsel : ∀ (j : Nat) (o : Oper) cs b, ops[j]? = some o → o.op ≠ .select cs b) (hw : waits md ops st i = true)
    (hQ : ∀ c a w, Q (.panic c) (a.put o.dst v) w → Q (.panic c) a w) (n : Nat) : ∀ (done : Array Bool) (a : Act) (w : World),
      (∀ j q, ops[j]? = some q → j ≠ i → done.getD j true = false → (∀ e ∈ q.after, Region.binds md e = true → e.on ≠ i) → o.apart ops q = true) →
      i ∈ Region.ready md ops done → YieldsIf P ops S o v a → S w →
      wpTill P md ops Q S st n (done.setIfInBounds i true) (a.put o.dst v) w → wpTill P md ops Q S st (n + 1) done a w := by
  induction n with
  | zero =>
    intro done a w _ hr hy hS H
    refine ⟨fun h => absurd (h ▸ hr) (by simp), fun j hj => ?_⟩
    by_cases hji : j = i
    · subst hji; exact hy.wpOp hi hS ⟨fun _ => hS, H⟩
    · exact absurd (H.1 ▸ ready_mono hj hji) (by simp)
  | succ n ih =>
    intro done a w hfree hr hy hS H
    refine ⟨fun h => absurd (h ▸ hr) (by simp), fun j hj => ?_⟩
    by_cases hji : j = i
    · subst hji; exact hy.wpOp hi hS ⟨fun _ => hS, H⟩
    have hjst : j ≠ st := fun e => not_ready hw hr (e ▸ hj)
    obtain ⟨hun, q, hq, hall⟩ := mem_ready.1 hj
    have hno : ∀ e ∈ q.after, Region.binds md e = true → e.on ≠ i := fun e he hb heq => by
      have h1 := hall e he hb
      rw [heq] at h1
      have h0 := (mem_ready.1 hr).1
      rcases Nat.lt_or_ge i done.size with h' | h'
      · simp [h'] at h0 h1; rw [h0] at h1; cases h1
      · simp [Array.getElem?_eq_none h'] at h1
    have step := wpOp_putIf hq (hfree j q hq hji hun hno) (fun cs b => hsel i o cs b hi) (fun cs b => hsel j q cs b hq) hQ hy (H.2 j (ready_mono hj hji))
    refine wpOp_mono (fun b u h3 => ?_) step
    obtain ⟨hy', hS', H'⟩ := h3
    refine ⟨fun _ => hS' hjst, ih _ b u (fun k r hk hki hkd hkn => hfree k r hk hki ?_ hkn) (ready_mono hr (Ne.symm hji)) hy' (hS' hjst) ?_⟩
    · by_cases hjk : j = k
      · subst hjk; exact hun
      · rw [getD_set_ne true hjk] at hkd; exact hkd
    · rw [Array.setIfInBounds_comm _ _ hji]; exact H'

/-- Number i is taken first. -/
theorem till_take {i : Nat} {o : Oper} {v : Value} {n : Nat} {done : Array Bool} {a : Act} {w : World} (hi : ops[i]? = some o) (hs : Region.noSelect ops = true) (hw : waits md ops st i = true) (hf : Region.free md ops done i = true)
    (hr : (Region.ready md ops done).contains i = true) (hQ : ∀ c a w, Q (.panic c) (a.put o.dst v) w → Q (.panic c) a w) (hy : YieldsIf P ops S o v a) (hS : S w)
    (h : wpTill P md ops Q S st n (done.setIfInBounds i true) (a.put o.dst v) w) : wpTill P md ops Q S st (n + 1) done a w :=
  wpTill.first hi (Region.noSelect_spec hs) hw hQ n done a w (Region.free_spec hi hf) (by simpa using hr) hy hS h

/-- One alone may come up. -/
theorem till_one {i : Nat} {o : Oper} {n : Nat} {done : Array Bool} {a : Act} {w : World} (hr : Region.ready md ops done = [i]) (ho : ops[i]? = some o) (hg : o.guard = none) (hne : i ≠ st)
    (h : ∀ K : Act → World → Prop, Shut (∀ b u, S u → (S u → wpTill P md ops Q S st n (done.setIfInBounds i true) b u) → K b u) → Oper.wp P o a w K Q) : wpTill P md ops Q S st (n + 1) done a w := by
  refine ⟨fun h0 => absurd (hr.symm.trans h0) (by simp), fun j hj => ?_⟩
  rw [hr, List.mem_singleton] at hj
  subst hj
  refine wpOp_step ho fun K hK => ?_
  have hwd : Region.wanted o (yielded ops a.tmps) = true := by simp [Region.wanted, hg]
  rw [if_pos hwd]
  exact h K fun b u hS hT => hK b u ⟨fun _ => hS, hT hS⟩

/-- The last one. -/
theorem till_last {o : Oper} {n : Nat} {done : Array Bool} {a : Act} {w : World} (hr : Region.ready md ops done = [st]) (ho : ops[st]? = some o) (hg : o.guard = none) (he : Region.ready md ops (done.setIfInBounds st true) = [])
    (h : ∀ K : Act → World → Prop, Shut (∀ b u, Q .normal b u → K b u) → Oper.wp P o a w K Q) : wpTill P md ops Q S st (n + 1) done a w := by
  refine ⟨fun h0 => absurd (hr.symm.trans h0) (by simp), fun j hj => ?_⟩
  rw [hr, List.mem_singleton] at hj
  subst hj
  refine wpOp_step ho fun K hK => ?_
  have hwd : Region.wanted o (yielded ops a.tmps) = true := by simp [Region.wanted, hg]
  rw [if_pos hwd]
  refine h K fun b u hq => hK b u ⟨fun hn => absurd rfl hn, ?_⟩
  cases n with
  | zero => exact ⟨he, hq⟩
  | succ n => exact ⟨fun _ => hq, by rw [he]; simp⟩

theorem wp_region_till {id st : Nat} {a : Act} {w : World} (hm : P.follows .mixedOrders = true) (h : wpTill P .any ops Q S st ops.size (Array.replicate ops.size false) a w.drew) : (Code.region id ops true).wp P Q a w :=
  wp_region_any hm (wpTill.any _ _ _ _ h)
end

end Go.Proofs.YtcglbopmfdilfaaDoor
