/-
  Plain mathematics of rows that rise, as sets: nothing of the program is spoken of here.
-/
import Derived.Test.YtcglbopmfdilfaaDoorLists
namespace Go.Proofs.YtcglbopmfdilfaaDoor
set_option linter.unusedVariables false
set_option linter.unusedSimpArgs false

abbrev Asc (l : List Int) : Prop := l.Pairwise (· < ·)

def risB : List Int → Bool
  | [] => true
  | [_] => true
  | x :: y :: r => decide (x < y) && risB (y :: r)

theorem risB_iff : ∀ l : List Int, risB l = true ↔ Asc l
  | [] => by simp [risB, Asc]
  | [x] => by simp [risB, Asc]
  | x :: y :: r => by
    have ih := risB_iff (y :: r)
    simp only [risB, Bool.and_eq_true, decide_eq_true_eq, ih, Asc, List.pairwise_cons]
    constructor
    · rintro ⟨h, h1, h2⟩
      refine ⟨?_, h1, h2⟩
      intro z hz
      rcases List.mem_cons.1 hz with rfl | hz
      · exact h
      · have := h1 z hz; omega
    · rintro ⟨h, h1, h2⟩
      exact ⟨h y (by simp), h1, h2⟩

theorem risB_step {l : List Int} {k : Nat} (hk : k + 1 < l.length) : risB (l.drop k) = (decide (l[k] < l[k + 1]) && risB (l.drop (k + 1))) := by
  rw [List.drop_eq_getElem_cons (by omega : k < l.length), List.drop_eq_getElem_cons hk, risB]

theorem risB_end {l : List Int} {k : Nat} (hk : l.length ≤ k + 1) : risB (l.drop k) = true := by
  have h : (l.drop k).length ≤ 1 := by simp; omega
  match l.drop k, h with
  | [], _ => rfl
  | [_], _ => rfl
  | _ :: _ :: _, h => simp at h

theorem Asc.ext : ∀ {a b : List Int}, Asc a → Asc b → (∀ x, x ∈ a ↔ x ∈ b) → a = b
  | [], [], _, _, _ => rfl
  | [], y :: b, _, _, h => by have := (h y).2 (by simp); simp at this
  | x :: a, [], _, _, h => by have := (h x).1 (by simp); simp at this
  | x :: a, y :: b, ha, hb, h => by
    rw [Asc, List.pairwise_cons] at ha hb
    have hxy : x = y := by
      have h1 := (h x).1 (by simp)
      have h2 := (h y).2 (by simp)
      rcases List.mem_cons.1 h1 with h1 | h1
      · exact h1
      · rcases List.mem_cons.1 h2 with h2 | h2
        · exact h2.symm
        · have := ha.1 _ h2; have := hb.1 _ h1; omega
    subst hxy
    have hab : a = b := by
      refine Asc.ext ha.2 hb.2 fun z => ⟨fun hz => ?_, fun hz => ?_⟩
      · have h1 := (h z).1 (by simp [hz])
        rcases List.mem_cons.1 h1 with h1 | h1
        · have := ha.1 _ hz; omega
        · exact h1
      · have h1 := (h z).2 (by simp [hz])
        rcases List.mem_cons.1 h1 with h1 | h1
        · have := hb.1 _ hz; omega
        · exact h1
    rw [hab]

theorem Asc.nodup : ∀ {a : List Int}, Asc a → a.Nodup
  | [], _ => List.nodup_nil
  | x :: a, h => by
    rw [Asc, List.pairwise_cons] at h
    exact List.nodup_cons.2 ⟨fun hx => by have := h.1 x hx; omega, Asc.nodup h.2⟩
theorem Asc.filter {a : List Int} (h : Asc a) (p : Int → Bool) : Asc (a.filter p) := List.Pairwise.filter p h

/-- What is kept of two rows, gone through side by side. -/
def mrg (keep : Bool → Bool → Bool) : List Int → List Int → List Int
  | [], [] => []
  | x :: a, [] => (if keep true false then [x] else []) ++ mrg keep a []
  | [], y :: b => (if keep false true then [y] else []) ++ mrg keep [] b
  | x :: a, y :: b =>
    if x < y then (if keep true false then [x] else []) ++ mrg keep a (y :: b)
    else if y < x then (if keep false true then [y] else []) ++ mrg keep (x :: a) b
    else (if keep true true then [x] else []) ++ mrg keep a b

section
variable {keep : Bool → Bool → Bool} {a b : List Int} {i k : Nat}
theorem mrg_at_lt (hi : i < a.length) (hk : k < b.length) (h : a[i] < b[k]) : mrg keep (a.drop i) (b.drop k) = (if keep true false then [a[i]] else []) ++ mrg keep (a.drop (i + 1)) (b.drop k) := by
  rw [List.drop_eq_getElem_cons hi, List.drop_eq_getElem_cons hk, mrg, if_pos h]
theorem mrg_at_gt (hi : i < a.length) (hk : k < b.length) (h : b[k] < a[i]) : mrg keep (a.drop i) (b.drop k) = (if keep false true then [b[k]] else []) ++ mrg keep (a.drop i) (b.drop (k + 1)) := by
  rw [List.drop_eq_getElem_cons hi, List.drop_eq_getElem_cons hk, mrg, if_neg (by omega), if_pos h]
theorem mrg_at_eq (hi : i < a.length) (hk : k < b.length) (h : a[i] = b[k]) : mrg keep (a.drop i) (b.drop k) = (if keep true true then [a[i]] else []) ++ mrg keep (a.drop (i + 1)) (b.drop (k + 1)) := by
  rw [List.drop_eq_getElem_cons hi, List.drop_eq_getElem_cons hk, mrg, if_neg (by omega), if_neg (by omega)]
theorem mrg_at_left (hi : i < a.length) (hk : b.length ≤ k) : mrg keep (a.drop i) (b.drop k) = (if keep true false then [a[i]] else []) ++ mrg keep (a.drop (i + 1)) (b.drop k) := by
  rw [List.drop_eq_getElem_cons hi, List.drop_eq_nil_of_le hk, mrg]
theorem mrg_at_right (hi : a.length ≤ i) (hk : k < b.length) : mrg keep (a.drop i) (b.drop k) = (if keep false true then [b[k]] else []) ++ mrg keep (a.drop i) (b.drop (k + 1)) := by
  rw [List.drop_eq_getElem_cons hk, List.drop_eq_nil_of_le hi, mrg]
theorem mrg_at_end (hi : a.length ≤ i) (hk : b.length ≤ k) : mrg keep (a.drop i) (b.drop k) = [] := by
  rw [List.drop_eq_nil_of_le hi, List.drop_eq_nil_of_le hk, mrg]
end

theorem mem_ite {c : Bool} {x z : Int} : z ∈ (if c then [x] else []) ↔ c = true ∧ z = x := by cases c <;> simp

theorem mem_mrg (keep : Bool → Bool → Bool) : ∀ (a b : List Int), Asc a → Asc b → ∀ z, z ∈ mrg keep a b ↔ (z ∈ a ∨ z ∈ b) ∧ keep (decide (z ∈ a)) (decide (z ∈ b)) = true
  | [], [], _, _, z => by simp [mrg]
  | x :: a, [], ha, hb, z => by
    rw [Asc, List.pairwise_cons] at ha
    have ih := mem_mrg keep a [] ha.2 hb z
    simp only [mrg, List.mem_append, mem_ite, ih]
    by_cases hz : z = x
    · subst hz
      have : z ∉ a := fun h => by have := ha.1 z h; omega
      simp [this]
    · simp [hz]
  | [], y :: b, ha, hb, z => by
    rw [Asc, List.pairwise_cons] at hb
    have ih := mem_mrg keep [] b ha hb.2 z
    simp only [mrg, List.mem_append, mem_ite, ih]
    by_cases hz : z = y
    · subst hz
      have : z ∉ b := fun h => by have := hb.1 z h; omega
      simp [this]
    · simp [hz]
  | x :: a, y :: b, ha, hb, z => by
    have ha' := ha; have hb' := hb
    rw [Asc, List.pairwise_cons] at ha hb
    unfold mrg
    split
    · rename_i h
      have ih := mem_mrg keep a (y :: b) ha.2 hb' z
      simp only [List.mem_append, mem_ite, ih]
      by_cases hz : z = x
      · subst hz
        have h1 : z ∉ a := fun h => by have := ha.1 z h; omega
        have h2 : z ∉ b := fun h => by have := hb.1 z h; omega
        have h3 : z ≠ y := by omega
        simp [h1, h2, h3]
      · simp [hz]
    · split
      · rename_i h' h
        have ih := mem_mrg keep (x :: a) b ha' hb.2 z
        simp only [List.mem_append, mem_ite, ih]
        by_cases hz : z = y
        · subst hz
          have h1 : z ∉ a := fun h => by have := ha.1 z h; omega
          have h2 : z ∉ b := fun h => by have := hb.1 z h; omega
          have h3 : z ≠ x := by omega
          simp [h1, h2, h3]
        · simp [hz]
      · rename_i h1 h2
        have hxy : x = y := by omega
        subst hxy
        have ih := mem_mrg keep a b ha.2 hb.2 z
        simp only [List.mem_append, mem_ite, ih]
        by_cases hz : z = x
        · subst hz
          have h1 : z ∉ a := fun h => by have := ha.1 z h; omega
          have h2 : z ∉ b := fun h => by have := hb.1 z h; omega
          simp [h1, h2]
        · simp [hz]

theorem asc_mrg (keep : Bool → Bool → Bool) : ∀ (a b : List Int), Asc a → Asc b → Asc (mrg keep a b)
  | [], [], _, _ => by simp [mrg, Asc]
  | x :: a, [], ha, hb => by
    have ha' := ha
    rw [Asc, List.pairwise_cons] at ha
    have ih := asc_mrg keep a [] ha.2 hb
    have hm := mem_mrg keep a [] ha.2 hb
    simp only [mrg]
    refine List.pairwise_append.2 ⟨by split <;> simp, ih, fun u hu v hv => ?_⟩
    rw [mem_ite] at hu
    have := ((hm v).1 hv).1
    simp at this
    have := ha.1 v this; omega
  | [], y :: b, ha, hb => by
    rw [Asc, List.pairwise_cons] at hb
    have ih := asc_mrg keep [] b ha hb.2
    have hm := mem_mrg keep [] b ha hb.2
    simp only [mrg]
    refine List.pairwise_append.2 ⟨by split <;> simp, ih, fun u hu v hv => ?_⟩
    rw [mem_ite] at hu
    have := ((hm v).1 hv).1
    simp at this
    have := hb.1 v this; omega
  | x :: a, y :: b, ha, hb => by
    have ha' := ha; have hb' := hb
    rw [Asc, List.pairwise_cons] at ha hb
    unfold mrg
    split
    · have ih := asc_mrg keep a (y :: b) ha.2 hb'
      have hm := mem_mrg keep a (y :: b) ha.2 hb'
      refine List.pairwise_append.2 ⟨by split <;> simp, ih, fun u hu v hv => ?_⟩
      rw [mem_ite] at hu
      have := ((hm v).1 hv).1
      simp at this
      rcases this with h | h | h
      · have := ha.1 v h; omega
      · omega
      · have := hb.1 v h; omega
    · split
      · have ih := asc_mrg keep (x :: a) b ha' hb.2
        have hm := mem_mrg keep (x :: a) b ha' hb.2
        refine List.pairwise_append.2 ⟨by split <;> simp, ih, fun u hu v hv => ?_⟩
        rw [mem_ite] at hu
        have := ((hm v).1 hv).1
        simp at this
        rcases this with (h | h) | h
        · omega
        · have := ha.1 v h; omega
        · have := hb.1 v h; omega
      · have ih := asc_mrg keep a b ha.2 hb.2
        have hm := mem_mrg keep a b ha.2 hb.2
        refine List.pairwise_append.2 ⟨by split <;> simp, ih, fun u hu v hv => ?_⟩
        rw [mem_ite] at hu
        have := ((hm v).1 hv).1
        rcases this with h | h
        · have := ha.1 v h; omega
        · have := hb.1 v h; omega

theorem mrg_le (keep : Bool → Bool → Bool) : ∀ (a b : List Int), (mrg keep a b).length ≤ a.length + b.length
  | [], [] => by simp [mrg]
  | x :: a, [] => by have := mrg_le keep a []; simp only [mrg, List.length_append, List.length_cons]; split <;> simp at * <;> omega
  | [], y :: b => by have := mrg_le keep [] b; simp only [mrg, List.length_append, List.length_cons]; split <;> simp at * <;> omega
  | x :: a, y :: b => by
    have h1 := mrg_le keep a (y :: b); have h2 := mrg_le keep (x :: a) b; have h3 := mrg_le keep a b
    unfold mrg
    repeat' split
    all_goals simp at * <;> omega

def kOr (p q : Bool) : Bool := p || q
def kAnd (p q : Bool) : Bool := p && q
def kNot (p q : Bool) : Bool := p && !q

/-- All of both; those in both; those of the first alone: as the document has them. -/
def meetL (a b : List Int) : List Int := a.filter fun x => decide (x ∈ b)
def lessL (a b : List Int) : List Int := a.filter fun x => !decide (x ∈ b)
def joinL (a b : List Int) : List Int := List.merge a (lessL b a) (fun x y => decide (x < y))

theorem mem_meetL {a b : List Int} {x : Int} : x ∈ meetL a b ↔ x ∈ a ∧ x ∈ b := by simp [meetL]
theorem mem_lessL {a b : List Int} {x : Int} : x ∈ lessL a b ↔ x ∈ a ∧ x ∉ b := by simp [lessL]
theorem mem_joinL {a b : List Int} {x : Int} : x ∈ joinL a b ↔ x ∈ a ∨ x ∈ b := by
  simp only [joinL, List.mem_merge, mem_lessL]
  by_cases h : x ∈ a <;> simp [h]

theorem asc_merge : ∀ {a b : List Int}, Asc a → Asc b → (∀ x ∈ a, x ∉ b) → Asc (List.merge a b (fun x y => decide (x < y)))
  | [], b, _, hb, _ => by simpa using hb
  | x :: a, [], ha, _, _ => by simpa using ha
  | x :: a, y :: b, ha, hb, h => by
    have ha' := ha; have hb' := hb
    rw [Asc, List.pairwise_cons] at ha hb
    have hxy : x ≠ y := fun e => h x (by simp) (by simp [e])
    rw [List.cons_merge_cons]
    split
    · rename_i hlt
      have hlt : x < y := by simpa using hlt
      refine List.pairwise_cons.2 ⟨fun z hz => ?_, asc_merge ha.2 hb' (fun z hz => h z (by simp [hz]))⟩
      rw [List.mem_merge] at hz
      rcases hz with hz | hz
      · exact ha.1 z hz
      · rcases List.mem_cons.1 hz with rfl | hz
        · exact hlt
        · have := hb.1 z hz; omega
    · rename_i hlt
      have hlt : ¬ x < y := by simpa using hlt
      refine List.pairwise_cons.2 ⟨fun z hz => ?_, asc_merge ha' hb.2 (fun z hz hb => h z hz (by simp [hb]))⟩
      rw [List.mem_merge] at hz
      rcases hz with hz | hz
      · rcases List.mem_cons.1 hz with rfl | hz
        · omega
        · have := ha.1 z hz; omega
      · exact hb.1 z hz

theorem asc_meetL {a b : List Int} (h : Asc a) : Asc (meetL a b) := h.filter _
theorem asc_lessL {a b : List Int} (h : Asc a) : Asc (lessL a b) := h.filter _
theorem asc_joinL {a b : List Int} (ha : Asc a) (hb : Asc b) : Asc (joinL a b) := asc_merge ha (asc_lessL hb) (fun x hx h => (mem_lessL.1 h).2 hx)

theorem mrg_or {a b : List Int} (ha : Asc a) (hb : Asc b) : mrg kOr a b = joinL a b :=
  Asc.ext (asc_mrg _ _ _ ha hb) (asc_joinL ha hb) fun x => by rw [mem_mrg _ _ _ ha hb, mem_joinL]; simp [kOr]
theorem mrg_and {a b : List Int} (ha : Asc a) (hb : Asc b) : mrg kAnd a b = meetL a b :=
  Asc.ext (asc_mrg _ _ _ ha hb) (asc_meetL ha) fun x => by
    rw [mem_mrg _ _ _ ha hb, mem_meetL]; simp only [kAnd, Bool.and_eq_true, decide_eq_true_eq]
    constructor
    · exact fun h => h.2
    · exact fun h => ⟨.inl h.1, h⟩
theorem mrg_not {a b : List Int} (ha : Asc a) (hb : Asc b) : mrg kNot a b = lessL a b :=
  Asc.ext (asc_mrg _ _ _ ha hb) (asc_lessL ha) fun x => by
    rw [mem_mrg _ _ _ ha hb, mem_lessL]; simp only [kNot, Bool.and_eq_true, decide_eq_true_eq, Bool.not_eq_true', decide_eq_false_iff_not]
    constructor
    · exact fun h => h.2
    · exact fun h => ⟨.inl h.1, h⟩

end Go.Proofs.YtcglbopmfdilfaaDoor
