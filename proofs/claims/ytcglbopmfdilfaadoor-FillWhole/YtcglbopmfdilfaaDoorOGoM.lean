/-
  The document's orders are the program's: plain mathematics.
-/
import Derived.Test.YtcglbopmfdilfaaDoorORefGoM
import Derived.Test.YtcglbopmfdilfaaDoorORefMiss
namespace Go.Proofs.YtcglbopmfdilfaaDoor
set_option linter.unusedVariables false
set_option linter.unusedSimpArgs false

/-- The document's truths are those of a search, less who went. -/
structure SameS (s : Srch) (M : List (List Bool)) : Prop where
  ok : MatOk M
  len : M.length = s.g.length
  tl : s.t.length = s.g.length
  at_ : ∀ x y : Nat, atM M x y = true ↔ besB s.g x y = true ∧ s.t.getD x false = false ∧ s.t.getD y false = false

theorem SameS.start {M : List (List Bool)} (h : MatOk M) : SameS (begS (graphR M)) M :=
  ⟨h, by simp [begS, graphR_len], by simp [begS], fun x y => by
    have e : ∀ i, (List.replicate (graphR M).length false).getD i false = false := fun i => by
      rw [List.getD_eq_getElem?_getD, List.getElem?_replicate]; split <;> rfl
    simp only [begS, e, and_true, graphR_at h.wide]⟩

theorem SameS.nb {s : Srch} {M : List (List Bool)} (h : SameS s M) {a : Nat} (ha : s.t.getD a false = false) : nbL (graphR M) (a : Int) = besT s.g s.t (a : Int) false := by
  refine Asc.ext (nbL_asc _ _) (besT_asc _ _ _ _) (fun x => ?_)
  rw [mem_nbL', mem_besT, graphR_len, h.len]
  simp only [Int.toNat_natCast, graphR_at h.ok.wide, h.at_]
  constructor
  · rintro ⟨h1, h2, h3, h4, h5⟩
    exact ⟨⟨h1, h2, h3⟩, h5⟩
  · rintro ⟨⟨h1, h2, h3⟩, h5⟩
    exact ⟨h1, h2, h3, ha, h5⟩

theorem apUp_congr {g g' : List Nat} {L : List Int} (h : ∀ b ∈ L, ∀ c ∈ L, besI g b c = besI g' b c) (k : Nat) (hk : k ≤ L.length) : apUp g L k = apUp g' L k := by
  induction k with
  | zero => rfl
  | succ k ih =>
    rw [apUp_succ, apUp_succ, ih (by omega)]
    congr 1
    unfold apRow
    have e : L.getD k 0 = L[k] := by rw [List.getD_eq_getElem?_getD, List.getElem?_eq_getElem (by omega)]; rfl
    rw [e]
    congr 1
    refine List.filter_congr (fun c hc => ?_)
    rw [h L[k] (List.getElem_mem _) c (List.mem_of_mem_take hc)]

theorem SameS.miss {s : Srch} {M : List (List Bool)} (h : SameS s M) {a : Nat} (ha : s.t.getD a false = false) : missN (graphR M) (a : Int) = (apartL s.g s.t (a : Int)).length := by
  unfold missN apartL
  rw [h.nb ha]
  rw [apUp_congr (g' := s.g) (fun b hb c hc => ?_) _ (Nat.le_refl _)]
  obtain ⟨⟨_, hb1, hb2⟩, hb3⟩ := mem_besT.1 hb
  obtain ⟨⟨_, hc1, hc2⟩, hc3⟩ := mem_besT.1 hc
  rw [besI_eq, besI_eq, graphR_len, h.len, hb1, hc1, Bool.true_and, Bool.true_and, Bool.true_and, Bool.true_and, graphR_at h.ok.wide, Bool.eq_iff_iff, h.at_]
  exact ⟨fun h => h.1, fun h => ⟨h, hb3, hc3⟩⟩

theorem joinPs_bes {g : List Nat} (hn : g.length ≤ 64) (ps : List (Int × Int)) (x y : Nat) :
    besB (joinPs g ps) x y = true ↔ besB g x y = true ∨ (x < g.length ∧ y < g.length ∧ x ≠ y ∧ ∃ p ∈ ps, (p.1 = (x : Int) ∧ p.2 = (y : Int)) ∨ (p.1 = (y : Int) ∧ p.2 = (x : Int))) := by
  induction ps generalizing g with
  | nil => simp [joinPs]
  | cons p r ih =>
    have e : joinPs g (p :: r) = joinPs (joinN g [p.1, p.2]) r := rfl
    rw [e, ih (by rw [joinN_len]; exact hn), joinN_bes hn, joinN_len, Bool.or_eq_true, decide_eq_true_eq]
    simp only [List.mem_cons, List.not_mem_nil, or_false]
    constructor
    · rintro ((h | ⟨h1, h2, h3, h4, h5⟩) | ⟨h1, h2, h3, q, hq, h4⟩)
      · exact .inl h
      · refine .inr ⟨h1, h2, h5, p, .inl rfl, ?_⟩
        rcases h3 with h3 | h3 <;> rcases h4 with h4 | h4
        · omega
        · exact .inl ⟨h3.symm, h4.symm⟩
        · exact .inr ⟨h4.symm, h3.symm⟩
        · omega
      · exact .inr ⟨h1, h2, h3, q, .inr hq, h4⟩
    · rintro (h | ⟨h1, h2, h3, q, hq, h4⟩)
      · exact .inl (.inl h)
      · rcases hq with rfl | hq
        · refine .inl (.inr ⟨h1, h2, ?_, ?_, h3⟩)
          · rcases h4 with h4 | h4
            · exact .inl h4.1.symm
            · exact .inr h4.2.symm
          · rcases h4 with h4 | h4
            · exact .inr h4.2.symm
            · exact .inl h4.1.symm
        · exact .inr ⟨h1, h2, h3, q, hq, h4⟩

theorem getD_set_ne {t : List Bool} {a x : Nat} (h : x ≠ a) (v : Bool) : (t.set a v).getD x false = t.getD x false := by
  rw [List.getD_eq_getElem?_getD, List.getD_eq_getElem?_getD, List.getElem?_set, if_neg (fun e => h e.symm)]
theorem getD_set_eq {t : List Bool} {a : Nat} (h : a < t.length) (v : Bool) : (t.set a v).getD a false = v := by
  rw [List.getD_eq_getElem?_getD, List.getElem?_set, if_pos rfl, if_pos h]; rfl

theorem besT_gone {g : List Nat} (hr : RightG g) (t : List Bool) (a : Nat) (v c : Bool) : besT g (t.set a v) (a : Int) c = besT g t (a : Int) c := by
  unfold besT
  refine List.filter_congr (fun x hx => ?_)
  obtain ⟨_, h2, h3⟩ := mem_nbL'.1 hx
  have hne : x.toNat ≠ a := fun e => by
    rw [Int.toNat_natCast, e, hr.irr] at h3; cases h3
  rw [getD_set_ne hne]

/-- Who goes joins the same. -/
theorem SameS.go {s : Srch} {M M' : List (List Bool)} {how : Int} {a : Nat} (h : SameS s M) (hr : RightG s.g) (hg : GoOk M M' a) (ha : a < s.g.length) (hta : s.t.getD a false = false) (h3 : how ≠ 3) : SameS (takeS how s (a : Int)) M' := by
  have hn : s.g.length ≤ 64 := by have := hr.few; omega
  have htl := h.tl
  unfold takeS
  rw [if_neg h3]
  refine ⟨hg.ok, by simp only [joinPs_len]; rw [hg.len, h.len], by simp only [joinPs_len, List.length_set]; exact htl, fun x y => ?_⟩
  have eap : apartL s.g (s.t.set a true) (a : Int) = apartL s.g s.t (a : Int) := by unfold apartL; rw [besT_gone hr]
  simp only [Int.toNat_natCast]
  rw [eap, hg.at_]
  have key : ∀ x y : Nat, x ≠ a → y ≠ a → s.t.getD x false = false → s.t.getD y false = false →
      (besB (joinPs s.g (apartL s.g s.t (a : Int))) x y = true ↔ atM M x y = true ∨ (x ≠ y ∧ atM M a x = true ∧ atM M a y = true)) := fun x y hx hy htx hty => by
    rw [joinPs_bes hn, h.at_, h.at_, h.at_]
    have hmem : ∀ z : Nat, (z : Int) ∈ besT s.g s.t (a : Int) false ↔ besB s.g a z = true ∧ s.t.getD z false = false := fun z => by
      rw [mem_besT, ptB_nat, ptB_nat]
      simp only [Int.toNat_natCast, decide_eq_true_eq]
      exact ⟨fun ⟨⟨_, _, h1⟩, h2⟩ => ⟨h1, h2⟩, fun ⟨h1, h2⟩ => ⟨⟨ha, hr.pts _ _ h1, h1⟩, h2⟩⟩
    constructor
    · rintro (h1 | ⟨h1, h2, hne, p, hp, h4⟩)
      · exact .inl ⟨h1, htx, hty⟩
      · obtain ⟨b, c⟩ := p
        obtain ⟨i, j, hi, hj, hji, _, rfl, rfl, _⟩ := (mem_apUp (Nat.le_refl _)).1 hp
        refine .inr ⟨hne, ?_⟩
        rcases h4 with ⟨e1, e2⟩ | ⟨e1, e2⟩
        · have m1 := (hmem x).1 (e1 ▸ List.getElem_mem hi)
          have m2 := (hmem y).1 (e2 ▸ List.getElem_mem hj)
          exact ⟨⟨m1.1, hta, m1.2⟩, m2.1, hta, m2.2⟩
        · have m1 := (hmem y).1 (e1 ▸ List.getElem_mem hi)
          have m2 := (hmem x).1 (e2 ▸ List.getElem_mem hj)
          exact ⟨⟨m2.1, hta, m2.2⟩, m1.1, hta, m1.2⟩
    · rintro (⟨h1, _, _⟩ | ⟨hne, ⟨h1, _, _⟩, h2, _, _⟩)
      · exact .inl h1
      · by_cases hb : besB s.g x y = true
        · exact .inl hb
        · refine .inr ⟨hr.pts _ _ h1, hr.pts _ _ h2, hne, ?_⟩
          have hbf : besB s.g x y = false := by simpa using hb
          have hbf' : besB s.g y x = false := by
            rw [Bool.eq_false_iff]; intro h'; exact hb (hr.sym _ _ h')
          have hxl := hr.pts _ _ h1
          have hyl := hr.pts _ _ h2
          obtain ⟨i, hi, e1⟩ := List.getElem_of_mem ((hmem x).2 ⟨h1, htx⟩)
          obtain ⟨j, hj, e2⟩ := List.getElem_of_mem ((hmem y).2 ⟨h2, hty⟩)
          have hij : i ≠ j := fun e => by subst e; exact hne (by omega)
          rcases Nat.lt_or_gt_of_ne hij with h5 | h5
          · exact ⟨((y : Int), (x : Int)), (mem_apUp (Nat.le_refl _)).2 ⟨j, i, hj, hi, h5, hj, e2.symm, e1.symm, by rw [besI_nat hyl hxl]; exact hbf'⟩, .inr ⟨rfl, rfl⟩⟩
          · exact ⟨((x : Int), (y : Int)), (mem_apUp (Nat.le_refl _)).2 ⟨i, j, hi, hj, h5, hi, e1.symm, e2.symm, by rw [besI_nat hxl hyl]; exact hbf⟩, .inl ⟨rfl, rfl⟩⟩
  have hgx : ∀ x : Nat, (s.t.set a true).getD x false = false ↔ x ≠ a ∧ s.t.getD x false = false := fun x => by
    by_cases e : x = a
    · subst e
      rw [getD_set_eq (by omega)]; simp
    · rw [getD_set_ne e]; simp [e]
  rw [hgx, hgx]
  constructor
  · rintro ⟨h1, h2, h4⟩
    have htx : s.t.getD x false = false := by
      rcases h1 with h1 | ⟨_, h1, _⟩
      · exact ((h.at_ _ _).1 h1).2.1
      · exact ((h.at_ _ _).1 h1).2.2
    have hty : s.t.getD y false = false := by
      rcases h1 with h1 | ⟨_, _, h1⟩
      · exact ((h.at_ _ _).1 h1).2.2
      · exact ((h.at_ _ _).1 h1).2.2
    exact ⟨(key x y h2 h4 htx hty).2 h1, ⟨h2, htx⟩, h4, hty⟩
  · rintro ⟨h1, ⟨h2, htx⟩, h4, hty⟩
    exact ⟨(key x y h2 h4 htx hty).1 h1, h2, h4⟩

/-- What a point is worth by the document. -/
def docW (fill : Bool) (M : List (List Bool)) (a : Int) : Nat := if fill = true then missN (graphR M) a else (nbL (graphR M) a).length
theorem SameS.worth {s : Srch} {M : List (List Bool)} (h : SameS s M) {a : Nat} (ha : s.t.getD a false = false) (fill : Bool) : (docW fill M (a : Int) : Int) = worthW (if fill = true then 1 else 2) s.g s.t (a : Int) := by
  cases fill with
  | true =>
    show (missN (graphR M) (a : Int) : Int) = fillW s.g s.t a
    rw [h.miss ha]; rfl
  | false =>
    show ((nbL (graphR M) (a : Int)).length : Int) = degW s.g s.t a
    rw [h.nb ha]; rfl

end Go.Proofs.YtcglbopmfdilfaaDoor
