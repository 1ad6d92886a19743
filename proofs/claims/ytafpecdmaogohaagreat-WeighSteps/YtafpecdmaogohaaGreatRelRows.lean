/-
  Plain mathematics of rows over a scheme: a row as what it has for each variable; nothing of the program is spoken of here.
-/
import Derived.Test.YtafpecdmaogohaaGreatLawKit2
namespace Go.Proofs.YtafpecdmaogohaaGreat
set_option linter.unusedVariables false
set_option linter.unusedSimpArgs false

/-- What the row t over s has for x. -/
def getR (s t : List Int) (x : Int) : Int := t.getD (placeL s x).toNat 0

theorem place_mem {s : List Int} {x : Int} (h : x ∈ s) : ∃ k : Nat, ∃ hk : k < s.length, placeL s x = k ∧ s[k] = x := by
  rcases placeL_cases s x with ⟨_, h2⟩ | ⟨k, hk, h1, h2, _⟩
  · exact absurd h h2
  · exact ⟨k, hk, h1, h2⟩

theorem getR_map {s : List Int} (f : Int → Int) {x : Int} (hx : x ∈ s) : getR s (s.map f) x = f x := by
  obtain ⟨k, hk, h1, h2⟩ := place_mem hx
  unfold getR
  rw [h1]
  simp [hk, h2]

theorem map_getR {s t : List Int} (hn : s.Nodup) (hl : t.length = s.length) : s.map (getR s t) = t := by
  apply List.ext_getElem
  · simp [hl]
  · intro i h1 h2
    have hi : i < s.length := by simpa using h1
    rw [List.getElem_map]
    unfold getR
    rw [place_at_nodup hn hi]
    simp [h2]

theorem pick_map {s s' t : List Int} (hsub : ∀ x ∈ s', x ∈ s) (hl : t.length = s.length) : pickL t (s'.map (placeL s)) = s'.map (getR s t) := by
  induction s' with
  | nil => rfl
  | cons y r ih =>
    obtain ⟨k, hk, h1, h2⟩ := place_mem (hsub y (by simp))
    have hkt : k < t.length := by omega
    have e : pickL t ((k : Int) :: r.map (placeL s)) = t[k] :: pickL t (r.map (placeL s)) := by
      unfold pickL; rw [List.filterMap_cons]; simp [hkt]
    rw [List.map_cons, List.map_cons, h1, e, ih (fun x hx => hsub x (by simp [hx]))]
    congr 1
    unfold getR
    rw [h1]; simp [hkt]

theorem meet_sub {s vars : List Int} : ∀ x ∈ meetL s vars, x ∈ s := fun x h => (mem_meetL.1 h).1

theorem mem_proj {s vars : List Int} {ll : List (List Int)} (hw : ∀ t ∈ ll, t.length = s.length) {u : List Int} : u ∈ projL s ll vars ↔ ∃ t ∈ ll, u = (meetL s vars).map (getR s t) := by
  unfold projL cutL
  rw [(sortL_spec _).2, List.mem_map]
  constructor
  · rintro ⟨t, ht, rfl⟩; exact ⟨t, ht, pick_map meet_sub (hw t ht)⟩
  · rintro ⟨t, ht, rfl⟩; exact ⟨t, ht, pick_map meet_sub (hw t ht)⟩

theorem asc_proj (s vars : List Int) (ll : List (List Int)) : AscL (projL s ll vars) := (sortL_spec _).1
theorem proj_le (s vars : List Int) (ll : List (List Int)) : (projL s ll vars).length ≤ ll.length := by
  have := sortL_le (ll.map fun t => pickL t ((meetL s vars).map (placeL s)))
  unfold projL cutL; simpa using this

theorem Good.proj {s : List Int} {ll : List (List Int)} (g : Good s ll) (vars : List Int) : Good (meetL s vars) (projL s ll vars) := by
  refine ⟨asc_meetL g.asc, fun x hx => g.pos x (meet_sub x hx), asc_proj _ _ _, fun t ht => ?_, Nat.le_trans (meetL_le _ _) g.slen, Nat.le_trans (proj_le _ _ _) g.llen⟩
  obtain ⟨t', _, rfl⟩ := (mem_proj g.wide).1 ht
  simp

theorem sel_in {s t : List Int} {v x : Int} (hv : v ∈ s) (hl : t.length = s.length) : selB (placeL s v) x t = decide (getR s t v = x) := by
  obtain ⟨k, hk, h1, h2⟩ := place_mem hv
  have hkt : k < t.length := by omega
  unfold selB getR
  rw [h1, pick_one_at hkt]
  have : decide ((k : Int) < 0) = false := by simp
  rw [this]
  simp [hkt]

theorem sel_out {s t : List Int} {v x : Int} (hv : v ∉ s) : selB (placeL s v) x t = true := by
  unfold selB; rw [placeL_none hv]; simp

theorem mem_sel {s : List Int} {ll : List (List Int)} (hw : ∀ t ∈ ll, t.length = s.length) {v x : Int} {t : List Int} : t ∈ selL s ll v x ↔ t ∈ ll ∧ (v ∈ s → getR s t v = x) := by
  unfold selL
  rw [List.mem_filter]
  refine and_congr_right fun ht => ?_
  by_cases hv : v ∈ s
  · rw [sel_in hv (hw t ht)]; simp [hv]
  · rw [sel_out hv]; simp [hv]

theorem Good.sel {s : List Int} {ll : List (List Int)} (g : Good s ll) (v x : Int) : Good s (selL s ll v x) :=
  ⟨g.asc, g.pos, List.Pairwise.filter _ g.asl, fun t ht => g.wide t (List.mem_filter.1 ht).1, g.slen, Nat.le_trans (List.length_filter_le _ _) g.llen⟩

theorem sel_twice {s : List Int} {ll : List (List Int)} {v x : Int} : selL s (selL s ll v x) v x = selL s ll v x := by
  unfold selL; rw [List.filter_filter]; simp

theorem sel_none {s : List Int} {ll : List (List Int)} {v x : Int} (hv : v ∉ s) : selL s ll v x = ll := by
  unfold selL; rw [List.filter_eq_self]; exact fun t _ => sel_out hv

/-- Cut twice is cut at once. -/
theorem mem_proj2 {s one two : List Int} {ll : List (List Int)} (g : Good s ll) {u : List Int} : u ∈ projL (meetL s one) (projL s ll one) two ↔ ∃ t ∈ ll, u = (meetL (meetL s one) two).map (getR s t) := by
  rw [mem_proj (g.proj one).wide]
  constructor
  · rintro ⟨t', ht', rfl⟩
    obtain ⟨t, ht, rfl⟩ := (mem_proj g.wide).1 ht'
    refine ⟨t, ht, List.map_congr_left fun x hx => ?_⟩
    exact getR_map _ (meet_sub x hx)
  · rintro ⟨t, ht, rfl⟩
    refine ⟨(meetL s one).map (getR s t), (mem_proj g.wide).2 ⟨t, ht, rfl⟩, List.map_congr_left fun x hx => ?_⟩
    exact (getR_map _ (meet_sub x hx)).symm

theorem meet_comm2 {s one two : List Int} (h : Asc s) : meetL (meetL s one) two = meetL (meetL s two) one :=
  Asc.ext (asc_meetL (asc_meetL h)) (asc_meetL (asc_meetL h)) fun x => by simp only [mem_meetL]; exact ⟨fun h => ⟨⟨h.1.1, h.2⟩, h.1.2⟩, fun h => ⟨⟨h.1.1, h.2⟩, h.1.2⟩⟩

theorem proj_comm {s one two : List Int} {ll : List (List Int)} (g : Good s ll) : projL (meetL s one) (projL s ll one) two = projL (meetL s two) (projL s ll two) one :=
  AscL.ext (asc_proj _ _ _) (asc_proj _ _ _) fun u => by rw [mem_proj2 g, mem_proj2 g, meet_comm2 g.asc]

theorem meet_self {s one : List Int} (h : Asc s) : meetL (meetL s one) one = meetL s one :=
  Asc.ext (asc_meetL (asc_meetL h)) (asc_meetL h) fun x => by simp only [mem_meetL]; exact ⟨fun h => h.1, fun h => ⟨h, h.2⟩⟩

theorem meet_all {s : List Int} (h : Asc s) : meetL s s = s :=
  Asc.ext (asc_meetL h) h fun x => by simp only [mem_meetL]; exact ⟨fun h => h.1, fun h => ⟨h, h⟩⟩

theorem proj_all {s vars : List Int} {ll : List (List Int)} (g : Good s ll) (hm : meetL s vars = s) : projL s ll vars = ll :=
  AscL.ext (asc_proj _ _ _) g.asl fun u => by
    rw [mem_proj g.wide, hm]
    constructor
    · rintro ⟨t, ht, rfl⟩; rw [map_getR (Asc.nodup g.asc) (g.wide t ht)]; exact ht
    · exact fun hu => ⟨u, hu, (map_getR (Asc.nodup g.asc) (g.wide u hu)).symm⟩

theorem proj_sel {s vars : List Int} {ll : List (List Int)} (g : Good s ll) {v x : Int} (hv : v ∈ vars) : projL s (selL s ll v x) vars = selL (meetL s vars) (projL s ll vars) v x := by
  refine AscL.ext (asc_proj _ _ _) (List.Pairwise.filter _ (asc_proj _ _ _)) fun u => ?_
  rw [mem_proj (g.sel v x).wide, mem_sel (g.proj vars).wide, mem_proj g.wide]
  have hvs : v ∈ meetL s vars ↔ v ∈ s := by rw [mem_meetL]; exact ⟨fun h => h.1, fun h => ⟨h, hv⟩⟩
  constructor
  · rintro ⟨t, ht, rfl⟩
    obtain ⟨ht1, ht2⟩ := (mem_sel g.wide).1 ht
    exact ⟨⟨t, ht1, rfl⟩, fun h => by rw [getR_map _ h]; exact ht2 (hvs.1 h)⟩
  · rintro ⟨⟨t, ht, rfl⟩, h⟩
    exact ⟨t, (mem_sel g.wide).2 ⟨ht, fun hs => by have := h (hvs.2 hs); rwa [getR_map _ (hvs.2 hs)] at this⟩, rfl⟩

theorem proj_empty {s vars : List Int} {ll : List (List Int)} (g : Good s ll) : (projL s ll vars).length = 0 ↔ ll.length = 0 := by
  rw [List.length_eq_zero_iff, List.length_eq_zero_iff]
  constructor
  · intro h
    cases ll with
    | nil => rfl
    | cons t r =>
      have : (meetL s vars).map (getR s t) ∈ projL s (t :: r) vars := (mem_proj g.wide).2 ⟨t, by simp, rfl⟩
      rw [h] at this; simp at this
  · rintro rfl; rfl

end Go.Proofs.YtafpecdmaogohaaGreat
