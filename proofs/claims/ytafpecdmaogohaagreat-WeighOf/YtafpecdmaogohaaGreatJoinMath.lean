/-
  Plain mathematics of relations that go together; how the program's rows, and keys, come to it.
-/
import Derived.Test.YtafpecdmaogohaaGreatRelRows
import Derived.Test.YtafpecdmaogohaaGreatJoinKey
namespace Go.Proofs.YtafpecdmaogohaaGreat
set_option linter.unusedVariables false
set_option linter.unusedSimpArgs false

/-- Have two rows, over s and over u, the same of the variables of both? -/
def fitB (s u t v : List Int) : Bool := decide ((meetL s u).map (getR s t) = (meetL s u).map (getR u v))
/-- The row of two that fit. -/
def bothR (s u t v : List Int) : List Int := (joinL s u).map fun x => if x ∈ s then getR s t x else getR u v x
def pairR (s : List Int) (la : List (List Int)) (u : List Int) (lb : List (List Int)) : List (List Int) := la.flatMap fun t => (lb.filter (fitB s u t)).map (bothR s u t)
def joinR (s : List Int) (la : List (List Int)) (u : List Int) (lb : List (List Int)) : List (List Int) := sortL (pairR s la u lb)
def semiR (s : List Int) (la : List (List Int)) (u : List Int) (lb : List (List Int)) : List (List Int) := la.filter fun t => lb.any (fitB s u t)

theorem fit_iff {s u t v : List Int} : fitB s u t v = true ↔ ∀ x, x ∈ s → x ∈ u → getR s t x = getR u v x := by
  unfold fitB
  rw [decide_eq_true_eq, List.map_inj_left]
  exact ⟨fun h x h1 h2 => h x (mem_meetL.2 ⟨h1, h2⟩), fun h x hx => h x (mem_meetL.1 hx).1 (mem_meetL.1 hx).2⟩

theorem both_len {s u t v : List Int} : (bothR s u t v).length = (joinL s u).length := by simp [bothR]

theorem both_left {s u t v : List Int} (hn : s.Nodup) (hl : t.length = s.length) : s.map (getR (joinL s u) (bothR s u t v)) = t := by
  have : s.map (getR (joinL s u) (bothR s u t v)) = s.map (getR s t) := by
    refine List.map_congr_left fun x hx => ?_
    unfold bothR
    rw [getR_map _ (mem_joinL.2 (.inl hx)), if_pos hx]
  rw [this, map_getR hn hl]

theorem both_right {s u t v : List Int} (hn : u.Nodup) (hl : v.length = u.length) (hf : fitB s u t v = true) : u.map (getR (joinL s u) (bothR s u t v)) = v := by
  have : u.map (getR (joinL s u) (bothR s u t v)) = u.map (getR u v) := by
    refine List.map_congr_left fun x hx => ?_
    unfold bothR
    rw [getR_map _ (mem_joinL.2 (.inr hx))]
    split
    · rename_i h; exact fit_iff.1 hf x h hx
    · rfl
  rw [this, map_getR hn hl]

theorem both_back {s u r : List Int} (hn : (joinL s u).Nodup) (hl : r.length = (joinL s u).length) : bothR s u (s.map (getR (joinL s u) r)) (u.map (getR (joinL s u) r)) = r := by
  have : bothR s u (s.map (getR (joinL s u) r)) (u.map (getR (joinL s u) r)) = (joinL s u).map (getR (joinL s u) r) := by
    unfold bothR
    refine List.map_congr_left fun x hx => ?_
    split
    · rename_i h; rw [getR_map _ h]
    · rename_i h
      rw [getR_map _ ((mem_joinL.1 hx).resolve_left h)]
  rw [this, map_getR hn hl]

theorem fit_back {s u r : List Int} : fitB s u (s.map (getR (joinL s u) r)) (u.map (getR (joinL s u) r)) = true :=
  fit_iff.2 fun x h1 h2 => by rw [getR_map _ h1, getR_map _ h2]

theorem mem_pair {s u : List Int} {la lb : List (List Int)} (hs : Asc s) (hu : Asc u) (wa : ∀ t ∈ la, t.length = s.length) (wb : ∀ t ∈ lb, t.length = u.length) {r : List Int} :
    r ∈ pairR s la u lb ↔ r.length = (joinL s u).length ∧ s.map (getR (joinL s u) r) ∈ la ∧ u.map (getR (joinL s u) r) ∈ lb := by
  unfold pairR
  rw [List.mem_flatMap]
  constructor
  · rintro ⟨t, ht, h⟩
    obtain ⟨v, hv, rfl⟩ := List.mem_map.1 h
    obtain ⟨hv1, hv2⟩ := List.mem_filter.1 hv
    refine ⟨both_len, ?_, ?_⟩
    · rw [both_left hs.nodup (wa t ht)]; exact ht
    · rw [both_right hu.nodup (wb v hv1) hv2]; exact hv1
  · rintro ⟨h1, h2, h3⟩
    exact ⟨_, h2, List.mem_map.2 ⟨_, List.mem_filter.2 ⟨h3, fit_back⟩, both_back (asc_joinL hs hu).nodup h1⟩⟩

theorem mem_join {s u : List Int} {la lb : List (List Int)} (hs : Asc s) (hu : Asc u) (wa : ∀ t ∈ la, t.length = s.length) (wb : ∀ t ∈ lb, t.length = u.length) {r : List Int} :
    r ∈ joinR s la u lb ↔ r.length = (joinL s u).length ∧ s.map (getR (joinL s u) r) ∈ la ∧ u.map (getR (joinL s u) r) ∈ lb := by
  unfold joinR
  rw [(sortL_spec _).2]
  exact mem_pair hs hu wa wb

theorem pair_le (s u : List Int) (lb : List (List Int)) : ∀ la : List (List Int), (pairR s la u lb).length ≤ la.length * lb.length
  | [] => by simp [pairR]
  | t :: r => by
    have ih := pair_le s u lb r
    have e : pairR s (t :: r) u lb = (lb.filter (fitB s u t)).map (bothR s u t) ++ pairR s r u lb := by simp [pairR]
    have hf := List.length_filter_le (fitB s u t) lb
    rw [e, List.length_append, List.length_map, List.length_cons, Nat.succ_mul]
    omega

theorem pair_nodup {s u : List Int} {la lb : List (List Int)} (hs : Asc s) (hu : Asc u) (ha : la.Nodup) (hb : lb.Nodup) (wa : ∀ t ∈ la, t.length = s.length) (wb : ∀ t ∈ lb, t.length = u.length) : (pairR s la u lb).Nodup := by
  unfold pairR List.Nodup
  rw [List.pairwise_flatMap]
  refine ⟨fun t ht => ?_, ?_⟩
  · rw [List.pairwise_map]
    refine List.Pairwise.imp_of_mem ?_ (List.Pairwise.filter _ hb)
    intro v v' hv hv' hne e
    obtain ⟨h1, h2⟩ := List.mem_filter.1 hv
    obtain ⟨h1', h2'⟩ := List.mem_filter.1 hv'
    apply hne
    rw [← both_right (s := s) (t := t) hu.nodup (wb v h1) h2, ← both_right (s := s) (t := t) hu.nodup (wb v' h1') h2', e]
  · refine List.Pairwise.imp_of_mem ?_ ha
    intro t t' ht ht' hne x hx y hy e
    obtain ⟨v, hv, rfl⟩ := List.mem_map.1 hx
    obtain ⟨v', hv', rfl⟩ := List.mem_map.1 hy
    apply hne
    rw [← both_left (u := u) (v := v) hs.nodup (wa t ht), ← both_left (u := u) (v := v') hs.nodup (wa t' ht'), e]

theorem AscL.nodup {l : List (List Int)} (h : AscL l) : l.Nodup := List.Pairwise.imp (fun {a b} hab e => by subst e; rw [cmpL_refl] at hab; omega) h

theorem nodup_len : ∀ {a b : List (List Int)}, a.Nodup → b.Nodup → (∀ x, x ∈ a → x ∈ b) → a.length ≤ b.length
  | [], _, _, _, _ => by simp
  | x :: r, b, ha, hb, h => by
    obtain ⟨h1, h2⟩ := List.pairwise_cons.1 ha
    have hx : x ∈ b := h x (by simp)
    have ih := nodup_len (a := r) (b := b.erase x) h2 (hb.erase x) (fun y hy => by
      have hne : y ≠ x := fun e => h1 y hy e.symm
      exact (List.mem_erase_of_ne hne).2 (h y (by simp [hy])))
    have := List.length_erase_of_mem hx
    have hpos : 0 < b.length := List.length_pos_of_mem hx
    simp only [List.length_cons]
    omega

theorem sortL_len {l : List (List Int)} (h : l.Nodup) : (sortL l).length = l.length :=
  Nat.le_antisymm (sortL_le l) (nodup_len h (AscL.nodup (sortL_spec l).1) (fun x hx => ((sortL_spec l).2 x).2 hx))

/-- A right relation, small; its rows hold numbers of one digit. -/
structure Fine (s : List Int) (ll : List (List Int)) (n : Nat) : Prop where
  asc : Asc s
  pos : ∀ x ∈ s, 0 ≤ x
  asl : AscL ll
  wide : ∀ t ∈ ll, t.length = s.length
  slen : s.length ≤ 200
  llen : ll.length ≤ n
  dig : ∀ t ∈ ll, ∀ x ∈ t, 0 ≤ x ∧ x < 10

theorem Fine.mono {s : List Int} {ll : List (List Int)} {n m : Nat} (g : Fine s ll n) (h : n ≤ m) : Fine s ll m := ⟨g.asc, g.pos, g.asl, g.wide, g.slen, Nat.le_trans g.llen h, g.dig⟩
theorem Fine.good {s : List Int} {ll : List (List Int)} {n : Nat} (g : Fine s ll n) (hn : n ≤ 5000) : Good s ll := ⟨g.asc, g.pos, g.asl, g.wide, by have := g.slen; omega, Nat.le_trans g.llen hn⟩
theorem Fine.none {s : List Int} {ll : List (List Int)} {n : Nat} (g : Fine s ll n) : Fine s [] 0 := ⟨g.asc, g.pos, by simp [AscL], by simp, g.slen, by simp, by simp⟩

theorem get_dig {s t : List Int} (h : ∀ x ∈ t, 0 ≤ x ∧ x < 10) (x : Int) : 0 ≤ getR s t x ∧ getR s t x < 10 := by
  unfold getR
  by_cases hk : (placeL s x).toNat < t.length
  · rw [List.getD_eq_getElem?_getD, List.getElem?_eq_getElem hk]
    exact h _ (List.getElem_mem hk)
  · rw [List.getD_eq_getElem?_getD, List.getElem?_eq_none (by omega)]; simp

theorem join_len_le (s u : List Int) (la lb : List (List Int)) : (joinR s la u lb).length ≤ la.length * lb.length := Nat.le_trans (sortL_le _) (pair_le s u lb la)

theorem joinS_le {s u : List Int} (n : Nat) (hs : Asc s) (hu : Asc u) : (joinL s u).length ≤ s.length + u.length := by
  unfold joinL
  rw [List.length_merge]
  have : (lessL u s).length ≤ u.length := List.length_filter_le _ _
  omega

theorem Fine.join {s u : List Int} {la lb : List (List Int)} {n m : Nat} (g : Fine s la n) (g' : Fine u lb m) (hl : s.length + u.length ≤ 200) : Fine (joinL s u) (joinR s la u lb) (n * m) := by
  have hm := fun r => mem_join g.asc g'.asc g.wide g'.wide (r := r)
  refine ⟨asc_joinL g.asc g'.asc, fun x hx => ?_, (sortL_spec _).1, fun t ht => ((hm t).1 ht).1, Nat.le_trans (joinS_le 0 g.asc g'.asc) hl, Nat.le_trans (join_len_le _ _ _ _) (Nat.mul_le_mul g.llen g'.llen), ?_⟩
  · rcases mem_joinL.1 hx with h | h
    · exact g.pos x h
    · exact g'.pos x h
  · intro t ht x hx
    unfold joinR at ht
    rw [(sortL_spec _).2] at ht
    unfold pairR at ht
    obtain ⟨p, hp, h⟩ := List.mem_flatMap.1 ht
    obtain ⟨q, hq, rfl⟩ := List.mem_map.1 h
    obtain ⟨y, _, rfl⟩ := List.mem_map.1 hx
    split
    · exact get_dig (g.dig p hp) y
    · exact get_dig (g'.dig q (List.mem_filter.1 hq).1) y

theorem mem_semi {s u : List Int} {la lb : List (List Int)} {t : List Int} : t ∈ semiR s la u lb ↔ t ∈ la ∧ ∃ v ∈ lb, fitB s u t v = true := by
  unfold semiR; rw [List.mem_filter, List.any_eq_true]

theorem Fine.semi {s u : List Int} {la lb : List (List Int)} {n : Nat} (g : Fine s la n) : Fine s (semiR s la u lb) n :=
  ⟨g.asc, g.pos, List.Pairwise.filter _ g.asl, fun t ht => g.wide t (List.mem_filter.1 ht).1, g.slen, Nat.le_trans (List.length_filter_le _ _) g.llen, fun t ht => g.dig t (List.mem_filter.1 ht).1⟩

theorem Fine.proj {s : List Int} {ll : List (List Int)} {n : Nat} (g : Fine s ll n) (vars : List Int) : Fine (meetL s vars) (projL s ll vars) n := by
  refine ⟨asc_meetL g.asc, fun x hx => g.pos x (meet_sub x hx), asc_proj _ _ _, fun t ht => ?_, Nat.le_trans (meetL_le _ _) g.slen, Nat.le_trans (proj_le _ _ _) g.llen, fun t ht x hx => ?_⟩
  · obtain ⟨t', _, rfl⟩ := (mem_proj g.wide).1 ht
    simp
  · obtain ⟨t', ht', rfl⟩ := (mem_proj g.wide).1 ht
    obtain ⟨y, _, rfl⟩ := List.mem_map.1 hx
    exact get_dig (g.dig t' ht') y

theorem Fine.union {s : List Int} {ll ll' : List (List Int)} {n m : Nat} (g : Fine s ll n) (g' : Fine s ll' m) : Fine s (unionL ll ll') (n + m) := by
  refine ⟨g.asc, g.pos, asc_union _ _, fun t ht => ?_, g.slen, ?_, fun t ht => ?_⟩
  · rcases mem_union.1 ht with h | h
    · exact g.wide t h
    · exact g'.wide t h
  · have h1 := sortL_le (ll ++ ll')
    have h2 := g.llen
    have h3 := g'.llen
    unfold unionL
    rw [List.length_append] at h1
    omega
  · rcases mem_union.1 ht with h | h
    · exact g.dig t h
    · exact g'.dig t h

theorem joinS_comm {s u : List Int} (hs : Asc s) (hu : Asc u) : joinL s u = joinL u s :=
  Asc.ext (asc_joinL hs hu) (asc_joinL hu hs) fun x => by rw [mem_joinL, mem_joinL]; exact Or.comm
theorem joinS_assoc {s u v : List Int} (hs : Asc s) (hu : Asc u) (hv : Asc v) : joinL (joinL s u) v = joinL s (joinL u v) :=
  Asc.ext (asc_joinL (asc_joinL hs hu) hv) (asc_joinL hs (asc_joinL hu hv)) fun x => by simp only [mem_joinL]; exact or_assoc
theorem joinS_nil {s : List Int} (hs : Asc s) : joinL s [] = s := Asc.ext (asc_joinL hs List.Pairwise.nil) hs fun x => by simp [mem_joinL]
theorem nil_joinS {s : List Int} (hs : Asc s) : joinL [] s = s := Asc.ext (asc_joinL List.Pairwise.nil hs) hs fun x => by simp [mem_joinL]

/-- A row of a scheme, cut to a part of it, and that to a part. -/
theorem cut_cut {U s r : List Int} {v : List Int} (h : ∀ x ∈ v, x ∈ s) : v.map (getR s (s.map (getR U r))) = v.map (getR U r) :=
  List.map_congr_left fun x hx => getR_map _ (h x hx)

theorem join_comm {s u : List Int} {la lb : List (List Int)} {n m : Nat} (g : Fine s la n) (g' : Fine u lb m) : joinR s la u lb = joinR u lb s la :=
  AscL.ext (sortL_spec _).1 (sortL_spec _).1 fun r => by
    have h1 := mem_join g.asc g'.asc g.wide g'.wide (r := r)
    have h2 := mem_join g'.asc g.asc g'.wide g.wide (r := r)
    rw [h1, h2, joinS_comm g.asc g'.asc]
    exact and_congr_right fun _ => And.comm

theorem mem_join3 {s u v : List Int} {la lb lc : List (List Int)} {n m k : Nat} (g : Fine s la n) (g' : Fine u lb m) (g'' : Fine v lc k) (hl : s.length + u.length ≤ 200) {r : List Int} :
    r ∈ joinR (joinL s u) (joinR s la u lb) v lc ↔ r.length = (joinL (joinL s u) v).length ∧ s.map (getR (joinL (joinL s u) v) r) ∈ la ∧ u.map (getR (joinL (joinL s u) v) r) ∈ lb ∧ v.map (getR (joinL (joinL s u) v) r) ∈ lc := by
  have gj := g.join g' hl
  rw [mem_join gj.asc g''.asc gj.wide g''.wide, mem_join g.asc g'.asc g.wide g'.wide]
  rw [cut_cut (fun x hx => mem_joinL.2 (.inl hx)), cut_cut (fun x hx => mem_joinL.2 (.inr hx))]
  simp only [List.length_map, true_and, and_assoc]

theorem join_assoc {s u v : List Int} {la lb lc : List (List Int)} {n m k : Nat} (g : Fine s la n) (g' : Fine u lb m) (g'' : Fine v lc k) (hl : s.length + u.length + v.length ≤ 200) :
    joinR (joinL s u) (joinR s la u lb) v lc = joinR s la (joinL u v) (joinR u lb v lc) := by
  have gj := g'.join g'' (by omega)
  refine AscL.ext (sortL_spec _).1 (sortL_spec _).1 fun r => ?_
  have h1 := mem_join3 g g' g'' (by omega) (r := r)
  have h2 := mem_join g.asc gj.asc g.wide gj.wide (r := r)
  rw [mem_join g'.asc g''.asc g'.wide g''.wide, cut_cut (fun x hx => mem_joinL.2 (.inl hx)), cut_cut (fun x hx => mem_joinL.2 (.inr hx)), ← joinS_assoc g.asc g'.asc g''.asc] at h2
  simp only [List.length_map, true_and] at h2
  exact h1.trans h2.symm

/-- What the join has of the first is what goes together with something. -/
theorem proj_join {s u : List Int} {la lb : List (List Int)} {n m : Nat} (g : Fine s la n) (g' : Fine u lb m) (hl : s.length + u.length ≤ 200) : meetL (joinL s u) s = s ∧ projL (joinL s u) (joinR s la u lb) s = semiR s la u lb := by
  have gj := g.join g' hl
  have hm : meetL (joinL s u) s = s := Asc.ext (asc_meetL gj.asc) g.asc fun x => by rw [mem_meetL, mem_joinL]; exact ⟨fun h => h.2, fun h => ⟨.inl h, h⟩⟩
  refine ⟨hm, AscL.ext (asc_proj _ _ _) (List.Pairwise.filter _ g.asl) fun t => ?_⟩
  rw [mem_proj gj.wide, hm]
  have hse := mem_semi (s := s) (u := u) (la := la) (lb := lb) (t := t)
  rw [hse]
  constructor
  · rintro ⟨r, hr, rfl⟩
    obtain ⟨h1, h2, h3⟩ := (mem_join g.asc g'.asc g.wide g'.wide).1 hr
    exact ⟨h2, _, h3, fit_back⟩
  · rintro ⟨ht, v, hv, hf⟩
    refine ⟨bothR s u t v, (mem_join g.asc g'.asc g.wide g'.wide).2 ⟨both_len, ?_, ?_⟩, (both_left g.asc.nodup (g.wide t ht)).symm⟩
    · rw [both_left g.asc.nodup (g.wide t ht)]; exact ht
    · rw [both_right g'.asc.nodup (g'.wide v hv) hf]; exact hv

theorem semi_twice {s u : List Int} {la lb : List (List Int)} : semiR s (semiR s la u lb) u lb = semiR s la u lb := by
  unfold semiR; rw [List.filter_filter]; simp

theorem join_self {s : List Int} {la : List (List Int)} {n : Nat} (g : Fine s la n) : joinL s s = s ∧ joinR s la s la = la := by
  have he : joinL s s = s := Asc.ext (asc_joinL g.asc g.asc) g.asc fun x => by rw [mem_joinL]; exact or_self_iff
  refine ⟨he, AscL.ext (sortL_spec _).1 g.asl fun r => ?_⟩
  have h1 := mem_join g.asc g.asc g.wide g.wide (r := r)
  rw [h1, he]
  constructor
  · rintro ⟨h1, h2, _⟩; rwa [map_getR g.asc.nodup h1] at h2
  · intro h; rw [map_getR g.asc.nodup (g.wide r h)]; exact ⟨g.wide r h, h, h⟩

theorem semi_proj {s : List Int} {la : List (List Int)} {n : Nat} (g : Fine s la n) (u : List Int) : semiR s la (meetL s u) (projL s la u) = la := by
  unfold semiR
  rw [List.filter_eq_self]
  intro t ht
  rw [List.any_eq_true]
  refine ⟨_, (mem_proj g.wide).2 ⟨t, ht, rfl⟩, fit_iff.2 fun x _ h2 => ?_⟩
  rw [getR_map _ h2]

theorem join_nil {s u : List Int} {la : List (List Int)} : joinR s la u [] = [] := by
  have : pairR s la u [] = [] := List.length_eq_zero_iff.1 (Nat.le_zero.1 (by simpa using pair_le s u [] la))
  unfold joinR; rw [this]; rfl
theorem nil_join {s u : List Int} {lb : List (List Int)} : joinR s [] u lb = [] := rfl
theorem pair_nil {s u : List Int} {la : List (List Int)} : pairR s la u [] = [] := List.length_eq_zero_iff.1 (Nat.le_zero.1 (by simpa using pair_le s u [] la))
theorem nil_pair {s u : List Int} {lb : List (List Int)} : pairR s [] u lb = [] := rfl
theorem semi_nil {s u : List Int} {la : List (List Int)} : semiR s la u [] = [] := by simp [semiR]

theorem fine_unit : Fine [] [[]] 1 := ⟨List.Pairwise.nil, by simp, by simp [AscL], by simp, by simp, by simp, by simp⟩

theorem join_unit {s : List Int} {la : List (List Int)} {n : Nat} (g : Fine s la n) : joinR s la [] [[]] = la :=
  AscL.ext (sortL_spec _).1 g.asl fun r => by
    have h1 := mem_join g.asc fine_unit.asc g.wide fine_unit.wide (r := r)
    rw [h1, joinS_nil g.asc]
    constructor
    · rintro ⟨h1, h2, _⟩; rwa [map_getR g.asc.nodup h1] at h2
    · intro h; rw [map_getR g.asc.nodup (g.wide r h)]; exact ⟨g.wide r h, h, by simp⟩
theorem unit_join {s : List Int} {la : List (List Int)} {n : Nat} (g : Fine s la n) : joinR [] [[]] s la = la := by rw [join_comm fine_unit g]; exact join_unit g

theorem join_union {s u : List Int} {la lb lc : List (List Int)} {n m k : Nat} (g : Fine s la n) (g' : Fine u lb m) (g'' : Fine u lc k) : joinR s la u (unionL lb lc) = unionL (joinR s la u lb) (joinR s la u lc) := by
  have gu := g'.union g''
  refine AscL.ext (sortL_spec _).1 (asc_union _ _) fun r => ?_
  rw [mem_union, mem_join g.asc g'.asc g.wide g'.wide, mem_join g.asc g''.asc g.wide g''.wide]
  have h1 := mem_join g.asc gu.asc g.wide gu.wide (r := r)
  rw [h1, mem_union]
  constructor
  · rintro ⟨h1, h2, h3 | h3⟩
    · exact .inl ⟨h1, h2, h3⟩
    · exact .inr ⟨h1, h2, h3⟩
  · rintro (⟨h1, h2, h3⟩ | ⟨h1, h2, h3⟩)
    · exact ⟨h1, h2, .inl h3⟩
    · exact ⟨h1, h2, .inr h3⟩

theorem semi_union {s u : List Int} {la lb lc : List (List Int)} {n : Nat} (g : Fine s la n) : semiR s la u (unionL lb lc) = unionL (semiR s la u lb) (semiR s la u lc) := by
  refine AscL.ext (List.Pairwise.filter _ g.asl) (asc_union _ _) fun r => ?_
  have h1 := mem_semi (s := s) (u := u) (la := la) (lb := unionL lb lc) (t := r)
  rw [mem_union, mem_semi, mem_semi, mem_semi]
  constructor
  · rintro ⟨h1, v, hv, hf⟩
    rcases mem_union.1 hv with h | h
    · exact .inl ⟨h1, v, h, hf⟩
    · exact .inr ⟨h1, v, h, hf⟩
  · rintro (⟨h1, v, hv, hf⟩ | ⟨h1, v, hv, hf⟩)
    · exact ⟨h1, v, mem_union.2 (.inl hv), hf⟩
    · exact ⟨h1, v, mem_union.2 (.inr hv), hf⟩

/-- Do both have the same of the variables of both? -/
def agreeB (s : List Int) (la : List (List Int)) (u : List Int) (lb : List (List Int)) : Bool := decide (projL s la u = projL u lb s)

theorem meetS_comm {s u : List Int} (hs : Asc s) (hu : Asc u) : meetL s u = meetL u s := Asc.ext (asc_meetL hs) (asc_meetL hu) fun x => by rw [mem_meetL, mem_meetL]; exact And.comm
theorem meet_meet {s u : List Int} (hs : Asc s) : meetL s (meetL s u) = meetL s u := Asc.ext (asc_meetL hs) (asc_meetL hs) fun x => by simp only [mem_meetL]; exact ⟨fun h => h.2, fun h => ⟨h.1, h⟩⟩
theorem meet_meet' {s u : List Int} (hs : Asc s) (hu : Asc u) : meetL u (meetL s u) = meetL s u := Asc.ext (asc_meetL hu) (asc_meetL hs) fun x => by simp only [mem_meetL]; exact ⟨fun h => h.2, fun h => ⟨h.2, h⟩⟩
theorem proj_congr {s v v' : List Int} {ll : List (List Int)} (h : meetL s v = meetL s v') : projL s ll v = projL s ll v' := by unfold projL; rw [h]

theorem agree_sub {s u : List Int} {la lb : List (List Int)} {n m : Nat} (g : Fine s la n) (g' : Fine u lb m) : (∀ t, t ∈ projL s la u → t ∈ projL u lb s) ↔ semiR s la u lb = la := by
  unfold semiR
  rw [List.filter_eq_self]
  constructor
  · intro h t ht
    have := h _ ((mem_proj g.wide).2 ⟨t, ht, rfl⟩)
    obtain ⟨v, hv, e⟩ := (mem_proj g'.wide).1 this
    rw [List.any_eq_true]
    refine ⟨v, hv, ?_⟩
    unfold fitB
    rw [decide_eq_true_eq, e, meetS_comm g'.asc g.asc]
  · intro h t ht
    obtain ⟨t', ht', rfl⟩ := (mem_proj g.wide).1 ht
    have := h t' ht'
    rw [List.any_eq_true] at this
    obtain ⟨v, hv, hf⟩ := this
    unfold fitB at hf
    rw [decide_eq_true_eq] at hf
    rw [hf, mem_proj g'.wide]
    exact ⟨v, hv, by rw [meetS_comm g.asc g'.asc]⟩

theorem agree_iff {s u : List Int} {la lb : List (List Int)} {n m : Nat} (g : Fine s la n) (g' : Fine u lb m) : agreeB s la u lb = true ↔ semiR s la u lb = la ∧ semiR u lb s la = lb := by
  rw [← agree_sub g g', ← agree_sub g' g]
  unfold agreeB
  rw [decide_eq_true_eq]
  constructor
  · intro h; rw [h]; exact ⟨fun _ h => h, fun _ h => h⟩
  · rintro ⟨h1, h2⟩; exact AscL.ext (asc_proj _ _ _) (asc_proj _ _ _) fun x => ⟨h1 x, h2 x⟩

theorem agree_comm {s u : List Int} {la lb : List (List Int)} : agreeB u lb s la = agreeB s la u lb := by unfold agreeB; rw [decide_eq_decide]; exact eq_comm

theorem fit_comm {s u t v : List Int} : fitB s u t v = true ↔ fitB u s v t = true := by
  rw [fit_iff, fit_iff]; exact ⟨fun h x h1 h2 => (h x h2 h1).symm, fun h x h1 h2 => (h x h2 h1).symm⟩

theorem agree_semi {s u : List Int} {la lb : List (List Int)} {n m : Nat} (g : Fine s la n) (g' : Fine u lb m) : agreeB s (semiR s la u lb) u (semiR u lb s la) = true := by
  refine (agree_iff g.semi g'.semi).2 ⟨?_, ?_⟩
  · show List.filter _ _ = _
    rw [List.filter_eq_self]
    intro t ht
    obtain ⟨h1, v, hv, hf⟩ := mem_semi.1 ht
    rw [List.any_eq_true]
    exact ⟨v, mem_semi.2 ⟨hv, t, h1, fit_comm.1 hf⟩, hf⟩
  · show List.filter _ _ = _
    rw [List.filter_eq_self]
    intro t ht
    obtain ⟨h1, v, hv, hf⟩ := mem_semi.1 ht
    rw [List.any_eq_true]
    exact ⟨v, mem_semi.2 ⟨hv, t, h1, fit_comm.1 hf⟩, hf⟩

/-- Where nothing is shared each goes with each. -/
theorem pair_all {s u : List Int} (h : meetL s u = []) (lb : List (List Int)) : ∀ la : List (List Int), (pairR s la u lb).length = la.length * lb.length
  | [] => by simp [pairR]
  | t :: r => by
    have ih := pair_all h lb r
    have e : pairR s (t :: r) u lb = (lb.filter (fitB s u t)).map (bothR s u t) ++ pairR s r u lb := by simp [pairR]
    have hf : lb.filter (fitB s u t) = lb := by rw [List.filter_eq_self]; intro v _; unfold fitB; rw [h]; simp
    rw [e, hf, List.length_append, List.length_map, List.length_cons, Nat.succ_mul, ih]
    omega

theorem join_len {s u : List Int} {la lb : List (List Int)} {n m : Nat} (g : Fine s la n) (g' : Fine u lb m) : (joinR s la u lb).length = (pairR s la u lb).length :=
  sortL_len (pair_nodup g.asc g'.asc (AscL.nodup g.asl) (AscL.nodup g'.asl) g.wide g'.wide)

end Go.Proofs.YtafpecdmaogohaaGreat

namespace Go.Proofs.YtafpecdmaogohaaGreat
set_option linter.unusedVariables false
set_option linter.unusedSimpArgs false

theorem get_left {s r t w : List Int} {x : Int} (hl : t.length = s.length) (hx : x ∈ s) : getR (s ++ r) (t ++ w) x = getR s t x := by
  rcases placeL_cases s x with ⟨_, h⟩ | ⟨k, hk, h1, h2, h3⟩
  · exact absurd hx h
  · have e : placeL (s ++ r) x = k := placeL_at (by simp; omega) (by rw [List.getElem_append_left hk]; exact h2) (fun i hi hik => by rw [List.getElem_append_left (by omega)]; exact h3 i (by omega) hik)
    unfold getR
    rw [e, h1]
    simp only [Int.toNat_natCast, List.getD_eq_getElem?_getD]
    rw [List.getElem?_append_left (by omega)]

theorem get_right {s r t w : List Int} {x : Int} (hl : t.length = s.length) (hx : x ∉ s) (hr : x ∈ r) : getR (s ++ r) (t ++ w) x = getR r w x := by
  rcases placeL_cases r x with ⟨_, h⟩ | ⟨k, hk, h1, h2, h3⟩
  · exact absurd hr h
  · have e : placeL (s ++ r) x = ((s.length + k : Nat) : Int) := placeL_at (by simp; omega) (by rw [List.getElem_append_right (by omega)]; simpa using h2) (fun i hi hik => by
      by_cases his : i < s.length
      · rw [List.getElem_append_left his]; exact fun e => hx (e ▸ List.getElem_mem his)
      · rw [List.getElem_append_right (by omega)]; exact h3 _ (by omega) (by omega))
    unfold getR
    rw [e, h1]
    simp only [Int.toNat_natCast, List.getD_eq_getElem?_getD]
    rw [List.getElem?_append_right (by omega)]
    congr 2
    omega

/-- The rows that the program makes of one row of the first. -/
def progT (s u : List Int) (lb : List (List Int)) (t : List Int) : List (List Int) := (lb.filter (fitB s u t)).map fun v => t ++ pickL v ((lessL u s).map (placeL u))
def progR (s : List Int) (la : List (List Int)) (u : List Int) (lb : List (List Int)) : List (List Int) := la.flatMap (progT s u lb)

theorem prog_len (s u : List Int) (lb : List (List Int)) : ∀ la, (progR s la u lb).length = (pairR s la u lb).length
  | [] => rfl
  | t :: r => by
    have ih := prog_len s u lb r
    have e1 : progR s (t :: r) u lb = progT s u lb t ++ progR s r u lb := by simp [progR]
    have e2 : pairR s (t :: r) u lb = (lb.filter (fitB s u t)).map (bothR s u t) ++ pairR s r u lb := by simp [pairR]
    rw [e1, e2, List.length_append, List.length_append, ih]
    simp [progT]

theorem rise_two {s u : List Int} (hs : Asc s) (hu : Asc u) : riseL (s ++ lessL u s) = joinL s u :=
  Asc.ext (riseL_spec _).1 (asc_joinL hs hu) fun x => by
    rw [(riseL_spec _).2, List.mem_append, mem_lessL, mem_joinL]
    by_cases h : x ∈ s <;> simp [h]

theorem two_nodup {s u : List Int} (hs : Asc s) (hu : Asc u) : (s ++ lessL u s).Nodup := by
  rw [List.nodup_append]
  exact ⟨hs.nodup, (asc_lessL hu).nodup, fun a ha b hb e => by subst e; exact (mem_lessL.1 hb).2 ha⟩

theorem prog_row {s u t v : List Int} (hs : Asc s) (hu : Asc u) (ht : t.length = s.length) (hv : v.length = u.length) :
    (t ++ pickL v ((lessL u s).map (placeL u))).length = (s ++ lessL u s).length ∧ pickL (t ++ pickL v ((lessL u s).map (placeL u))) ((joinL s u).map (placeL (s ++ lessL u s))) = bothR s u t v := by
  have hsub : ∀ x ∈ lessL u s, x ∈ u := fun x hx => (mem_lessL.1 hx).1
  have e := pick_map (t := v) hsub hv
  have hlen : (t ++ pickL v ((lessL u s).map (placeL u))).length = (s ++ lessL u s).length := by rw [e]; simp [ht]
  refine ⟨hlen, ?_⟩
  rw [pick_map (s := s ++ lessL u s) (fun x hx => by
    rw [List.mem_append, mem_lessL]
    rcases mem_joinL.1 hx with h | h
    · exact .inl h
    · by_cases hxs : x ∈ s
      · exact .inl hxs
      · exact .inr ⟨h, hxs⟩) hlen, e]
  unfold bothR
  refine List.map_congr_left fun x hx => ?_
  by_cases hxs : x ∈ s
  · rw [if_pos hxs, get_left ht hxs]
  · have hxu := (mem_joinL.1 hx).resolve_left hxs
    have hxl : x ∈ lessL u s := mem_lessL.2 ⟨hxu, hxs⟩
    rw [if_neg hxs, get_right ht hxs hxl, getR_map _ hxl]

theorem prog_mem {s u : List Int} {la lb : List (List Int)} {r : List Int} (h : r ∈ progR s la u lb) : ∃ t ∈ la, ∃ v ∈ lb, r = t ++ pickL v ((lessL u s).map (placeL u)) := by
  unfold progR at h
  obtain ⟨t, ht, h⟩ := List.mem_flatMap.1 h
  unfold progT at h
  obtain ⟨v, hv, rfl⟩ := List.mem_map.1 h
  exact ⟨t, ht, v, (List.mem_filter.1 hv).1, rfl⟩

theorem prog_make {s u : List Int} {la lb : List (List Int)} {n m : Nat} (g : Fine s la n) (g' : Fine u lb m) :
    makeOk (s ++ lessL u s) (progR s la u lb) = true ∧ riseL (s ++ lessL u s) = joinL s u ∧ makeL (s ++ lessL u s) (progR s la u lb) = joinR s la u lb := by
  have hr := rise_two g.asc g'.asc
  refine ⟨?_, hr, ?_⟩
  · unfold makeOk schemeOk wideB
    rw [Bool.and_eq_true, Bool.and_eq_true, decide_eq_true_eq, List.all_eq_true]
    refine ⟨⟨(rise_len _).2 (two_nodup g.asc g'.asc), ?_⟩, fun r hr => ?_⟩
    · rw [hr]
      exact headB_of fun x hx => by
        rcases mem_joinL.1 hx with h | h
        · exact g.pos x h
        · exact g'.pos x h
    · obtain ⟨t, ht, v, hv, rfl⟩ := prog_mem hr
      rw [decide_eq_true_eq, (prog_row g.asc g'.asc (g.wide t ht) (g'.wide v hv)).1]
  · unfold makeL cutL joinR
    rw [hr]
    congr 1
    unfold progR pairR
    rw [List.map_flatMap, List.flatMap_def, List.flatMap_def]
    congr 1
    refine List.map_congr_left fun t ht => ?_
    unfold progT
    rw [List.map_map]
    refine List.map_congr_left fun v hv => ?_
    exact (prog_row g.asc g'.asc (g.wide t ht) (g'.wide v (List.mem_filter.1 hv).1)).2

/-- What rows have at the places of the variables of both. -/
theorem key_left {s u t : List Int} (hs : Asc s) (ht : t.length = s.length) : pickL t (idxL s (meetL s u) s.length) = (meetL s u).map (getR s t) := by
  rw [← (idx_all (meetL s u) hs.nodup).2, meet_meet hs, pick_map meet_sub ht]
theorem key_right {s u v : List Int} (hs : Asc s) (hu : Asc u) (hv : v.length = u.length) : pickL v (idxL u (meetL s u) u.length) = (meetL s u).map (getR u v) := by
  rw [← (idx_all (meetL s u) hu.nodup).2, meet_meet' hs hu, pick_map (fun x hx => (mem_meetL.1 hx).2) hv]
theorem rest_right {s u : List Int} (hu : Asc u) : idxL u (lessL u s) u.length = (lessL u s).map (placeL u) := by
  have h : meetL u (lessL u s) = lessL u s := Asc.ext (asc_meetL hu) (asc_lessL hu) fun x => by rw [mem_meetL, mem_lessL]; exact ⟨fun h => h.2, fun h => ⟨h.1, h⟩⟩
  rw [← (idx_all (lessL u s) hu.nodup).2, h]

theorem like_fit {s u t : List Int} {lb : List (List Int)} (hs : Asc s) (hu : Asc u) (ht : t.length = s.length) (wb : ∀ v ∈ lb, v.length = u.length) :
    likeL (idxL u (meetL s u) u.length) (pickL t (idxL s (meetL s u) s.length)) lb = lb.filter (fitB s u t) := by
  unfold likeL
  refine List.filter_congr fun v hv => ?_
  rw [key_left hs ht, key_right hs hu (wb v hv)]
  unfold fitB
  rw [decide_eq_decide]
  exact eq_comm

end Go.Proofs.YtafpecdmaogohaaGreat
