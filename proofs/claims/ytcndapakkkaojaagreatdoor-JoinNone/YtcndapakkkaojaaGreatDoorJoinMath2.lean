/-
  How the program's rows of a join, and its keys, come to the rows that are meant: plain mathematics.
-/
import Derived.Test.YtcndapakkkaojaaGreatDoorJoinMath
import Derived.Test.YtcndapakkkaojaaGreatDoorJoinKeyM
namespace Go.Proofs.YtcndapakkkaojaaGreatDoor
set_option linter.unusedVariables false
set_option linter.unusedSimpArgs false

theorem get_left {s r t w : List Int} {x : Int} (hl : t.length = s.length) (hx : x ∈ s) : getR (s ++ r) (t ++ w) x = getR s t x := by
  rcases placeL_cases s x with ⟨_, h⟩ | ⟨k, hk, h1, h2, h3⟩
  · exact absurd hx h
  · have e : placeL (s ++ r) x = k := placeL_at (by simp; omega) (by rw [List.getElem_append_left hk]; exact h2) (fun i hi hik => by rw [List.getElem_append_left (by omega)]; exact h3 i (by omega) hik)
    unfold getR
    rw [e, h1]
    simp only [Int.toNat_natCast, List.getD_eq_getElem?_getD]
    rw [List.getElem?_append_left (by omega)]

theorem get_right {s r t w : List Int} {x : Int} (hl : t.length = s.length) (hx : x ∉ s) (hr : x ∈ r) : getR (s ++ r) (t ++ w) x = getR r w x := by
  rcases placeL_cases r x with ⟨_, h⟩ | ⟨k, hk, h1, h2, h3⟩
  · exact absurd hr h
  · have e : placeL (s ++ r) x = ((s.length + k : Nat) : Int) := placeL_at (by simp; omega) (by rw [List.getElem_append_right (by omega)]; simpa using h2) (fun i hi hik => by
      by_cases his : i < s.length
      · rw [List.getElem_append_left his]; exact fun e => hx (e ▸ List.getElem_mem his)
      · rw [List.getElem_append_right (by omega)]; exact h3 _ (by omega) (by omega))
    unfold getR
    rw [e, h1]
    simp only [Int.toNat_natCast, List.getD_eq_getElem?_getD]
    rw [List.getElem?_append_right (by omega)]
    congr 2
    omega

/-- The rows that the program makes of one row of the first. -/
def progT (s u : List Int) (lb : List (List Int)) (t : List Int) : List (List Int) := (lb.filter (fitB s u t)).map fun v => t ++ pickL v ((lessL u s).map (placeL u))
def progR (s : List Int) (la : List (List Int)) (u : List Int) (lb : List (List Int)) : List (List Int) := la.flatMap (progT s u lb)

theorem prog_len (s u : List Int) (lb : List (List Int)) : ∀ la, (progR s la u lb).length = (pairR s la u lb).length
  | [] => rfl
  | t :: r => by
    have ih := prog_len s u lb r
    have e1 : progR s (t :: r) u lb = progT s u lb t ++ progR s r u lb := by simp [progR]
    have e2 : pairR s (t :: r) u lb = (lb.filter (fitB s u t)).map (bothR s u t) ++ pairR s r u lb := by simp [pairR]
    rw [e1, e2, List.length_append, List.length_append, ih]
    simp [progT]

theorem rise_two {s u : List Int} (hs : Asc s) (hu : Asc u) : riseL (s ++ lessL u s) = joinL s u :=
  Asc.ext (riseL_spec _).1 (asc_joinL hs hu) fun x => by
    rw [(riseL_spec _).2, List.mem_append, mem_lessL, mem_joinL]
    by_cases h : x ∈ s <;> simp [h]

theorem two_nodup {s u : List Int} (hs : Asc s) (hu : Asc u) : (s ++ lessL u s).Nodup := by
  rw [List.nodup_append]
  exact ⟨hs.nodup, (asc_lessL hu).nodup, fun a ha b hb e => by subst e; exact (mem_lessL.1 hb).2 ha⟩

theorem prog_row {s u t v : List Int} (hs : Asc s) (hu : Asc u) (ht : t.length = s.length) (hv : v.length = u.length) :
    (t ++ pickL v ((lessL u s).map (placeL u))).length = (s ++ lessL u s).length ∧ pickL (t ++ pickL v ((lessL u s).map (placeL u))) ((joinL s u).map (placeL (s ++ lessL u s))) = bothR s u t v := by
  have hsub : ∀ x ∈ lessL u s, x ∈ u := fun x hx => (mem_lessL.1 hx).1
  have e := pick_map (t := v) hsub hv
  have hlen : (t ++ pickL v ((lessL u s).map (placeL u))).length = (s ++ lessL u s).length := by rw [e]; simp [ht]
  refine ⟨hlen, ?_⟩
  rw [pick_map (s := s ++ lessL u s) (fun x hx => by
    rw [List.mem_append, mem_lessL]
    rcases mem_joinL.1 hx with h | h
    · exact .inl h
    · by_cases hxs : x ∈ s
      · exact .inl hxs
      · exact .inr ⟨h, hxs⟩) hlen, e]
  unfold bothR
  refine List.map_congr_left fun x hx => ?_
  by_cases hxs : x ∈ s
  · rw [if_pos hxs, get_left ht hxs]
  · have hxu := (mem_joinL.1 hx).resolve_left hxs
    have hxl : x ∈ lessL u s := mem_lessL.2 ⟨hxu, hxs⟩
    rw [if_neg hxs, get_right ht hxs hxl, getR_map _ hxl]

theorem prog_mem {s u : List Int} {la lb : List (List Int)} {r : List Int} (h : r ∈ progR s la u lb) : ∃ t ∈ la, ∃ v ∈ lb, r = t ++ pickL v ((lessL u s).map (placeL u)) := by
  unfold progR at h
  obtain ⟨t, ht, h⟩ := List.mem_flatMap.1 h
  unfold progT at h
  obtain ⟨v, hv, rfl⟩ := List.mem_map.1 h
  exact ⟨t, ht, v, (List.mem_filter.1 hv).1, rfl⟩

theorem prog_make {s u : List Int} {la lb : List (List Int)} {n m : Nat} (g : Fine s la n) (g' : Fine u lb m) :
    makeOk (s ++ lessL u s) (progR s la u lb) = true ∧ riseL (s ++ lessL u s) = joinL s u ∧ makeL (s ++ lessL u s) (progR s la u lb) = joinR s la u lb := by
  have hr := rise_two g.asc g'.asc
  refine ⟨?_, hr, ?_⟩
  · unfold makeOk schemeOk wideB
    rw [Bool.and_eq_true, Bool.and_eq_true, decide_eq_true_eq, List.all_eq_true]
    refine ⟨⟨(rise_len _).2 (two_nodup g.asc g'.asc), ?_⟩, fun r hr => ?_⟩
    · rw [hr]
      exact headB_of fun x hx => by
        rcases mem_joinL.1 hx with h | h
        · exact g.pos x h
        · exact g'.pos x h
    · obtain ⟨t, ht, v, hv, rfl⟩ := prog_mem hr
      rw [decide_eq_true_eq, (prog_row g.asc g'.asc (g.wide t ht) (g'.wide v hv)).1]
  · unfold makeL cutL joinR
    rw [hr]
    congr 1
    unfold progR pairR
    rw [List.map_flatMap, List.flatMap_def, List.flatMap_def]
    congr 1
    refine List.map_congr_left fun t ht => ?_
    unfold progT
    rw [List.map_map]
    refine List.map_congr_left fun v hv => ?_
    exact (prog_row g.asc g'.asc (g.wide t ht) (g'.wide v (List.mem_filter.1 hv).1)).2

/-- What rows have at the places of the variables of both. -/
theorem key_left {s u t : List Int} (hs : Asc s) (ht : t.length = s.length) : pickL t (idxL s (meetL s u) s.length) = (meetL s u).map (getR s t) := by
  rw [← (idx_all (meetL s u) hs.nodup).2, meet_meet hs, pick_map meet_sub ht]
theorem key_right {s u v : List Int} (hs : Asc s) (hu : Asc u) (hv : v.length = u.length) : pickL v (idxL u (meetL s u) u.length) = (meetL s u).map (getR u v) := by
  rw [← (idx_all (meetL s u) hu.nodup).2, meet_meet' hs hu, pick_map (fun x hx => (mem_meetL.1 hx).2) hv]
theorem rest_right {s u : List Int} (hu : Asc u) : idxL u (lessL u s) u.length = (lessL u s).map (placeL u) := by
  have h : meetL u (lessL u s) = lessL u s := Asc.ext (asc_meetL hu) (asc_lessL hu) fun x => by rw [mem_meetL, mem_lessL]; exact ⟨fun h => h.2, fun h => ⟨h.1, h⟩⟩
  rw [← (idx_all (lessL u s) hu.nodup).2, h]

theorem like_fit {s u t : List Int} {lb : List (List Int)} (hs : Asc s) (hu : Asc u) (ht : t.length = s.length) (wb : ∀ v ∈ lb, v.length = u.length) :
    likeL (idxL u (meetL s u) u.length) (pickL t (idxL s (meetL s u) s.length)) lb = lb.filter (fitB s u t) := by
  unfold likeL
  refine List.filter_congr fun v hv => ?_
  rw [key_left hs ht, key_right hs hu (wb v hv)]
  unfold fitB
  rw [decide_eq_decide]
  exact eq_comm

end Go.Proofs.YtcndapakkkaojaaGreatDoor
