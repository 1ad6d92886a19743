/-
  Plain mathematics of what Make makes: nothing of the program is spoken of here.
-/
import Derived.Test.YtafpecdmaogohaaGreatRelPlaces
import Derived.Test.YtafpecdmaogohaaGreatRelRight
namespace Go.Proofs.YtafpecdmaogohaaGreat
set_option linter.unusedVariables false
set_option linter.unusedSimpArgs false

theorem joinL_one_len {acc : List Int} {x : Int} : (joinL acc [x]).length = acc.length + if x ∈ acc then 0 else 1 := by
  simp only [joinL, List.length_merge, lessL]
  by_cases h : x ∈ acc <;> simp [h]

theorem rise_len_aux : ∀ (l acc : List Int), Asc acc → ((l.foldl (fun acc x => joinL acc [x]) acc).length = acc.length + l.length ↔ l.Nodup ∧ ∀ x ∈ l, x ∉ acc)
  | [], acc, _ => by simp
  | y :: r, acc, h => by
    have hj := asc_joinL (b := [y]) h (by simp [Asc])
    have ih := rise_len_aux r (joinL acc [y]) hj
    have hl := joinL_one_len (acc := acc) (x := y)
    have hle : ∀ (l acc : List Int), (l.foldl (fun acc x => joinL acc [x]) acc).length ≤ acc.length + l.length := by
      intro l
      induction l with
      | nil => intro acc; simp
      | cons x r ih => intro acc; have := ih (joinL acc [x]); have := joinL_le acc [x]; simp at *; omega
    have hle' := hle r (joinL acc [y])
    rw [List.foldl_cons, List.nodup_cons]
    by_cases hy : y ∈ acc
    · rw [if_pos hy] at hl
      constructor
      · intro e; simp at e; omega
      · rintro ⟨_, h2⟩; exact absurd hy (h2 y (by simp))
    · rw [if_neg hy] at hl
      have e1 : ((r.foldl (fun acc x => joinL acc [x]) (joinL acc [y])).length = acc.length + (y :: r).length) ↔ ((r.foldl (fun acc x => joinL acc [x]) (joinL acc [y])).length = (joinL acc [y]).length + r.length) := by
        rw [hl]; simp; omega
      rw [e1, ih]
      constructor
      · rintro ⟨h1, h2⟩
        refine ⟨⟨fun hyr => ?_, h1⟩, fun x hx hxa => ?_⟩
        · exact h2 y hyr (mem_joinL.2 (.inr (by simp)))
        · rcases List.mem_cons.1 hx with rfl | hx
          · exact hy hxa
          · exact h2 x hx (mem_joinL.2 (.inl hxa))
      · rintro ⟨⟨h1, h2⟩, h3⟩
        refine ⟨h2, fun x hx hxj => ?_⟩
        rcases mem_joinL.1 hxj with hx' | hx'
        · exact h3 x (by simp [hx]) hx'
        · simp at hx'; subst hx'; exact h1 hx

theorem rise_len (l : List Int) : (riseL l).length = l.length ↔ l.Nodup := by
  have := rise_len_aux l [] (by simp [Asc])
  simpa [riseL] using this

theorem pick_nats (s : List Int) : pickL s (natsI s.length) = s := by
  have e : natsI s.length = (List.finRange s.length).map (fun i => ((i.val : Nat) : Int)) := by
    apply List.ext_getElem
    · simp [natsI]
    · intro i h1 h2; simp [natsI]
  rw [e, pick_fin]
  apply List.ext_getElem
  · simp
  · intro i h1 h2; simp

theorem pick_perm {s ps : List Int} (h : ps.Perm (natsI s.length)) : (pickL s ps).Perm s := by
  have h1 : (pickL s ps).Perm (pickL s (natsI s.length)) := h.filterMap _
  rwa [pick_nats] at h1

theorem up_asc {t : List Int} (h : t.Pairwise (· ≤ ·)) (hn : t.Nodup) : Asc t := by
  have := h.and hn
  exact this.imp (fun {a b} ⟨h1, h2⟩ => by omega)

theorem pick_rise {s ps : List Int} (h : ps.Perm (natsI s.length)) (hup : (pickL s ps).Pairwise (· ≤ ·)) (hn : s.Nodup) : pickL s ps = riseL s := by
  have hp := pick_perm h
  have ha := up_asc hup (hp.nodup_iff.2 hn)
  exact Asc.ext ha (riseL_spec s).1 fun x => by rw [(riseL_spec s).2]; exact hp.mem_iff

/-- Whether Make makes a relation of these. -/
def schemeOk (s : List Int) : Bool := decide ((riseL s).length = s.length) && headB (riseL s)
def makeOk (s : List Int) (ll : List (List Int)) : Bool := schemeOk s && wideB ll s.length
def makeL (s : List Int) (ll : List (List Int)) : List (List Int) := cutL ll ((riseL s).map (placeL s))

theorem right_pick {s ps : List Int} (h : ps.Perm (natsI s.length)) (hup : (pickL s ps).Pairwise (· ≤ ·)) : rightS (pickL s ps) = schemeOk s := by
  unfold rightS schemeOk
  by_cases hn : s.Nodup
  · rw [pick_rise h hup hn]
    have h1 : risB (riseL s) = true := (risB_iff _).2 (riseL_spec s).1
    rw [h1, (rise_len s).2 hn]
    simp
  · have h1 : risB (pickL s ps) = false := by
      rw [Bool.eq_false_iff]
      intro e
      exact hn ((pick_perm h).nodup_iff.1 (Asc.nodup ((risB_iff _).1 e)))
    have h2 : ¬ (riseL s).length = s.length := fun e => hn ((rise_len s).1 e)
    rw [h1]; simp [h2]

theorem place_at_nodup {s : List Int} (hn : s.Nodup) {k : Nat} (hk : k < s.length) : placeL s s[k] = k :=
  placeL_at hk rfl (fun i hi hik e => by
    exact (List.pairwise_iff_getElem.1 hn) i k hi hk hik e)

theorem nats_mem {n : Nat} {p : Int} : p ∈ natsI n ↔ ∃ k : Nat, k < n ∧ p = k := by
  simp only [natsI, List.mem_map, List.mem_range]
  constructor
  · rintro ⟨k, hk, rfl⟩; exact ⟨k, hk, rfl⟩
  · rintro ⟨k, hk, rfl⟩; exact ⟨k, hk, rfl⟩

theorem pick_place {s ps : List Int} (h : ∀ p ∈ ps, ∃ k : Nat, k < s.length ∧ p = k) (hn : s.Nodup) : (pickL s ps).map (placeL s) = ps := by
  induction ps with
  | nil => rfl
  | cons p r ih =>
    obtain ⟨k, hk, rfl⟩ := h p (by simp)
    have e : pickL s ((k : Int) :: r) = s[k] :: pickL s r := by
      unfold pickL; rw [List.filterMap_cons]; simp [hk]
    rw [e, List.map_cons, place_at_nodup hn hk, ih (fun q hq => h q (by simp [hq]))]

theorem cut_pick {s ps : List Int} {ll : List (List Int)} (h : ps.Perm (natsI s.length)) (hup : (pickL s ps).Pairwise (· ≤ ·)) (hok : schemeOk s = true) : pickL s ps = riseL s ∧ cutL ll ps = makeL s ll := by
  have hn : s.Nodup := (rise_len s).1 (by unfold schemeOk at hok; simp at hok; exact hok.1)
  refine ⟨pick_rise h hup hn, ?_⟩
  unfold makeL
  rw [← pick_rise h hup hn, pick_place (fun p hp => nats_mem.1 (h.mem_iff.1 hp)) hn]

end Go.Proofs.YtafpecdmaogohaaGreat
