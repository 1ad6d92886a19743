/-
  The contracts of cut, and of the document's Cut and Rise.
-/
import Derived.Test.YtgmbflpngedhnaaGreatApp3
import Derived.Test.YtgmbflpngedhnaaGreatTupSort
import Derived.Test.YtgmbflpngedhnaaGreatTupPick
import Derived.Test.YtgmbflpngedhnaaGreatLibInts
import Derived.Test.YtgmbflpngedhnaaGreatRefJoin
namespace Go.Proofs.YtgmbflpngedhnaaGreat
open Go.RowKit
set_option linter.unusedVariables false
set_option linter.unusedSimpArgs false
set_option maxRecDepth 20000

/-- What the rows have at these places, rising, each once. -/
def cutL (ll : List (List Int)) (ps : List Int) : List (List Int) := sortL (ll.map fun t => pickL t ps)

theorem map_set_next {α β : Type} (f : α → β) (z : β) (l : List α) {k : Nat} (hk : k < l.length) :
    (((l.take k).map f) ++ List.replicate (l.length - k) z).set k (f l[k]) = ((l.take (k + 1)).map f) ++ List.replicate (l.length - (k + 1)) z := by
  have e : l.length - k = (l.length - (k + 1)) + 1 := by omega
  rw [e, List.replicate_succ, List.take_succ_eq_append_getElem hk, List.map_append, List.set_append_right _ _ (by simp; omega)]
  simp [Nat.min_eq_left (Nat.le_of_lt hk)]

set_option maxHeartbeats 2000000 in
theorem cut_any {ll : List (List Int)} {ps : List Int} {v vp : Value} {w : World} (h : Tups w v ll) (hp : Ints w vp ps) (hlen : ll.length < 100000) (hps : ps.length < 100000000) :
    Calls Tryz.prog 91 #[v, vp] w fun e w' => ∃ v, e = .returned v ∧ Tups w' v (cutL ll ps) ∧ New w.heap.size w' v ∧ Below w.heap.size w w' := by
  obtain ⟨a, ca, rfl, hla, hca⟩ := h.form
  obtain ⟨b, cb, rfl, hlb, hcb⟩ := hp.form
  unfold maxLen at hca hcb
  go_enter Tryz.func91, Tryz.ntmps91
  go_wp2_with (at_make; refine wp_make_rows rfl _ _ rfl (Nat.le_refl _) rfl rfl (by omega) ?_; intro w1 hown1 hb1)
  go_loopw [6, 7, 13] (fun _ _ i wr => ∃ k : Nat, k ≤ ll.length ∧ i = .int .i64 k ∧ OwnT w.heap.size wr (.slice (some ⟨w.heap.size, 0, none⟩) ll.length ll.length) (((ll.take k).map fun t => pickL t ps) ++ List.replicate (ll.length - k) []) ∧ Below w.heap.size w wr) (fun _ _ i _ => ll.length - (intOf i).toNat)
  case atStart => exact ⟨0, by omega, rfl, by simpa using hown1, hb1⟩
  case round =>
    clear hown1 hb1
    obtain ⟨k, hk, rfl, hown, hbel⟩ := hrel
    have hz := hbel.size
    by_cases hkl : k < ll.length
    · obtain ⟨bl, ol, ul, rfl, hcl, hil⟩ := (h.below hbel).at hkl
      obtain ⟨ia, ic, rfl, _, _⟩ := hil.form
      have HP := hide (pick_any hil (hp.below hbel) (by omega))
      have HN := hide (map_set_next (fun t => pickL t ps) [] ll hkl)
      clear h hp hil
      go_wp2_with fail
      refine (unhide HP).mono ?_
      rintro e w2 ⟨u, rfl, hu, hun, hb2⟩
      obtain ⟨ua, uc, hue, _, _⟩ := hu.form
      rw [hue] at hu hun ⊢
      have hownb := hown.below hb2
      obtain ⟨⟨old, hcell⟩, hfr, hset, hbs⟩ := OwnT.set hownb (i := k) (by simp; omega) hu (fun _ => (Sep.of_new hown.new (Nat.le_refl _) hun).symm)
      rw [unhide HN] at hset
      clear hue HP hown hownb HN
      go_wp2
      go_roundw
      case rel => exact ⟨k + 1, by omega, by go_num, hset, (hbel.trans (hb2.mono hz)).trans hbs⟩
      case measure => simp [intOf]; omega
    · have hkk : k = ll.length := by omega
      subst hkk
      have hown2 : OwnT w.heap.size wr (.slice (some ⟨w.heap.size, 0, none⟩) ll.length ll.length) (ll.map fun t => pickL t ps) := by simpa using hown
      have HS := hide (sort_any hown2.tups (by simpa using hlen) (fun t ht => by
        obtain ⟨x, _, rfl⟩ := List.mem_map.1 ht
        have := pickL_le x ps; omega))
      clear h hp hown hown2
      go_wp2_with fail
      refine (unhide HS).mono ?_
      rintro e w2 ⟨u, rfl, hu, hun, hb2⟩
      go_wp2
      go_ret
      exact ⟨_, rfl, hu, hun.grow hz (Nat.le_refl _), hbel.trans (hb2.mono hz)⟩

set_option maxHeartbeats 2000000 in
theorem refCut_any {sc onto : List Int} {ll : List (List Int)} {vs v vo : Value} {w : World} (hs : Ints w vs sc) (h : Tups w v ll) (ho : Ints w vo onto) (hlen : ll.length < 100000) (hps : onto.length < 100000000) :
    Calls Tryz.prog 73 #[vs, v, vo] w fun e w' => ∃ v, e = .returned v ∧ Tups w' v (cutL ll (onto.map (placeL sc))) ∧ New w.heap.size w' v ∧ Below w.heap.size w w' := by
  obtain ⟨a, ca, rfl, hla, hca⟩ := hs.form
  obtain ⟨b, cb, rfl, hlb, hcb⟩ := h.form
  obtain ⟨c, cc, rfl, hlc, hcc⟩ := ho.form
  unfold maxLen at hca hcb hcc
  go_enter Tryz.func73, Tryz.ntmps73
  go_wp2
  go_loopw [7, 8] (fun v i wr => ∃ k : Nat, k ≤ onto.length ∧ i = .int .i64 k ∧ OwnI w.heap.size wr v ((onto.take k).map (placeL sc)) ∧ Below w.heap.size w wr) (fun _ i _ => onto.length - (intOf i).toNat)
  case atStart => exact ⟨0, by omega, rfl, own_litI (Nat.le_refl _), (Below.refl _ _).alloc (Nat.le_refl _) _⟩
  case round =>
    obtain ⟨k, hk, rfl, hown, hbel⟩ := hrel
    have hz := hbel.size
    by_cases hkl : k < onto.length
    · obtain ⟨bl, ol, rfl, hcl⟩ := (ho.below hbel).at hkl
      have HP := hide (refPlace_any (n := onto[k]) (hs.below hbel))
      have HN := hide (show (onto.take (k + 1)).map (placeL sc) = (onto.take k).map (placeL sc) ++ [placeL sc onto[k]] by rw [List.take_succ_eq_append_getElem hkl, List.map_append]; rfl)
      have hll : ((onto.take k).map (placeL sc)).length ≤ k := by simp; omega
      clear hs h ho
      go_wp2_with (first | (go_at_call 74; refine (unhide HP).mono ?_; rintro e w' ⟨rfl, rfl⟩) | (at_builtin; refine wp_app_int rfl (.tmp 18) (.tmp 25) rfl hown rfl hz rfl (by omega) ?_; intro v' w1 hown1 hgrew))
      go_roundw
      case rel => exact ⟨k + 1, by omega, by go_num, by rw [unhide HN]; exact hown1, hbel.trans hgrew.below⟩
      case measure => simp [intOf]; omega
    · have hkk : k = onto.length := by omega
      subst hkk
      rw [List.take_length] at hown
      have hps' := Seq.of_own hown
      have hpsl : (onto.map (placeL sc)).length < 100000000 := by simpa using hps
      obtain ⟨ps, hpse⟩ : ∃ ps, ps = onto.map (placeL sc) := ⟨_, rfl⟩
      rw [← hpse] at hps' hown hpsl
      have HPS := hide hpse
      have h' := h.below hbel
      obtain ⟨pa, pc, hpe, _, _⟩ := hps'.form
      rw [hpe] at hps' ⊢
      clear hs h ho hown hpe hpse
      go_wp2
      go_loopw [9, 10] (fun v i wq => ∃ k : Nat, k ≤ ll.length ∧ i = .int .i64 k ∧ OwnT wr.heap.size wq v ((ll.take k).map fun t => pickL t ps) ∧ Below wr.heap.size wr wq) (fun _ i _ => ll.length - (intOf i).toNat)
      case atStart => exact ⟨0, by omega, rfl, OwnT.lit (Nat.le_refl _), (Below.refl _ _).alloc (Nat.le_refl _) _⟩
      case round =>
        obtain ⟨i, hi, rfl, hown, hbel2⟩ := hrel
        have hz2 := hbel2.size
        by_cases hil : i < ll.length
        · obtain ⟨bl, ol, ul, rfl, hcl, hiL⟩ := (h'.below hbel2).at hil
          obtain ⟨ia, ic, rfl, _, _⟩ := hiL.form
          have HP := hide (refPick_any hiL (hps'.below hbel2) (by omega))
          have HN := hide (show (ll.take (i + 1)).map (fun t => pickL t ps) = (ll.take i).map (fun t => pickL t ps) ++ [pickL ll[i] ps] by rw [List.take_succ_eq_append_getElem hil, List.map_append]; rfl)
          have hll : ((ll.take i).map fun t => pickL t ps).length ≤ i := by simp; omega
          clear h' hps' hiL
          go_wp2_with (first | (go_at_call 96; refine (unhide HP).mono ?_; rintro e w3 ⟨u, rfl, hu3, hun3, hb4⟩; obtain ⟨ua, uc, hue, _, _⟩ := hu3.form; rw [hue] at hu3 hun3 ⊢; clear hue) | (at_builtin; refine wp_app_tup rfl (.tmp 34) (.tmp 41) rfl (hown.below hb4) hu3 (fun _ => (Sep.of_new hown.new (Nat.le_refl _) hun3).symm) rfl (Nat.le_trans hz2 hb4.size) rfl (by omega) ?_; intro v' w4 hown4 hgrew))
          go_roundw
          case rel => exact ⟨i + 1, by omega, by go_num, by rw [unhide HN]; exact hown4, (hbel2.trans (hb4.mono hz2)).trans hgrew.below⟩
          case measure => simp [intOf]; omega
        · have hkk : i = ll.length := by omega
          subst hkk
          rw [List.take_length] at hown
          have HS := hide (refSort_any hown.tups (by simpa using hlen) (fun t ht => by
            obtain ⟨x, _, rfl⟩ := List.mem_map.1 ht
            have := pickL_le x ps; omega))
          clear h' hps' hown
          go_wp2_with fail
          refine (unhide HS).mono ?_
          rintro e w2 ⟨u, rfl, hu, hun, hb2⟩
          go_wp2
          go_ret
          exact ⟨_, rfl, by rw [← unhide HPS]; exact hu, hun.grow (Nat.le_trans hz hz2) (Nat.le_refl _), hbel.trans ((hbel2.trans (hb2.mono hz2)).mono hz)⟩

theorem riseL_spec (l : List Int) : Asc (riseL l) ∧ ∀ x, x ∈ riseL l ↔ x ∈ l := by
  have : ∀ (l acc : List Int), Asc acc → Asc (l.foldl (fun acc x => joinL acc [x]) acc) ∧ ∀ x, x ∈ l.foldl (fun acc x => joinL acc [x]) acc ↔ x ∈ acc ∨ x ∈ l := by
    intro l
    induction l with
    | nil => exact fun acc h => ⟨h, by simp⟩
    | cons y r ih =>
      intro acc h
      obtain ⟨k1, k2⟩ := ih (joinL acc [y]) (asc_joinL h (by simp [Asc]))
      refine ⟨k1, fun x => ?_⟩
      rw [List.foldl_cons, k2, mem_joinL, List.mem_cons]
      simp [or_assoc]
  obtain ⟨h1, h2⟩ := this l [] (by simp [Asc])
  exact ⟨h1, fun x => by have := h2 x; simpa [riseL] using this⟩

end Go.Proofs.YtgmbflpngedhnaaGreat
