/-
  The contracts of cut, and of the document's Cut and Rise.
-/
import Derived.Test.YtafpecdmaogohaaGreatApp3
import Derived.Test.YtafpecdmaogohaaGreatTupSort
import Derived.Test.YtafpecdmaogohaaGreatTupPick
import Derived.Test.YtafpecdmaogohaaGreatLibInts
import Derived.Test.YtafpecdmaogohaaGreatRefJoin
namespace Go.Proofs.YtafpecdmaogohaaGreat
open Go.RowKit
set_option linter.unusedVariables false
set_option linter.unusedSimpArgs false
set_option maxRecDepth 20000

/-- What the rows have at these places, rising, each once. -/
def cutL (ll : List (List Int)) (ps : List Int) : List (List Int) := sortL (ll.map fun t => pickL t ps)

theorem map_set_next {α β : Type} (f : α → β) (z : β) (l : List α) {k : Nat} (hk : k < l.length) :
    (((l.take k).map f) ++ List.replicate (l.length - k) z).set k (f l[k]) = ((l.take (k + 1)).map f) ++ List.replicate (l.length - (k + 1)) z := by
  have e : l.length - k = (l.length - (k + 1)) + 1 := by omega
  rw [e, List.replicate_succ, List.take_succ_eq_append_getElem hk, List.map_append, List.set_append_right _ _ (by simp; omega)]
  simp [Nat.min_eq_left (Nat.le_of_lt hk)]

set_option maxHeartbeats 2000000 in
theorem cut_any {ll : List (List Int)} {ps : List Int} {v vp : Value} {w : World} (h : Tups w v ll) (hp : Ints w vp ps) (hlen : ll.length < 100000) (hps : ps.length < 100000000) :
    Calls Tryz.prog 48 #[v, vp] w fun e w' => ∃ v, e = .returned v ∧ Tups w' v (cutL ll ps) ∧ New w.heap.size w' v ∧ Below w.heap.size w w' := by
  obtain ⟨a, ca, rfl, hla, hca⟩ := h.form
  obtain ⟨b, cb, rfl, hlb, hcb⟩ := hp.form
  unfold maxLen at hca hcb
  go_enter Tryz.func48, Tryz.ntmps48
  go_wp2_with (at_make; refine wp_make_rows rfl _ _ rfl (Nat.le_refl _) rfl rfl (by omega) ?_; intro w1 hown1 hb1)
  go_loopw [6, 7, 13] (fun _ _ i wr => ∃ k : Nat, k ≤ ll.length ∧ i = .int .i64 k ∧ OwnT w.heap.size wr (.slice (some ⟨w.heap.size, 0, none⟩) ll.length ll.length) (((ll.take k).map fun t => pickL t ps) ++ List.replicate (ll.length - k) []) ∧ Below w.heap.size w wr) (fun _ _ i _ => ll.length - (intOf i).toNat)
  case atStart => exact ⟨0, by omega, rfl, by simpa using hown1, hb1⟩
  case round =>
    clear hown1 hb1
    obtain ⟨k, hk, rfl, hown, hbel⟩ := hrel
    have hz := hbel.size
    by_cases hkl : k < ll.length
    · obtain ⟨bl, ol, ul, rfl, hcl, hil⟩ := (h.below hbel).at hkl
      obtain ⟨ia, ic, rfl, _, _⟩ := hil.form
      have HP := hide (pick_any hil (hp.below hbel) (by omega))
      have HN := hide (map_set_next (fun t => pickL t ps) [] ll hkl)
      clear h hp hil
      go_wp2_with fail
      refine (unhide HP).mono ?_
      rintro e w2 ⟨u, rfl, hu, hun, hb2⟩
      obtain ⟨ua, uc, hue, _, _⟩ := hu.form
      rw [hue] at hu hun ⊢
      have hownb := hown.below hb2
      obtain ⟨⟨old, hcell⟩, hfr, hset, hbs⟩ := OwnT.set hownb (i := k) (by simp; omega) hu (fun _ => (Sep.of_new hown.new (Nat.le_refl _) hun).symm)
      rw [unhide HN] at hset
      clear hue HP hown hownb HN
      go_wp2
      go_roundw
      case rel => exact ⟨k + 1, by omega, by go_num, hset, (hbel.trans (hb2.mono hz)).trans hbs⟩
      case measure => simp [intOf]; omega
    · have hkk : k = ll.length := by omega
      subst hkk
      have hown2 : OwnT w.heap.size wr (.slice (some ⟨w.heap.size, 0, none⟩) ll.length ll.length) (ll.map fun t => pickL t ps) := by simpa using hown
      have HS := hide (sort_any hown2.tups (by simpa using hlen) (fun t ht => by
        obtain ⟨x, _, rfl⟩ := List.mem_map.1 ht
        have := pickL_le x ps; omega))
      clear h hp hown hown2
      go_wp2_with fail
      refine (unhide HS).mono ?_
      rintro e w2 ⟨u, rfl, hu, hun, hb2⟩
      go_wp2
      go_ret
      exact ⟨_, rfl, hu, hun.grow hz (Nat.le_refl _), hbel.trans (hb2.mono hz)⟩

theorem riseL_spec (l : List Int) : Asc (riseL l) ∧ ∀ x, x ∈ riseL l ↔ x ∈ l := by
  have : ∀ (l acc : List Int), Asc acc → Asc (l.foldl (fun acc x => joinL acc [x]) acc) ∧ ∀ x, x ∈ l.foldl (fun acc x => joinL acc [x]) acc ↔ x ∈ acc ∨ x ∈ l := by
    intro l
    induction l with
    | nil => exact fun acc h => ⟨h, by simp⟩
    | cons y r ih =>
      intro acc h
      obtain ⟨k1, k2⟩ := ih (joinL acc [y]) (asc_joinL h (by simp [Asc]))
      refine ⟨k1, fun x => ?_⟩
      rw [List.foldl_cons, k2, mem_joinL, List.mem_cons]
      simp [or_assoc]
  obtain ⟨h1, h2⟩ := this l [] (by simp [Asc])
  exact ⟨h1, fun x => by have := h2 x; simpa [riseL] using this⟩

end Go.Proofs.YtafpecdmaogohaaGreat
