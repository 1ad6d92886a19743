/-
  What an order is; the contract of order.Valid.
-/
import Derived.Test.YtcglbopmfdilfaaDoorGMath
import Derived.Test.YtcglbopmfdilfaaDoorGOwn
import Derived.Test.YtcglbopmfdilfaaDoorGReach
namespace Go.Proofs.YtcglbopmfdilfaaDoor
open Go.RowKit
set_option linter.unusedVariables false
set_option linter.unusedSimpArgs false
set_option maxRecDepth 20000

/-- Is it an order of n points? -/
def ordB (n : Int) (l : List Int) : Bool := decide ((l.length : Int) = n ∧ (∀ x ∈ l, 0 ≤ x ∧ x < n) ∧ l.Nodup)
theorem ordB_iff {n : Int} {l : List Int} : ordB n l = true ↔ (l.length : Int) = n ∧ (∀ x ∈ l, 0 ≤ x ∧ x < n) ∧ l.Nodup := by simp [ordB]

/-- So far all are points, each once, and those are marked. -/
structure SeenOk (l : List Int) (S : List Bool) (k : Nat) : Prop where
  len : S.length = l.length
  mark : ∀ i : Nat, S.getD i false = true ↔ (i : Int) ∈ l.take k
  pts : ∀ x ∈ l.take k, 0 ≤ x ∧ x < (l.length : Int)
  nod : (l.take k).Nodup

theorem SeenOk.begin (l : List Int) : SeenOk l (List.replicate l.length false) 0 :=
  ⟨by simp, fun i => by
    rw [List.getD_eq_getElem?_getD, List.getElem?_replicate]
    split <;> simp, fun x hx => by simp at hx, by simp⟩

theorem SeenOk.next {l : List Int} {S : List Bool} {k j : Nat} (h : SeenOk l S k) (hk : k < l.length) (hj : l[k] = (j : Int)) (hjn : j < l.length) (hs : S.getD j false = false) : SeenOk l (S.set j true) (k + 1) := by
  have htk := List.take_succ_eq_append_getElem hk
  have hnew : (j : Int) ∉ l.take k := fun hm => by rw [(h.mark j).2 hm] at hs; cases hs
  refine ⟨by simp [h.len], fun i => ?_, fun x hx => ?_, ?_⟩
  · rw [getD_set (by rw [h.len]; exact hjn), h.mark, htk, List.mem_append, List.mem_singleton, hj]
    constructor
    · rintro (h1 | h1)
      · exact .inl h1
      · exact .inr (by rw [h1])
    · rintro (h1 | h1)
      · exact .inl h1
      · exact .inr (by omega)
  · rw [htk, List.mem_append, List.mem_singleton] at hx
    rcases hx with hx | hx
    · exact h.pts x hx
    · rw [hx, hj]; omega
  · rw [htk, List.nodup_append, hj]
    exact ⟨h.nod, by simp, fun a ha b hb => by rw [List.mem_singleton] at hb; subst hb; exact fun e => hnew (e ▸ ha)⟩

set_option maxHeartbeats 4000000 in
theorem valid_any {n : Int} {l : List Int} {v : Value} {w : World} (hl : Ints w v l) (hlen : l.length < 100000000000) :
    Calls Tryd.prog 43 #[.int .i64 n, v] w fun e w' => e = .returned (.bool (ordB n l)) ∧ Below w.heap.size w w' := by
  have HL := hide (fun W (hb : Below w.heap.size w W) => hl.below hb)
  obtain ⟨a, c, rfl, hla, hca⟩ := hl.form
  unfold maxLen at hca
  clear hl
  by_cases hn : (l.length : Int) = n
  · subst hn
    go_enter Tryd.func43, Tryd.ntmps43
    go_wp2_with (at_make; refine wp_make_bools rfl _ _ rfl (B := w.heap.size) (Nat.le_refl _) rfl rfl (by omega) ?_; intro w2 ho2 hb2)
    go_loopw [16] (fun i wr => ∃ (k : Nat) (S : List Bool), k ≤ l.length ∧ i = .int .i64 k ∧ OwnB w.heap.size wr (.slice (some ⟨w.heap.size, 0, none⟩) l.length l.length) S ∧ Hid (SeenOk l S k) ∧ Below w.heap.size w wr) (fun i wr => l.length - (intOf i).toNat)
    case atStart => exact ⟨0, _, by omega, rfl, ho2, hide (SeenOk.begin l), hb2⟩
    case round =>
      clear ho2 hb2
      obtain ⟨k, S, hk, rfl, hown, HS, hbel⟩ := hrel
      rename World => wr
      have hzr := hbel.size
      by_cases hkl : k < l.length
      · obtain ⟨bl, ol, e1, q1⟩ := (unhide HL wr hbel).at hkl
        subst e1
        have HNO := hide (fun (h : ¬ (0 ≤ l[k] ∧ l[k] < (l.length : Int))) => (show ordB (l.length : Int) l = false from by
          rw [Bool.eq_false_iff]
          intro h'
          exact h ((ordB_iff.1 h').2.1 _ (List.getElem_mem hkl))))
        have HDU := hide (fun (j : Nat) (hj : l[k] = (j : Int)) (hs : S.getD j false = true) => (show ordB (l.length : Int) l = false from by
          rw [Bool.eq_false_iff]
          intro h'
          have hnd := (ordB_iff.1 h').2.2
          have hm := ((unhide HS).mark j).1 hs
          rw [← hj] at hm
          obtain ⟨i, hi, e⟩ := List.getElem_of_mem hm
          rw [List.length_take] at hi
          rw [List.getElem_take] at e
          have := (List.pairwise_iff_getElem.1 hnd) i k (by omega) hkl (by omega)
          exact this e))
        have HNX := hide (fun (j : Nat) (hj : l[k] = (j : Int)) (hjn : j < l.length) (hs : S.getD j false = false) => (unhide HS).next hkl hj hjn hs)
        have hSl := (unhide HS).len
        generalize l[k] = a at *
        by_cases h0 : 0 ≤ a
        · by_cases h1 : a < (l.length : Int)
          · have hak : (a.toNat : Int) = a := by omega
            have hjn : a.toNat < l.length := by omega
            generalize a.toNat = j at *
            subst hak
            have HD := hide (unhide HDU j rfl)
            have HX := hide (unhide HNX j rfl hjn)
            clear HNO HDU HNX h0
            rw [← hSl] at hown
            obtain ⟨⟨u, hc⟩, hf, hset, hbs⟩ := own_setB hown rfl (by omega : j < S.length) true
            obtain ⟨_, _, e2, q2⟩ := (Seq.of_own hown).at (by omega : j < S.length)
            cases e2
            rw [Nat.zero_add] at q2
            have e3 : S.getD j false = S[j] := by rw [List.getD_eq_getElem?_getD, List.getElem?_eq_getElem (by omega)]; rfl
            rw [← e3] at q2
            rw [hSl] at hset
            have HSET := hide (And.intro hset (hbel.trans hbs))
            clear hc hset hbs hown e3
            cases hS : S.getD j false with
            | true =>
              have HD2 := hide (unhide HD hS)
              rw [hS] at q2
              clear HD HX hS HS HSET hSl
              go_wp2
              go_ret
              exact ⟨by rw [unhide HD2]; rfl, hbel⟩
            | false =>
              have HX2 := hide (unhide HX hS)
              rw [hS] at q2
              clear HD HX hS HS hSl
              go_wp2
              go_roundw
              case rel => exact ⟨k + 1, S.set j true, by omega, by go_num, (unhide HSET).1, HX2, (unhide HSET).2⟩
              case measure => simp [intOf]; omega
          · have HD2 := hide (unhide HNO (fun h => h1 h.2))
            clear HDU HNX HS hown
            go_wp2
            go_ret
            exact ⟨by rw [unhide HD2]; rfl, hbel⟩
        · have HD2 := hide (unhide HNO (fun h => h0 h.1))
          clear HDU HNX HS hown
          go_wp2
          go_ret
          exact ⟨by rw [unhide HD2]; rfl, hbel⟩
      · have e : l.take k = l := List.take_of_length_le (by omega)
        have hok := unhide HS
        have h1 := hok.pts
        have h2 := hok.nod
        rw [e] at h1 h2
        have hv : ordB (l.length : Int) l = true := ordB_iff.2 ⟨rfl, h1, h2⟩
        have HV := hide hv
        clear hown HS hok h1 h2 hv e
        go_wp2
        go_ret
        exact ⟨by rw [unhide HV]; rfl, hbel⟩
  · have hv : ordB n l = false := by
      rw [Bool.eq_false_iff]
      intro h
      exact hn (ordB_iff.1 h).1
    rw [hv]
    have hne : ((l.length : Int) == n) = false := by simpa using hn
    go_enter Tryd.func43, Tryd.ntmps43
    go_wp2
    go_ret
    exact ⟨rfl, Below.refl _ _⟩

end Go.Proofs.YtcglbopmfdilfaaDoor
