/-
  The contracts of choices, gather, Full, Table.
-/
import Derived.Test.YtflibcfecnhjgaaBClos
import Derived.Test.YtflibcfecnhjgaaBHolds
import Derived.Test.YtflibcfecnhjgaaRelRight
namespace Go.Proofs.Ytflibcfecnhjgaa
open Go.RowKit
set_option linter.unusedVariables false
set_option linter.unusedSimpArgs false
set_option maxRecDepth 20000

theorem full_nil : ∀ {ls : List (List Int)}, [] ∈ ls → fullL ls = []
  | d :: ls, h => by
    rcases List.mem_cons.1 h with h | h
    · subst h; rfl
    · rw [fullL, full_nil h]; simp

/-- A variable's domain. -/
def domL (doms : List (List Int)) (x : Int) : List Int := doms.getD x.toNat []

def pad (f : Int → List Int) (A : List Int) (k : Nat) : List (List Int) := (A.take k).map f ++ List.replicate (A.length - k) []
theorem pad_len (f : Int → List Int) (A : List Int) {k : Nat} (h : k ≤ A.length) : (pad f A k).length = A.length := by simp [pad]; omega
theorem pad_zero (f : Int → List Int) (A : List Int) : pad f A 0 = List.replicate A.length [] := by simp [pad]
theorem pad_all (f : Int → List Int) (A : List Int) : pad f A A.length = A.map f := by simp [pad]
theorem pad_set (f : Int → List Int) (A : List Int) {k : Nat} (h : k < A.length) : (pad f A k).set k (f A[k]) = pad f A (k + 1) := by
  unfold pad
  have e1 : ((A.take k).map f).length = k := by simp; omega
  have e2 : A.length - k = (A.length - (k + 1)) + 1 := by omega
  rw [List.set_append_right _ _ (by omega), e1, Nat.sub_self, e2, List.replicate_succ, List.set_cons_zero, List.take_succ_eq_append_getElem h, List.map_append, List.append_assoc]
  rfl

theorem seq_nilW {α : Type} {enc : α → Value} {w w' : World} {v : Value} (h : Seq enc w v []) : Seq enc w' v [] := by
  obtain ⟨a, cap, h1, h2, h3, h4, h5, h6⟩ := h
  exact ⟨a, cap, h1, h2, h3, h4, fun x _ h => absurd rfl h, fun i y hi => by simp at hi⟩

set_option maxHeartbeats 4000000 in
theorem choices_any {doms : List (List Int)} {scope : List Int} {vd vs : Value} {w0 w : World} (hd : Tups w0 vd doms) (hb0 : Below w0.heap.size w0 w) (hs : Ints w vs scope) (hin : ∀ x ∈ scope, 0 ≤ x ∧ x < (doms.length : Int)) (hlen : scope.length < 100000) :
    Calls Try.prog 37 #[vd, vs] w fun e w' => ∃ v L us, e = .returned v ∧ OwnV w.heap.size w' v us ∧ us.length = L.length ∧ (∀ i (h : i < us.length) (h' : i < L.length), Ints w0 us[i] L[i]) ∧
      fullL L = fullL (scope.map (domL doms)) ∧ L.length < 100000 ∧ (∀ l ∈ L, l = [] ∨ l ∈ doms) ∧ Below w.heap.size w w' := by
  obtain ⟨a, ca, rfl, hla, hca⟩ := hd.form
  obtain ⟨b, cb, rfl, hlb, hcb⟩ := hs.form
  unfold maxLen at hca hcb
  have HD := hide hd
  have HS := hide hs
  have HIN := hide hin
  clear hd hs hin
  go_enter Try.func37, Try.ntmps37
  go_wp2_with (at_make; refine wp_make_rows rfl _ _ rfl (Nat.le_refl _) rfl rfl (by omega) ?_; intro w1 hown1 hb1)
  obtain ⟨us1, hu1, hl1, hr1⟩ := hown1
  go_loopw [13] (fun i wr => ∃ (k : Nat) (us : List Value), k ≤ scope.length ∧ i = .int .i64 k ∧ OwnV w.heap.size wr (.slice (some ⟨w.heap.size, 0, none⟩) scope.length scope.length) us ∧ us.length = scope.length ∧
      Hid (∀ i (h : i < us.length) (h' : i < (pad (domL doms) scope k).length), Ints w0 us[i] (pad (domL doms) scope k)[i]) ∧ Below w.heap.size w wr) (fun i _ => scope.length - (intOf i).toNat)
  case atStart =>
    refine ⟨0, us1, Nat.zero_le _, rfl, hu1, by simpa using hl1, hide (fun i h h' => ?_), hb1⟩
    have := (hr1 i h (by simpa [pad] using h')).1
    simp only [pad_zero, List.getElem_replicate] at this ⊢
    exact seq_nilW this
  case round =>
    clear hu1 hl1 hr1 hb1
    obtain ⟨k, us, hk, rfl, hown, hul, HR, hbel⟩ := hrel
    by_cases hkl : k < scope.length
    · obtain ⟨b1, o1, rfl, hc1⟩ := ((unhide HS).below hbel).at hkl
      obtain ⟨h0, hdl⟩ := unhide HIN _ (List.getElem_mem hkl)
      obtain ⟨m, hm⟩ : ∃ m : Nat, scope[k] = (m : Int) := ⟨scope[k].toNat, by omega⟩
      have hml : m < doms.length := by omega
      have hdom : domL doms scope[k] = doms[m] := by unfold domL; rw [hm]; simp [List.getD_eq_getElem?_getD, hml]
      obtain ⟨b2, o2, u2, rfl, hc2, hu2⟩ := (unhide HD).at hml
      obtain ⟨a3, c3, rfl, hl3, hc3⟩ := hu2.form
      unfold maxLen at hc3
      replace hc2 := Below.cell_of hbel (Below.cell_of hb0 hc2)
      rw [hm] at hc1
      by_cases hz : doms[m] = []
      · have hz' : ((doms[m].length : Int) == 0) = true := by rw [hz]; rfl
        have hfn : Hid (fullL [[]] = fullL (scope.map (domL doms))) := hide (by
          rw [full_nil (ls := scope.map (domL doms)) (List.mem_map.2 ⟨scope[k], List.getElem_mem hkl, by rw [hdom, hz]⟩)]; rfl)
        have hb3 := hbel.alloc hbel.size (.cells #[.slice none 0 0] 29)
        have HB3 := hide hb3
        have hsz := hbel.size
        clear hown hul HR hu2 hdom hz hm h0 hdl
        go_wp2
        go_ret
        refine ⟨_, [[]], [.slice none 0 0], rfl, ?_, rfl, ?_, unhide hfn, by simp, by simp, unhide HB3⟩
        · exact ⟨by simp, .inr ⟨_, 1, #[.slice none 0 0], rfl, by assumption, heap_alloc_new _ _, by simp, by simp [maxLen], by simp, by simp⟩⟩
        · intro i h h'
          simp at h
          subst h
          exact Seq.nil _ _
      · have hz' : ((doms[m].length : Int) == 0) = false := by
          rw [beq_eq_false_iff_ne]
          intro e
          exact hz (List.length_eq_zero_iff.1 (by omega))
        have hown2 : wr.ownsRow w.heap.size 29 1 (.slice (some ⟨w.heap.size, 0, none⟩) scope.length scope.length) scope.length us := by have h := hown; simp only [OwnV, hul] at h; exact h
        obtain ⟨⟨old, hold⟩, hfr, hset, _⟩ := own_set hown2 (i := k) (by omega) (.slice a3 doms[m].length c3)
        have hb3 := hbel.setCell (p := ⟨w.heap.size, k, none⟩) (Nat.le_refl _) (.slice a3 doms[m].length c3)
        have hset' : OwnV w.heap.size (wr.setCell ⟨w.heap.size, k, none⟩ (.slice a3 doms[m].length c3)) (.slice (some ⟨w.heap.size, 0, none⟩) scope.length scope.length) (us.set k (.slice a3 doms[m].length c3)) := by
          simp only [OwnV, List.length_set, hul]; exact hset
        have HR2 : Hid (∀ i (h : i < (us.set k (.slice a3 doms[m].length c3)).length) (h' : i < (pad (domL doms) scope (k + 1)).length), Ints w0 (us.set k (.slice a3 doms[m].length c3))[i] (pad (domL doms) scope (k + 1))[i]) := hide (fun i h h' => by
          have e := pad_set (domL doms) scope hkl
          rw [hdom] at e
          simp only [← e] at h' ⊢
          by_cases hik : k = i
          · subst hik
            simp only [List.getElem_set_self]
            exact hu2
          · rw [List.getElem_set_ne hik, List.getElem_set_ne hik]
            exact unhide HR i (by simpa using h) (by simpa using h'))
        have HB3 := hide hb3
        have HS2 := hide hset'
        clear hown hown2 HR hdom hz hm h0 hdl hset hset' hb3
        go_wp2
        go_roundw
        case rel => exact ⟨k + 1, _, by omega, by go_num, unhide HS2, by simpa using hul, HR2, unhide HB3⟩
        case measure => simp [intOf]; omega
    · have hke : k = scope.length := by omega
      subst hke
      have HRR := unhide HR
      simp only [pad_all] at HRR
      have HRX := hide HRR
      clear HR HRR hkl
      go_wp2
      go_ret
      exact ⟨_, scope.map (domL doms), us, rfl, hown, by simpa using hul, unhide HRX, rfl, by simpa using hlen, fun l hl => by
        obtain ⟨x, hx, rfl⟩ := List.mem_map.1 hl
        obtain ⟨h0, h1⟩ := unhide HIN x hx
        right
        unfold domL
        have : x.toNat < doms.length := by omega
        simp [List.getD_eq_getElem?_getD, this], hbel⟩

end Go.Proofs.Ytflibcfecnhjgaa
