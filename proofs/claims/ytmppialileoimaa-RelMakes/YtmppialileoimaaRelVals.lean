/-
  The contracts of Values, and of the document's Values.
-/
import Derived.Test.YtmppialileoimaaRelProj
namespace Go.Proofs.Ytmppialileoimaa
open Go.RowKit
set_option linter.unusedVariables false
set_option linter.unusedSimpArgs false
set_option maxRecDepth 20000

/-- What the rows have at place p. -/
def colL (ll : List (List Int)) (p : Int) : List Int := ll.flatMap fun t => pickL t [p]

theorem pick_one (t : List Int) (p : Int) : pickL t [p] = if 0 ≤ p ∧ p < t.length then [t.getD p.toNat 0] else [] := by
  unfold pickL
  by_cases h : 0 ≤ p ∧ p < t.length <;> simp [h]
theorem pick_one_at {t : List Int} {k : Nat} (h : k < t.length) : pickL t [(k : Int)] = [t[k]] := by
  rw [pick_one, if_pos (by omega)]; simp [h]
theorem pick_one_no {t : List Int} {p : Int} (h : ¬ (0 ≤ p ∧ p < t.length)) : pickL t [p] = [] := by rw [pick_one, if_neg h]

theorem colL_snoc {ll : List (List Int)} {p : Int} {k : Nat} (hk : k < ll.length) : colL (ll.take (k + 1)) p = colL (ll.take k) p ++ pickL ll[k] [p] := by
  unfold colL
  rw [List.take_succ_eq_append_getElem hk, List.flatMap_append]; simp
theorem colL_le (ll : List (List Int)) (p : Int) : (colL ll p).length ≤ ll.length := by
  unfold colL
  induction ll with
  | nil => simp
  | cons x r ih =>
    have := pickL_le x [p]
    simp only [List.flatMap_cons, List.length_append, List.length_cons] at *
    simp at this
    omega

def valL (s : List Int) (ll : List (List Int)) (v : Int) : List Int := riseL (colL ll (placeL s v))

theorem compact_sort (l : List Int) : Lib.compact (sortI l) = riseL l := by
  have h := compact_spec (sortI_up l)
  exact Asc.ext h.1 (riseL_spec l).1 fun x => by rw [h.2, sortI_mem, (riseL_spec l).2]

set_option maxHeartbeats 4000000 in
theorem values_any {s : List Int} {ll : List (List Int)} {x : Int} {v : Value} {w : World} (h : RelV w v s ll) (hl : ll.length < 100000) :
    Calls Try.prog 26 #[v, .int .i64 x] w fun e w' => ∃ u, e = .returned u ∧ Ints w' u (valL s ll x) ∧ New w.heap.size w' u ∧ Below w.heap.size w w' := by
  obtain ⟨a, ca, b, cb, rfl, k1, k2, k3, k4, hs, ht⟩ := h.form
  unfold maxLen at k2 k4
  have hb0 := (Below.refl w.heap.size w).alloc (Nat.le_refl _) (.cells #[.slice a s.length ca, .slice b ll.length cb] 25)
  have HI := hide (index_any (n := x) (hs.below hb0))
  have hpr := placeL_range s x
  have HV := hide (show valL s ll x = riseL (colL ll (placeL s x)) from rfl)
  have ht0 := ht.below hb0
  generalize valL s ll x = V at HV
  generalize placeL s x = p at HI hpr HV
  clear h hs ht
  go_enter Try.func26, Try.ntmps26
  go_wp2_with (go_at_call 48; refine (unhide HI).mono ?_; rintro e w1 ⟨rfl, rfl⟩)
  go_loopw [6, 8, 17] (fun v _ i wr => ∃ k : Nat, k ≤ ll.length ∧ i = .int .i64 k ∧ OwnI (w.heap.size + 1) wr v (colL (ll.take k) p) ∧ Below (w.heap.size + 1) (w.alloc (.cells #[.slice a s.length ca, .slice b ll.length cb] 25)) wr) (fun _ _ i _ => ll.length - (intOf i).toNat)
  case atStart => exact ⟨0, by omega, rfl, by have := own_litI (B := w.heap.size + 1) (w := w.alloc (.cells #[.slice a s.length ca, .slice b ll.length cb] 25)) (by simp); simpa [colL] using this, (Below.refl _ _).alloc (by simp) _⟩
  case round =>
    obtain ⟨k, hk, rfl, hown, hbel⟩ := hrel
    have hz : w.heap.size + 1 ≤ wr.heap.size := by have := hbel.size; simp at this; omega
    have hil := colL_le (ll.take k) p
    have htl := List.length_take_le k ll
    have hbel' : Below (w.alloc (.cells #[.slice a s.length ca, .slice b ll.length cb] 25)).heap.size (w.alloc (.cells #[.slice a s.length ca, .slice b ll.length cb] 25)) wr := by simpa using hbel
    by_cases hkl : k < ll.length
    · obtain ⟨bl, ol, ul, rfl, hcl, hiL⟩ := (ht0.below hbel').at hkl
      obtain ⟨ia, ic, rfl, _, _⟩ := hiL.form
      by_cases hp : 0 ≤ p ∧ p < ll[k].length
      · obtain ⟨m, hm⟩ := Int.eq_ofNat_of_zero_le hp.1
        have hmt : m < ll[k].length := by omega
        subst hm
        obtain ⟨bt, ot, rfl, hct⟩ := hiL.at hmt
        have HN := hide (show colL (ll.take (k + 1)) (m : Int) = colL (ll.take k) m ++ [ll[k][m]] by rw [colL_snoc hkl, pick_one_at hmt])
        clear ht0 hiL hp
        go_wp2_with (at_builtin; refine wp_app_int rfl (.tmp 29) (.tmp 34) rfl hown rfl hz rfl (by omega) ?_; intro v' w1 hown1 hgrew)
        go_roundw
        case rel => exact ⟨k + 1, by omega, by go_num, by rw [unhide HN]; exact hown1, hbel.trans hgrew.below⟩
        case measure => simp [intOf]; omega
      · have HN := hide (show colL (ll.take (k + 1)) p = colL (ll.take k) p by rw [colL_snoc hkl, pick_one_no hp, List.append_nil])
        clear ht0 hiL
        by_cases hp0 : 0 ≤ p
        · have hp1 : ¬ p < ll[k].length := fun h => hp ⟨hp0, h⟩
          clear hp
          go_wp2
          go_roundw
          case rel => exact ⟨k + 1, by omega, by go_num, by rw [unhide HN]; exact hown, hbel⟩
          case measure => simp [intOf]; omega
        · clear hp
          go_wp2
          go_roundw
          case rel => exact ⟨k + 1, by omega, by go_num, by rw [unhide HN]; exact hown, hbel⟩
          case measure => simp [intOf]; omega
    · have hkk : k = ll.length := by omega
      subst hkk
      rw [List.take_length] at hown hil
      have HV2 := hide (show Lib.compact (sortI (colL ll p)) = V by rw [unhide HV]; exact compact_sort _)
      have HS := hide (sortInts_any (HoldsI.of_own hown) hz (by omega))
      have hsl := sortI_len (colL ll p)
      have hbw := hb0.trans (hbel'.mono (by simp))
      generalize colL ll p = C at HS HV2 hown hil hsl
      have hsl2 : (sortI C).length < 100000000 := by omega
      clear ht0 hown hsl
      go_wp2_with fail
      refine (unhide HS).mono ?_
      rintro e w2 ⟨rfl, hh, hb2⟩
      have HCP := hide (compact_any hh (Nat.le_trans hz (by have := hb2.mono (B' := w.heap.size + 1) (Nat.le_refl _); exact this.size)) (by omega))
      rw [unhide HV2] at HCP
      clear hh HS
      go_wp2_with fail
      refine (unhide HCP).mono ?_
      rintro e w3 ⟨u, rfl, hu, hun, hb3⟩
      go_wp2
      go_ret
      exact ⟨_, rfl, hu, hun.grow (by omega) (Nat.le_refl _), hbw.trans ((hb2.trans hb3).mono (by omega))⟩

theorem colL_neg (ll : List (List Int)) : colL ll (-1) = [] := by
  unfold colL
  rw [List.flatMap_eq_nil_iff]
  exact fun t _ => pick_one_no (by omega)

theorem riseL_app (l : List Int) (x : Int) : riseL (l ++ [x]) = joinL (riseL l) [x] := by simp only [riseL, List.foldl_append, List.foldl_cons, List.foldl_nil]

theorem lit_one {W : World} (x : Int) : Ints (W.alloc (.cells #[.int .i64 x] 3)) (.slice (some ⟨W.heap.size, 0, none⟩) 1 1) [x] := by
  refine ⟨_, _, rfl, by simp, by simp [maxLen], by simp, by rintro x h _; cases h; rfl, fun i y hi => ⟨_, rfl, ?_⟩⟩
  cases i with
  | zero => simp at hi; subst hi; simp
  | succ i => simp at hi

set_option maxHeartbeats 4000000 in
theorem refValues_any {s : List Int} {ll : List (List Int)} {x : Int} {v : Value} {w : World} (h : RelV w v s ll) (hwd : ∀ t ∈ ll, t.length = s.length) (hl : ll.length < 100000) :
    Calls Try.prog 27 #[v, .int .i64 x] w fun e w' => ∃ u, e = .returned u ∧ Ints w' u (valL s ll x) ∧ New w.heap.size w' u ∧ Below w.heap.size w w' := by
  obtain ⟨a, ca, b, cb, rfl, k1, k2, k3, k4, hs, ht⟩ := h.form
  unfold maxLen at k2 k4
  have hb0 := (Below.refl w.heap.size w).alloc (Nat.le_refl _) (.cells #[.slice a s.length ca, .slice b ll.length cb] 25)
  have HI := hide (refPlace_any (n := x) (hs.below hb0))
  have hpr := placeL_range s x
  have HV := hide (show valL s ll x = riseL (colL ll (placeL s x)) from rfl)
  have ht0 := ht.below hb0
  have HWD := hide hwd
  generalize valL s ll x = V at HV
  generalize placeL s x = p at HI hpr HV
  clear h hs ht hwd
  go_enter Try.func27, Try.ntmps27
  go_wp2_with (go_at_call 51; refine (unhide HI).mono ?_; rintro e w1 ⟨rfl, rfl⟩)
  go_loopw [6, 7] (fun v i wr => ∃ k : Nat, k ≤ ll.length ∧ i = .int .i64 k ∧ Ints wr v (riseL (colL (ll.take k) p)) ∧ New w.heap.size wr v ∧ Below (w.heap.size + 1) (w.alloc (.cells #[.slice a s.length ca, .slice b ll.length cb] 25)) wr) (fun _ i _ => ll.length - (intOf i).toNat)
  case atStart =>
    have ho := own_litI (B := w.heap.size + 1) (w := w.alloc (.cells #[.slice a s.length ca, .slice b ll.length cb] 25)) (by simp)
    exact ⟨0, by omega, rfl, by have := Seq.of_own ho; simpa [colL, riseL] using this, by have := (New.of_own ho).grow (B' := w.heap.size) (by omega) (Nat.le_refl _); simpa using this, (Below.refl _ _).alloc (by simp) _⟩
  case round =>
    obtain ⟨k, hk, rfl, hout, hnew, hbel⟩ := hrel
    have hz : w.heap.size + 1 ≤ wr.heap.size := by have := hbel.size; simp at this; omega
    have hil := colL_le (ll.take k) p
    have htl := List.length_take_le k ll
    have hrl := riseL_le (colL (ll.take k) p)
    have hbel' : Below (w.alloc (.cells #[.slice a s.length ca, .slice b ll.length cb] 25)).heap.size (w.alloc (.cells #[.slice a s.length ca, .slice b ll.length cb] 25)) wr := by simpa using hbel
    have hc1 : wr.cell? ⟨w.heap.size, 1, none⟩ = some (.slice b ll.length cb) := (box_cells hbel').2.1
    by_cases hp0 : 0 ≤ p
    · by_cases hkl : k < ll.length
      · obtain ⟨bl, ol, ul, rfl, hcl, hiL⟩ := (ht0.below hbel').at hkl
        obtain ⟨ia, ic, rfl, _, _⟩ := hiL.form
        obtain ⟨m, hm⟩ := Int.eq_ofNat_of_zero_le hp0
        have hmt : m < ll[k].length := by have := unhide HWD _ (List.getElem_mem hkl); omega
        subst hm
        obtain ⟨bt, ot, rfl, hct⟩ := hiL.at hmt
        have HN := hide (show riseL (colL (ll.take (k + 1)) (m : Int)) = joinL (riseL (colL (ll.take k) m)) [ll[k][m]] by rw [colL_snoc hkl, pick_one_at hmt, riseL_app])
        have hb1 := (Below.refl wr.heap.size wr).alloc (Nat.le_refl _) (.cells #[.int .i64 ll[k][m]] 3)
        have HJ := hide (refJoin_any (hout.below hb1) (lit_one (W := wr) ll[k][m]) (by simp; omega))
        obtain ⟨oa, oc, hoe, _, _⟩ := hout.form
        rw [hoe] at HJ ⊢
        clear ht0 hiL hp0 hout hnew hoe
        go_wp2_with fail
        refine (unhide HJ).mono ?_
        rintro e w2 ⟨u, rfl, hu, hun, hb2⟩
        go_wp2
        go_roundw
        case rel => exact ⟨k + 1, by omega, by go_num, by rw [unhide HN]; exact hu, hun.grow (by simp; omega) (Nat.le_refl _), hbel.trans ((hb1.trans (hb2.mono (by simp))).mono hz)⟩
        case measure => simp [intOf]; omega
      · have hkk : k = ll.length := by omega
        subst hkk
        rw [List.take_length] at hout
        have HO := hide hout
        clear ht0 hout
        go_wp2
        go_ret
        exact ⟨_, rfl, by rw [unhide HV]; exact unhide HO, hnew, hb0.trans (hbel'.mono (by simp))⟩
    · have hp1 : p = -1 := by omega
      subst hp1
      rw [colL_neg] at hout
      have HO := hide hout
      clear ht0 hout hp0
      have hfin : Hid (V = riseL []) := hide (by rw [unhide HV, colL_neg])
      by_cases hkl : k < ll.length
      all_goals
        go_wp2
        go_ret
        exact ⟨_, rfl, by rw [unhide hfin]; exact unhide HO, hnew, hb0.trans (hbel'.mono (by simp))⟩

end Go.Proofs.Ytmppialileoimaa
