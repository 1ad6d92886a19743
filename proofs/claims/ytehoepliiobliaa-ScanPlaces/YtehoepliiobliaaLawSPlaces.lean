/-
  Proved: ScanPlaces answers true for every text, and leaves what was handed in as it was. No condition.
-/
import Derived.Test.YtehoepliiobliaaScanShown
import Derived.Test.YtehoepliiobliaaScanLaws
import Derived.Test.YtehoepliiobliaaSFrame
import Derived.Test.YtehoepliiobliaaSBytes
namespace Go.Proofs.Ytehoepliiobliaa.scanPlaces
open Go.RowKit Go.ChangeShapes Go.WideShapes Go.ChangeAt
set_option linter.unusedVariables false
set_option linter.unusedSimpArgs false
set_option maxRecDepth 20000

def width (t : Tok) : Nat := if t.kind = 2 then 1 else t.text.length

/-- Tokens that stand one behind the other, from the place e on. -/
def Chain (L : Bytes) : Nat → List Tok → Prop
  | _, [] => True
  | e, t :: r => e ≤ t.at_ ∧ t.at_ + width t ≤ L.length ∧ (t.kind = 2 → t.text = []) ∧ (t.kind ≠ 2 → (L.drop t.at_).take t.text.length = t.text) ∧ Chain L (t.at_ + width t) r

theorem Chain.mono {L : Bytes} {e e' : Nat} {ts : List Tok} (h : Chain L e ts) (he : e' ≤ e) : Chain L e' ts := by
  cases ts with
  | nil => trivial
  | cons t r => exact ⟨Nat.le_trans he h.1, h.2⟩

theorem tok_shape {l : Bytes} {k : Int} {t : Bytes} {n : Int} {len : Nat} (h : tokG l = .tok k t n len) : (k = 2 → t = []) ∧ (k ≠ 2 → len = t.length ∧ l.take t.length = t) := by
  have num : ∀ (d : Bytes) (b : Bool), numG d b = .tok k t n len → k = 2 ∧ t = [] := by
    intro d b h
    unfold numG at h
    split at h
    · split at h
      · cases h; exact ⟨rfl, rfl⟩
      · cases h
    · cases h
  cases l with
  | nil => simp only [tokG, Got.tok.injEq] at h; obtain ⟨rfl, rfl, rfl, rfl⟩ := h; simp
  | cons c r =>
    rw [tokG_cons] at h
    split at h
    · cases h
      refine ⟨fun h => by simp at h, fun _ => ⟨rfl, ?_⟩⟩
      exact take_run letterB (c :: r)
    · split at h
      · cases h; exact ⟨fun h => by simp at h, fun _ => ⟨rfl, rfl⟩⟩
      · split at h
        · obtain ⟨rfl, rfl⟩ := num _ _ h; exact ⟨fun _ => rfl, fun h => absurd rfl h⟩
        · split at h
          · obtain ⟨rfl, rfl⟩ := num _ _ h; exact ⟨fun _ => rfl, fun h => absurd rfl h⟩
          · cases h

theorem chain : ∀ (N : Nat) (L : Bytes) (p : Nat) (ts : List Tok), p ≤ L.length → L.length - p < N → scanA p (L.drop p) = .good ts → Chain L p ts
  | 0, _, _, _, _, h, _ => by omega
  | N + 1, L, p, ts, hp, hN, h => by
    have hle := skip_le false (L.drop p)
    rw [scan_eq, List.drop_drop] at h
    simp only [List.length_drop] at hle
    generalize skipN false (L.drop p) = k at *
    cases ht : tokG (L.drop (p + k)) with
    | bad e => rw [ht] at h; cases h
    | tok kd t n len =>
      obtain ⟨l1, l2, l3, _⟩ := tok_len ht
      obtain ⟨s1, s2⟩ := tok_shape ht
      simp only [List.length_drop] at l1
      rw [ht] at h
      simp only [] at h
      split at h
      · cases h
        exact ⟨by simp only []; omega, by simp only [width]; simp; omega, by simp, by simp, trivial⟩
      · rename_i h4
        have hpos := l2 h4
        cases hs : scanA (p + k + len) ((L.drop (p + k)).drop len) with
        | bad q e => rw [hs] at h; cases h
        | good l' =>
          rw [hs] at h
          simp only [Scan.pre, Scan.good.injEq, List.cons_append, List.nil_append] at h
          rw [List.drop_drop] at hs
          have ih := chain N L (p + k + len) l' (by omega) (by omega) hs
          rw [← h]
          refine ⟨by simp only []; omega, ?_, s1, ?_, ih.mono ?_⟩
          · simp only [width]
            split
            · omega
            · rename_i h2; have := (s2 h2).1; omega
          · exact fun h2 => (s2 h2).2
          · simp only [width]
            split
            · omega
            · rename_i h2; have := (s2 h2).1; omega

theorem chain_of {L : Bytes} {ts : List Tok} (h : scanA 0 L = .good ts) : Chain L 0 ts := chain (L.length + 1) L 0 ts (Nat.zero_le _) (by omega) (by simpa using h)

theorem kind_last {L : Bytes} {ts : List Tok} (h : scanA 0 L = .good ts) : 0 < ts.length ∧ (∀ i (hi : i < ts.length), ts[i].kind = 4 ↔ i + 1 = ts.length) ∧ ∀ (hi : ts.length - 1 < ts.length), ts[ts.length - 1].at_ = L.length := by
  obtain ⟨i0, rfl, h2⟩ := scan_end h
  refine ⟨by simp, fun i hi => ?_, fun hi => ?_⟩
  · simp only [List.length_append, List.length_cons, List.length_nil] at hi ⊢
    by_cases h' : i < i0.length
    · rw [List.getElem_append_left h']
      exact ⟨fun e => absurd e (h2 _ (List.getElem_mem _)), fun e => by omega⟩
    · rw [List.getElem_append_right (by omega)]
      simp; omega
  · rw [List.getElem_append_right (by simp)]
    simp

set_option maxHeartbeats 4000000 in
theorem walk {s : ByteArray} {v0 : Value} {w : World} (i0 : v0 = .string s) (m0 : s.size ≤ maxLen) :
    Calls Try.prog 4 #[v0] w fun e w' => e = .returned (.bool true) ∧ Below w.heap.size w w' := by
  subst i0
  unfold maxLen at m0
  obtain ⟨T, hTe⟩ : ∃ T, T = s.extract 0 (min (s.size : Int) 3000).toNat := ⟨_, rfl⟩
  have hT : T.size ≤ 3000 := by rw [hTe, ByteArray.size_extract]; omega
  have HTE := hide hTe
  clear hTe
  go_enter Try.func4, Try.ntmps4
  go_wp2_with fail
  refine (shown_any _).mono ?_
  rintro e w1 ⟨rfl, hb1⟩
  go_wp2_with fail
  rw [← unhide HTE]
  clear HTE
  cases hX : scanA 0 (lb T) with
  | bad p er =>
    obtain ⟨hq1, hq2, hq3⟩ := scan_place _ _ _ _ _ (Nat.lt_succ_self _) hX
    rw [lb_len] at hq2
    have hne : (er != 0) = true := by simpa using hq3
    refine (all_bad T p er hX (by omega) _).mono ?_
    rintro e w2 ⟨rfl, hb2⟩
    clear hX hq3
    have hpT : p < T.size := by omega
    go_wp2
    go_ret
    exact ⟨rfl, below_then hb1 hb2⟩
  | good ts =>
    have htl : ts.length ≤ 3001 := by have := scan_le hX; rw [lb_len] at this; omega
    obtain ⟨hl0, hk4, hlast⟩ := kind_last hX
    have hch := chain_of hX
    refine (all_good T ts hX (by omega) _).mono ?_
    rintro e w2 ⟨a, ca, rfl, ht, hc1, hc2, hb2⟩
    have HX := hide ht
    have HBB := hide (below_then hb1 hb2)
    have HK := hide hk4
    have HL := hide hlast
    have HCH := hide hch
    clear hX ht hk4 hlast hch hb1 hb2
    go_wp2
    go_loopw [7, 8] (fun ev i wr => ∃ k E : Nat, k ≤ ts.length ∧ i = .int .i64 k ∧ ev = .int .i64 E ∧ E ≤ T.size ∧ Hid (Chain (lb T) E (ts.drop k)) ∧ Below w2.heap.size w2 wr) (fun _ i _ => ts.length - (intOf i).toNat)
    case atStart => exact ⟨0, 0, by omega, rfl, rfl, Nat.zero_le _, hide (by simpa using unhide HCH), Below.refl _ _⟩
    case round =>
      clear HCH
      obtain ⟨k, E, hk, rfl, rfl, hE, HC, hbr⟩ := hrel
      rename World => wr
      by_cases hlt : k < ts.length
      · have hC := HC.out
        rw [List.drop_eq_getElem_cons hlt] at hC
        obtain ⟨f1, f2, f3, f4, f5⟩ := hC
        have HC2 := hide f5
        rw [lb_len] at f2
        have hkk := unhide HK k hlt
        obtain ⟨b, off, rfl, c0, c1, c2, c3⟩ := ((unhide HX).below hbr).at (i := k) hlt
        have HBR := hide hbr
        have HZR := hide hbr.size
        clear HC hbr f5
        obtain ⟨A, hA⟩ : ∃ A, A = ts[k].at_ := ⟨_, rfl⟩
        rw [← hA] at f1 f2 f4 HC2 c3
        by_cases h2 : ts[k].kind = 2
        · have hx := f3 h2
          have hw : width ts[k] = 1 := by unfold width; rw [if_pos h2]
          have hn4 : ¬ k + 1 = ts.length := fun e => by have := hkk.2 e; omega
          have hfin : ((k : Int) == (ts.length : Int) - 1) = false := by simp; omega
          rw [hw] at f2 HC2
          rw [h2] at c0
          rw [hx] at c1
          have f2a : ¬ (T.size : Int) < (A : Int) + 1 := by omega
          have f2b : (A : Int) + 1 ≤ (T.size : Int) := by omega
          have f2c : decide ((T.size : Int) < (A : Int) + 1) = false := decide_eq_false f2a
          clear f3 f4 hkk hw hA h2 hx
          generalize ts[k].n = N at *
          go_wp2
          go_quiet (fail)
          go_wp2
          go_roundw
          case rel => exact ⟨k + 1, A + 1, by omega, by go_num, by go_num, by omega, HC2, Below.drewN1 ((unhide HBR).alloc (unhide HZR) _) _⟩
          case measure => simp [intOf]; omega
        · by_cases h4 : ts[k].kind = 4
          · have hq2 : (ts[k].kind == 2) = false := by simpa using h2
            have hq3 : (ts[k].kind != 2) = true := by simpa using h2
            have hfin : ((k : Int) == (ts.length : Int) - 1) = true := by have := hkk.1 h4; simp; omega
            rw [h4] at c0
            have hw : width ts[k] = ts[k].text.length := by unfold width; rw [if_neg h2]
            rw [hw] at f2 HC2
            obtain ⟨X, hX⟩ : ∃ X : ByteArray, X = ⟨ts[k].text.toArray⟩ := ⟨_, rfl⟩
            have hXs : X.size = ts[k].text.length := by rw [hX]; rfl
            obtain ⟨E', hE'⟩ : ∃ E', E' = A + ts[k].text.length := ⟨_, rfl⟩
            have hext : T.extract A E' = X := by
              rw [hX]
              refine ba_of _ _ ?_
              rw [lb_extract, hE', Nat.add_sub_cancel_left]
              exact f4 h2
            rw [← hE'] at f2 HC2
            rw [← hX] at c1
            have hsum : (A : Int) + (X.size : Int) = (E' : Int) := by omega
            have hAE : A ≤ E' := by omega
            clear f3 f4 hkk hw hA h2 hX hXs hE' h4
            generalize ts[k].n = N at *
            go_wp2
            go_quiet (fail)
            go_wp2
            go_roundw
            case rel => exact ⟨k + 1, E', by omega, by go_num, by first | rfl | rw [← hsum], by omega, HC2, Below.drewN1 ((unhide HBR).alloc (unhide HZR) _) _⟩
            case measure => simp [intOf]; omega
          · have hq2 : (ts[k].kind == 2) = false := by simpa using h2
            have hq3 : (ts[k].kind != 2) = true := by simpa using h2
            have hfin : ((k : Int) == (ts.length : Int) - 1) = false := by have : ¬ k + 1 = ts.length := fun e => h4 (hkk.2 e); simp; omega
            have hq4 : (ts[k].kind == 4) = false := by simpa using h4
            have hw : width ts[k] = ts[k].text.length := by unfold width; rw [if_neg h2]
            rw [hw] at f2 HC2
            obtain ⟨X, hX⟩ : ∃ X : ByteArray, X = ⟨ts[k].text.toArray⟩ := ⟨_, rfl⟩
            have hXs : X.size = ts[k].text.length := by rw [hX]; rfl
            obtain ⟨E', hE'⟩ : ∃ E', E' = A + ts[k].text.length := ⟨_, rfl⟩
            have hext : T.extract A E' = X := by
              rw [hX]
              refine ba_of _ _ ?_
              rw [lb_extract, hE', Nat.add_sub_cancel_left]
              exact f4 h2
            rw [← hE'] at f2 HC2
            rw [← hX] at c1
            have hsum : (A : Int) + (X.size : Int) = (E' : Int) := by omega
            have hAE : A ≤ E' := by omega
            clear f3 f4 hkk hw hA h2 hX hXs hE' h4
            generalize ts[k].kind = K at *
            generalize ts[k].n = N at *
            go_wp2
            go_quiet (fail)
            go_wp2
            go_roundw
            case rel => exact ⟨k + 1, E', by omega, by go_num, by first | rfl | rw [← hsum], by omega, HC2, Below.drewN1 ((unhide HBR).alloc (unhide HZR) _) _⟩
            case measure => simp [intOf]; omega
      · obtain ⟨j, hj⟩ : ∃ j, j = ts.length - 1 := ⟨_, rfl⟩
        have hjl : j < ts.length := by omega
        obtain ⟨b, off, rfl, c0, c1, c2, c3⟩ := ((unhide HX).below hbr).at (i := j) hjl
        have hla : ts[j].at_ = T.size := by have := unhide HL (by omega); rw [lb_len] at this; rw [← this]; congr
        rw [hla] at c3
        have hjI : (ts.length : Int) - 1 = (j : Int) := by omega
        have hkn : k = ts.length := by omega
        clear hj hla
        subst hkn
        go_wp2
        go_ret
        exact ⟨rfl, below_then (unhide HBB) hbr⟩

set_option maxRecDepth 100000 in
theorem lifted (os : Os) (started : os.Started) (H : Type) (enc : TypeId × Value → H) :
    ReturnsInHanded {} Try.checked os 4 .any (Rows.scanPlacesSpec.pre6 enc Try.prog Try.f4 Rows.scanPlacesRow.domain false) (Rows.scanPlacesSpec.post enc Try.prog Try.f4 false true false false) := by
  refine returnsInHanded_of_change (C := Try.checked) own started (by kernel_rfl) Try.func4
    (ChangeSpec.witness6 (enc := enc) (C := Try.checked) false ⟨#[], #[.string ⟨#[]⟩], []⟩ 8 (by kernel_rfl) (by kernel_rfl) (by kernel_rfl) (by kernel_rfl)) ?_
  intro W base args ds gs before hval0 hW hcnd _
  have hval : ∀ (j : Nat) t v, Try.f4.params[j]? = some t → args[j]? = some v → Value.okWide Try.prog W .any base t v := hval0
  have hW' := hW
  obtain ⟨p, q, hA0, hV, rfl, hfz, hnd⟩ := hW
  have hA : DataW.TrodAll enc Try.prog W 0 (fun _ => true) true Try.f4.params.toList args.toList ds p := hA0
  rw [Try.params4] at hA hval
  obtain ⟨v0, vs0, d0, ds0, p0, q0, hargs, rfl, rfl, h0, r0⟩ := trodAll_cons hA
  obtain ⟨rfl, rfl, rfl⟩ := trodAll_nil r0
  obtain rfl : args = #[v0] := by cases args; simp_all
  obtain ⟨rfl, rfl⟩ := trodVars_none hV
  obtain ⟨l0, i0, m0⟩ := read_string h0 (hval 0 9 v0 rfl rfl)
  have lt0 : ∀ x ∈ p0, x.block < W.heap.size := by obtain ⟨m, hm⟩ := h0; exact DataW.trod_lt m _ _ _ hm
  clear hA0 hval0
  refine (walk i0 m0).mono fun e W' ⟨he, bel⟩ => ?_
  subst he
  exact ⟨_, rfl, _, _, _, [], _, [], hW', trodAll_mk1 (shut_bool Try.underlying4 _), (trodAll_cons_mk (Below.trod laidOut (by kernel_rfl) (of_decide_eq_true (by kernel_rfl)) h0 bel lt0) trodAll_mk0), rfl, bel.frame _, fun h => by cases h⟩

theorem over : Rows.scanPlacesRow.holds Try.pinned (OpenSpec.ofChange Rows.scanPlacesSpec) :=
  OpenClaim.holds_of_wide 4 Try.f4 rfl rfl rfl rfl rfl rfl rfl ⟨rfl, rfl, rfl, rfl, rfl⟩ rfl rfl rfl rfl rfl (by kernel_rfl) Try.func4 (by kernel_rfl)
    (of_decide_eq_true (by kernel_rfl)) (by unfold Func.isWrapper; first | (rw [if_pos (by decide +kernel)]; kernel_rfl) | (rw [if_neg (by decide +kernel)]; exact ⟨rfl, rfl⟩))
    (fun os started H enc _ => lifted os started H enc)

/-- The statement. -/
theorem proved : Rows.ScanPlacesSaid := over

#print axioms proved
end Go.Proofs.Ytehoepliiobliaa.scanPlaces
