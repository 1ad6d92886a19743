/-
  The contract of the document's All.
-/
import Derived.Test.YtehoepliiobliaaScanRefN
import Derived.Test.YtehoepliiobliaaScanLaws
import Derived.Test.YtehoepliiobliaaScanAll
namespace Go.Proofs.Ytehoepliiobliaa
open Go.RowKit
set_option linter.unusedVariables false
set_option linter.unusedSimpArgs false
set_option maxRecDepth 20000

theorem skip_idem : ∀ (note : Bool) (l : Bytes), skipN false (l.drop (skipN note l)) = 0
  | _, [] => rfl
  | note, c :: r => by
    have h1 := skip_idem false r
    have h2 := skip_idem true r
    have h3 := skip_idem note r
    rw [skip_cons]
    split
    · rw [List.drop_succ_cons]; exact h1
    · split
      · rw [List.drop_succ_cons]; exact h2
      · split
        · rename_i a b c'
          rw [List.drop_zero, skip_cons, if_neg a, if_neg b, if_pos ⟨c'.1, c'.2.1, rfl⟩]
        · rw [List.drop_succ_cons]; exact h3

theorem next_pos (L : Bytes) (E m' : Nat) (hm : m' = E + skipN false (L.drop E)) : scanA E (L.drop E) = scanA m' (L.drop m') ∧ skipN false (L.drop m') = 0 := by
  have h := skip_idem false (L.drop E)
  rw [List.drop_drop, ← hm] at h
  refine ⟨?_, h⟩
  have h2 := scan_skip E (skipN false (L.drop E)) (L.drop E) (by rw [List.drop_drop, ← hm, h]; omega)
  rw [List.drop_drop, ← hm] at h2
  exact h2

theorem scan_tok {m : Nat} {l : Bytes} {k : Int} {t : Bytes} {n : Int} {len : Nat} (hs : skipN false l = 0) (ht : tokG l = .tok k t n len) (h4 : k ≠ 4) : scanA m l = (scanA (m + len) (l.drop len)).pre [⟨k, t, n, m⟩] := by
  rw [scan_eq, hs, List.drop_zero, ht]
  simp only []
  rw [if_neg h4]
  rfl

theorem scan_err {m : Nat} {l : Bytes} {e : Int} (hs : skipN false l = 0) (ht : tokG l = .bad e) : scanA m l = .bad m e := by
  rw [scan_eq, hs, List.drop_zero, ht]
  rfl

set_option maxHeartbeats 4000000 in
theorem refAll_any (s : ByteArray) (w : World) (hs : s.size ≤ 100000) :
    Calls Try.prog 12 #[.string s] w fun e w' => AllEnds w' e (scanA 0 (lb s)) ∧ Below w.heap.size w w' := by
  obtain ⟨R, hR⟩ : ∃ R, R = scanA 0 (lb s) := ⟨_, rfl⟩
  rw [← hR]
  have hgu : decide ((100000 : Int) < (s.size : Int)) = false := by simp; omega
  have HS0 := hide (refSkip_any s 0 (w.alloc (.cells #[] 31)) (Nat.zero_le _) (by omega))
  obtain ⟨m0, hm0⟩ : ∃ m, m = 0 + skipN false ((lb s).drop 0) := ⟨_, rfl⟩
  rw [← hm0] at HS0
  have hnp := next_pos (lb s) 0 m0 hm0
  have hm0s : m0 ≤ s.size := by have := skip_le false ((lb s).drop 0); simp only [List.length_drop, lb_len] at this; omega
  have HR0 : Hid (R = (scanA m0 ((lb s).drop m0)).pre []) := hide (by rw [hR, ← hnp.1, pre_nil]; rfl)
  have HI0 := hide hnp.2
  clear hR hm0 hnp
  go_enter Try.func12, Try.ntmps12
  go_wp2_with (go_at_call 15; refine (unhide HS0).mono ?_; rintro e w' ⟨rfl, rfl⟩)
  go_loopw [5, 6, 7, 8, 9, 10, 11, 12, 13] (fun ov av _ _ _ _ _ _ _ wr => ∃ (m : Nat) (done : List Tok), m ≤ s.size ∧ av = .int .i64 m ∧ OwnK 31 w.heap.size wr ov done ∧ Below w.heap.size w wr ∧ done.length ≤ m ∧ Hid (skipN false ((lb s).drop m) = 0) ∧ Hid (R = (scanA m ((lb s).drop m)).pre done)) (fun _ av _ _ _ _ _ _ _ _ => s.size - (intOf av).toNat)
  case atStart => exact ⟨m0, [], hm0s, rfl, World.ownsRow_made w #[] 0 (Nat.le_refl _) (by simp [maxLen]) (by simp), (Below.refl _ _).alloc (Nat.le_refl _) _, Nat.zero_le _, HI0, HR0⟩
  case round =>
    clear HS0 HR0 HI0 hm0s
    obtain ⟨m, done, hm, rfl, hown, hbel, hdl, HI, HR⟩ := hrel
    rename World => wr
    rename_i ov
    have hzw := hbel.size
    by_cases hlt : m < s.size
    · have hx := lb_drop s m hlt
      have HL := hide (fun j => refLetter_any s j wr (by omega))
      have HDg := hide (refDigit_any s m wr (by omega))
      have hR := HR.out
      have hI := HI.out
      cases hl : letterB s[m] with
      | true =>
        have hrl := run_le letterB ((lb s).drop m)
        simp only [List.length_drop, lb_len] at hrl
        have hpos : 0 < runN letterB ((lb s).drop m) := by rw [hx, run_cons, if_pos hl]; omega
        have hT : tokG ((lb s).drop m) = .tok 1 (((lb s).drop m).takeWhile letterB) 0 (runN letterB ((lb s).drop m)) := by rw [hx, tokG_cons, if_pos hl]
        have hsc := scan_tok (m := m) hI hT (by decide)
        have hlr := lb_run s m letterB
        obtain ⟨E, hEe⟩ : ∃ E, E = m + runN letterB ((lb s).drop m) := ⟨_, rfl⟩
        rw [List.drop_drop, ← hEe] at hsc
        rw [← hEe] at hlr
        rw [← hlr] at hsc
        have hEs : E ≤ s.size := by omega
        have hmE : m < E := by omega
        obtain ⟨m', hm'⟩ : ∃ m', m' = E + skipN false ((lb s).drop E) := ⟨_, rfl⟩
        have hnp := next_pos (lb s) E m' hm'
        have hm's : m' ≤ s.size := by have := skip_le false ((lb s).drop E); simp only [List.length_drop, lb_len] at this; omega
        have hEm : E ≤ m' := by omega
        have HSK := hide (fun W => refSkip_any s E W hEs (by omega))
        rw [← hm'] at HSK
        have HI2 := hide hnp.2
        have HR2 : Hid (R = (scanA m' ((lb s).drop m')).pre (done ++ [⟨1, lb (s.extract m E), 0, m⟩])) := hide (by rw [hR, hsc, hnp.1, pre_pre])
        have HEe := hide hEe
        have HOW := hide hown
        have HBE := hide hbel
        clear hrl hpos hT hsc hlr hEe hnp hm' hR hI HR HI hx hl hown hbel
        go_wp2
        go_loop [8, 9] (fun ev _ => ∃ j : Nat, m ≤ j ∧ j ≤ s.size ∧ ev = .int .i64 j ∧ Hid (E = j + runN letterB ((lb s).drop j))) (fun ev _ => s.size - (intOf ev).toNat)
        case atStart => exact ⟨m, Nat.le_refl _, by omega, rfl, HEe⟩
        case round =>
          clear HEe
          obtain ⟨j, hj1, hj2, rfl, HJ⟩ := hrel
          have HC := hide (unhide HL j)
          by_cases hgo : headB letterB ((lb s).drop j) = true
          · have hjl : j < s.size := by
              rcases Nat.lt_or_ge j s.size with h | h
              · exact h
              · rw [lb_end s j h] at hgo; cases hgo
            have hJ := HJ.out
            rw [hgo] at HC
            rw [lb_drop s j hjl] at hgo hJ
            have hgo2 : letterB s[j] = true := hgo
            rw [run_cons, if_pos hgo2] at hJ
            have HJ2 : Hid (E = (j + 1) + runN letterB ((lb s).drop (j + 1))) := hide (by omega)
            clear hgo hgo2 hJ HJ
            go_wp2_with (go_at_call 16; refine (unhide HC).mono ?_; rintro e w' ⟨rfl, rfl⟩)
            go_round
            case rel => exact ⟨j + 1, by omega, by omega, by go_num, HJ2⟩
            case measure => simp [intOf]; omega
          · rw [Bool.not_eq_true] at hgo
            rw [hgo] at HC
            have hJ := HJ.out
            rw [show runN letterB ((lb s).drop j) = 0 by unfold runN; rw [run_stop _ _ hgo]; rfl] at hJ
            have hjE : j = E := by omega
            clear hJ HJ hgo
            subst hjE
            go_wp2_with (first
              | (go_at_call 16; refine (unhide HC).mono ?_; rintro e w' ⟨rfl, rfl⟩)
              | (go_at_call 17; refine (unhide HDg).mono ?_; rintro e w' ⟨rfl, rfl⟩)
              | (at_builtin; refine wp_app_tok Try.underlying27 Try.infoTokR rfl (.tmp 43) (.tmp 50) rfl ⟨1, lb (s.extract m j), 0, m⟩ (unhide HOW) rfl hzw rfl (by omega) ?_; intro v' w3 hown4 hgrew)
              | (go_at_call 15; refine (unhide HSK _).mono ?_; rintro e w' ⟨rfl, rfl⟩))
            go_roundw
            case rel => exact ⟨m', done ++ [⟨1, lb (s.extract m j), 0, m⟩], by omega, rfl, hown4, (unhide HBE).trans hgrew.below, by simp; omega, HI2, HR2⟩
            case measure => simp [intOf]; omega
      | false =>
        have hL0 : headB letterB ((lb s).drop m) = false := by rw [hx]; exact hl
        have HL1 := hide (unhide HL m)
        rw [hL0] at HL1
        have HL : Hid (∀ _ : Nat, Calls Try.prog 16 #[.string s, .int .i64 (m : Int)] wr fun e w' => e = .returned (.bool false) ∧ w' = wr) := hide (fun _ => unhide HL1)
        clear HL1 hL0
        cases hd : digitB s[m] with
        | true =>
          have hD0 : headB digitB ((lb s).drop m) = true := by rw [hx]; exact hd
          rw [hD0] at HDg
          have hcl : signB s[m] = false ∧ s[m].toNat ≠ 45 := by unfold digitB at hd; simp at hd; unfold signB; simp; omega
          obtain ⟨hsg, h45⟩ := hcl
          clear hD0
          obtain ⟨D, hD⟩ : ∃ D, D = ((lb s).drop m).takeWhile digitB := ⟨_, rfl⟩
          have hrl := run_le digitB ((lb s).drop m)
          simp only [List.length_drop, lb_len] at hrl
          have hDl : runN digitB ((lb s).drop m) = D.length := by rw [hD]; rfl
          have HN := hide (refNumber_any s m wr hlt (by omega) false m (.inr ⟨rfl, h45, rfl⟩))
          rw [← hD] at HN
          have hT : tokG ((lb s).drop m) = numG D false := by rw [hx, tokG_cons, if_neg (by simp [hl]), if_neg (by simp [hsg]), if_pos hd]; rw [hD, hx]
          unfold numV at HN
          cases hg : numG D false with
          | bad er =>
            rw [hg] at hT HN
            have hsc := scan_err (m := m) hI hT
            have hne : (er != 0) = true := by rcases tok_bad hT with rfl | rfl <;> rfl
            have HR2 : Hid (R = .bad m er) := hide (by rw [hR, hsc]; rfl)
            clear hT hsc hR hI HR HI hx hl hsg hd hg hD hrl hDl hown h45
            go_wp2
            go_loop [8, 9] (fun ev _ => ev = .int .i64 m) (fun _ _ => 0)
            case atStart => rfl
            case round =>
              subst hrel
              go_wp2_with fail
              refine (unhide HL m).mono ?_
              rintro e w' ⟨rfl, rfl⟩
              go_wp2_with fail
              refine (unhide HDg).mono ?_
              rintro e w' ⟨rfl, rfl⟩
              go_wp2_with fail
              refine (unhide HN).mono ?_
              rintro e w' ⟨rfl, rfl⟩
              go_wp2
              refine bodyPost_ret (v := .tuple #[.slice none 0 0, .int .i64 (m : Int), .int .i64 er]) (by simp [results, Try.results12, go_sem]) rfl ⟨?_, hbel⟩
              rw [unhide HR2]; rfl
          | tok kd tx n len =>
            have hsh : kd = 2 ∧ tx = [] ∧ len = D.length + (if false = true then 1 else 0) := by
              unfold numG at hg
              split at hg
              · split at hg
                · cases hg; exact ⟨rfl, rfl, rfl⟩
                · cases hg
              · cases hg
            obtain ⟨rfl, rfl, hlen⟩ := hsh
            rw [hg] at hT HN
            have hpos := (tok_len hT).2.1 (by decide)
            have hsc := scan_tok (m := m) hI hT (by decide)
            obtain ⟨E, hEe⟩ : ∃ E, E = m + len := ⟨_, rfl⟩
            rw [List.drop_drop, ← hEe] at hsc
            have hE2 : m + D.length = E := by simp at hlen; omega
            simp only [] at HN
            rw [hE2] at HN
            have hEs : E ≤ s.size := by omega
            have hmE : m < E := by omega
            obtain ⟨m', hm'⟩ : ∃ m', m' = E + skipN false ((lb s).drop E) := ⟨_, rfl⟩
            have hnp := next_pos (lb s) E m' hm'
            have hm's : m' ≤ s.size := by have := skip_le false ((lb s).drop E); simp only [List.length_drop, lb_len] at this; omega
            have hEm : E ≤ m' := by omega
            have HSK := hide (fun W => refSkip_any s E W hEs (by omega))
            rw [← hm'] at HSK
            have HI2 := hide hnp.2
            have HR2 : Hid (R = (scanA m' ((lb s).drop m')).pre (done ++ [⟨2, [], n, m⟩])) := hide (by rw [hR, hsc, hnp.1, pre_pre])
            have HOW := hide hown
            have HBE := hide hbel
            clear hT hsc hR hI HR HI hx hl hsg hd hg hD hrl hDl hown hbel hlen hpos hE2 hEe hnp hm' h45
            go_wp2
            go_loop [8, 9] (fun ev _ => ev = .int .i64 m) (fun _ _ => 0)
            case atStart => rfl
            case round =>
              subst hrel
              go_wp2_with fail
              refine (unhide HL m).mono ?_
              rintro e w' ⟨rfl, rfl⟩
              go_wp2_with fail
              refine (unhide HDg).mono ?_
              rintro e w' ⟨rfl, rfl⟩
              go_wp2_with fail
              refine (unhide HN).mono ?_
              rintro e w' ⟨rfl, rfl⟩
              go_wp2_with (first
                | (at_builtin; refine wp_app_tok Try.underlying27 Try.infoTokR rfl (.tmp 69) (.tmp 73) rfl ⟨2, [], n, m⟩ (unhide HOW) rfl hzw rfl (by omega) ?_; intro v' w3 hown4 hgrew)
                | (go_at_call 15; refine (unhide HSK _).mono ?_; rintro e w' ⟨rfl, rfl⟩))
              go_roundw
              case rel => exact ⟨m', done ++ [⟨2, [], n, m⟩], by omega, rfl, hown4, (unhide HBE).trans hgrew.below, by simp; omega, HI2, HR2⟩
              case measure => simp [intOf]; omega
        | false =>
          have hD0 : headB digitB ((lb s).drop m) = false := by rw [hx]; exact hd
          rw [hD0] at HDg
          clear hD0
          by_cases h45 : s[m].toNat = 45
          · have hsg : signB s[m] = false := by unfold signB; rw [h45]; rfl
            have h45' : ((s[m].toNat : Int) == 45) = true := by simp [h45]
            obtain ⟨D, hD⟩ : ∃ D, D = ((lb s).drop (m + 1)).takeWhile digitB := ⟨_, rfl⟩
            have hrl := run_le digitB ((lb s).drop (m + 1))
            simp only [List.length_drop, lb_len] at hrl
            have hDl : runN digitB ((lb s).drop (m + 1)) = D.length := by rw [hD]; rfl
            have HN := hide (refNumber_any s m wr hlt (by omega) true (m + 1) (.inl ⟨rfl, h45, rfl⟩))
            rw [← hD] at HN
            have hT : tokG ((lb s).drop m) = numG D true := by rw [hx, tokG_cons, if_neg (by simp [hl]), if_neg (by simp [hsg]), if_neg (by simp [hd]), if_pos h45]; rw [hD]
            unfold numV at HN
            cases hg : numG D true with
            | bad er =>
              rw [hg] at hT HN
              have hsc := scan_err (m := m) hI hT
              have hne : (er != 0) = true := by rcases tok_bad hT with rfl | rfl <;> rfl
              have HR2 : Hid (R = .bad m er) := hide (by rw [hR, hsc]; rfl)
              clear hT hsc hR hI HR HI hx hl hsg hd hg hD hrl hDl hown h45
              go_wp2
              go_loop [8, 9] (fun ev _ => ev = .int .i64 m) (fun _ _ => 0)
              case atStart => rfl
              case round =>
                subst hrel
                go_wp2_with fail
                refine (unhide HL m).mono ?_
                rintro e w' ⟨rfl, rfl⟩
                go_wp2_with fail
                refine (unhide HDg).mono ?_
                rintro e w' ⟨rfl, rfl⟩
                go_wp2_with fail
                refine (unhide HN).mono ?_
                rintro e w' ⟨rfl, rfl⟩
                go_wp2
                refine bodyPost_ret (v := .tuple #[.slice none 0 0, .int .i64 (m : Int), .int .i64 er]) (by simp [results, Try.results12, go_sem]) rfl ⟨?_, hbel⟩
                rw [unhide HR2]; rfl
            | tok kd tx n len =>
              have hsh : kd = 2 ∧ tx = [] ∧ len = D.length + (if true = true then 1 else 0) := by
                unfold numG at hg
                split at hg
                · split at hg
                  · cases hg; exact ⟨rfl, rfl, rfl⟩
                  · cases hg
                · cases hg
              obtain ⟨rfl, rfl, hlen⟩ := hsh
              rw [hg] at hT HN
              have hpos := (tok_len hT).2.1 (by decide)
              have hsc := scan_tok (m := m) hI hT (by decide)
              obtain ⟨E, hEe⟩ : ∃ E, E = m + len := ⟨_, rfl⟩
              rw [List.drop_drop, ← hEe] at hsc
              have hE2 : (m + 1) + D.length = E := by simp at hlen; omega
              simp only [] at HN
              rw [hE2] at HN
              have hEs : E ≤ s.size := by omega
              have hmE : m < E := by omega
              obtain ⟨m', hm'⟩ : ∃ m', m' = E + skipN false ((lb s).drop E) := ⟨_, rfl⟩
              have hnp := next_pos (lb s) E m' hm'
              have hm's : m' ≤ s.size := by have := skip_le false ((lb s).drop E); simp only [List.length_drop, lb_len] at this; omega
              have hEm : E ≤ m' := by omega
              have HSK := hide (fun W => refSkip_any s E W hEs (by omega))
              rw [← hm'] at HSK
              have HI2 := hide hnp.2
              have HR2 : Hid (R = (scanA m' ((lb s).drop m')).pre (done ++ [⟨2, [], n, m⟩])) := hide (by rw [hR, hsc, hnp.1, pre_pre])
              have HOW := hide hown
              have HBE := hide hbel
              clear hT hsc hR hI HR HI hx hl hsg hd hg hD hrl hDl hown hbel hlen hpos hE2 hEe hnp hm' h45
              go_wp2
              go_loop [8, 9] (fun ev _ => ev = .int .i64 m) (fun _ _ => 0)
              case atStart => rfl
              case round =>
                subst hrel
                go_wp2_with fail
                refine (unhide HL m).mono ?_
                rintro e w' ⟨rfl, rfl⟩
                go_wp2_with fail
                refine (unhide HDg).mono ?_
                rintro e w' ⟨rfl, rfl⟩
                go_wp2_with fail
                refine (unhide HN).mono ?_
                rintro e w' ⟨rfl, rfl⟩
                go_wp2_with (first
                  | (at_builtin; refine wp_app_tok Try.underlying27 Try.infoTokR rfl (.tmp 69) (.tmp 73) rfl ⟨2, [], n, m⟩ (unhide HOW) rfl hzw rfl (by omega) ?_; intro v' w3 hown4 hgrew)
                  | (go_at_call 15; refine (unhide HSK _).mono ?_; rintro e w' ⟨rfl, rfl⟩))
                go_roundw
                case rel => exact ⟨m', done ++ [⟨2, [], n, m⟩], by omega, rfl, hown4, (unhide HBE).trans hgrew.below, by simp; omega, HI2, HR2⟩
                case measure => simp [intOf]; omega
          · have h45' : ((s[m].toNat : Int) == 45) = false := by simp; omega
            cases hsg : signB s[m] with
            | true =>
              have hT : tokG ((lb s).drop m) = .tok 3 [s[m]] 0 1 := by rw [hx, tokG_cons, if_neg (by simp [hl]), if_pos hsg]
              have hsc := scan_tok (m := m) hI hT (by decide)
              have hlr : lb (s.extract m (m + 1)) = [s[m]] := by rw [lb_extract, Nat.add_sub_cancel_left, hx]; rfl
              obtain ⟨E, hEe⟩ : ∃ E, E = m + 1 := ⟨_, rfl⟩
              rw [List.drop_drop, ← hEe] at hsc
              rw [← hlr, ← hEe] at hsc
              have hEs : E ≤ s.size := by omega
              have hmE : m < E := by omega
              have hEI : (m : Int) + 1 = (E : Int) := by omega
              have hsgn : Hid (s[m].toNat = 58 ∨ s[m].toNat = 44 ∨ s[m].toNat = 59) := hide (by unfold signB at hsg; simp at hsg; omega)
              obtain ⟨m', hm'⟩ : ∃ m', m' = E + skipN false ((lb s).drop E) := ⟨_, rfl⟩
              have hnp := next_pos (lb s) E m' hm'
              have hm's : m' ≤ s.size := by have := skip_le false ((lb s).drop E); simp only [List.length_drop, lb_len] at this; omega
              have hEm : E ≤ m' := by omega
              have HSK := hide (fun W => refSkip_any s E W hEs (by omega))
              rw [← hm'] at HSK
              have HI2 := hide hnp.2
              have HR2 : Hid (R = (scanA m' ((lb s).drop m')).pre (done ++ [⟨3, lb (s.extract m E), 0, m⟩])) := hide (by rw [hR, hsc, hnp.1, pre_pre])
              have HOW := hide hown
              have HBE := hide hbel
              have hs58 : Hid (((s[m].toNat : Int) == 58) = true ∨ (((s[m].toNat : Int) == 58) = false ∧ ((s[m].toNat : Int) == 44) = true) ∨ (((s[m].toNat : Int) == 58) = false ∧ ((s[m].toNat : Int) == 44) = false ∧ ((s[m].toNat : Int) == 59) = true)) := hide (by
                rcases hsgn.out with h | h | h
                · exact .inl (by simp [h])
                · exact .inr (.inl ⟨by simp [h], by simp [h]⟩)
                · exact .inr (.inr ⟨by simp [h], by simp [h], by simp [h]⟩))
              clear hT hsc hR hI HR HI hx hl hsg hd hown hbel hlr hEe hnp hm' h45 hsgn
              rcases hs58.out with h58 | ⟨h58, h44⟩ | ⟨h58, h44, h59⟩
              all_goals
                clear hs58
                go_wp2
                go_loop [8, 9] (fun ev _ => ev = .int .i64 m) (fun _ _ => 0)
                case atStart => rfl
                case round =>
                  subst hrel
                  go_wp2_with fail
                  refine (unhide HL m).mono ?_
                  rintro e w' ⟨rfl, rfl⟩
                  go_wp2_with fail
                  refine (unhide HDg).mono ?_
                  rintro e w' ⟨rfl, rfl⟩
                  go_wp2_with (first
                    | (at_builtin; refine wp_app_tok Try.underlying27 Try.infoTokR rfl (.tmp 89) (.tmp 96) rfl ⟨3, lb (s.extract m E), 0, m⟩ (unhide HOW) rfl hzw rfl (by omega) ?_; intro v' w3 hown4 hgrew)
                    | (go_at_call 15; refine (unhide HSK _).mono ?_; rintro e w' ⟨rfl, rfl⟩))
                  go_roundw
                  case rel => exact ⟨m', done ++ [⟨3, lb (s.extract m E), 0, m⟩], by omega, rfl, hown4, (unhide HBE).trans hgrew.below, by simp; omega, HI2, HR2⟩
                  case measure => simp [intOf]; omega
            | false =>
              have hT : tokG ((lb s).drop m) = .bad 2 := by rw [hx, tokG_cons, if_neg (by simp [hl]), if_neg (by simp [hsg]), if_neg (by simp [hd]), if_neg h45]
              have hsc := scan_err (m := m) hI hT
              have HR2 : Hid (R = .bad m 2) := hide (by rw [hR, hsc]; rfl)
              have hsn : ((s[m].toNat : Int) == 58) = false ∧ ((s[m].toNat : Int) == 44) = false ∧ ((s[m].toNat : Int) == 59) = false := by unfold signB at hsg; simp at hsg; simp; omega
              obtain ⟨h58, h44, h59⟩ := hsn
              clear hT hsc hR hI HR HI hx hl hsg hd hown h45
              go_wp2
              go_loop [8, 9] (fun ev _ => ev = .int .i64 m) (fun _ _ => 0)
              case atStart => rfl
              case round =>
                subst hrel
                go_wp2_with fail
                refine (unhide HL m).mono ?_
                rintro e w' ⟨rfl, rfl⟩
                go_wp2_with fail
                refine (unhide HDg).mono ?_
                rintro e w' ⟨rfl, rfl⟩
                go_wp2
                refine bodyPost_ret (v := .tuple #[.slice none 0 0, .int .i64 (m : Int), .int .i64 2]) (by simp [results, Try.results12, go_sem]) rfl ⟨?_, hbel⟩
                rw [unhide HR2]; rfl
    · have hme : m = s.size := by omega
      have hR := HR.out
      rw [lb_end s m (by omega)] at hR
      have HR2 : Hid (R = .good (done ++ [⟨4, [], 0, s.size⟩])) := hide (by rw [hR, scan_eq]; rw [hme]; rfl)
      clear hR HR HI
      subst hme
      go_wp2_with (at_builtin; refine wp_app_tok Try.underlying27 Try.infoTokR rfl (.tmp 101) (.tmp 105) rfl ⟨4, [], 0, s.size⟩ hown rfl hzw rfl (by omega) ?_; intro v' w3 hown4 hgrew)
      refine bodyPost_ret (v := .tuple #[v', .int .i64 0, .int .i64 0]) (by simp [results, Try.results12, go_sem]) rfl ⟨?_, ?_⟩
      · rw [unhide HR2]
        exact ⟨_, rfl, hown4.toks⟩
      · exact hbel.trans hgrew.below

end Go.Proofs.Ytehoepliiobliaa
