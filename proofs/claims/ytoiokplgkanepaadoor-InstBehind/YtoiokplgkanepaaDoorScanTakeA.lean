/-
  The contract of take.
-/
import Derived.Test.YtoiokplgkanepaaDoorScanTakeN
namespace Go.Proofs.YtoiokplgkanepaaDoor
open Go.RowKit
set_option linter.unusedVariables false
set_option linter.unusedSimpArgs false
set_option maxRecDepth 20000

theorem cls_digit {c : UInt8} (h : digitB c = true) : letterB c = false ∧ signB c = false ∧ c.toNat ≠ 45 := by
  unfold digitB at h; simp at h; unfold letterB signB; simp; omega
theorem cls_minus {c : UInt8} (h : c.toNat = 45) : letterB c = false ∧ signB c = false ∧ digitB c = false := by
  unfold digitB letterB signB; simp [h]

set_option maxHeartbeats 2000000 in
theorem take_any (s : ByteArray) (p : Nat) (w : World) (hp : p ≤ s.size) (hs : s.size ≤ 1000000) :
    Calls Tryd.prog 32 #[.string s, .int .i64 (p : Int)] w fun e w' => e = .returned (takeV p (tokG ((lb s).drop p))) ∧ Below w.heap.size w w' := by
  obtain ⟨G, hG⟩ : ∃ G, G = takeV p (tokG ((lb s).drop p)) := ⟨_, rfl⟩
  rw [← hG]
  by_cases hlt : p < s.size
  · have hgu : ((p : Int) == (s.size : Int)) = false := by simp; omega
    have hx := lb_drop s p hlt
    have HL := hide (fun W => isLetter_any s[p] W)
    have HS := hide (fun W => isSign_any s[p] W)
    have HD := hide (fun W => isDigit_any s[p] W)
    cases hl : letterB s[p] with
    | true =>
      rw [hl] at HL
      have hE := run_le letterB ((lb s).drop p)
      simp only [List.length_drop, lb_len] at hE
      have HC := hide (fun W => run_any isLetter_any tells_letter s p W hp hs)
      have hpos : 0 < runN letterB ((lb s).drop p) := by rw [hx, run_cons, if_pos hl]; omega
      have htw := take_run letterB ((lb s).drop p)
      have hG2 : G = takeV p (.tok 1 (((lb s).drop p).takeWhile letterB) 0 (runN letterB ((lb s).drop p))) := by rw [hG, hx, tokG_cons, if_pos hl]
      obtain ⟨E, hEe⟩ : ∃ E, E = p + runN letterB ((lb s).drop p) := ⟨_, rfl⟩
      have hsub : E - p = runN letterB ((lb s).drop p) := by omega
      rw [← hEe] at HC
      have HP := hide (fun W => spelt_any 1 s p E W (by omega) (by omega) hs)
      rw [hsub, htw] at HP
      obtain ⟨t, ht⟩ : ∃ t : ByteArray, t = ⟨(((lb s).drop p).takeWhile letterB).toArray⟩ := ⟨_, rfl⟩
      have HG : Hid (G = .tuple #[.agg #[.int .i64 1, .string t, .int .i64 0, .int .i64 (p : Int)], .int .i64 (E : Int), .int .i64 0]) := hide (by rw [hG2, ht, hEe]; rfl)
      have HP2 : Hid (∀ W, Calls Tryd.prog 58 #[.int .i64 1, .string s, .int .i64 (p : Int), .int .i64 (E : Int)] W fun e w' => e = .returned (.agg #[.int .i64 1, .string t, .int .i64 0, .int .i64 (p : Int)]) ∧ Below W.heap.size W w') := hide (by rw [ht]; exact unhide HP)
      have hE2 : E ≤ s.size := by omega
      have hE3 : p < E := by omega
      clear hG hG2 ht HP hsub hEe htw hpos hE hx hl HS HD
      go_enter Tryd.func32, Tryd.ntmps32
      go_wp2_with fail
      refine (unhide HL _).mono ?_
      rintro e w' ⟨rfl, rfl⟩
      go_wp2_with fail
      refine (unhide HC _).mono ?_
      rintro e w' ⟨rfl, rfl⟩
      go_wp2_with fail
      refine (unhide HP2 _).mono ?_
      rintro e w' ⟨rfl, hb⟩
      have x1 := (BoxK.new 52 w (.int .i64 0) (.string ⟨#[]⟩) (.int .i64 0) (.int .i64 0)).belowH hb
      have f0 := x1.frozen
      have c0 := x1.cell0
      have c1 := x1.cell1
      have c2 := x1.cell2
      have c3 := x1.cell3
      have X1 := hide x1
      clear x1
      go_wp2
      have HR := hide (BoxK.set (unhide X1) (.int .i64 1) (.string t) (.int .i64 0) (.int .i64 (p : Int)))
      have r0 := (unhide HR).cell0
      have r1 := (unhide HR).cell1
      have r2 := (unhide HR).cell2
      have r3 := (unhide HR).cell3
      refine bodyPost_ret (v := G) ?_ rfl ⟨rfl, ?_⟩
      · rw [unhide HG]
        simp [results, Tryd.results32, go_sem, r0, r1, r2, r3]
      · exact below_set4 (((Below.refl _ _).alloc (Nat.le_refl _) _).trans (hb.mono (by simp))) (Nat.le_refl _) _ _ _ _
    | false =>
      rw [hl] at HL
      cases hsg : signB s[p] with
      | true =>
        rw [hsg] at HS
        have HP := hide (fun W => spelt_any 3 s p (p + 1) W (by omega) (by omega) hs)
        have hG2 : G = takeV p (.tok 3 [s[p]] 0 1) := by rw [hG, hx, tokG_cons, if_neg (by simp [hl]), if_pos hsg]
        have htk : ((lb s).drop p).take (p + 1 - p) = [s[p]] := by rw [hx, Nat.add_sub_cancel_left]; rfl
        rw [htk] at HP
        obtain ⟨t, ht⟩ : ∃ t : ByteArray, t = ⟨[s[p]].toArray⟩ := ⟨_, rfl⟩
        have HG : Hid (G = .tuple #[.agg #[.int .i64 3, .string t, .int .i64 0, .int .i64 (p : Int)], .int .i64 ((p : Int) + 1), .int .i64 0]) := hide (by rw [hG2, ht]; rfl)
        have HP2 : Hid (∀ W, Calls Tryd.prog 58 #[.int .i64 3, .string s, .int .i64 (p : Int), .int .i64 ((p : Int) + 1)] W fun e w' => e = .returned (.agg #[.int .i64 3, .string t, .int .i64 0, .int .i64 (p : Int)]) ∧ Below W.heap.size W w') := hide (by rw [ht]; exact unhide HP)
        clear hG hG2 ht HP htk hx hl hsg HD
        go_enter Tryd.func32, Tryd.ntmps32
        go_wp2_with fail
        refine (unhide HL _).mono ?_
        rintro e w' ⟨rfl, rfl⟩
        go_wp2_with fail
        refine (unhide HS _).mono ?_
        rintro e w' ⟨rfl, rfl⟩
        go_wp2_with fail
        refine (unhide HP2 _).mono ?_
        rintro e w' ⟨rfl, hb⟩
        have x1 := (BoxK.new 52 w (.int .i64 0) (.string ⟨#[]⟩) (.int .i64 0) (.int .i64 0)).belowH hb
        have f0 := x1.frozen
        have c0 := x1.cell0
        have c1 := x1.cell1
        have c2 := x1.cell2
        have c3 := x1.cell3
        have X1 := hide x1
        clear x1
        go_wp2
        have HR := hide (BoxK.set (unhide X1) (.int .i64 3) (.string t) (.int .i64 0) (.int .i64 (p : Int)))
        have r0 := (unhide HR).cell0
        have r1 := (unhide HR).cell1
        have r2 := (unhide HR).cell2
        have r3 := (unhide HR).cell3
        refine bodyPost_ret (v := G) ?_ rfl ⟨rfl, ?_⟩
        · rw [unhide HG]
          simp [results, Tryd.results32, go_sem, r0, r1, r2, r3]
        · exact below_set4 (((Below.refl _ _).alloc (Nat.le_refl _) _).trans (hb.mono (by simp))) (Nat.le_refl _) _ _ _ _
      | false =>
        rw [hsg] at HS
        cases hd : digitB s[p] with
        | true =>
          rw [hd] at HD
          have h45 := (cls_digit hd).2.2
          have HP := hide (fun W => takeNumber_any s p W hlt hs false p (.inr ⟨rfl, h45, rfl⟩))
          have hG2 : G = takeV p (numG (((lb s).drop p).takeWhile digitB) false) := by rw [hG, hx, tokG_cons, if_neg (by simp [hl]), if_neg (by simp [hsg]), if_pos hd]
          rw [← hG2] at HP
          have hform : ∃ k t n a E e, G = .tuple #[.agg #[.int .i64 k, .string t, .int .i64 n, .int .i64 a], .int .i64 E, .int .i64 e] := by rw [hG2]; cases numG (((lb s).drop p).takeWhile digitB) false <;> exact ⟨_, _, _, _, _, _, rfl⟩
          obtain ⟨k, t, n, a, E, er, rfl⟩ := hform
          have HG := hide (rfl : Value.tuple #[.agg #[.int .i64 k, .string t, .int .i64 n, .int .i64 a], .int .i64 E, .int .i64 er] = .tuple #[.agg #[.int .i64 k, .string t, .int .i64 n, .int .i64 a], .int .i64 E, .int .i64 er])
          clear hG hG2 hx hl hsg hd h45
          go_enter Tryd.func32, Tryd.ntmps32
          go_wp2_with fail
          refine (unhide HL _).mono ?_
          rintro e w' ⟨rfl, rfl⟩
          go_wp2_with fail
          refine (unhide HS _).mono ?_
          rintro e w' ⟨rfl, rfl⟩
          go_wp2_with fail
          refine (unhide HD _).mono ?_
          rintro e w' ⟨rfl, rfl⟩
          go_wp2_with fail
          refine (unhide HP _).mono ?_
          rintro e w' ⟨rfl, hb⟩
          have x1 := (BoxK.new 52 w (.int .i64 0) (.string ⟨#[]⟩) (.int .i64 0) (.int .i64 0)).belowH hb
          have f0 := x1.frozen
          have c0 := x1.cell0
          have c1 := x1.cell1
          have c2 := x1.cell2
          have c3 := x1.cell3
          have X1 := hide x1
          clear x1
          go_wp2
          have HR := hide (BoxK.set (unhide X1) (.int .i64 k) (.string t) (.int .i64 n) (.int .i64 a))
          have r0 := (unhide HR).cell0
          have r1 := (unhide HR).cell1
          have r2 := (unhide HR).cell2
          have r3 := (unhide HR).cell3
          refine bodyPost_ret (v := .tuple #[.agg #[.int .i64 k, .string t, .int .i64 n, .int .i64 a], .int .i64 E, .int .i64 er]) ?_ rfl ⟨rfl, ?_⟩
          · simp [results, Tryd.results32, go_sem, r0, r1, r2, r3]
          · exact below_set4 (((Below.refl _ _).alloc (Nat.le_refl _) _).trans (hb.mono (by simp))) (Nat.le_refl _) _ _ _ _
        | false =>
          rw [hd] at HD
          by_cases h45 : s[p].toNat = 45
          · have h45' : ((s[p].toNat : Int) == 45) = true := by simp [h45]
            have HP := hide (fun W => takeNumber_any s p W hlt hs true (p + 1) (.inl ⟨rfl, h45, rfl⟩))
            have hG2 : G = takeV p (numG (((lb s).drop (p + 1)).takeWhile digitB) true) := by rw [hG, hx, tokG_cons, if_neg (by simp [hl]), if_neg (by simp [hsg]), if_neg (by simp [hd]), if_pos h45]
            rw [← hG2] at HP
            have hform : ∃ k t n a E e, G = .tuple #[.agg #[.int .i64 k, .string t, .int .i64 n, .int .i64 a], .int .i64 E, .int .i64 e] := by rw [hG2]; cases numG (((lb s).drop (p + 1)).takeWhile digitB) true <;> exact ⟨_, _, _, _, _, _, rfl⟩
            obtain ⟨k, t, n, a, E, er, rfl⟩ := hform
            have HG := hide (rfl : Value.tuple #[.agg #[.int .i64 k, .string t, .int .i64 n, .int .i64 a], .int .i64 E, .int .i64 er] = .tuple #[.agg #[.int .i64 k, .string t, .int .i64 n, .int .i64 a], .int .i64 E, .int .i64 er])
            clear hG hG2 hx hl hsg hd h45
            go_enter Tryd.func32, Tryd.ntmps32
            go_wp2_with fail
            refine (unhide HL _).mono ?_
            rintro e w' ⟨rfl, rfl⟩
            go_wp2_with fail
            refine (unhide HS _).mono ?_
            rintro e w' ⟨rfl, rfl⟩
            go_wp2_with fail
            refine (unhide HD _).mono ?_
            rintro e w' ⟨rfl, rfl⟩
            go_wp2_with fail
            refine (unhide HP _).mono ?_
            rintro e w' ⟨rfl, hb⟩
            have x1 := (BoxK.new 52 w (.int .i64 0) (.string ⟨#[]⟩) (.int .i64 0) (.int .i64 0)).belowH hb
            have f0 := x1.frozen
            have c0 := x1.cell0
            have c1 := x1.cell1
            have c2 := x1.cell2
            have c3 := x1.cell3
            have X1 := hide x1
            clear x1
            go_wp2
            have HR := hide (BoxK.set (unhide X1) (.int .i64 k) (.string t) (.int .i64 n) (.int .i64 a))
            have r0 := (unhide HR).cell0
            have r1 := (unhide HR).cell1
            have r2 := (unhide HR).cell2
            have r3 := (unhide HR).cell3
            refine bodyPost_ret (v := .tuple #[.agg #[.int .i64 k, .string t, .int .i64 n, .int .i64 a], .int .i64 E, .int .i64 er]) ?_ rfl ⟨rfl, ?_⟩
            · simp [results, Tryd.results32, go_sem, r0, r1, r2, r3]
            · exact below_set4 (((Below.refl _ _).alloc (Nat.le_refl _) _).trans (hb.mono (by simp))) (Nat.le_refl _) _ _ _ _
          · have h45' : ((s[p].toNat : Int) == 45) = false := by simp; omega
            have HG : Hid (G = .tuple #[.agg #[.int .i64 0, .string ⟨#[]⟩, .int .i64 0, .int .i64 0], .int .i64 0, .int .i64 2]) := hide (by rw [hG, hx, tokG_cons, if_neg (by simp [hl]), if_neg (by simp [hsg]), if_neg (by simp [hd]), if_neg h45]; rfl)
            clear hG hx hl hsg hd h45
            go_enter Tryd.func32, Tryd.ntmps32
            go_wp2_with fail
            refine (unhide HL _).mono ?_
            rintro e w' ⟨rfl, rfl⟩
            go_wp2_with fail
            refine (unhide HS _).mono ?_
            rintro e w' ⟨rfl, rfl⟩
            go_wp2_with fail
            refine (unhide HD _).mono ?_
            rintro e w' ⟨rfl, rfl⟩
            have x1 := (BoxK.new 52 w (.int .i64 0) (.string ⟨#[]⟩) (.int .i64 0) (.int .i64 0))
            have f0 := x1.frozen
            have c0 := x1.cell0
            have c1 := x1.cell1
            have c2 := x1.cell2
            have c3 := x1.cell3
            have X1 := hide x1
            clear x1
            go_wp2
            have HR := hide (BoxK.set (unhide X1) (.int .i64 0) (.string ⟨#[]⟩) (.int .i64 0) (.int .i64 0))
            have r0 := (unhide HR).cell0
            have r1 := (unhide HR).cell1
            have r2 := (unhide HR).cell2
            have r3 := (unhide HR).cell3
            refine bodyPost_ret (v := G) ?_ rfl ⟨rfl, ?_⟩
            · rw [unhide HG]
              simp [results, Tryd.results32, go_sem, r0, r1, r2, r3]
            · exact (Below.refl _ _).alloc (Nat.le_refl _) _
  · have hpe : p = s.size := by omega
    have HG : Hid (G = .tuple #[.agg #[.int .i64 4, .string ⟨#[]⟩, .int .i64 0, .int .i64 (s.size : Int)], .int .i64 (s.size : Int), .int .i64 0]) := hide (by rw [hG, lb_end s p (by omega), hpe]; rfl)
    clear hG hp hlt
    subst hpe
    go_enter Tryd.func32, Tryd.ntmps32
    have x1 := (BoxK.new 52 w (.int .i64 0) (.string ⟨#[]⟩) (.int .i64 0) (.int .i64 0))
    have f0 := x1.frozen
    have c0 := x1.cell0
    have c1 := x1.cell1
    have c2 := x1.cell2
    have c3 := x1.cell3
    have X1 := hide x1
    clear x1
    go_wp2
    have HR := hide (BoxK.set (unhide X1) (.int .i64 4) (.string ⟨#[]⟩) (.int .i64 0) (.int .i64 (s.size : Int)))
    have r0 := (unhide HR).cell0
    have r1 := (unhide HR).cell1
    have r2 := (unhide HR).cell2
    have r3 := (unhide HR).cell3
    refine bodyPost_ret (v := G) ?_ rfl ⟨rfl, ?_⟩
    · rw [unhide HG]
      simp [results, Tryd.results32, go_sem, r0, r1, r2, r3]
    · exact (Below.refl _ _).alloc (Nat.le_refl _) _

end Go.Proofs.YtoiokplgkanepaaDoor
