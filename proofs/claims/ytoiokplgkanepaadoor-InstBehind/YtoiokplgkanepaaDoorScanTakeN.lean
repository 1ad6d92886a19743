/-
  The contract of takeNumber.
-/
import Derived.Test.YtoiokplgkanepaaDoorScanTake
namespace Go.Proofs.YtoiokplgkanepaaDoor
open Go.RowKit
set_option linter.unusedVariables false
set_option linter.unusedSimpArgs false
set_option maxRecDepth 20000

theorem numG_no {d : Bytes} {below : Bool} (h : writtenB d below = false) : numG d below = .bad 2 := by unfold numG; rw [h]; rfl
theorem numG_big {d : Bytes} {below : Bool} (h : writtenB d below = true) (h2 : ¬ valN d ≤ 1000000000000) : numG d below = .bad 4 := by unfold numG; rw [if_pos h, if_neg h2]
theorem numG_yes {d : Bytes} {below : Bool} (h : writtenB d below = true) (h2 : valN d ≤ 1000000000000) : numG d below = .tok 2 [] (if below then -(valN d : Int) else (valN d : Int)) (d.length + if below then 1 else 0) := by unfold numG; rw [if_pos h, if_pos h2]

theorem all_run (p : UInt8 → Bool) (l : Bytes) : ∀ c ∈ l.takeWhile p, p c = true := by
  induction l with
  | nil => intro c h; simp at h
  | cons x r ih =>
    intro c h
    rw [List.takeWhile_cons] at h
    split at h
    · rename_i hx
      rcases List.mem_cons.1 h with rfl | h
      · exact hx
      · exact ih c h
    · simp at h

theorem takeV_no (p : Nat) (e : Int) : takeV p (.bad e) = .tuple #[tokV ⟨0, [], 0, 0⟩, .int .i64 0, .int .i64 e] := rfl

set_option maxHeartbeats 2000000 in
theorem takeNumber_any (s : ByteArray) (p : Nat) (w : World) (hp : p < s.size) (hs : s.size ≤ 1000000) (below : Bool) (q : Nat) (hbq : (below = true ∧ s[p].toNat = 45 ∧ q = p + 1) ∨ (below = false ∧ s[p].toNat ≠ 45 ∧ q = p)) :
    Calls Tryd.prog 61 #[.string s, .int .i64 (p : Int)] w fun e w' => e = .returned (takeV p (numG (((lb s).drop q).takeWhile digitB) below)) ∧ Below w.heap.size w w' := by
  have hq : q ≤ s.size := by rcases hbq with h | h <;> omega
  have hle := run_le digitB ((lb s).drop q)
  simp only [List.length_drop, lb_len] at hle
  have HC := hide (fun W => run_any isDigit_any tells_digit s q W hq hs)
  have HA := hide (all_run digitB ((lb s).drop q))
  have hx := lb_run s q digitB
  obtain ⟨D, hD⟩ : ∃ D, D = ((lb s).drop q).takeWhile digitB := ⟨_, rfl⟩
  have hrl : runN digitB ((lb s).drop q) = D.length := by rw [hD]; rfl
  obtain ⟨E, hE⟩ : ∃ E, E = q + runN digitB ((lb s).drop q) := ⟨_, rfl⟩
  rw [← hE] at HC hx
  rw [← hD] at hx HA ⊢
  have hEs : E ≤ s.size := by omega
  have hqE : q ≤ E := by omega
  have HW := hide (fun W => isWritten_any (s.extract q E) below W)
  have HV := hide (fun W => value_any (s.extract q E) W (by rw [hx]; exact unhide HA) (by rw [ByteArray.size_extract]; omega))
  rw [hx] at HW HV
  have HEl : Hid (E = q + D.length) := hide (by omega)
  clear hx hD hrl hE hle HA
  obtain ⟨n, hn⟩ : ∃ n, n = valN D := ⟨_, rfl⟩
  rw [← hn] at HV
  obtain ⟨G, hG⟩ : ∃ G, G = takeV p (numG D below) := ⟨_, rfl⟩
  rw [← hG]
  have hqi : p ≤ q := by rcases hbq with h | h <;> omega
  rcases hbq with ⟨rfl, h45, hq1⟩ | ⟨rfl, h45, hq1⟩
  · have h45' : ((s[p].toNat : Int) == 45) = true := by simp [h45]
    have HQ1 := hide hq1
    have hqp : (p : Int) + 1 = (q : Int) := by omega
    clear h45 hq1
    cases hw : writtenB D true with
    | false =>
      rw [numG_no hw, takeV_no] at hG
      rw [hw] at HW
      have HG := hide hG
      clear hG hn hw HV
      go_enter Tryd.func61, Tryd.ntmps61
      go_wp2
      go_quiet (fail)
      go_wp2_with fail
      refine (unhide HC _).mono ?_
      rintro e w' ⟨rfl, rfl⟩
      go_wp2_with fail
      refine (unhide HW _).mono ?_
      rintro e w' ⟨rfl, rfl⟩
      have x1 := ((BoxK.new 52 w (.int .i64 0) (.string ⟨#[]⟩) (.int .i64 0) (.int .i64 0)).belowH (Below.drewN _ nq))
      have f0 := x1.frozen
      have c0 := x1.cell0
      have c1 := x1.cell1
      have c2 := x1.cell2
      have c3 := x1.cell3
      have X1 := hide x1
      clear x1
      go_wp2
      have HR := hide (BoxK.set (unhide X1) (.int .i64 0) (.string ⟨#[]⟩) (.int .i64 0) (.int .i64 0))
      have r0 := (unhide HR).cell0
      have r1 := (unhide HR).cell1
      have r2 := (unhide HR).cell2
      have r3 := (unhide HR).cell3
      refine bodyPost_ret (v := G) ?_ rfl ⟨rfl, ?_⟩
      · rw [unhide HG]
        simp [results, Tryd.results61, go_sem, r0, r1, r2, r3, tokV]
      · exact below_set4 (Below.drewN1 ((Below.refl _ _).alloc (Nat.le_refl _) _) nq) (Nat.le_refl _) _ _ _ _
    | true =>
      rw [hw] at HW
      by_cases hb : n ≤ 1000000000000
      · rw [numG_yes hw (hn ▸ hb), ← hn] at hG
        have HV2 := HV
        rw [if_pos hb, decide_eq_true hb] at HV2
        have HG : Hid (G = .tuple #[.agg #[.int .i64 2, .string ⟨#[]⟩, .int .i64 (-(n : Int)), .int .i64 (p : Int)], .int .i64 (E : Int), .int .i64 0]) := hide (by rw [hG, unhide HEl, unhide HQ1]; simp [takeV, tokV]; omega)
        have hneg : (0 : Int) ≤ (n : Int) := by omega
        clear hG hn hw HV
        go_enter Tryd.func61, Tryd.ntmps61
        go_wp2
        go_quiet (fail)
        go_wp2_with fail
        refine (unhide HC _).mono ?_
        rintro e w' ⟨rfl, rfl⟩
        go_wp2_with fail
        refine (unhide HW _).mono ?_
        rintro e w' ⟨rfl, rfl⟩
        go_wp2_with fail
        refine (unhide HV2 _).mono ?_
        rintro e w' ⟨rfl, rfl⟩
        have x1 := ((BoxK.new 52 w (.int .i64 0) (.string ⟨#[]⟩) (.int .i64 0) (.int .i64 0)).belowH (Below.drewN _ nq))
        have f0 := x1.frozen
        have c0 := x1.cell0
        have c1 := x1.cell1
        have c2 := x1.cell2
        have c3 := x1.cell3
        have X1 := hide x1
        clear x1
        go_wp2
        have HR := hide (BoxK.set (unhide X1) (.int .i64 2) (.string ⟨#[]⟩) (.int .i64 (-(n : Int))) (.int .i64 (p : Int)))
        have r0 := (unhide HR).cell0
        have r1 := (unhide HR).cell1
        have r2 := (unhide HR).cell2
        have r3 := (unhide HR).cell3
        refine bodyPost_ret (v := G) ?_ rfl ⟨rfl, ?_⟩
        · rw [unhide HG]
          simp [results, Tryd.results61, go_sem, r0, r1, r2, r3, tokV]
        · exact below_set4 (Below.drewN1 ((Below.refl _ _).alloc (Nat.le_refl _) _) nq) (Nat.le_refl _) _ _ _ _
      · rw [numG_big hw (hn ▸ hb), takeV_no] at hG
        have HV2 := HV
        rw [if_neg hb, decide_eq_false hb] at HV2
        have HG := hide hG
        clear hG hn hw HV
        go_enter Tryd.func61, Tryd.ntmps61
        go_wp2
        go_quiet (fail)
        go_wp2_with fail
        refine (unhide HC _).mono ?_
        rintro e w' ⟨rfl, rfl⟩
        go_wp2_with fail
        refine (unhide HW _).mono ?_
        rintro e w' ⟨rfl, rfl⟩
        go_wp2_with fail
        refine (unhide HV2 _).mono ?_
        rintro e w' ⟨rfl, rfl⟩
        have x1 := ((BoxK.new 52 w (.int .i64 0) (.string ⟨#[]⟩) (.int .i64 0) (.int .i64 0)).belowH (Below.drewN _ nq))
        have f0 := x1.frozen
        have c0 := x1.cell0
        have c1 := x1.cell1
        have c2 := x1.cell2
        have c3 := x1.cell3
        have X1 := hide x1
        clear x1
        go_wp2
        have HR := hide (BoxK.set (unhide X1) (.int .i64 0) (.string ⟨#[]⟩) (.int .i64 0) (.int .i64 0))
        have r0 := (unhide HR).cell0
        have r1 := (unhide HR).cell1
        have r2 := (unhide HR).cell2
        have r3 := (unhide HR).cell3
        refine bodyPost_ret (v := G) ?_ rfl ⟨rfl, ?_⟩
        · rw [unhide HG]
          simp [results, Tryd.results61, go_sem, r0, r1, r2, r3, tokV]
        · exact below_set4 (Below.drewN1 ((Below.refl _ _).alloc (Nat.le_refl _) _) nq) (Nat.le_refl _) _ _ _ _
  · have h45' : ((s[p].toNat : Int) == 45) = false := by simp; omega
    subst hq1
    clear h45
    cases hw : writtenB D false with
    | false =>
      rw [numG_no hw, takeV_no] at hG
      rw [hw] at HW
      have HG := hide hG
      clear hG hn hw HV
      go_enter Tryd.func61, Tryd.ntmps61
      go_wp2
      go_quiet (fail)
      go_wp2_with fail
      refine (unhide HC _).mono ?_
      rintro e w' ⟨rfl, rfl⟩
      go_wp2_with fail
      refine (unhide HW _).mono ?_
      rintro e w' ⟨rfl, rfl⟩
      have x1 := ((BoxK.new 52 w (.int .i64 0) (.string ⟨#[]⟩) (.int .i64 0) (.int .i64 0)).belowH (Below.drewN _ nq))
      have f0 := x1.frozen
      have c0 := x1.cell0
      have c1 := x1.cell1
      have c2 := x1.cell2
      have c3 := x1.cell3
      have X1 := hide x1
      clear x1
      go_wp2
      have HR := hide (BoxK.set (unhide X1) (.int .i64 0) (.string ⟨#[]⟩) (.int .i64 0) (.int .i64 0))
      have r0 := (unhide HR).cell0
      have r1 := (unhide HR).cell1
      have r2 := (unhide HR).cell2
      have r3 := (unhide HR).cell3
      refine bodyPost_ret (v := G) ?_ rfl ⟨rfl, ?_⟩
      · rw [unhide HG]
        simp [results, Tryd.results61, go_sem, r0, r1, r2, r3, tokV]
      · exact below_set4 (Below.drewN1 ((Below.refl _ _).alloc (Nat.le_refl _) _) nq) (Nat.le_refl _) _ _ _ _
    | true =>
      rw [hw] at HW
      by_cases hb : n ≤ 1000000000000
      · rw [numG_yes hw (hn ▸ hb), ← hn] at hG
        have HV2 := HV
        rw [if_pos hb, decide_eq_true hb] at HV2
        have HG : Hid (G = .tuple #[.agg #[.int .i64 2, .string ⟨#[]⟩, .int .i64 (n : Int), .int .i64 (q : Int)], .int .i64 (E : Int), .int .i64 0]) := hide (by rw [hG, unhide HEl]; simp [takeV, tokV])
        clear hG hn hw HV
        go_enter Tryd.func61, Tryd.ntmps61
        go_wp2
        go_quiet (fail)
        go_wp2_with fail
        refine (unhide HC _).mono ?_
        rintro e w' ⟨rfl, rfl⟩
        go_wp2_with fail
        refine (unhide HW _).mono ?_
        rintro e w' ⟨rfl, rfl⟩
        go_wp2_with fail
        refine (unhide HV2 _).mono ?_
        rintro e w' ⟨rfl, rfl⟩
        have x1 := ((BoxK.new 52 w (.int .i64 0) (.string ⟨#[]⟩) (.int .i64 0) (.int .i64 0)).belowH (Below.drewN _ nq))
        have f0 := x1.frozen
        have c0 := x1.cell0
        have c1 := x1.cell1
        have c2 := x1.cell2
        have c3 := x1.cell3
        have X1 := hide x1
        clear x1
        go_wp2
        have HR := hide (BoxK.set (unhide X1) (.int .i64 2) (.string ⟨#[]⟩) (.int .i64 (n : Int)) (.int .i64 (q : Int)))
        have r0 := (unhide HR).cell0
        have r1 := (unhide HR).cell1
        have r2 := (unhide HR).cell2
        have r3 := (unhide HR).cell3
        refine bodyPost_ret (v := G) ?_ rfl ⟨rfl, ?_⟩
        · rw [unhide HG]
          simp [results, Tryd.results61, go_sem, r0, r1, r2, r3, tokV]
        · exact below_set4 (Below.drewN1 ((Below.refl _ _).alloc (Nat.le_refl _) _) nq) (Nat.le_refl _) _ _ _ _
      · rw [numG_big hw (hn ▸ hb), takeV_no] at hG
        have HV2 := HV
        rw [if_neg hb, decide_eq_false hb] at HV2
        have HG := hide hG
        clear hG hn hw HV
        go_enter Tryd.func61, Tryd.ntmps61
        go_wp2
        go_quiet (fail)
        go_wp2_with fail
        refine (unhide HC _).mono ?_
        rintro e w' ⟨rfl, rfl⟩
        go_wp2_with fail
        refine (unhide HW _).mono ?_
        rintro e w' ⟨rfl, rfl⟩
        go_wp2_with fail
        refine (unhide HV2 _).mono ?_
        rintro e w' ⟨rfl, rfl⟩
        have x1 := ((BoxK.new 52 w (.int .i64 0) (.string ⟨#[]⟩) (.int .i64 0) (.int .i64 0)).belowH (Below.drewN _ nq))
        have f0 := x1.frozen
        have c0 := x1.cell0
        have c1 := x1.cell1
        have c2 := x1.cell2
        have c3 := x1.cell3
        have X1 := hide x1
        clear x1
        go_wp2
        have HR := hide (BoxK.set (unhide X1) (.int .i64 0) (.string ⟨#[]⟩) (.int .i64 0) (.int .i64 0))
        have r0 := (unhide HR).cell0
        have r1 := (unhide HR).cell1
        have r2 := (unhide HR).cell2
        have r3 := (unhide HR).cell3
        refine bodyPost_ret (v := G) ?_ rfl ⟨rfl, ?_⟩
        · rw [unhide HG]
          simp [results, Tryd.results61, go_sem, r0, r1, r2, r3, tokV]
        · exact below_set4 (Below.drewN1 ((Below.refl _ _).alloc (Nat.le_refl _) _) nq) (Nat.le_refl _) _ _ _ _

end Go.Proofs.YtoiokplgkanepaaDoor
