/-
  The contract of made (layer 9).
-/
import Derived.Test.YtflibcfecnhjgaaDoorGMade
namespace Go.Proofs.YtflibcfecnhjgaaDoor
open Go.RowKit
set_option linter.unusedVariables false
set_option linter.unusedSimpArgs false
set_option maxRecDepth 20000

set_option maxHeartbeats 4000000 in
theorem made9_any {n : Int} {edges : List (List Int)} {v : Value} {w : World} (hi : Tups w v edges) :
    Calls Tryd.prog 18 #[.int .i64 n, v] w fun e w' => ∃ u M bs, e = .returned u ∧ OwnMat w.heap.size w' u M.length M bs ∧ MatOk M ∧ M.length = rndN n 10 ∧ Below w.heap.size w w' := by
  have HI := hide (fun W (hb : Below w.heap.size w W) => hi.below hb)
  obtain ⟨a0, c0, rfl, hl0, hc0⟩ := hi.form
  unfold maxLen at hc0
  have hN := rndN_eq (x := n) (n := 10) (by decide)
  have hlt := rndN_lt (x := n) (n := 10) (by decide)
  generalize rndN n 10 = N at *
  have hq : (bits .and .i64 n 65535).tmod 10 = (N : Int) := hN
  have HE := hide (empty_any N (by omega) w)
  clear hi hN
  go_enter Tryd.func18, Tryd.ntmps18
  go_wp2_with fail
  refine (unhide HE).mono ?_
  rintro e w1 ⟨u, bs, rfl, hown1, hb1⟩
  obtain ⟨au, cu, rfl, hul, hum⟩ := hown1.form
  have hfl : (falses N N).length = N := by simp [falses]
  rw [hfl] at hown1 hul ⊢
  unfold maxLen at hum
  clear HE
  go_wp2
  go_loopw [6] (fun i wr => ∃ (k : Nat) (M : List (List Bool)), i = .int .i64 k ∧ k ≤ edges.length ∧ OwnMat w.heap.size wr (.slice au N cu) N M bs ∧ Hid (MatOk M ∧ M.length = N) ∧ Below w.heap.size w wr) (fun i _ => edges.length - (intOf i).toNat)
  case atStart => exact ⟨0, falses N N, rfl, by omega, hown1, hide ⟨MatOk.falses N, hfl⟩, hb1⟩
  case round =>
    clear hown1 hb1
    obtain ⟨k, M, rfl, hk, hown, HM, hbel⟩ := hrel
    rename World => wr
    have hMl := (unhide HM).2
    by_cases hc : k < edges.length ∧ k < 40 ∧ 0 < N
    · obtain ⟨hke, hk40, hN0⟩ := hc
      have hN0' : (0 : Int) < (N : Int) := by omega
      obtain ⟨b0, o0, ur, e0, qr, hr⟩ := (unhide HI wr hbel).at hke
      subst e0
      obtain ⟨ar, cr, rfl, hlr, hcr⟩ := hr.form
      unfold maxLen at hcr
      generalize edges[k] = R at *
      by_cases hl : R.length < 2
      · have HO := hide hown
        have HB := hide hbel
        clear hr hown hbel
        go_wp2
        go_roundw
        case rel => exact ⟨k + 1, M, by go_num, by omega, unhide HO, HM, unhide HB⟩
        case measure => simp [intOf]; omega
      · have hl0 : 0 < R.length := by omega
        have hl1 : 1 < R.length := by omega
        obtain ⟨bp, op, e1, q0⟩ := hr.at hl0
        subst e1
        obtain ⟨bp', op', e1, q1⟩ := hr.at hl1
        cases e1
        rw [Nat.add_zero] at q0
        generalize R[0] = p at *
        generalize R[1] = q at *
        have hpA := rndN_eq (x := p) hN0
        have hqB := rndN_eq (x := q) hN0
        have hA := rndN_lt (x := p) hN0
        have hB := rndN_lt (x := q) hN0
        generalize rndN p N = A at *
        generalize rndN q N = B at *
        by_cases hAB : A = B
        · subst hAB
          have HO := hide hown
          have HB := hide hbel
          have hne : ((A : Int) != (A : Int)) = false := by simp
          clear hr hown hbel
          go_wp2
          go_roundw
          case rel => exact ⟨k + 1, M, by go_num, by omega, unhide HO, HM, unhide HB⟩
          case measure => simp [intOf]; omega
        · have hne : ((A : Int) != (B : Int)) = true := by simp; omega
          obtain ⟨bu, ou, ra, e2, c1, c2, c3⟩ := hown.at (i := A) (k := B) (by omega) hB
          subst e2
          obtain ⟨⟨u1, d1⟩, f1, hown2, hb2⟩ := hown.set (i := A) (k := B) (by omega) hB c3
          have hl2 : (setM M A B).length = N := by simp [setM, hMl]
          obtain ⟨bu', ou', rb, e3, c4, c5, c6⟩ := hown2.at (i := B) (k := A) (by omega) hA
          cases e3
          obtain ⟨⟨u2, d2⟩, f2, hown3, hb3⟩ := hown2.set (i := B) (k := A) (by omega) hA c6
          have HF := hide (And.intro hown3 (hbel.trans (hb2.trans hb3)))
          have HM2 := hide (show MatOk (setM (setM M A B) B A) ∧ (setM (setM M A B) B A).length = N from ⟨(unhide HM).1.join (by omega) (by omega) hAB, by simp [setM, hMl]⟩)
          clear hr hown hown2 hown3 hb2 hb3 hbel c2 c5 c3 c6 hl2
          go_wp2
          go_roundw
          case rel => exact ⟨k + 1, _, by go_num, by omega, (unhide HF).1, HM2, (unhide HF).2⟩
          case measure => simp [intOf]; omega
    · have HO := hide hown
      have HB := hide hbel
      clear hown hbel
      have hcc : Hid (¬ k < edges.length ∨ (k < edges.length ∧ ¬ k < 40) ∨ (k < edges.length ∧ k < 40 ∧ ¬ 0 < N)) := hide (by omega)
      clear hc
      rcases unhide hcc with h1 | ⟨h1, h2⟩ | ⟨h1, h2, h3⟩
      all_goals
        clear hcc
        go_wp2
        go_ret
        have HO2 : OwnMat w.heap.size wr (.slice au N cu) M.length M bs := by rw [hMl]; exact unhide HO
        first
          | exact ⟨_, M, bs, rfl, HO2, (unhide HM).1, hMl, unhide HB⟩
          | exact ⟨_, rfl, M, bs, HO2, (unhide HM).1, hMl, unhide HB⟩
          | exact ⟨_, rfl, M, ⟨bs, HO2⟩, (unhide HM).1, hMl, unhide HB⟩

end Go.Proofs.YtflibcfecnhjgaaDoor
