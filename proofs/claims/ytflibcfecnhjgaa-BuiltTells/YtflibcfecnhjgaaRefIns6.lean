/-
  The contract of the document's Right (layer 6).
-/
import Derived.Test.YtflibcfecnhjgaaRefSoft6
namespace Go.Proofs.Ytflibcfecnhjgaa
open Go.RowKit
set_option linter.unusedVariables false
set_option linter.unusedSimpArgs false
set_option maxRecDepth 20000

structure DomP (d : List Int) : Prop where
  lo : 1 ≤ d.length
  hi : d.length ≤ 16
  rise : risB d = true
  first : upM (d.getD 0 0) 1000000 = true
  last : upM (d.getD (d.length - 1) 0) 1000000 = true

structure RightP (x : Ins) : Prop where
  nd : x.doms.length ≤ 40
  nh : x.hard.length ≤ 200
  ns : x.soft.length ≤ 200
  doms : ∀ i (h : i < x.doms.length), DomP x.doms[i]
  hard : ∀ i (h : i < x.hard.length), HardP x.doms x.hard[i]
  soft : ∀ i (h : i < x.soft.length), SoftP x.doms x.soft[i]

set_option maxHeartbeats 4000000 in
theorem right6_any {x : Ins} {v : Value} {w : World} (h : InsV w v x) :
    Calls Try.prog 16 #[v] w fun e w' => Asks e (RightP x) ∧ Below w.heap.size w w' := by
  obtain ⟨ds, hs, ss⟩ := x
  obtain ⟨vd, vh, vs, rfl, h1, h2, h3⟩ := h
  simp only [] at h1 h2 h3 ⊢
  obtain ⟨a0, c0, rfl, hl3, hc3⟩ := h1.form
  obtain ⟨a1, c1, rfl, hl4, hc4⟩ := h2.form
  obtain ⟨a2, c2, rfl, hl5, hc5⟩ := h3.form
  unfold maxLen at hc3 hc4 hc5
  have hb0 := (Below.refl w.heap.size w).alloc (Nat.le_refl _) (.cells #[.slice a0 ds.length c0, .slice a1 hs.length c1, .slice a2 ss.length c2] 26)
  obtain ⟨W1, hW1⟩ : ∃ W, W = w.alloc (.cells #[.slice a0 ds.length c0, .slice a1 hs.length c1, .slice a2 ss.length c2] 26) := ⟨_, rfl⟩
  have x0 : W1.heap[w.heap.size]? = some (.cells #[.slice a0 ds.length c0, .slice a1 hs.length c1, .slice a2 ss.length c2] 26) := by
    rw [hW1]; exact heap_alloc_new _ _
  have hs1 : W1.heap.size = w.heap.size + 1 := by rw [hW1]; simp
  rw [← hW1] at hb0
  have HC := hide (fun W (hb : Below W1.heap.size W1 W) =>
    have e0 : W.heap[w.heap.size]? = some (.cells #[.slice a0 ds.length c0, .slice a1 hs.length c1, .slice a2 ss.length c2] 26) := by rw [hb.block _ (by omega)]; exact x0
    (show W.cell? ⟨w.heap.size, 0, none⟩ = some (.slice a0 ds.length c0) ∧ W.cell? ⟨w.heap.size, 1, none⟩ = some (.slice a1 hs.length c1) ∧ W.cell? ⟨w.heap.size, 2, none⟩ = some (.slice a2 ss.length c2) from by
      refine ⟨?_, ?_, ?_⟩ <;> (unfold World.cell?; rw [e0]; rfl)))
  have HD := hide (h1.below hb0)
  have HH := hide (h2.below hb0)
  have HS := hide (h3.below hb0)
  have HB := hide hb0
  have HW1 := hide hW1
  have HP : Hid (∀ b : Bool, (b = true ↔ RightP ⟨ds, hs, ss⟩) → Asks (.returned (.bool b)) (RightP ⟨ds, hs, ss⟩)) := hide (fun b h => ⟨b, rfl, h⟩)
  have HPN := hide (fun (h : ¬ RightP ⟨ds, hs, ss⟩) => unhide HP false ⟨fun h' => Bool.noConfusion h', fun h' => (h h').elim⟩)
  obtain ⟨y0, y1, y2⟩ := unhide HC W1 (Below.refl _ _)
  clear h1 h2 h3 hb0 x0 hs1
  go_enter Try.func16, Try.ntmps16
  by_cases n1 : 40 < ds.length
  · have d1 : decide ((40 : Int) < (ds.length : Int)) = true := by simp; omega
    have HF := hide (unhide HPN (fun h => by have := h.nd; simp only [] at this; omega))
    clear HP HPN HC HD HH HS HW1 y0 y1 y2
    subst hW1
    go_wp2
    go_ret
    exact ⟨unhide HF, unhide HB⟩
  · have d1 : decide ((40 : Int) < (ds.length : Int)) = false := by simp; omega
    by_cases n2 : 200 < hs.length
    · have d2 : decide ((200 : Int) < (hs.length : Int)) = true := by simp; omega
      have HF := hide (unhide HPN (fun h => by have := h.nh; simp only [] at this; omega))
      clear HP HPN HC HD HH HS HW1 y0 y1 y2
      subst hW1
      go_wp2
      go_ret
      exact ⟨unhide HF, unhide HB⟩
    · have d2 : decide ((200 : Int) < (hs.length : Int)) = false := by simp; omega
      by_cases n3 : 200 < ss.length
      · have d3 : decide ((200 : Int) < (ss.length : Int)) = true := by simp; omega
        have HF := hide (unhide HPN (fun h => by have := h.ns; simp only [] at this; omega))
        clear HP HPN HC HD HH HS HW1 y0 y1 y2
        subst hW1
        go_wp2
        go_ret
        exact ⟨unhide HF, unhide HB⟩
      · have d3 : decide ((200 : Int) < (ss.length : Int)) = false := by simp; omega
        clear hW1 y0 y1 y2
        go_wp2
        rw [← unhide HW1]
        clear HW1
        go_loopw [3, 4] (fun i _ wr => ∃ k n : Nat, k ≤ ds.length ∧ i = .int .i64 k ∧ wr = W1.drewN n ∧ Hid (∀ j (h : j < ds.length), j < k → DomP ds[j])) (fun i _ _ => ds.length - (intOf i).toNat)
        case atStart => exact ⟨0, 0, by omega, rfl, rfl, hide (fun j h h' => by omega)⟩
        case round =>
          obtain ⟨k, n, hk, rfl, rfl, HM⟩ := hrel
          obtain ⟨y0, y1, y2⟩ := unhide HC W1 (Below.refl _ _)
          by_cases hkl : k < ds.length
          · obtain ⟨bl, ol, ul, e1, hcl, hiL⟩ := (unhide HD).at hkl
            subst e1
            obtain ⟨ia, ic, rfl, hil, hic⟩ := hiL.form
            unfold maxLen at hic
            have HNO := hide (fun (h : ¬ DomP ds[k]) => unhide HPN (fun hr => h (hr.doms k hkl)))
            have HYES := hide (fun (h : DomP ds[k]) => show ∀ j (h : j < ds.length), j < k + 1 → DomP ds[j] from fun j hj hjk => by
              rcases Nat.lt_or_ge j k with h1 | h1
              · exact unhide HM j hj h1
              · obtain rfl : j = k := by omega
                exact h)
            generalize ds[k] = d at *
            by_cases g1 : d.length < 1
            · have f1 : decide ((d.length : Int) < 1) = true := by simp; omega
              have HF := hide (unhide HNO (fun h => by have := h.lo; omega))
              clear HP HPN HC HH HS HM HNO HYES hiL g1
              go_wp2
              go_ret
              exact ⟨unhide HF, Below.drewN1 (unhide HB) _⟩
            · have f1 : decide ((d.length : Int) < 1) = false := by simp; omega
              by_cases g2 : 16 < d.length
              · have f2 : decide ((16 : Int) < (d.length : Int)) = true := by simp; omega
                have HF := hide (unhide HNO (fun h => by have := h.hi; omega))
                clear HP HPN HC HH HS HM HNO HYES hiL g1
                go_wp2
                go_ret
                exact ⟨unhide HF, Below.drewN1 (unhide HB) _⟩
              · have f2 : decide ((16 : Int) < (d.length : Int)) = false := by simp; omega
                have HRS := hide (fun n => refRising_any (Seq.drewN hiL n))
                cases hr : risB d with
                | false =>
                  rw [hr] at HRS
                  have HF := hide (unhide HNO (fun h => by have := h.rise; rw [hr] at this; cases this))
                  clear HP HPN HC HH HS HM HNO HYES hiL g1 hr
                  go_wp2_with (refine (unhide HRS _).mono ?_; rintro e w' ⟨rfl, m1, rfl⟩)
                  go_ret
                  exact ⟨unhide HF, by first | exact Below.drewN1 (unhide HB) _ | (simp only [World.drewN_drewN]; exact Below.drewN1 (unhide HB) _)⟩
                | true =>
                  rw [hr] at HRS
                  have p0 : 0 < d.length := by omega
                  obtain ⟨m, hm⟩ : ∃ m, d.length = m + 1 := ⟨d.length - 1, by omega⟩
                  have p1 : m < d.length := by omega
                  obtain ⟨b3, o3, e3, q3⟩ := hiL.at p0
                  obtain ⟨b4, o4, e4, q4⟩ := hiL.at p1
                  rw [e3] at e4
                  cases e4
                  subst e3
                  rw [Nat.add_zero] at q3
                  have E1 : Hid (d.getD 0 0 = d[0]) := hide (by simp [List.getD_eq_getElem?_getD, p0])
                  have E2 : Hid (d.getD (d.length - 1) 0 = d[m]) := hide (by rw [hm, Nat.add_sub_cancel]; simp [List.getD_eq_getElem?_getD, p1])
                  have S1 := hide (fun W => small6_any d[0] W)
                  have S2 := hide (fun W => small6_any d[m] W)
                  generalize d[0] = z1 at *
                  generalize d[m] = z2 at *
                  have HR := hide hr
                  have HL : Hid (1 ≤ d.length ∧ d.length ≤ 16) := hide (by omega)
                  rw [hm] at HRS hcl
                  have hm16 : m < 16 := by omega
                  have f1' : decide ((m : Int) + 1 < 1) = false := by simp; omega
                  have f2' : decide ((16 : Int) < (m : Int) + 1) = false := by simp; omega
                  clear f1 f2
                  cases u1 : upM z1 1000000 with
                  | false =>
                    rw [u1] at S1
                    have HF := hide (unhide HNO (fun h => by have := h.first; rw [unhide E1, u1] at this; cases this))
                    clear HP HPN HC HH HS HM HNO HYES hiL g1 g2 hr HR HL u1 S2 hm hil
                    go_wp2_with fail
                    refine (unhide HRS _).mono ?_
                    rintro e w' ⟨rfl, m1, rfl⟩
                    go_wp2_with fail
                    refine (unhide S1 _).mono ?_
                    rintro e w' ⟨rfl, rfl⟩
                    go_wp2
                    go_ret
                    exact ⟨unhide HF, by first | exact Below.drewN1 (unhide HB) _ | (simp only [World.drewN_drewN]; exact Below.drewN1 (unhide HB) _)⟩
                  | true =>
                    rw [u1] at S1
                    cases u2 : upM z2 1000000 with
                    | false =>
                      rw [u2] at S2
                      have HF := hide (unhide HNO (fun h => by have := h.last; rw [unhide E2, u2] at this; cases this))
                      clear HP HPN HC HH HS HM HNO HYES hiL g1 g2 hr HR HL u1 u2 hm hil
                      go_wp2_with fail
                      refine (unhide HRS _).mono ?_
                      rintro e w' ⟨rfl, m1, rfl⟩
                      go_wp2_with fail
                      refine (unhide S1 _).mono ?_
                      rintro e w' ⟨rfl, rfl⟩
                      go_wp2_with fail
                      refine (unhide S2 _).mono ?_
                      rintro e w' ⟨rfl, rfl⟩
                      go_wp2
                      go_ret
                      exact ⟨unhide HF, by first | exact Below.drewN1 (unhide HB) _ | (simp only [World.drewN_drewN]; exact Below.drewN1 (unhide HB) _)⟩
                    | true =>
                      rw [u2] at S2
                      have HM2 := hide (unhide HYES ⟨(unhide HL).1, (unhide HL).2, unhide HR, by rw [unhide E1]; exact u1, by rw [unhide E2]; exact u2⟩)
                      clear HP HPN HC HH HS HM HNO HYES hiL g1 g2 hr HR HL u1 u2 hm hil E1 E2
                      go_wp2_with fail
                      refine (unhide HRS _).mono ?_
                      rintro e w' ⟨rfl, m1, rfl⟩
                      go_wp2_with fail
                      refine (unhide S1 _).mono ?_
                      rintro e w' ⟨rfl, rfl⟩
                      go_wp2_with fail
                      refine (unhide S2 _).mono ?_
                      rintro e w' ⟨rfl, rfl⟩
                      go_wp2
                      go_roundw
                      case rel => exact ⟨k + 1, _, by omega, by go_num, by first | rfl | (simp only [World.drewN_drewN]; rfl), HM2⟩
                      case measure => simp [intOf]; omega
          · have hke : k = ds.length := by omega
            subst hke
            have HDM := hide (fun j hj => unhide HM j hj hj)
            clear HM HPN y0 y1 y2 hkl
            have hbn := Below.drewN W1 n
            have y1 := (unhide HC _ hbn).2.1
            have y2 := (unhide HC _ hbn).2.2
            have y0 := (unhide HC _ hbn).1
            go_wp2
            go_loopw [5, 6, 7] (fun ok i _ wq => ∃ (B : Bool) (j : Nat), j ≤ hs.length ∧ i = .int .i64 j ∧ ok = .bool B ∧ Below W1.heap.size W1 wq ∧ Hid (B = true ↔ ∀ p (h : p < hs.length), p < j → HardP ds hs[p])) (fun _ i _ _ => hs.length - (intOf i).toNat)
            case atStart => exact ⟨true, 0, by omega, rfl, rfl, hbn, hide ⟨fun _ p h h' => by omega, fun _ => rfl⟩⟩
            case round =>
              clear hbn y0 y1 y2
              obtain ⟨B, j, hj, rfl, rfl, hbq, HQ⟩ := hrel
              rename World => wq
              obtain ⟨y0, y1, y2⟩ := unhide HC wq hbq
              by_cases hjl : j < hs.length
              · obtain ⟨b5, o5, X, Y, Z, e5, q0, q1, q2, q3, r1, r2, r3⟩ := (unhide HH).at hjl
                subst e5
                obtain ⟨xa, xc, rfl, _, _⟩ := r1.form
                obtain ⟨ya, yc, rfl, _, _⟩ := r2.form
                obtain ⟨za, zc, rfl, _, _⟩ := r3.form
                have HCL := hide (fun W (hb : Below W1.heap.size W1 W) => hard6_any (c := hs[j]) (a1 := (some ⟨b5, o5, none⟩)) (a2 := a2) (c1 := c1) (c2 := c2) (n1 := hs.length) (n2 := ss.length) ((unhide HD).below hb) (v := .agg #[.int .i64 hs[j].kind, .slice xa hs[j].scope.length xc, .slice ya hs[j].rows.length yc, .slice za hs[j].args.length zc]) ⟨_, _, _, rfl, r1.below hb, r2.below hb, r3.below hb⟩)
                have HNX := hide (fun (bb : Bool) (hbb : bb = true ↔ HardP ds hs[j]) => show (B && bb) = true ↔ ∀ p (h : p < hs.length), p < j + 1 → HardP ds hs[p] from by
                  rw [Bool.and_eq_true, unhide HQ, hbb]
                  constructor
                  · rintro ⟨g1, g2⟩
                    refine fun p hp hpj => ?_
                    rcases Nat.lt_or_ge p j with h1 | h1
                    · exact g1 p hp h1
                    · obtain rfl : p = j := by omega
                      exact g2
                  · exact fun g => ⟨fun p hp hpj => g p hp (by omega), g j hjl (by omega)⟩)
                have HK := hide (fun W (hb : Below W1.heap.size W1 W) => And.intro (unhide HC W hb) (And.intro (Below.cell_of hb q0) (And.intro (Below.cell_of hb q1) (And.intro (Below.cell_of hb q2) (Below.cell_of hb q3)))))
                generalize hs[j].scope.length = t1 at *
                generalize hs[j].rows.length = t2 at *
                generalize hs[j].args.length = t3 at *
                clear q0 q1 q2 q3 r1 r2 r3 HQ
                go_wp2
                go_region_held3 (fun W => (W.cell? ⟨w.heap.size, 0, none⟩ = some (.slice a0 ds.length c0) ∧ W.cell? ⟨w.heap.size, 1, none⟩ = some (.slice (some ⟨b5, o5, none⟩) hs.length c1) ∧ W.cell? ⟨w.heap.size, 2, none⟩ = some (.slice a2 ss.length c2)) ∧ W.cell? ⟨b5, o5 + j * 4, none⟩ = some (.int .i64 hs[j].kind) ∧ W.cell? ⟨b5, o5 + j * 4 + 1, none⟩ = some (.slice xa t1 xc) ∧ W.cell? ⟨b5, o5 + j * 4 + 2, none⟩ = some (.slice ya t2 yc) ∧ W.cell? ⟨b5, o5 + j * 4 + 3, none⟩ = some (.slice za t3 zc))
                  (first | exact unhide HK _ (by first | exact hB9 | exact hbq | exact hbq.drew))
                  (first | (go_at_call 33; refine (unhide HCL _ (by first | exact hbq | exact hbq.drew)).mono ?_; rintro e w9 ⟨⟨bb, rfl, hbb⟩, hb9⟩; have hB9 : Below W1.heap.size W1 w9 := hbq.trans (Below.mono (show Below wq.heap.size wq w9 from ⟨hb9.os, hb9.tape, hb9.output, hb9.size, hb9.block⟩) hbq.size)))
                have HQ2 := hide (unhide HNX bb hbb)
                clear HNX hbb
                cases B <;> cases bb
                all_goals
                  go_wp2
                  go_roundw
                  case rel => exact ⟨_, j + 1, by omega, by go_num, rfl, hB9, by simpa using HQ2⟩
                  case measure => simp [intOf]; omega
              · have hje : j = hs.length := by omega
                subst hje
                have HQH : Hid (B = true ↔ ∀ p (h : p < hs.length), HardP ds hs[p]) := hide ((unhide HQ).trans ⟨fun g p hp => g p hp hp, fun g p hp _ => g p hp⟩)
                clear HQ HH hjl
                go_wp2
                go_loopw [5, 8, 9] (fun ok i _ wq => ∃ (B : Bool) (j : Nat), j ≤ ss.length ∧ i = .int .i64 j ∧ ok = .bool B ∧ Below W1.heap.size W1 wq ∧ Hid (B = true ↔ (∀ p (h : p < hs.length), HardP ds hs[p]) ∧ ∀ p (h : p < ss.length), p < j → SoftP ds ss[p])) (fun _ i _ _ => ss.length - (intOf i).toNat)
                case atStart => exact ⟨B, 0, by omega, rfl, rfl, hbq, hide ((unhide HQH).trans ⟨fun g => ⟨g, fun p h h' => by omega⟩, fun g => g.1⟩)⟩
                case round =>
                  clear hbq HQH y0 y1 y2
                  obtain ⟨B, j, hj, rfl, rfl, hbq, HQ⟩ := hrel
                  rename World => wq
                  obtain ⟨y0, y1, y2⟩ := unhide HC wq hbq
                  by_cases hjl : j < ss.length
                  · obtain ⟨b5, o5, X, Y, Z, e5, q0, q1, q2, q3, r1, r2, r3⟩ := (unhide HS).at hjl
                    subst e5
                    obtain ⟨xa, xc, rfl, _, _⟩ := r1.form
                    obtain ⟨ya, yc, rfl, _, _⟩ := r2.form
                    obtain ⟨za, zc, rfl, _, _⟩ := r3.form
                    have HCL := hide (fun W (hb : Below W1.heap.size W1 W) => soft6_any (c := ss[j]) (a1 := a1) (a2 := (some ⟨b5, o5, none⟩)) (c1 := c1) (c2 := c2) (n1 := hs.length) (n2 := ss.length) ((unhide HD).below hb) (v := .agg #[.slice xa ss[j].scope.length xc, .slice ya ss[j].rows.length yc, .slice za ss[j].costs.length zc, .int .i64 ss[j].dflt]) ⟨_, _, _, rfl, r1.below hb, r2.below hb, r3.below hb⟩)
                    have HNX := hide (fun (bb : Bool) (hbb : bb = true ↔ SoftP ds ss[j]) => show (B && bb) = true ↔ (∀ p (h : p < hs.length), HardP ds hs[p]) ∧ ∀ p (h : p < ss.length), p < j + 1 → SoftP ds ss[p] from by
                      rw [Bool.and_eq_true, unhide HQ, hbb]
                      constructor
                      · rintro ⟨g1, g2⟩
                        refine ⟨g1.1, fun p hp hpj => ?_⟩
                        rcases Nat.lt_or_ge p j with h1 | h1
                        · exact g1.2 p hp h1
                        · obtain rfl : p = j := by omega
                          exact g2
                      · exact fun g => ⟨⟨g.1, fun p hp hpj => g.2 p hp (by omega)⟩, g.2 j hjl (by omega)⟩)
                    have HK := hide (fun W (hb : Below W1.heap.size W1 W) => And.intro (unhide HC W hb) (And.intro (Below.cell_of hb q0) (And.intro (Below.cell_of hb q1) (And.intro (Below.cell_of hb q2) (Below.cell_of hb q3)))))
                    generalize ss[j].scope.length = t1 at *
                    generalize ss[j].rows.length = t2 at *
                    generalize ss[j].costs.length = t3 at *
                    clear q0 q1 q2 q3 r1 r2 r3 HQ
                    go_wp2
                    go_region_held3 (fun W => (W.cell? ⟨w.heap.size, 0, none⟩ = some (.slice a0 ds.length c0) ∧ W.cell? ⟨w.heap.size, 1, none⟩ = some (.slice a1 hs.length c1) ∧ W.cell? ⟨w.heap.size, 2, none⟩ = some (.slice (some ⟨b5, o5, none⟩) ss.length c2)) ∧ W.cell? ⟨b5, o5 + j * 4, none⟩ = some (.slice xa t1 xc) ∧ W.cell? ⟨b5, o5 + j * 4 + 1, none⟩ = some (.slice ya t2 yc) ∧ W.cell? ⟨b5, o5 + j * 4 + 2, none⟩ = some (.slice za t3 zc) ∧ W.cell? ⟨b5, o5 + j * 4 + 3, none⟩ = some (.int .i64 ss[j].dflt))
                      (first | exact unhide HK _ (by first | exact hB9 | exact hbq | exact hbq.drew))
                      (first | (go_at_call 34; refine (unhide HCL _ (by first | exact hbq | exact hbq.drew)).mono ?_; rintro e w9 ⟨⟨bb, rfl, hbb⟩, hb9⟩; have hB9 : Below W1.heap.size W1 w9 := hbq.trans (Below.mono (show Below wq.heap.size wq w9 from ⟨hb9.os, hb9.tape, hb9.output, hb9.size, hb9.block⟩) hbq.size)))
                    have HQ2 := hide (unhide HNX bb hbb)
                    clear HNX hbb
                    cases B <;> cases bb
                    all_goals
                      go_wp2
                      go_roundw
                      case rel => exact ⟨_, j + 1, by omega, by go_num, rfl, hB9, by simpa using HQ2⟩
                      case measure => simp [intOf]; omega
                  · have hje : j = ss.length := by omega
                    subst hje
                    have HFin := hide (unhide HP B ((unhide HQ).trans ⟨fun g => ⟨by simp only []; omega, by simp only []; omega, by simp only []; omega, unhide HDM, g.1, fun p hp => g.2 p hp hp⟩, fun g => ⟨g.hard, fun p hp _ => g.soft p hp⟩⟩))
                    have HBf := hide ((unhide HB).trans (hbq.mono (unhide HB).size))
                    clear HQ HS hjl HP
                    go_wp2
                    go_ret
                    exact ⟨unhide HFin, unhide HBf⟩

end Go.Proofs.Ytflibcfecnhjgaa
