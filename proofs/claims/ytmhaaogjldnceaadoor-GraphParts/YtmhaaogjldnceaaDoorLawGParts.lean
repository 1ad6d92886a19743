/-
  GraphParts: each point is in one part, and no edge leaves one.
-/
import Derived.Test.YtmhaaogjldnceaaDoorFrame8
import Derived.Test.YtmhaaogjldnceaaDoorFrameN
import Derived.Test.YtmhaaogjldnceaaDoorGRefG
import Derived.Test.YtmhaaogjldnceaaDoorGPartsM
import Derived.Test.YtmhaaogjldnceaaDoorRefSets
namespace Go.Proofs.YtmhaaogjldnceaaDoor.graphParts
open Go.RowKit Go.ChangeShapes Go.WideShapes Go.ChangeAt
set_option linter.unusedVariables false
set_option linter.unusedSimpArgs false
set_option maxRecDepth 20000

theorem neg_set {N k : Nat} (hk : k < N) : (List.replicate k (-1 : Int) ++ List.replicate (N - k) 0).set k (-1) = List.replicate (k + 1) (-1 : Int) ++ List.replicate (N - (k + 1)) 0 := by
  have e : N - k = (N - (k + 1)) + 1 := by omega
  rw [e, List.replicate_succ, List.set_append_right _ _ (by simp), List.length_replicate, Nat.sub_self, List.set_cons_zero, List.replicate_succ', List.append_assoc]
  rfl

/-- The first point of the part ahead of i; -1 where there is none. -/
def lastOf (P : List (List Int)) (i : Nat) : Int := if i = 0 then -1 else (P.getD (i - 1) []).getD 0 0

theorem PS.go {g : List Nat} (hr : RightG g) {P : List (List Int)} (hP : P = partsL g) {i k : Nat} {L : List Int} (hp : PS g i k L) (hi : i < P.length) (hk : k < P[i].length) :
    ∃ x : Nat, P[i][k] = (x : Int) ∧ x < g.length ∧ L.getD x 0 = -1 ∧ PS g i (k + 1) (L.set x (i : Int)) := by
  subst hP
  obtain ⟨f, p1, _⟩ := part_at hr hi
  obtain ⟨x, ex, _, _⟩ := p1.pts _ (List.getElem_mem hk)
  obtain ⟨h1, h2⟩ := hp.free hr hi hk ex
  exact ⟨x, ex, h1, h2, hp.next hr hi hk ex⟩
theorem PS.goUp {g : List Nat} {P : List (List Int)} (hP : P = partsL g) {i : Nat} {L : List Int} (hi : i < P.length) (hp : PS g i P[i].length L) : PS g (i + 1) 0 L := by
  subst hP; exact hp.up hi
theorem PS.end_ {g : List Nat} (hr : RightG g) {P : List (List Int)} (hP : P = partsL g) {L : List Int} (hp : PS g P.length 0 L) : (∀ a, a < g.length → 0 ≤ L.getD a 0) ∧ ∀ a b, a < g.length → b < g.length → besB g a b = true → L.getD a 0 = L.getD b 0 := by
  subst hP
  exact ⟨fun a ha => by obtain ⟨j, _, h, _⟩ := hp.done hr ha; omega, fun a b ha hb h => hp.edge hr ha hb h⟩

set_option maxHeartbeats 2000000 in
theorem walk {l0 : Int} {v0 : Value} {l1 : List (List Int)} {v1 : Value} {w : World} (hT : TabD w) (i0 : v0 = .int .i64 l0) (m0 : InI64 l0) (i1 : Tups w v1 l1) (m1 : ∀ l ∈ l1, ∀ n ∈ l, InI64 n) :
    Calls Tryd.prog 6 #[v0, v1] w fun e w' => e = .returned (.bool true) ∧ Below w.heap.size w w' := by
  subst i0
  clear m0 m1
  have HT := hide (fun W (hb : Below w.heap.size w W) => hT.below hb)
  have HI := hide (fun W (hb : Below w.heap.size w W) => i1.below hb)
  have HSH := hide (shown8_any hT)
  obtain ⟨a0, c0, rfl, hl0, hc0⟩ := i1.form
  clear hT i1
  go_enter Tryd.func6, Tryd.ntmps6
  go_wp2_with fail
  refine (unhide HSH).mono ?_
  rintro e w1 ⟨rfl, hb1⟩
  have HB1 := hide hb1
  have HMD := hide (made_any (n := l0) (unhide HI w1 hb1))
  have hz1 := hb1.size
  clear hb1 HSH HI
  go_wp2_with fail
  refine (unhide HMD).mono ?_
  rintro e w2 ⟨u, M, bs, rfl, hM2, hok, hMl, hb2⟩
  have hN := rndN_lt (x := l0) (n := 13) (by decide)
  rw [← hMl] at hN
  have HRG := hide (refGraph_any hM2 (by omega))
  have HG := hide (graphR_right hok (by omega))
  have HGL := hide (graphR_len M)
  obtain ⟨au, cu, rfl, hul, hum⟩ := hM2.form
  unfold maxLen at hum
  have HB2 := hide ((unhide HB1).trans (hb2.mono hz1))
  have hz2 := (unhide HB2).size
  clear hM2 hok hMl hb2 HMD HB1
  generalize M.length = N at *
  go_wp2_with fail
  refine (unhide HRG).mono ?_
  rintro e w3 ⟨x, rfl, hown3, hb3⟩
  generalize graphR M = G at *
  obtain ⟨ax, cx, rfl, _, _⟩ := (Seq.of_own hown3).form
  rw [unhide HGL] at hown3 ⊢
  obtain ⟨W3, hW3⟩ : ∃ W, W = w3.alloc (.cells #[.slice ax N cx] 25) := ⟨_, rfl⟩
  have hb4 : Below w3.heap.size w3 W3 := by rw [hW3]; exact (Below.refl _ _).alloc (Nat.le_refl _) _
  have hbx : BoxG W3 w3.heap.size (.slice ax N cx) := by rw [hW3]; exact BoxG.new w3 _
  have hz3 : W3.heap.size = w3.heap.size + 1 := by rw [hW3]; simp
  have hg3 : Words W3 (.slice ax N cx) G := (Seq.of_own hown3).below hb4
  have HB3 := hide ((unhide HB2).trans ((hb3.trans (hb4.mono hb3.size)).mono hz2))
  have hw3 := (unhide HB3).size
  have HT3 := hide (unhide HT W3 (unhide HB3))
  have HP4 := hide (parts_any hg3 (unhide HG) (unhide HT3))
  have HGW := hide hg3
  have HBX := hide hbx
  have y0 := hbx.cell
  have HW3 := hide hW3
  clear hown3 hb3 hb4 hW3 hbx hg3 HRG HB2 HT
  go_wp2_with fail
  rw [← unhide HW3]
  refine (unhide HP4).mono ?_
  rintro e w4 ⟨vp, rfl, ho4, hb4⟩
  have htp := ho4.tups
  obtain ⟨ap, cp, rfl, hpl, hpc⟩ := htp.form
  unfold maxLen at hpc
  have HTP := hide (fun W (hb : Below w4.heap.size w4 W) => htp.below hb)
  have HX4 := hide (fun W (hb : Below w4.heap.size w4 W) => ((unhide HBX).below hb4 (unhide HBX).lt).below hb (by have := (unhide HBX).lt; have := hb4.size; omega))
  have HG4 := hide (fun W (hb : Below w4.heap.size w4 W) => ((unhide HGW).below hb4).below hb)
  have HB4 := hide ((unhide HB3).trans (hb4.mono hw3))
  have hw4 := (unhide HB4).size
  have hpn : (partsL G).length ≤ N := by rw [← unhide HGL]; exact partsUp_len _ _
  clear ho4 htp hb4 HP4 y0 HW3 HBX HGW HT3 HB3
  obtain ⟨P, hP⟩ : ∃ P, P = partsL G := ⟨_, rfl⟩
  have HPE := hide hP
  rw [← hP] at hpl hpn HTP ⊢
  clear hP
  go_wp2_with (at_make; refine wp_make_ints rfl _ _ rfl (B := w4.heap.size) (Nat.le_refl _) rfl rfl (by omega) ?_; intro w5 hown5 hb5)
  go_loopw [10] (fun i wr => ∃ k : Nat, k ≤ N ∧ i = .int .i64 k ∧ OwnI w4.heap.size wr (.slice (some ⟨w4.heap.size, 0, none⟩) N N) (List.replicate k (-1) ++ List.replicate (N - k) 0) ∧ Below w4.heap.size w4 wr) (fun i _ => N - (intOf i).toNat)
  case atStart => exact ⟨0, by omega, rfl, by simpa using hown5, hb5⟩
  case round =>
    clear hown5 hb5
    obtain ⟨k, hk, rfl, hown, hbel⟩ := hrel
    rename World => wr
    by_cases hkN : k < N
    · obtain ⟨⟨old, hcell⟩, hfr, hset, hbs⟩ := own_setI hown (by simp; omega) (i := k) hkN (-1)
      rw [neg_set hkN] at hset
      clear hown
      go_wp2
      go_roundw
      case rel => exact ⟨k + 1, by omega, by go_num, hset, hbel.trans hbs⟩
      case measure => simp [intOf]; omega
    · have hkN' : N = k := by omega
      subst hkN'
      rw [Nat.sub_self, List.replicate_zero, List.append_nil] at hown
      have HO := hide hown
      have HBE := hide hbel
      have HST := hide (show PS G 0 0 (List.replicate N (-1)) by rw [← unhide HGL]; exact PS.start)
      clear hown hbel
      go_wp2
      go_loopw [11, 12] (fun s i wq => ∃ (k : Nat) (L : List Int), k ≤ P.length ∧ i = .int .i64 k ∧ s = .int .i64 (lastOf P k) ∧ OwnI w4.heap.size wq (.slice (some ⟨w4.heap.size, 0, none⟩) N N) L ∧ Hid (PS G k 0 L) ∧ Below w4.heap.size w4 wq) (fun _ i _ => P.length - (intOf i).toNat)
      case atStart => exact ⟨0, _, by omega, rfl, rfl, unhide HO, HST, unhide HBE⟩
      case round =>
        clear HO HBE HST
        obtain ⟨i, L, hi, rfl, rfl, hown, HS, hbel⟩ := hrel
        rename World => wq
        have hszq := hbel.size
        by_cases hil : i < P.length
        · obtain ⟨bp, op, ur, e1, q1, hr⟩ := (unhide HTP wq hbel).at hil
          subst e1
          obtain ⟨ar, cr, rfl, hrl, hrc⟩ := hr.form
          unfold maxLen at hrc
          have hPE := unhide HPE
          obtain ⟨f, p1, hf1, _⟩ := part_at (unhide HG) (i := i) (by rw [← hPE]; exact hil)
          have eR : (partsL G)[i]'(by rw [← hPE]; exact hil) = P[i] := by simp only [hPE]
          rw [eR] at p1
          obtain ⟨rr, hrr⟩ := p1.head
          have h0R : 0 < P[i].length := by rw [hrr]; simp
          have hlast : P[i].length - 1 < P[i].length := by omega
          obtain ⟨br, orr, e2, qf⟩ := hr.at h0R
          subst e2
          obtain ⟨br', orr', e2, qz⟩ := hr.at hlast
          cases e2
          have ef : P[i][0] = (f : Int) := by simp only [hrr]; rfl
          obtain ⟨z, ez, hzN, _⟩ := p1.pts _ (List.getElem_mem hlast)
          rw [ef, Nat.add_zero] at qf
          rw [ez] at qz
          rw [unhide HGL] at hzN
          have hlf : lastOf P i < (f : Int) := by
            unfold lastOf
            split
            · omega
            · have h5 := part_rise (unhide HG) (i := i - 1) (by rw [← hPE]; omega)
              have e7 : (partsL G)[i - 1 + 1]'(by rw [← hPE]; omega) = P[i] := by simp only [hPE]; congr 1; omega
              have e8 : (partsL G)[i - 1]'(by rw [← hPE]; omega) = P.getD (i - 1) [] := by rw [List.getD_eq_getElem?_getD, List.getElem?_eq_getElem (by omega)]; simp only [hPE]; rfl
              rw [e7, e8, hrr] at h5
              simpa using h5
          have hnext : lastOf P (i + 1) = (f : Int) := by
            unfold lastOf
            have eP : P.getD i [] = P[i] := by rw [List.getD_eq_getElem?_getD, List.getElem?_eq_getElem hil]; rfl
            rw [if_neg (by omega), Nat.add_sub_cancel, eP, hrr]; rfl
          have HNX := hide hnext
          have hris := (risB_iff P[i]).2 p1.asc
          have HRS := hide (fun W (hb : Below wq.heap.size wq W) => refRising_any (hr.below hb))
          rw [hris] at HRS
          obtain ⟨n1, hn1⟩ : ∃ n1, n1 = P[i].length := ⟨_, rfl⟩
          obtain ⟨m1, hm1⟩ : ∃ m1, m1 = P[i].length - 1 := ⟨_, rfl⟩
          have hn1m : n1 = m1 + 1 := by omega
          have hn1b : n1 ≤ cr := by omega
          rw [← hm1] at qz
          rw [← hn1] at q1
          have HRS2 : Hid (∀ W, Below wq.heap.size wq W → Calls Tryd.prog 30 #[.slice (some ⟨br, orr, none⟩) n1 cr] W fun e w' => e = .returned (.bool true) ∧ ∃ n, w' = W.drewN n) := by rw [hn1]; exact HRS
          have t1 : ((n1 : Int) == 0) = false := by simp; omega
          have t2 : decide ((f : Int) ≤ lastOf P i) = false := by simp; omega
          have t3 : decide ((N : Int) ≤ (z : Int)) = false := by simp; omega
          have t3b : decide (N ≤ z) = false := by simp; omega
          have t4 : decide ((f : Int) < 0) = false := by simp
          have t5 : IntKind.i64.wrap ((n1 : Int) - 1) = (m1 : Int) := by rw [IntKind.wrap_i64]; omega
          have t6 : 0 < n1 := by omega
          have t7 : m1 < n1 := by omega
          have HO := hide hown
          have HBE := hide hbel
          generalize lastOf P i = lst at *
          have HLF := hide hlf
          clear hr hrl hown hbel hlf hnext hris hrr p1 ef ez hlast hn1 hm1 hf1 eR hPE h0R HRS hn1m
          go_wp2
          have hS0 : wq.drew.cell? ⟨bp, op + i, none⟩ = some (.slice (some ⟨br, orr, none⟩) n1 cr) ∧ wq.drew.cell? ⟨br, orr, none⟩ = some (.int .i64 (f : Int)) ∧ wq.drew.cell? ⟨br, orr + m1, none⟩ = some (.int .i64 (z : Int)) := ⟨q1, qf, qz⟩
          refine wp_region_held (S := fun U => U.cell? ⟨bp, op + i, none⟩ = some (.slice (some ⟨br, orr, none⟩) n1 cr) ∧ U.cell? ⟨br, orr, none⟩ = some (.int .i64 (f : Int)) ∧ U.cell? ⟨br, orr + m1, none⟩ = some (.int .i64 (z : Int))) (by kernel_rfl) ?_
          refine wpAnyH_take (i := 0) (v := ?_) rfl (by kernel_rfl) (by kernel_rfl) (by kernel_rfl) (fun _ _ _ h => h) (Or.inl ⟨by kernel_rfl, ?_⟩) (by assumption) ?_
          rotate_left
          · intro W hSW; obtain ⟨hS1, hS2, hS3⟩ := hSW; go_simp; first | done | rfl
          simp only [Act.put, List.setIfInBounds_toArray, List.set_cons_zero, List.set_cons_succ, List.getElem_toArray, List.getElem_cons_succ, List.getElem_cons_zero]
          refine wpAnyH_take (i := 1) (v := ?_) rfl (by kernel_rfl) (by kernel_rfl) (by kernel_rfl) (fun _ _ _ h => h) (Or.inl ⟨by kernel_rfl, ?_⟩) (by assumption) ?_
          rotate_left
          · intro W hSW; obtain ⟨hS1, hS2, hS3⟩ := hSW; go_simp; first | done | rfl
          simp only [Act.put, List.setIfInBounds_toArray, List.set_cons_zero, List.set_cons_succ, List.getElem_toArray, List.getElem_cons_succ, List.getElem_cons_zero]
          refine wpAnyH_take (i := 2) (v := ?_) rfl (by kernel_rfl) (by kernel_rfl) (by kernel_rfl) (fun _ _ _ h => h) (Or.inl ⟨by kernel_rfl, ?_⟩) (by assumption) ?_
          rotate_left
          · intro W hSW; obtain ⟨hS1, hS2, hS3⟩ := hSW; go_simp; first | done | rfl
          simp only [Act.put, List.setIfInBounds_toArray, List.set_cons_zero, List.set_cons_succ, List.getElem_toArray, List.getElem_cons_succ, List.getElem_cons_zero]
          refine wpAnyH_take (i := 3) (v := ?_) rfl (by kernel_rfl) (by kernel_rfl) (by kernel_rfl) (fun _ _ _ h => h) (Or.inl ⟨by kernel_rfl, ?_⟩) (by assumption) ?_
          rotate_left
          · intro W hSW; obtain ⟨hS1, hS2, hS3⟩ := hSW; go_simp; first | done | rfl
          simp only [Act.put, List.setIfInBounds_toArray, List.set_cons_zero, List.set_cons_succ, List.getElem_toArray, List.getElem_cons_succ, List.getElem_cons_zero]
          refine wpAnyH_take (i := 4) (v := ?_) rfl (by kernel_rfl) (by kernel_rfl) (by kernel_rfl) (fun _ _ _ h => h) (Or.inl ⟨by kernel_rfl, ?_⟩) (by assumption) ?_
          rotate_left
          · intro W hSW; obtain ⟨hS1, hS2, hS3⟩ := hSW; go_simp; first | done | rfl
          simp only [Act.put, List.setIfInBounds_toArray, List.set_cons_zero, List.set_cons_succ, List.getElem_toArray, List.getElem_cons_succ, List.getElem_cons_zero]
          refine wpAnyH_take (i := 5) (v := ?_) rfl (by kernel_rfl) (by kernel_rfl) (by kernel_rfl) (fun _ _ _ h => h) (Or.inl ⟨by kernel_rfl, ?_⟩) (by assumption) ?_
          rotate_left
          · intro W hSW; obtain ⟨hS1, hS2, hS3⟩ := hSW; go_simp; first | done | rfl
          simp only [Act.put, List.setIfInBounds_toArray, List.set_cons_zero, List.set_cons_succ, List.getElem_toArray, List.getElem_cons_succ, List.getElem_cons_zero]
          refine wpAnyH_take (i := 6) (v := ?_) rfl (by kernel_rfl) (by kernel_rfl) (by kernel_rfl) (fun _ _ _ h => h) (Or.inl ⟨by kernel_rfl, ?_⟩) (by assumption) ?_
          rotate_left
          · intro W hSW; obtain ⟨hS1, hS2, hS3⟩ := hSW; go_simp; first | done | rfl
          simp only [Act.put, List.setIfInBounds_toArray, List.set_cons_zero, List.set_cons_succ, List.getElem_toArray, List.getElem_cons_succ, List.getElem_cons_zero]
          refine wpAnyH_take (i := 7) (v := ?_) rfl (by kernel_rfl) (by kernel_rfl) (by kernel_rfl) (fun _ _ _ h => h) (Or.inl ⟨by kernel_rfl, ?_⟩) (by assumption) ?_
          rotate_left
          · intro W hSW; obtain ⟨hS1, hS2, hS3⟩ := hSW; go_simp; first | done | rfl
          simp only [Act.put, List.setIfInBounds_toArray, List.set_cons_zero, List.set_cons_succ, List.getElem_toArray, List.getElem_cons_succ, List.getElem_cons_zero]
          refine wpAnyH_take (i := 8) (v := ?_) rfl (by kernel_rfl) (by kernel_rfl) (by kernel_rfl) (fun _ _ _ h => h) (Or.inl ⟨by kernel_rfl, ?_⟩) (by assumption) ?_
          rotate_left
          · intro W hSW; obtain ⟨hS1, hS2, hS3⟩ := hSW; go_simp; first | done | rfl
          simp only [Act.put, List.setIfInBounds_toArray, List.set_cons_zero, List.set_cons_succ, List.getElem_toArray, List.getElem_cons_succ, List.getElem_cons_zero]
          refine wpAnyH_take (i := 9) (v := ?_) rfl (by kernel_rfl) (by kernel_rfl) (by kernel_rfl) (fun _ _ _ h => h) (Or.inl ⟨by kernel_rfl, ?_⟩) (by assumption) ?_
          rotate_left
          · intro W hSW; obtain ⟨hS1, hS2, hS3⟩ := hSW; go_simp; first | done | rfl
          simp only [Act.put, List.setIfInBounds_toArray, List.set_cons_zero, List.set_cons_succ, List.getElem_toArray, List.getElem_cons_succ, List.getElem_cons_zero]
          refine wpAnyH_take (i := 10) (v := ?_) rfl (by kernel_rfl) (by kernel_rfl) (by kernel_rfl) (fun _ _ _ h => h) (Or.inl ⟨by kernel_rfl, ?_⟩) (by assumption) ?_
          rotate_left
          · intro W hSW; obtain ⟨hS1, hS2, hS3⟩ := hSW; go_simp; first | done | rfl
          simp only [Act.put, List.setIfInBounds_toArray, List.set_cons_zero, List.set_cons_succ, List.getElem_toArray, List.getElem_cons_succ, List.getElem_cons_zero]
          refine wpAnyH_take (i := 11) (v := ?_) rfl (by kernel_rfl) (by kernel_rfl) (by kernel_rfl) (fun _ _ _ h => h) (Or.inl ⟨by kernel_rfl, ?_⟩) (by assumption) ?_
          rotate_left
          · intro W hSW; obtain ⟨hS1, hS2, hS3⟩ := hSW; go_simp; first | done | rfl
          simp only [Act.put, List.setIfInBounds_toArray, List.set_cons_zero, List.set_cons_succ, List.getElem_toArray, List.getElem_cons_succ, List.getElem_cons_zero]
          refine wpAnyH_take (i := 12) (v := ?_) rfl (by kernel_rfl) (by kernel_rfl) (by kernel_rfl) (fun _ _ _ h => h) (Or.inl ⟨by kernel_rfl, ?_⟩) (by assumption) ?_
          rotate_left
          · intro W hSW; obtain ⟨hS1, hS2, hS3⟩ := hSW; go_simp; first | done | rfl
          simp only [Act.put, List.setIfInBounds_toArray, List.set_cons_zero, List.set_cons_succ, List.getElem_toArray, List.getElem_cons_succ, List.getElem_cons_zero]
          refine wpAnyH_take (i := 13) (v := ?_) rfl (by kernel_rfl) (by kernel_rfl) (by kernel_rfl) (fun _ _ _ h => h) (Or.inl ⟨by kernel_rfl, ?_⟩) (by assumption) ?_
          rotate_left
          · intro W hSW; obtain ⟨hS1, hS2, hS3⟩ := hSW; go_simp; first | done | rfl
          simp only [Act.put, List.setIfInBounds_toArray, List.set_cons_zero, List.set_cons_succ, List.getElem_toArray, List.getElem_cons_succ, List.getElem_cons_zero]
          refine wpAnyH_take (i := 14) (v := ?_) rfl (by kernel_rfl) (by kernel_rfl) (by kernel_rfl) (fun _ _ _ h => h) (Or.inl ⟨by kernel_rfl, ?_⟩) (by assumption) ?_
          rotate_left
          · intro W hSW; obtain ⟨hS1, hS2, hS3⟩ := hSW; go_simp; first | done | rfl
          simp only [Act.put, List.setIfInBounds_toArray, List.set_cons_zero, List.set_cons_succ, List.getElem_toArray, List.getElem_cons_succ, List.getElem_cons_zero]
          refine wpAnyH_take (i := 15) (v := ?_) rfl (by kernel_rfl) (by kernel_rfl) (by kernel_rfl) (fun _ _ _ h => h) (Or.inl ⟨by kernel_rfl, ?_⟩) (by assumption) ?_
          rotate_left
          · intro W hSW; obtain ⟨hS1, hS2, hS3⟩ := hSW; go_simp; first | done | rfl
          simp only [Act.put, List.setIfInBounds_toArray, List.set_cons_zero, List.set_cons_succ, List.getElem_toArray, List.getElem_cons_succ, List.getElem_cons_zero]
          refine wpAnyH_take (i := 16) (v := ?_) rfl (by kernel_rfl) (by kernel_rfl) (by kernel_rfl) (fun _ _ _ h => h) (Or.inl ⟨by kernel_rfl, ?_⟩) (by assumption) ?_
          rotate_left
          · intro W hSW; obtain ⟨hS1, hS2, hS3⟩ := hSW; go_simp; first | done | rfl
          simp only [Act.put, List.setIfInBounds_toArray, List.set_cons_zero, List.set_cons_succ, List.getElem_toArray, List.getElem_cons_succ, List.getElem_cons_zero]
          refine wpAnyH_take (i := 17) (v := ?_) rfl (by kernel_rfl) (by kernel_rfl) (by kernel_rfl) (fun _ _ _ h => h) (Or.inl ⟨by kernel_rfl, ?_⟩) (by assumption) ?_
          rotate_left
          · intro W hSW; obtain ⟨hS1, hS2, hS3⟩ := hSW; go_simp; first | done | rfl
          simp only [Act.put, List.setIfInBounds_toArray, List.set_cons_zero, List.set_cons_succ, List.getElem_toArray, List.getElem_cons_succ, List.getElem_cons_zero]
          refine wpAnyH_take (i := 18) (v := ?_) rfl (by kernel_rfl) (by kernel_rfl) (by kernel_rfl) (fun _ _ _ h => h) (Or.inl ⟨by kernel_rfl, ?_⟩) (by assumption) ?_
          rotate_left
          · intro W hSW; obtain ⟨hS1, hS2, hS3⟩ := hSW; go_simp; first | done | rfl
          simp only [Act.put, List.setIfInBounds_toArray, List.set_cons_zero, List.set_cons_succ, List.getElem_toArray, List.getElem_cons_succ, List.getElem_cons_zero]
          refine wpAnyH_take (i := 19) (v := ?_) rfl (by kernel_rfl) (by kernel_rfl) (by kernel_rfl) (fun _ _ _ h => h) (Or.inl ⟨by kernel_rfl, ?_⟩) (by assumption) ?_
          rotate_left
          · intro W hSW; obtain ⟨hS1, hS2, hS3⟩ := hSW; go_simp; first | done | rfl
          simp only [Act.put, List.setIfInBounds_toArray, List.set_cons_zero, List.set_cons_succ, List.getElem_toArray, List.getElem_cons_succ, List.getElem_cons_zero]
          refine wpAnyH_take (i := 20) (v := ?_) rfl (by kernel_rfl) (by kernel_rfl) (by kernel_rfl) (fun _ _ _ h => h) (Or.inl ⟨by kernel_rfl, ?_⟩) (by assumption) ?_
          rotate_left
          · intro W hSW; obtain ⟨hS1, hS2, hS3⟩ := hSW; go_simp; first | done | rfl
          simp only [Act.put, List.setIfInBounds_toArray, List.set_cons_zero, List.set_cons_succ, List.getElem_toArray, List.getElem_cons_succ, List.getElem_cons_zero]
          refine held_one (i := 21) (by kernel_rfl) rfl (by kernel_rfl) (fun K hK => ?_)
          go_simp
          refine (unhide HRS2 _ (by exact below_same rfl rfl rfl rfl)).mono ?_
          rintro e w6 ⟨rfl, dn, hw6⟩
          have hB6 : Below wq.heap.size wq w6 := by rw [hw6]; exact below_same rfl rfl rfl rfl
          have hS0 : w6.cell? ⟨bp, op + i, none⟩ = some (.slice (some ⟨br, orr, none⟩) n1 cr) ∧ w6.cell? ⟨br, orr, none⟩ = some (.int .i64 (f : Int)) ∧ w6.cell? ⟨br, orr + m1, none⟩ = some (.int .i64 (z : Int)) := ⟨Below.cell_of hB6 q1, Below.cell_of hB6 qf, Below.cell_of hB6 qz⟩
          refine hK.out _ _ hS0 ?_
          clear hK K hw6
          try simp only [Act.put, List.setIfInBounds_toArray, List.set_cons_zero, List.set_cons_succ]
          refine wpAnyH_take (i := 22) (v := ?_) rfl (by kernel_rfl) (by kernel_rfl) (by kernel_rfl) (fun _ _ _ h => h) (Or.inl ⟨by kernel_rfl, ?_⟩) (by assumption) ?_
          rotate_left
          · intro W hSW; obtain ⟨hS1, hS2, hS3⟩ := hSW; go_simp; first | done | rfl
          simp only [Act.put, List.setIfInBounds_toArray, List.set_cons_zero, List.set_cons_succ, List.getElem_toArray, List.getElem_cons_succ, List.getElem_cons_zero]
          refine wpAnyH_take (i := 23) (v := ?_) rfl (by kernel_rfl) (by kernel_rfl) (by kernel_rfl) (fun _ _ _ h => h) (Or.inl ⟨by kernel_rfl, ?_⟩) (by assumption) ?_
          rotate_left
          · intro W hSW; obtain ⟨hS1, hS2, hS3⟩ := hSW; go_simp; first | done | rfl
          simp only [Act.put, List.setIfInBounds_toArray, List.set_cons_zero, List.set_cons_succ, List.getElem_toArray, List.getElem_cons_succ, List.getElem_cons_zero]
          refine wpAnyH_take (i := 24) (v := ?_) rfl (by kernel_rfl) (by kernel_rfl) (by kernel_rfl) (fun _ _ _ h => h) (Or.inl ⟨by kernel_rfl, ?_⟩) (by assumption) ?_
          rotate_left
          · intro W hSW; obtain ⟨hS1, hS2, hS3⟩ := hSW; go_simp; first | done | rfl
          simp only [Act.put, List.setIfInBounds_toArray, List.set_cons_zero, List.set_cons_succ, List.getElem_toArray, List.getElem_cons_succ, List.getElem_cons_zero]
          refine wpAnyH_take (i := 25) (v := ?_) rfl (by kernel_rfl) (by kernel_rfl) (by kernel_rfl) (fun _ _ _ h => h) (Or.inl ⟨by kernel_rfl, ?_⟩) (by assumption) ?_
          rotate_left
          · intro W hSW; obtain ⟨hS1, hS2, hS3⟩ := hSW; go_simp; first | done | rfl
          simp only [Act.put, List.setIfInBounds_toArray, List.set_cons_zero, List.set_cons_succ, List.getElem_toArray, List.getElem_cons_succ, List.getElem_cons_zero]
          refine wpAnyH_take (i := 26) (v := ?_) rfl (by kernel_rfl) (by kernel_rfl) (by kernel_rfl) (fun _ _ _ h => h) (Or.inl ⟨by kernel_rfl, ?_⟩) (by assumption) ?_
          rotate_left
          · intro W hSW; obtain ⟨hS1, hS2, hS3⟩ := hSW; go_simp; first | done | rfl
          simp only [Act.put, List.setIfInBounds_toArray, List.set_cons_zero, List.set_cons_succ, List.getElem_toArray, List.getElem_cons_succ, List.getElem_cons_zero]
          refine wpAnyH_take (i := 27) (v := ?_) rfl (by kernel_rfl) (by kernel_rfl) (by kernel_rfl) (fun _ _ _ h => h) (Or.inl ⟨by kernel_rfl, ?_⟩) (by assumption) ?_
          rotate_left
          · intro W hSW; obtain ⟨hS1, hS2, hS3⟩ := hSW; go_simp; first | done | rfl
          simp only [Act.put, List.setIfInBounds_toArray, List.set_cons_zero, List.set_cons_succ, List.getElem_toArray, List.getElem_cons_succ, List.getElem_cons_zero]
          refine wpAnyH_take (i := 28) (v := ?_) rfl (by kernel_rfl) (by kernel_rfl) (by kernel_rfl) (fun _ _ _ h => h) (Or.inl ⟨by kernel_rfl, ?_⟩) (by assumption) ?_
          rotate_left
          · intro W hSW; obtain ⟨hS1, hS2, hS3⟩ := hSW; go_simp; first | done | rfl
          simp only [Act.put, List.setIfInBounds_toArray, List.set_cons_zero, List.set_cons_succ, List.getElem_toArray, List.getElem_cons_succ, List.getElem_cons_zero]
          refine wpAnyH_take (i := 29) (v := ?_) rfl (by kernel_rfl) (by kernel_rfl) (by kernel_rfl) (fun _ _ _ h => h) (Or.inl ⟨by kernel_rfl, ?_⟩) (by assumption) ?_
          rotate_left
          · intro W hSW; obtain ⟨hS1, hS2, hS3⟩ := hSW; go_simp; first | done | rfl
          simp only [Act.put, List.setIfInBounds_toArray, List.set_cons_zero, List.set_cons_succ, List.getElem_toArray, List.getElem_cons_succ, List.getElem_cons_zero]
          refine wpAnyH_take (i := 30) (v := ?_) rfl (by kernel_rfl) (by kernel_rfl) (by kernel_rfl) (fun _ _ _ h => h) (Or.inl ⟨by kernel_rfl, ?_⟩) (by assumption) ?_
          rotate_left
          · intro W hSW; obtain ⟨hS1, hS2, hS3⟩ := hSW; go_simp; first | done | rfl
          simp only [Act.put, List.setIfInBounds_toArray, List.set_cons_zero, List.set_cons_succ, List.getElem_toArray, List.getElem_cons_succ, List.getElem_cons_zero]
          refine wpAnyH_take (i := 31) (v := ?_) rfl (by kernel_rfl) (by kernel_rfl) (by kernel_rfl) (fun _ _ _ h => h) (Or.inl ⟨by kernel_rfl, ?_⟩) (by assumption) ?_
          rotate_left
          · intro W hSW; obtain ⟨hS1, hS2, hS3⟩ := hSW; go_simp; first | done | rfl
          simp only [Act.put, List.setIfInBounds_toArray, List.set_cons_zero, List.set_cons_succ, List.getElem_toArray, List.getElem_cons_succ, List.getElem_cons_zero]
          refine wpAnyH_take (i := 32) (v := ?_) rfl (by kernel_rfl) (by kernel_rfl) (by kernel_rfl) (fun _ _ _ h => h) (Or.inl ⟨by kernel_rfl, ?_⟩) (by assumption) ?_
          rotate_left
          · intro W hSW; obtain ⟨hS1, hS2, hS3⟩ := hSW; go_simp; first | done | rfl
          simp only [Act.put, List.setIfInBounds_toArray, List.set_cons_zero, List.set_cons_succ, List.getElem_toArray, List.getElem_cons_succ, List.getElem_cons_zero]
          refine wpAnyH_take (i := 33) (v := ?_) rfl (by kernel_rfl) (by kernel_rfl) (by kernel_rfl) (fun _ _ _ h => h) (Or.inl ⟨by kernel_rfl, ?_⟩) (by assumption) ?_
          rotate_left
          · intro W hSW; obtain ⟨hS1, hS2, hS3⟩ := hSW; go_simp; first | done | rfl
          simp only [Act.put, List.setIfInBounds_toArray, List.set_cons_zero, List.set_cons_succ, List.getElem_toArray, List.getElem_cons_succ, List.getElem_cons_zero]
          refine wpAnyH_take (i := 34) (v := ?_) rfl (by kernel_rfl) (by kernel_rfl) (by kernel_rfl) (fun _ _ _ h => h) (Or.inl ⟨by kernel_rfl, ?_⟩) (by assumption) ?_
          rotate_left
          · intro W hSW; obtain ⟨hS1, hS2, hS3⟩ := hSW; go_simp; first | done | rfl
          simp only [Act.put, List.setIfInBounds_toArray, List.set_cons_zero, List.set_cons_succ, List.getElem_toArray, List.getElem_cons_succ, List.getElem_cons_zero]
          refine wpAnyH_take (i := 35) (v := ?_) rfl (by kernel_rfl) (by kernel_rfl) (by kernel_rfl) (fun _ _ _ h => h) (Or.inl ⟨by kernel_rfl, ?_⟩) (by assumption) ?_
          rotate_left
          · intro W hSW; obtain ⟨hS1, hS2, hS3⟩ := hSW; go_simp; first | done | rfl
          simp only [Act.put, List.setIfInBounds_toArray, List.set_cons_zero, List.set_cons_succ, List.getElem_toArray, List.getElem_cons_succ, List.getElem_cons_zero]
          refine wpAnyH_take (i := 36) (v := ?_) rfl (by kernel_rfl) (by kernel_rfl) (by kernel_rfl) (fun _ _ _ h => h) (Or.inl ⟨by kernel_rfl, ?_⟩) (by assumption) ?_
          rotate_left
          · intro W hSW; obtain ⟨hS1, hS2, hS3⟩ := hSW; go_simp; first | done | rfl
          simp only [Act.put, List.setIfInBounds_toArray, List.set_cons_zero, List.set_cons_succ, List.getElem_toArray, List.getElem_cons_succ, List.getElem_cons_zero]
          refine wpAnyH_take (i := 37) (v := ?_) rfl (by kernel_rfl) (by kernel_rfl) (by kernel_rfl) (fun _ _ _ h => h) (Or.inl ⟨by kernel_rfl, ?_⟩) (by assumption) ?_
          rotate_left
          · intro W hSW; obtain ⟨hS1, hS2, hS3⟩ := hSW; go_simp; first | done | rfl
          simp only [Act.put, List.setIfInBounds_toArray, List.set_cons_zero, List.set_cons_succ, List.getElem_toArray, List.getElem_cons_succ, List.getElem_cons_zero]
          refine wpAnyH_take (i := 38) (v := ?_) rfl (by kernel_rfl) (by kernel_rfl) (by kernel_rfl) (fun _ _ _ h => h) (Or.inl ⟨by kernel_rfl, ?_⟩) (by assumption) ?_
          rotate_left
          · intro W hSW; obtain ⟨hS1, hS2, hS3⟩ := hSW; go_simp; first | done | rfl
          simp only [Act.put, List.setIfInBounds_toArray, List.set_cons_zero, List.set_cons_succ, List.getElem_toArray, List.getElem_cons_succ, List.getElem_cons_zero]
          refine wpAnyH_take (i := 39) (v := ?_) rfl (by kernel_rfl) (by kernel_rfl) (by kernel_rfl) (fun _ _ _ h => h) (Or.inl ⟨by kernel_rfl, ?_⟩) (by assumption) ?_
          rotate_left
          · intro W hSW; obtain ⟨hS1, hS2, hS3⟩ := hSW; go_simp; first | done | rfl
          simp only [Act.put, List.setIfInBounds_toArray, List.set_cons_zero, List.set_cons_succ, List.getElem_toArray, List.getElem_cons_succ, List.getElem_cons_zero]
          refine wpAnyH_take (i := 40) (v := ?_) rfl (by kernel_rfl) (by kernel_rfl) (by kernel_rfl) (fun _ _ _ h => h) (Or.inl ⟨by kernel_rfl, ?_⟩) (by assumption) ?_
          rotate_left
          · intro W hSW; obtain ⟨hS1, hS2, hS3⟩ := hSW; go_simp; first | done | rfl
          simp only [Act.put, List.setIfInBounds_toArray, List.set_cons_zero, List.set_cons_succ, List.getElem_toArray, List.getElem_cons_succ, List.getElem_cons_zero]
          refine wpAnyH_take (i := 41) (v := ?_) rfl (by kernel_rfl) (by kernel_rfl) (by kernel_rfl) (fun _ _ _ h => h) (Or.inl ⟨by kernel_rfl, ?_⟩) (by assumption) ?_
          rotate_left
          · intro W hSW; obtain ⟨hS1, hS2, hS3⟩ := hSW; go_simp; first | done | rfl
          simp only [Act.put, List.setIfInBounds_toArray, List.set_cons_zero, List.set_cons_succ, List.getElem_toArray, List.getElem_cons_succ, List.getElem_cons_zero]
          refine wpAnyH_take (i := 42) (v := ?_) rfl (by kernel_rfl) (by kernel_rfl) (by kernel_rfl) (fun _ _ _ h => h) (Or.inl ⟨by kernel_rfl, ?_⟩) (by assumption) ?_
          rotate_left
          · intro W hSW; obtain ⟨hS1, hS2, hS3⟩ := hSW; go_simp; first | done | rfl
          simp only [Act.put, List.setIfInBounds_toArray, List.set_cons_zero, List.set_cons_succ, List.getElem_toArray, List.getElem_cons_succ, List.getElem_cons_zero]
          refine wpAnyH_take (i := 43) (v := ?_) rfl (by kernel_rfl) (by kernel_rfl) (by kernel_rfl) (fun _ _ _ h => h) (Or.inl ⟨by kernel_rfl, ?_⟩) (by assumption) ?_
          rotate_left
          · intro W hSW; obtain ⟨hS1, hS2, hS3⟩ := hSW; go_simp; first | done | rfl
          simp only [Act.put, List.setIfInBounds_toArray, List.set_cons_zero, List.set_cons_succ, List.getElem_toArray, List.getElem_cons_succ, List.getElem_cons_zero]
          refine wpAnyH_take (i := 44) (v := ?_) rfl (by kernel_rfl) (by kernel_rfl) (by kernel_rfl) (fun _ _ _ h => h) (Or.inl ⟨by kernel_rfl, ?_⟩) (by assumption) ?_
          rotate_left
          · intro W hSW; obtain ⟨hS1, hS2, hS3⟩ := hSW; go_simp; first | done | rfl
          simp only [Act.put, List.setIfInBounds_toArray, List.set_cons_zero, List.set_cons_succ, List.getElem_toArray, List.getElem_cons_succ, List.getElem_cons_zero]
          refine wpAnyH_take (i := 45) (v := ?_) rfl (by kernel_rfl) (by kernel_rfl) (by kernel_rfl) (fun _ _ _ h => h) (Or.inl ⟨by kernel_rfl, ?_⟩) (by assumption) ?_
          rotate_left
          · intro W hSW; obtain ⟨hS1, hS2, hS3⟩ := hSW; go_simp; first | done | rfl
          simp only [Act.put, List.setIfInBounds_toArray, List.set_cons_zero, List.set_cons_succ, List.getElem_toArray, List.getElem_cons_succ, List.getElem_cons_zero]
          refine wpAnyH_take (i := 46) (v := ?_) rfl (by kernel_rfl) (by kernel_rfl) (by kernel_rfl) (fun _ _ _ h => h) (Or.inl ⟨by kernel_rfl, ?_⟩) (by assumption) ?_
          rotate_left
          · intro W hSW; obtain ⟨hS1, hS2, hS3⟩ := hSW; go_simp; first | done | rfl
          simp only [Act.put, List.setIfInBounds_toArray, List.set_cons_zero, List.set_cons_succ, List.getElem_toArray, List.getElem_cons_succ, List.getElem_cons_zero]
          refine wpAnyH_take (i := 47) (v := ?_) rfl (by kernel_rfl) (by kernel_rfl) (by kernel_rfl) (fun _ _ _ h => h) (Or.inl ⟨by kernel_rfl, ?_⟩) (by assumption) ?_
          rotate_left
          · intro W hSW; obtain ⟨hS1, hS2, hS3⟩ := hSW; go_simp; first | done | rfl
          simp only [Act.put, List.setIfInBounds_toArray, List.set_cons_zero, List.set_cons_succ, List.getElem_toArray, List.getElem_cons_succ, List.getElem_cons_zero]
          refine wpAnyH_take (i := 48) (v := ?_) rfl (by kernel_rfl) (by kernel_rfl) (by kernel_rfl) (fun _ _ _ h => h) (Or.inl ⟨by kernel_rfl, ?_⟩) (by assumption) ?_
          rotate_left
          · intro W hSW; obtain ⟨hS1, hS2, hS3⟩ := hSW; go_simp; first | done | rfl
          simp only [Act.put, List.setIfInBounds_toArray, List.set_cons_zero, List.set_cons_succ, List.getElem_toArray, List.getElem_cons_succ, List.getElem_cons_zero]
          refine wpAnyH_take (i := 49) (v := ?_) rfl (by kernel_rfl) (by kernel_rfl) (by kernel_rfl) (fun _ _ _ h => h) (Or.inl ⟨by kernel_rfl, ?_⟩) (by assumption) ?_
          rotate_left
          · intro W hSW; obtain ⟨hS1, hS2, hS3⟩ := hSW; go_simp; first | done | rfl
          simp only [Act.put, List.setIfInBounds_toArray, List.set_cons_zero, List.set_cons_succ, List.getElem_toArray, List.getElem_cons_succ, List.getElem_cons_zero]
          refine wpAnyH_done (by kernel_rfl) ?_ _
          obtain ⟨r1, r2, r3⟩ := hS0
          have HO6 := hide (own_below (unhide HO) hB6)
          have HB6 := hide ((unhide HBE).trans (hB6.mono hszq))
          clear HO HBE hB6 r3 qf qz q1 t1 t2 t3 t3b t4 t5 t7 HRS2 HLF
          go_wp2
          go_loopw [13] (fun j wz => ∃ (k : Nat) (L : List Int), k ≤ P[i].length ∧ j = .int .i64 k ∧ OwnI w4.heap.size wz (.slice (some ⟨w4.heap.size, 0, none⟩) N N) L ∧ Hid (PS G i k L) ∧ Below w4.heap.size w4 wz) (fun j _ => P[i].length - (intOf j).toNat)
          case atStart => exact ⟨0, L, by omega, rfl, unhide HO6, HS, unhide HB6⟩
          case round =>
            clear HO6 HB6 HS r1 r2
            obtain ⟨k, L, hk, rfl, hown, HS, hbz⟩ := hrel
            rename World => wz
            obtain ⟨b2, o2, ur, e2, q1, hr⟩ := (unhide HTP wz hbz).at hil
            cases e2
            obtain ⟨ar, cr2, rfl, hrl, hrc2⟩ := hr.form
            unfold maxLen at hrc2
            by_cases hkl : k < P[i].length
            · obtain ⟨x, ex, hxN, hxL, hnx⟩ := PS.go (unhide HG) (unhide HPE) (unhide HS) hil hkl
              have hLl := (unhide HS).1
              rw [unhide HGL] at hxN hLl
              obtain ⟨b3, o3, e3, qx⟩ := hr.at hkl
              subst e3
              rw [ex] at qx
              obtain ⟨b4, o4, e4, qp⟩ := (Seq.of_own hown).at (k := x) (by omega)
              cases e4
              have hLx : L[x]'(by omega) = -1 := by rw [← hxL, List.getD_eq_getElem?_getD, List.getElem?_eq_getElem (by omega)]; rfl
              rw [hLx, Nat.zero_add] at qp
              obtain ⟨⟨old, hcell⟩, hfr, hset, hbs⟩ := own_setI hown (by omega) (i := x) hxN (i : Int)
              have HNS := hide hnx
              have HF := hide (And.intro hset (hbz.trans hbs))
              clear hr hown HS hset hbs hnx hxL hLl ex hbz hLx
              go_wp2
              go_roundw
              case rel => exact ⟨k + 1, _, by omega, by go_num, (unhide HF).1, HNS, (unhide HF).2⟩
              case measure => simp [intOf]; omega
            · have hkP : k = P[i].length := by omega
              have hup := PS.goUp (unhide HPE) hil (by rw [← hkP]; exact unhide HS)
              have HUP := hide hup
              have HO := hide hown
              have HB := hide hbz
              clear hr hown HS hup hbz
              go_wp2
              go_roundw
              case rel => exact ⟨i + 1, L, by omega, by go_num, by rw [unhide HNX], unhide HO, HUP, unhide HB⟩
              case measure => simp [intOf]; omega
        · have hiP : i = P.length := by omega
          subst hiP
          obtain ⟨he1, he2⟩ := PS.end_ (unhide HG) (unhide HPE) (unhide HS)
          have hLl := (unhide HS).1
          rw [unhide HGL] at he1 he2 hLl
          have HE1 := hide he1
          have HE2 := hide he2
          have HLL := hide hLl
          have hown' := hown
          have HOW := hide (fun W (hb : Below wq.heap.size wq W) => (Seq.of_own hown).below hb)
          have HX5 := hide (fun W (hb : Below wq.heap.size wq W) => unhide HX4 W (hbel.trans (hb.mono hszq)))
          have HBS := hide (fun W (a b : Int) (hb : Below wq.heap.size wq W) => beside_any (a := a) (b := b) (unhide HG4 W (hbel.trans (hb.mono hszq))) (by have := unhide HGL; omega) (unhide HG).w64)
          have HBE := hide ((unhide HB4).trans (hbel.mono hw4))
          have hwq := (unhide HBE).size
          clear hown hown' HS hbel he1 he2 hLl HTP HX4 HG4 HB4 hpl
          go_wp2
          go_loopw [14] (fun j wz => ∃ a : Nat, a ≤ N ∧ j = .int .i64 a ∧ Below wq.heap.size wq wz) (fun j _ => N - (intOf j).toNat)
          case atStart => exact ⟨0, by omega, rfl, Below.refl _ _⟩
          case round =>
            obtain ⟨a, ha, rfl, hbz⟩ := hrel
            rename World => wz
            by_cases haN : a < N
            · have hcell : ∀ W, Below wq.heap.size wq W → ∀ x, x < N → W.cell? ⟨w4.heap.size, x, none⟩ = some (.int .i64 (L.getD x 0)) := fun W hb x hx => by
                obtain ⟨b4, o4, e4, qp⟩ := (unhide HOW W hb).at (k := x) (by rw [unhide HLL]; exact hx)
                cases e4
                rw [Nat.zero_add] at qp
                rw [qp, List.getD_eq_getElem?_getD, List.getElem?_eq_getElem (by rw [unhide HLL]; exact hx)]
                rfl
              have HCE := hide hcell
              have qa := hcell wz hbz a haN
              have hge := unhide HE1 a haN
              have t1 : decide (L.getD a 0 < 0) = false := by simp only [decide_eq_false_iff_not]; omega
              obtain ⟨la, hla⟩ : ∃ la, la = L.getD a 0 := ⟨_, rfl⟩
              rw [← hla] at qa t1 hge
              have HLA := hide hla
              have HBZ := hide hbz
              clear hcell hla
              go_wp2
              go_loopw [15] (fun j wy => ∃ b : Nat, b ≤ N ∧ j = .int .i64 b ∧ Below wq.heap.size wq wy) (fun j _ => N - (intOf j).toNat)
              case atStart => exact ⟨0, by omega, rfl, unhide HBZ⟩
              case round =>
                clear qa
                obtain ⟨b, hb, rfl, hby⟩ := hrel
                rename World => wy
                have hszy := hby.size
                by_cases hbN : b < N
                · have y0 := (unhide HX5 wy hby).cell
                  have qa := unhide HCE wy hby a haN
                  have qb := unhide HCE wy hby b hbN
                  rw [← unhide HLA] at qa
                  have HB1 := hide (fun W (hh : Below wy.heap.size wy W) => unhide HBS W (a : Int) (b : Int) (hby.trans (hh.mono hszy)))
                  have hbe : besI G (a : Int) (b : Int) = besB G a b := by
                    rw [besI_eq, ptB_nat, ptB_nat, unhide HGL]; simp [haN, hbN]
                  rw [hbe] at HB1
                  cases hbes : besB G a b with
                  | true =>
                    have heq := unhide HE2 a b haN hbN hbes
                    rw [hbes] at HB1
                    rw [← heq, ← unhide HLA] at qb
                    have HD := hide (fun W (hh : Below wy.heap.size wy W) => And.intro (Below.cell_of hh y0) (And.intro (Below.cell_of hh qa) (Below.cell_of hh qb)))
                    have n1 : (la != la) = false := by simp
                    have hbR : Below wy.heap.size wy wy.drew := drewB
                    clear heq hbe hbes
                    go_wp2
                    go_region_held3 (fun W => W.cell? ⟨w3.heap.size, 0, none⟩ = some (.slice ax N cx) ∧ W.cell? ⟨w4.heap.size, a, none⟩ = some (.int .i64 la) ∧ W.cell? ⟨w4.heap.size, b, none⟩ = some (.int .i64 la))
                      (first | exact unhide HD _ (by first | exact hB9 | exact hbR | exact below_same rfl rfl rfl rfl))
                      (first
                        | (go_at_call 18; refine (unhide HB1 _ (by first | exact hbR | exact below_same rfl rfl rfl rfl)).mono ?_; rintro e w9 ⟨rfl, hb9⟩; have hB9 : Below wy.heap.size wy w9 := below_then (by first | exact hbR | exact below_same rfl rfl rfl rfl) hb9))
                    all_goals
                      have HZ := hide (hby.trans (hB9.mono hszy))
                      clear hB9 hbR
                      go_wp2
                      go_roundw
                      case rel => exact ⟨b + 1, by omega, by go_num, unhide HZ⟩
                      case measure => simp [intOf]; omega
                  | false =>
                    rw [hbes] at HB1
                    clear hbe hbes
                    go_wp2
                    have hS0 : wy.drew.cell? ⟨w3.heap.size, 0, none⟩ = some (.slice ax N cx) ∧ True := ⟨y0, trivial⟩
                    refine wp_region_held (S := fun U => U.cell? ⟨w3.heap.size, 0, none⟩ = some (.slice ax N cx) ∧ True) (by kernel_rfl) ?_
                    refine wpAnyH_take (i := 0) (v := ?_) rfl (by kernel_rfl) (by kernel_rfl) (by kernel_rfl) (fun _ _ _ h => h) (Or.inl ⟨by kernel_rfl, ?_⟩) (by assumption) ?_
                    rotate_left
                    · intro W hSW; obtain ⟨hS1, _⟩ := hSW; go_simp; first | done | rfl
                    simp only [Act.put, List.setIfInBounds_toArray, List.set_cons_zero, List.set_cons_succ, List.getElem_toArray, List.getElem_cons_succ, List.getElem_cons_zero]
                    refine wpAnyH_take (i := 1) (v := ?_) rfl (by kernel_rfl) (by kernel_rfl) (by kernel_rfl) (fun _ _ _ h => h) (Or.inl ⟨by kernel_rfl, ?_⟩) (by assumption) ?_
                    rotate_left
                    · intro W hSW; obtain ⟨hS1, _⟩ := hSW; go_simp; first | done | rfl
                    simp only [Act.put, List.setIfInBounds_toArray, List.set_cons_zero, List.set_cons_succ, List.getElem_toArray, List.getElem_cons_succ, List.getElem_cons_zero]
                    refine wpAnyH_take (i := 2) (v := ?_) rfl (by kernel_rfl) (by kernel_rfl) (by kernel_rfl) (fun _ _ _ h => h) (Or.inl ⟨by kernel_rfl, ?_⟩) (by assumption) ?_
                    rotate_left
                    · intro W hSW; obtain ⟨hS1, _⟩ := hSW; go_simp; first | done | rfl
                    simp only [Act.put, List.setIfInBounds_toArray, List.set_cons_zero, List.set_cons_succ, List.getElem_toArray, List.getElem_cons_succ, List.getElem_cons_zero]
                    refine held_one (i := 3) (by kernel_rfl) rfl (by kernel_rfl) (fun K hK => ?_)
                    go_simp
                    refine (unhide HB1 _ (by exact below_same rfl rfl rfl rfl)).mono ?_
                    rintro e w9 ⟨rfl, hb9⟩
                    have hB9 : Below wy.heap.size wy w9 := below_then drewB hb9
                    have hS0 : w9.cell? ⟨w3.heap.size, 0, none⟩ = some (.slice ax N cx) ∧ True := ⟨Below.cell_of hB9 y0, trivial⟩
                    refine hK.out _ _ hS0 ?_
                    clear hK K
                    try simp only [Act.put, List.setIfInBounds_toArray, List.set_cons_zero, List.set_cons_succ]
                    refine wpAnyH_take (i := 4) (v := ?_) rfl (by kernel_rfl) (by kernel_rfl) (by kernel_rfl) (fun _ _ _ h => h) (Or.inl ⟨by kernel_rfl, ?_⟩) (by assumption) ?_
                    rotate_left
                    · intro W hSW; obtain ⟨hS1, _⟩ := hSW; go_simp; first | done | rfl
                    simp only [Act.put, List.setIfInBounds_toArray, List.set_cons_zero, List.set_cons_succ, List.getElem_toArray, List.getElem_cons_succ, List.getElem_cons_zero]
                    refine wpAnyH_take (i := 5) (v := undef) rfl (by kernel_rfl) (by kernel_rfl) (by kernel_rfl) (fun _ _ _ h => h) (Or.inr ⟨by kernel_rfl, rfl⟩) (by assumption) ?_
                    simp only [Act.put, List.setIfInBounds_toArray, List.set_cons_zero, List.set_cons_succ, List.getElem_toArray, List.getElem_cons_succ, List.getElem_cons_zero]
                    refine wpAnyH_take (i := 6) (v := undef) rfl (by kernel_rfl) (by kernel_rfl) (by kernel_rfl) (fun _ _ _ h => h) (Or.inr ⟨by kernel_rfl, rfl⟩) (by assumption) ?_
                    simp only [Act.put, List.setIfInBounds_toArray, List.set_cons_zero, List.set_cons_succ, List.getElem_toArray, List.getElem_cons_succ, List.getElem_cons_zero]
                    refine wpAnyH_take (i := 7) (v := undef) rfl (by kernel_rfl) (by kernel_rfl) (by kernel_rfl) (fun _ _ _ h => h) (Or.inr ⟨by kernel_rfl, rfl⟩) (by assumption) ?_
                    simp only [Act.put, List.setIfInBounds_toArray, List.set_cons_zero, List.set_cons_succ, List.getElem_toArray, List.getElem_cons_succ, List.getElem_cons_zero]
                    refine wpAnyH_take (i := 8) (v := undef) rfl (by kernel_rfl) (by kernel_rfl) (by kernel_rfl) (fun _ _ _ h => h) (Or.inr ⟨by kernel_rfl, rfl⟩) (by assumption) ?_
                    simp only [Act.put, List.setIfInBounds_toArray, List.set_cons_zero, List.set_cons_succ, List.getElem_toArray, List.getElem_cons_succ, List.getElem_cons_zero]
                    refine wpAnyH_take (i := 9) (v := undef) rfl (by kernel_rfl) (by kernel_rfl) (by kernel_rfl) (fun _ _ _ h => h) (Or.inr ⟨by kernel_rfl, rfl⟩) (by assumption) ?_
                    simp only [Act.put, List.setIfInBounds_toArray, List.set_cons_zero, List.set_cons_succ, List.getElem_toArray, List.getElem_cons_succ, List.getElem_cons_zero]
                    refine wpAnyH_take (i := 10) (v := undef) rfl (by kernel_rfl) (by kernel_rfl) (by kernel_rfl) (fun _ _ _ h => h) (Or.inr ⟨by kernel_rfl, rfl⟩) (by assumption) ?_
                    simp only [Act.put, List.setIfInBounds_toArray, List.set_cons_zero, List.set_cons_succ, List.getElem_toArray, List.getElem_cons_succ, List.getElem_cons_zero]
                    refine wpAnyH_take (i := 11) (v := undef) rfl (by kernel_rfl) (by kernel_rfl) (by kernel_rfl) (fun _ _ _ h => h) (Or.inr ⟨by kernel_rfl, rfl⟩) (by assumption) ?_
                    simp only [Act.put, List.setIfInBounds_toArray, List.set_cons_zero, List.set_cons_succ, List.getElem_toArray, List.getElem_cons_succ, List.getElem_cons_zero]
                    refine wpAnyH_take (i := 12) (v := undef) rfl (by kernel_rfl) (by kernel_rfl) (by kernel_rfl) (fun _ _ _ h => h) (Or.inr ⟨by kernel_rfl, rfl⟩) (by assumption) ?_
                    simp only [Act.put, List.setIfInBounds_toArray, List.set_cons_zero, List.set_cons_succ, List.getElem_toArray, List.getElem_cons_succ, List.getElem_cons_zero]
                    refine wpAnyH_take (i := 13) (v := undef) rfl (by kernel_rfl) (by kernel_rfl) (by kernel_rfl) (fun _ _ _ h => h) (Or.inr ⟨by kernel_rfl, rfl⟩) (by assumption) ?_
                    simp only [Act.put, List.setIfInBounds_toArray, List.set_cons_zero, List.set_cons_succ, List.getElem_toArray, List.getElem_cons_succ, List.getElem_cons_zero]
                    refine wpAnyH_take (i := 14) (v := ?_) rfl (by kernel_rfl) (by kernel_rfl) (by kernel_rfl) (fun _ _ _ h => h) (Or.inl ⟨by kernel_rfl, ?_⟩) (by assumption) ?_
                    rotate_left
                    · intro W hSW; obtain ⟨hS1, _⟩ := hSW; go_simp; first | done | rfl
                    simp only [Act.put, List.setIfInBounds_toArray, List.set_cons_zero, List.set_cons_succ, List.getElem_toArray, List.getElem_cons_succ, List.getElem_cons_zero]
                    refine wpAnyH_done (by kernel_rfl) ?_ _
                    have HZ := hide (hby.trans (hB9.mono hszy))
                    clear hB9 hb9 qa qb y0 hS0
                    go_wp2
                    go_roundw
                    case rel => exact ⟨b + 1, by omega, by go_num, unhide HZ⟩
                    case measure => simp [intOf]; omega
                · go_wp2
                  go_roundw
                  case rel => exact ⟨a + 1, by omega, by go_num, hby⟩
                  case measure => simp [intOf]; omega
            · go_wp2
              go_ret
              exact ⟨rfl, (unhide HBE).trans (hbz.mono hwq)⟩

set_option maxRecDepth 100000 in
theorem lifted (os : Os) (started : os.Started) (H : Type) (enc : TypeId × Value → H) :
    ReturnsInHanded {} Tryd.checked os 6 .any (fun w args => (Rows.graphPartsSpec.pre enc Tryd.prog Tryd.f6 [] false w args ∧ laidMetH Tryd.prog laidIn w) ∧ sizedMet enc Tryd.prog Tryd.f6 (OpenSpec.ofChange Rows.graphPartsSpec) false w args)
      (Rows.graphPartsSpec.post enc Tryd.prog Tryd.f6 false true false false) := by
  refine returnsInHanded_of_change_and (C := Tryd.checked) (X := fun w _ => laidMetH Tryd.prog laidIn w) (fun _ _ _ hh h => h.of_heap hh) own started (by kernel_rfl) Tryd.func6
    (ChangeSpec.witness_shaped (enc := enc) (C := Tryd.checked) (os := os) (X := fun w _ => laidMetH Tryd.prog laidIn w) false (World.doorLaid Tryd.prog doorN os) #[.int .i64 0, .slice none 0 0] 8 rfl (World.shaped_of_RefB (by kernel_rfl) (by kernel_rfl)) (by kernel_rfl) (by kernel_rfl) (by kernel_rfl) (door_met os _)) ?_
  intro W base args ds gs before hval0 hW _ _ hL _
  have hval : ∀ (j : Nat) t v, Tryd.f6.params[j]? = some t → args[j]? = some v → Value.okWide Tryd.prog W .any base t v := hval0
  have hW' := hW
  obtain ⟨p, q, hA0, hV, rfl, hfz, hnd⟩ := hW
  have hA : DataW.TrodAll enc Tryd.prog W 0 (fun _ => true) true Tryd.f6.params.toList args.toList ds p := hA0
  rw [Tryd.params6] at hA hval
  obtain ⟨v0, vs0, d0, ds0, p0, q0, hargs, rfl, rfl, h0, r0⟩ := trodAll_cons hA
  obtain ⟨v1, vs1, d1, ds1, p1, q1, rfl, rfl, rfl, h1, r1⟩ := trodAll_cons r0
  obtain ⟨rfl, rfl, rfl⟩ := trodAll_nil r1
  obtain rfl : args = #[v0, v1] := by cases args; simp_all
  obtain ⟨rfl, rfl⟩ := trodVars_none hV
  obtain ⟨l0, i0, m0⟩ := read_int h0 (hval 0 3 v0 rfl rfl)
  have lt0 : ∀ x ∈ p0, x.block < W.heap.size := by obtain ⟨m, hm⟩ := h0; exact DataW.trod_lt m _ _ _ hm
  obtain ⟨l1, i1, m1⟩ := read_tups h1 (okWide_slice Tryd.underlying33 (hval 1 33 v1 rfl rfl))
  have lt1 : ∀ x ∈ p1, x.block < W.heap.size := by obtain ⟨m, hm⟩ := h1; exact DataW.trod_lt m _ _ _ hm
  clear hA0 hval0
  refine (walk (tabs_of hL) i0 m0 i1 m1).mono fun e W' ⟨he, bel⟩ => ?_
  subst he
  exact ⟨_, rfl, _, _, _, [], _, [], hW', trodAll_mk1 (shut_bool Tryd.underlying4 _), (trodAll_cons_mk (Below.trod laidOut (by kernel_rfl) (of_decide_eq_true (by kernel_rfl)) h0 bel lt0) (trodAll_cons_mk (Below.trod laidOut (by kernel_rfl) (of_decide_eq_true (by kernel_rfl)) h1 bel lt1) trodAll_mk0)), rfl, bel.frame _, fun h => by cases h⟩

theorem over : Rows.graphPartsRow.holds Tryd.pinned (OpenSpec.ofChange Rows.graphPartsSpec) :=
  OpenClaim.holds_of_wide 6 Tryd.f6 rfl rfl rfl rfl rfl rfl rfl ⟨rfl, rfl, rfl, rfl, rfl⟩ rfl rfl rfl rfl rfl (by kernel_rfl) Tryd.func6 (by kernel_rfl)
    (of_decide_eq_true (by kernel_rfl)) (by unfold Func.isWrapper; first | (rw [if_pos (by decide +kernel)]; kernel_rfl) | (rw [if_neg (by decide +kernel)]; exact ⟨rfl, rfl⟩))
    (fun os started H enc _ => lifted os started H enc)

/-- The statement: the tied card. -/
theorem proved : Rows.GraphPartsCardSaid :=
  Claim7.holds_tied_plain_at .later [] [.data] true (true, "157dde362406d82824f5618f866d1cc9b7096a3b3657dcbd1ee63959cb86c8c6") false
    over (fun _ h => by cases h) (by kernel_rfl) (fun _ h => by cases h) graphParts_row_tie rfl ⟨rfl, rfl⟩ (by kernel_rfl) rfl
    (fun f fn hf hfn => by
      obtain rfl : f = 6 := Option.some.inj ((show Tryd.prog.funcNamed "arborist/arboristlaw08.GraphParts" = some 6 by kernel_rfl).symm.trans hf) |>.symm
      obtain rfl : fn = Tryd.f6 := (Option.some.inj (Tryd.func6.symm.trans hfn)).symm
      exact ⟨by kernel_rfl, fun j t ht => by
        rw [Tryd.params6] at ht
        have hm : t ∈ [3, 33] := by simpa using Array.mem_of_getElem? ht
        have hall : ([3, 33].all fun u => !Tryd.prog.wantsStandIn u) = true := by kernel_rfl
        exact (show Tryd.prog.wantsStandIn t = false by simpa using List.all_eq_true.1 hall t hm)⟩)
    (by kernel_rfl)

end Go.Proofs.YtmhaaogjldnceaaDoor.graphParts
