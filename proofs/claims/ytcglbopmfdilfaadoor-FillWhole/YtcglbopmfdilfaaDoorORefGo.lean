/-
  The contract of the document's Go.
-/
import Derived.Test.YtcglbopmfdilfaaDoorOMatC
namespace Go.Proofs.YtcglbopmfdilfaaDoor
open Go.RowKit
set_option linter.unusedVariables false
set_option linter.unusedSimpArgs false
set_option maxRecDepth 20000

/-- The blocks of the rows. -/
abbrev RowX (bs : List (Nat × Nat)) : Nat → Prop := fun b => ∃ p ∈ bs, p.1 = b
theorem keeps_set {bs : List (Nat × Nat)} {r : Nat × Nat} (hr : r ∈ bs) (w : World) (i : Nat) (v : Value) : Keeps (RowX bs) w (w.setCell ⟨r.1, i, none⟩ v) :=
  Keeps.grown (grown_setG w r.1 i v) (fun b e => ⟨r, hr, by injection e⟩)
theorem Keeps.drew {X : Nat → Prop} {a b : World} (h : Keeps X a b) : Keeps X a b.drew := ⟨h.os, h.tape, h.output, h.size, h.block⟩

theorem Seq.set_off {α : Type} {enc : α → Value} {w : World} {u : Value} {l : List α} (h : Seq enc w u l) {r i : Nat} (hs : u.ownBlock ≠ some r) (y : Value) : Seq enc (w.setCell ⟨r, i, none⟩ y) u l := h.setCell (fun _ => hs) y

set_option maxHeartbeats 4000000 in
theorem refGo_any {B : Nat} {M : List (List Bool)} {bs : List (Nat × Nat)} {v : Value} {a : Nat} {w : World} (hM : MatC B w v M.length M bs) (hm : MatOk M) (hl : M.length ≤ 40) (ha : a < M.length) (hB : B ≤ w.heap.size) :
    Calls Tryd.prog 36 #[v, .int .i64 (a : Int)] w fun e w' => ∃ M', e = .returned (.tuple #[]) ∧ MatC B w' v M.length M' bs ∧ GoOk M M' a ∧ Keeps (RowX bs) w w' := by
  have HN := hide (refNbC_any (a := (a : Int)) hM hl)
  have HGO := hide (fun M1 M2 => GoOk.of (M1 := M1) (M2 := M2) hm ha)
  have HNM := hide (fun (i : Nat) (hi : i < (nbL (graphR M) (a : Int)).length) => (show ∃ j : Nat, j < M.length ∧ (nbL (graphR M) (a : Int))[i] = (j : Int) from by
    obtain ⟨_, j, h1, _, h2⟩ := mem_nbL.1 (List.getElem_mem hi)
    rw [graphR_len] at h1
    exact ⟨j, h1, h2⟩))
  have HLN := nbL_len (graphR M) (a : Int)
  rw [graphR_len] at HLN
  have HST := hide (JoinTo.start (L := nbL (graphR M) (a : Int)) hm.wide)
  have HW := hide hm.wide
  have hlt := fun (b : Nat × Nat) (hb : b ∈ bs) => (hM.lt hb).2
  obtain ⟨av, cv, rfl, hvl, hvm⟩ := hM.form
  unfold maxLen at hvm
  have HMM := hide hM
  generalize nbL (graphR M) (a : Int) = L at *
  obtain ⟨n, hn⟩ : ∃ n, n = M.length := ⟨_, rfl⟩
  have hMn : M.length = n := hn.symm
  rw [hMn] at hl ha hvl HNM HLN HW HMM ⊢
  have HMN := hide hMn
  clear hM hm hn hMn
  go_enter Tryd.func36, Tryd.ntmps36
  go_wp2_with fail
  rw [unhide HMN] at HN
  refine (unhide HN).mono ?_
  rintro e w1 ⟨u, rfl, hu, hb1⟩
  have hus : ∀ r ∈ bs, u.ownBlock ≠ some r.1 := fun r hr e => by have := (hu.lt r.1 e).1; have := hlt r hr; omega
  obtain ⟨al, cl, rfl, hll, hlm⟩ := (Seq.of_own hu).form
  unfold maxLen at hlm
  have HU := hide (Seq.of_own hu)
  have HM1 := hide ((unhide HMM).below hb1)
  have HB1 := hide (Keeps.belowW (X := RowX bs) hb1)
  clear hb1 hu HN HMM
  go_wp2
  go_loopw [5] (fun i wr => ∃ (k : Nat) (M1 : List (List Bool)), k ≤ L.length ∧ i = .int .i64 k ∧ MatC B wr (.slice av n cv) n M1 bs ∧ Hid (JoinTo M M1 L k 0) ∧ Ints wr (.slice al L.length cl) L ∧ Keeps (RowX bs) w wr) (fun i _ => L.length - (intOf i).toNat)
  case atStart => exact ⟨0, M, by omega, rfl, unhide HM1, HST, unhide HU, unhide HB1⟩
  case round =>
    clear HU HM1 HB1 HST
    obtain ⟨k, M1, hk, rfl, hown, HJ, hu, hbel⟩ := hrel
    rename World => wr
    by_cases hkl : k < L.length
    · have HO := hide hown
      have HUU := hide hu
      have HBE := hide hbel
      clear hown hu hbel
      go_wp2
      go_loopw [6] (fun j wq => ∃ (q : Nat) (M2 : List (List Bool)), q ≤ L.length ∧ j = .int .i64 q ∧ MatC B wq (.slice av n cv) n M2 bs ∧ Hid (JoinTo M M2 L k q) ∧ Ints wq (.slice al L.length cl) L ∧ Keeps (RowX bs) w wq) (fun j _ => L.length - (intOf j).toNat)
      case atStart => exact ⟨0, M1, by omega, rfl, unhide HO, HJ, unhide HUU, unhide HBE⟩
      case round =>
        clear HO HUU HBE HJ
        obtain ⟨q, M2, hq, rfl, hown, HJ, hu, hbel⟩ := hrel
        rename World => wq
        by_cases hql : q < L.length
        · by_cases hkq : k = q
          · subst hkq
            have HJ2 := hide (unhide HJ).skip
            have HF := hide (And.intro hown (And.intro hu hbel))
            have hne : ((k : Int) != (k : Int)) = false := by simp
            clear hown hu hbel HJ
            go_wp2
            go_roundw
            case rel => exact ⟨k + 1, M2, by omega, by go_num, (unhide HF).1, HJ2, (unhide HF).2.1, (unhide HF).2.2⟩
            case measure => simp [intOf]; omega
          · have hne : ((k : Int) != (q : Int)) = true := by simp; omega
            obtain ⟨x, hx, hLx⟩ := unhide HNM k hkl
            obtain ⟨y, hy, hLy⟩ := unhide HNM q hql
            have hM2l : M2.length = n := by rw [(unhide HJ).1, unhide HMN]
            have HJ2 := hide ((unhide HJ).put hkl hql hkq hLx hLy (by rw [unhide HMN]; exact hx) (by rw [unhide HMN]; exact hy))
            obtain ⟨bl, ol, e1, q1⟩ := hu.at hkl
            subst e1
            obtain ⟨_, _, e1, q2⟩ := hu.at hql
            cases e1
            rw [hLx] at q1
            rw [hLy] at q2
            obtain ⟨bv, ov, r, e2, c1, c2, c3⟩ := hown.at (i := x) (k := y) (by omega) hy
            subst e2
            obtain ⟨⟨u1, d1⟩, f1, hown2, hb2⟩ := hown.setv (i := x) (k := y) (by omega) hy c3 true
            have hrb : r ∈ bs := List.mem_of_getElem? c3
            have hu2 := hu.set_off (i := y) (hus r hrb) (.bool true)
            have HF := hide (And.intro hown2 (And.intro hu2 (hbel.then (keeps_set hrb _ y (.bool true)))))
            have hxI : (x : Int) < (n : Int) := by omega
            have hyI : (y : Int) < (n : Int) := by omega
            clear hown hown2 hb2 hu hu2 hbel c2 HJ hM2l
            go_wp2
            refine wp_region_till (st := 12) (S := fun U => U.cell? ⟨bl, ol + k, none⟩ = some (.int .i64 (x : Int)) ∧ U.cell? ⟨bl, ol + q, none⟩ = some (.int .i64 (y : Int)) ∧ U.cell? ⟨bv, ov + x, none⟩ = some (rowC n r)) (by kernel_rfl) ?_
            have hS0 : wq.drew.cell? ⟨bl, ol + k, none⟩ = some (.int .i64 (x : Int)) ∧ wq.drew.cell? ⟨bl, ol + q, none⟩ = some (.int .i64 (y : Int)) ∧ wq.drew.cell? ⟨bv, ov + x, none⟩ = some (rowC n r) := ⟨q1, q2, c1⟩
            refine till_take (i := 0) (v := ?_) rfl (by kernel_rfl) (by kernel_rfl) (by kernel_rfl) (by kernel_rfl) (fun _ _ _ h => h) (Or.inl ⟨by kernel_rfl, ?_⟩) (by assumption) ?_
            rotate_left
            · intro W hSW; obtain ⟨hS1, hS2, hS3⟩ := hSW; go_simp; first | done | rfl
            simp only [Act.put, List.setIfInBounds_toArray, List.set_cons_zero, List.set_cons_succ]
            refine till_take (i := 1) (v := ?_) rfl (by kernel_rfl) (by kernel_rfl) (by kernel_rfl) (by kernel_rfl) (fun _ _ _ h => h) (Or.inl ⟨by kernel_rfl, ?_⟩) (by assumption) ?_
            rotate_left
            · intro W hSW; obtain ⟨hS1, hS2, hS3⟩ := hSW; go_simp; first | done | rfl
            simp only [Act.put, List.setIfInBounds_toArray, List.set_cons_zero, List.set_cons_succ]
            refine till_take (i := 2) (v := ?_) rfl (by kernel_rfl) (by kernel_rfl) (by kernel_rfl) (by kernel_rfl) (fun _ _ _ h => h) (Or.inl ⟨by kernel_rfl, ?_⟩) (by assumption) ?_
            rotate_left
            · intro W hSW; obtain ⟨hS1, hS2, hS3⟩ := hSW; go_simp; first | done | rfl
            simp only [Act.put, List.setIfInBounds_toArray, List.set_cons_zero, List.set_cons_succ]
            refine till_take (i := 3) (v := ?_) rfl (by kernel_rfl) (by kernel_rfl) (by kernel_rfl) (by kernel_rfl) (fun _ _ _ h => h) (Or.inl ⟨by kernel_rfl, ?_⟩) (by assumption) ?_
            rotate_left
            · intro W hSW; obtain ⟨hS1, hS2, hS3⟩ := hSW; go_simp; first | done | rfl
            simp only [Act.put, List.setIfInBounds_toArray, List.set_cons_zero, List.set_cons_succ]
            refine till_take (i := 4) (v := ?_) rfl (by kernel_rfl) (by kernel_rfl) (by kernel_rfl) (by kernel_rfl) (fun _ _ _ h => h) (Or.inl ⟨by kernel_rfl, ?_⟩) (by assumption) ?_
            rotate_left
            · intro W hSW; obtain ⟨hS1, hS2, hS3⟩ := hSW; go_simp; first | done | rfl
            simp only [Act.put, List.setIfInBounds_toArray, List.set_cons_zero, List.set_cons_succ]
            refine till_take (i := 5) (v := ?_) rfl (by kernel_rfl) (by kernel_rfl) (by kernel_rfl) (by kernel_rfl) (fun _ _ _ h => h) (Or.inl ⟨by kernel_rfl, ?_⟩) (by assumption) ?_
            rotate_left
            · intro W hSW; obtain ⟨hS1, hS2, hS3⟩ := hSW; go_simp; first | done | rfl
            simp only [Act.put, List.setIfInBounds_toArray, List.set_cons_zero, List.set_cons_succ]
            refine till_take (i := 6) (v := ?_) rfl (by kernel_rfl) (by kernel_rfl) (by kernel_rfl) (by kernel_rfl) (fun _ _ _ h => h) (Or.inl ⟨by kernel_rfl, ?_⟩) (by assumption) ?_
            rotate_left
            · intro W hSW; obtain ⟨hS1, hS2, hS3⟩ := hSW; go_simp; first | done | rfl
            simp only [Act.put, List.setIfInBounds_toArray, List.set_cons_zero, List.set_cons_succ]
            refine till_take (i := 7) (v := ?_) rfl (by kernel_rfl) (by kernel_rfl) (by kernel_rfl) (by kernel_rfl) (fun _ _ _ h => h) (Or.inl ⟨by kernel_rfl, ?_⟩) (by assumption) ?_
            rotate_left
            · intro W hSW; obtain ⟨hS1, hS2, hS3⟩ := hSW; go_simp; first | done | rfl
            simp only [Act.put, List.setIfInBounds_toArray, List.set_cons_zero, List.set_cons_succ]
            refine till_take (i := 8) (v := ?_) rfl (by kernel_rfl) (by kernel_rfl) (by kernel_rfl) (by kernel_rfl) (fun _ _ _ h => h) (Or.inl ⟨by kernel_rfl, ?_⟩) (by assumption) ?_
            rotate_left
            · intro W hSW; obtain ⟨hS1, hS2, hS3⟩ := hSW; go_simp; first | done | rfl
            simp only [Act.put, List.setIfInBounds_toArray, List.set_cons_zero, List.set_cons_succ]
            refine till_take (i := 9) (v := ?_) rfl (by kernel_rfl) (by kernel_rfl) (by kernel_rfl) (by kernel_rfl) (fun _ _ _ h => h) (Or.inl ⟨by kernel_rfl, ?_⟩) (by assumption) ?_
            rotate_left
            · intro W hSW; obtain ⟨hS1, hS2, hS3⟩ := hSW; go_simp; first | done | rfl
            simp only [Act.put, List.setIfInBounds_toArray, List.set_cons_zero, List.set_cons_succ]
            refine till_take (i := 10) (v := ?_) rfl (by kernel_rfl) (by kernel_rfl) (by kernel_rfl) (by kernel_rfl) (fun _ _ _ h => h) (Or.inl ⟨by kernel_rfl, ?_⟩) (by assumption) ?_
            rotate_left
            · intro W hSW; obtain ⟨hS1, hS2, hS3⟩ := hSW; go_simp; first | done | rfl
            simp only [Act.put, List.setIfInBounds_toArray, List.set_cons_zero, List.set_cons_succ]
            refine till_take (i := 11) (v := ?_) rfl (by kernel_rfl) (by kernel_rfl) (by kernel_rfl) (by kernel_rfl) (fun _ _ _ h => h) (Or.inl ⟨by kernel_rfl, ?_⟩) (by assumption) ?_
            rotate_left
            · intro W hSW; obtain ⟨hS1, hS2, hS3⟩ := hSW; go_simp; first | done | rfl
            simp only [Act.put, List.setIfInBounds_toArray, List.set_cons_zero, List.set_cons_succ]
            refine till_last (by kernel_rfl) rfl rfl (by kernel_rfl) (fun K hK => ?_)
            go_simp
            refine hK.out _ _ ?_
            clear hK K d1 f1 q1 q2 c1 hS0
            try simp only [Act.put, List.setIfInBounds_toArray, List.set_cons_zero, List.set_cons_succ]
            obtain ⟨W5, hW5⟩ : ∃ W, W = (wq.setCell ⟨r.1, y, none⟩ (.bool true)).drew := ⟨_, rfl⟩
            have HF2 := hide (show MatC B W5 (.slice (some ⟨bv, ov, none⟩) n cv) n (setMv M2 x y true) bs ∧ Ints W5 (.slice (some ⟨bl, ol, none⟩) L.length cl) L ∧ Keeps (RowX bs) w W5 from by
              rw [hW5]
              have h := unhide HF
              exact ⟨⟨h.1.len, h.1.outer, h.1.rows, h.1.wide, h.1.nod, h.1.apart⟩, h.2.1, h.2.2.drew⟩)
            rw [← hW5]
            clear hW5 HF
            go_wp2
            go_roundw
            case rel => exact ⟨q + 1, _, by omega, by go_num, (unhide HF2).1, HJ2, (unhide HF2).2.1, (unhide HF2).2.2⟩
            case measure => simp [intOf]; omega
        · obtain rfl : q = L.length := by omega
          have HJ2 := hide (unhide HJ).row
          have HF := hide (And.intro hown (And.intro hu hbel))
          clear hown hu hbel HJ
          go_wp2
          go_roundw
          case rel => exact ⟨k + 1, M2, by omega, by go_num, (unhide HF).1, HJ2, (unhide HF).2.1, (unhide HF).2.2⟩
          case measure => simp [intOf]; omega
    · obtain rfl : k = L.length := by omega
      have hM1l : M1.length = n := by rw [(unhide HJ).1, unhide HMN]
      have HCS := hide (CutTo.start (L := L) (a := a) (show ∀ r ∈ M1, r.length = M1.length from by rw [hM1l, ← unhide HMN]; exact (unhide HJ).2.1))
      have HM1L := hide hM1l
      have HO := hide hown
      have HUU := hide hu
      have HBE := hide hbel
      clear hown hu hbel hM1l
      go_wp2
      go_loopw [7] (fun j wq => ∃ (q : Nat) (M2 : List (List Bool)), q ≤ L.length ∧ j = .int .i64 q ∧ MatC B wq (.slice av n cv) n M2 bs ∧ Hid (CutTo M1 M2 L a q) ∧ Ints wq (.slice al L.length cl) L ∧ Keeps (RowX bs) w wq) (fun j _ => L.length - (intOf j).toNat)
      case atStart => exact ⟨0, M1, by omega, rfl, unhide HO, HCS, unhide HUU, unhide HBE⟩
      case round =>
        clear HO HUU HBE HCS
        obtain ⟨q, M2, hq, rfl, hown, HC, hu, hbel⟩ := hrel
        rename World => wq
        by_cases hql : q < L.length
        · obtain ⟨y, hy, hLy⟩ := unhide HNM q hql
          have hM2l : M2.length = n := by rw [(unhide HC).1, unhide HM1L]
          have HC2 := hide ((unhide HC).put hql hLy (by rw [unhide HM1L]; exact ha) (by rw [unhide HM1L]; exact hy))
          obtain ⟨bl, ol, e1, q1⟩ := hu.at hql
          subst e1
          rw [hLy] at q1
          obtain ⟨bv, ov, r, e2, c1, c2, c3⟩ := hown.at (i := a) (k := y) (by omega) hy
          subst e2
          obtain ⟨⟨u1, d1⟩, f1, hown2, hb2⟩ := hown.setv (i := a) (k := y) (by omega) hy c3 false
          have hrb : r ∈ bs := List.mem_of_getElem? c3
          have hu2 := hu.set_off (i := y) (hus r hrb) (.bool false)
          obtain ⟨W5, hW5⟩ : ∃ W, W = (wq.setCell ⟨r.1, y, none⟩ (.bool false)).drew := ⟨_, rfl⟩
          have hown5 : MatC B W5 (.slice (some ⟨bv, ov, none⟩) n cv) n (setMv M2 a y false) bs := by
            rw [hW5]
            exact ⟨hown2.len, hown2.outer, hown2.rows, hown2.wide, hown2.nod, hown2.apart⟩
          have hu5 : Ints W5 (.slice (some ⟨bl, ol, none⟩) L.length cl) L := by rw [hW5]; exact hu2
          have hbel5 : Keeps (RowX bs) w W5 := by
            rw [hW5]
            exact (hbel.then (keeps_set hrb _ _ _)).drew
          have hl5 : (setMv M2 a y false).length = n := by rw [setMv_len]; exact hM2l
          obtain ⟨_, _, e1, q5⟩ := hu5.at hql
          cases e1
          rw [hLy] at q5
          obtain ⟨_, _, r2, e3, c5, c6, c7⟩ := hown5.at (i := y) (k := a) (by omega) ha
          cases e3
          obtain ⟨⟨u2, d5⟩, f5, hown6, hb6⟩ := hown5.setv (i := y) (k := a) (by omega) ha c7 false
          have hrb2 : r2 ∈ bs := List.mem_of_getElem? c7
          have hu6 := hu5.set_off (i := a) (hus r2 hrb2) (.bool false)
          have HF := hide (And.intro hown6 (And.intro hu6 (hbel5.then (keeps_set hrb2 _ a (.bool false)))))
          have hyI : (y : Int) < (n : Int) := by omega
          have haI : (a : Int) < (n : Int) := by omega
          have HW5 := hide hW5
          have HQ := hide (And.intro q5 (And.intro c5 (And.intro d5 f5)))
          clear hown hown2 hb2 hu hu2 hbel c2 HC hM2l hown5 hu5 hbel5 hl5 c6 hown6 hb6 hu6 hW5 q5 c5 d5 f5
          go_wp2
          refine wp_region_till (st := 9) (S := fun U => U.cell? ⟨bl, ol + q, none⟩ = some (.int .i64 (y : Int)) ∧ U.cell? ⟨bv, ov + a, none⟩ = some (rowC n r)) (by kernel_rfl) ?_
          have hS0 : wq.drew.cell? ⟨bl, ol + q, none⟩ = some (.int .i64 (y : Int)) ∧ wq.drew.cell? ⟨bv, ov + a, none⟩ = some (rowC n r) := ⟨q1, c1⟩
          refine till_take (i := 0) (v := ?_) rfl (by kernel_rfl) (by kernel_rfl) (by kernel_rfl) (by kernel_rfl) (fun _ _ _ h => h) (Or.inl ⟨by kernel_rfl, ?_⟩) (by assumption) ?_
          rotate_left
          · intro W hSW; obtain ⟨hS1, hS2⟩ := hSW; go_simp; first | done | rfl
          simp only [Act.put, List.setIfInBounds_toArray, List.set_cons_zero, List.set_cons_succ]
          refine till_take (i := 1) (v := ?_) rfl (by kernel_rfl) (by kernel_rfl) (by kernel_rfl) (by kernel_rfl) (fun _ _ _ h => h) (Or.inl ⟨by kernel_rfl, ?_⟩) (by assumption) ?_
          rotate_left
          · intro W hSW; obtain ⟨hS1, hS2⟩ := hSW; go_simp; first | done | rfl
          simp only [Act.put, List.setIfInBounds_toArray, List.set_cons_zero, List.set_cons_succ]
          refine till_take (i := 2) (v := ?_) rfl (by kernel_rfl) (by kernel_rfl) (by kernel_rfl) (by kernel_rfl) (fun _ _ _ h => h) (Or.inl ⟨by kernel_rfl, ?_⟩) (by assumption) ?_
          rotate_left
          · intro W hSW; obtain ⟨hS1, hS2⟩ := hSW; go_simp; first | done | rfl
          simp only [Act.put, List.setIfInBounds_toArray, List.set_cons_zero, List.set_cons_succ]
          refine till_take (i := 3) (v := ?_) rfl (by kernel_rfl) (by kernel_rfl) (by kernel_rfl) (by kernel_rfl) (fun _ _ _ h => h) (Or.inl ⟨by kernel_rfl, ?_⟩) (by assumption) ?_
          rotate_left
          · intro W hSW; obtain ⟨hS1, hS2⟩ := hSW; go_simp; first | done | rfl
          simp only [Act.put, List.setIfInBounds_toArray, List.set_cons_zero, List.set_cons_succ]
          refine till_take (i := 4) (v := ?_) rfl (by kernel_rfl) (by kernel_rfl) (by kernel_rfl) (by kernel_rfl) (fun _ _ _ h => h) (Or.inl ⟨by kernel_rfl, ?_⟩) (by assumption) ?_
          rotate_left
          · intro W hSW; obtain ⟨hS1, hS2⟩ := hSW; go_simp; first | done | rfl
          simp only [Act.put, List.setIfInBounds_toArray, List.set_cons_zero, List.set_cons_succ]
          refine till_take (i := 5) (v := ?_) rfl (by kernel_rfl) (by kernel_rfl) (by kernel_rfl) (by kernel_rfl) (fun _ _ _ h => h) (Or.inl ⟨by kernel_rfl, ?_⟩) (by assumption) ?_
          rotate_left
          · intro W hSW; obtain ⟨hS1, hS2⟩ := hSW; go_simp; first | done | rfl
          simp only [Act.put, List.setIfInBounds_toArray, List.set_cons_zero, List.set_cons_succ]
          refine till_take (i := 6) (v := ?_) rfl (by kernel_rfl) (by kernel_rfl) (by kernel_rfl) (by kernel_rfl) (fun _ _ _ h => h) (Or.inl ⟨by kernel_rfl, ?_⟩) (by assumption) ?_
          rotate_left
          · intro W hSW; obtain ⟨hS1, hS2⟩ := hSW; go_simp; first | done | rfl
          simp only [Act.put, List.setIfInBounds_toArray, List.set_cons_zero, List.set_cons_succ]
          refine till_take (i := 7) (v := ?_) rfl (by kernel_rfl) (by kernel_rfl) (by kernel_rfl) (by kernel_rfl) (fun _ _ _ h => h) (Or.inl ⟨by kernel_rfl, ?_⟩) (by assumption) ?_
          rotate_left
          · intro W hSW; obtain ⟨hS1, hS2⟩ := hSW; go_simp; first | done | rfl
          simp only [Act.put, List.setIfInBounds_toArray, List.set_cons_zero, List.set_cons_succ]
          refine till_take (i := 8) (v := ?_) rfl (by kernel_rfl) (by kernel_rfl) (by kernel_rfl) (by kernel_rfl) (fun _ _ _ h => h) (Or.inl ⟨by kernel_rfl, ?_⟩) (by assumption) ?_
          rotate_left
          · intro W hSW; obtain ⟨hS1, hS2⟩ := hSW; go_simp; first | done | rfl
          simp only [Act.put, List.setIfInBounds_toArray, List.set_cons_zero, List.set_cons_succ]
          refine till_last (by kernel_rfl) rfl rfl (by kernel_rfl) (fun K hK => ?_)
          go_simp
          refine hK.out _ _ ?_
          clear hK K d1 f1 q1 c1 hS0
          try simp only [Act.put, List.setIfInBounds_toArray, List.set_cons_zero, List.set_cons_succ]
          rw [← unhide HW5]
          obtain ⟨q5, c5, d5, f5⟩ := unhide HQ
          clear HW5 HQ
          go_wp2
          go_roundw
          case rel => exact ⟨q + 1, _, by omega, by go_num, (unhide HF).1, HC2, (unhide HF).2.1, (unhide HF).2.2⟩
          case measure => simp [intOf]; omega
        · obtain rfl : q = L.length := by omega
          have HG := hide (unhide HGO M1 M2 (unhide HJ) (unhide HC))
          clear HJ HC
          go_wp2
          go_end0
          exact ⟨M2, rfl, hown, unhide HG, hbel⟩

end Go.Proofs.YtcglbopmfdilfaaDoor
