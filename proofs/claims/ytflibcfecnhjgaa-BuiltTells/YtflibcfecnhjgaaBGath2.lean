/-
  The contract of gather.
-/
import Derived.Test.YtflibcfecnhjgaaBGath
import Derived.Test.YtflibcfecnhjgaaRelUnit
namespace Go.Proofs.Ytflibcfecnhjgaa
open Go.RowKit
set_option linter.unusedVariables false
set_option linter.unusedSimpArgs false
set_option maxRecDepth 20000

def stepG (p : List Int → Bool) (s : List (List Int) × Nat) (t : List Int) : List (List Int) × Nat := (accR p s.1 t, s.2 + 1)
def contG (p : List Int → Bool) (most : Int) (s : List (List Int) × Nat) (t : List Int) : Bool := decide (((accR p s.1 t).length : Int) ≤ most)

theorem gather_math (p : List Int → Bool) (most : Int) : ∀ (R acc : List (List Int)) (c : Nat),
    ((((acc ++ R.filter p).length : Int) ≤ most → (goF (stepG p) (contG p most) R (acc, c)).1 = acc ++ R.filter p) ∧
     (most < ((acc ++ R.filter p).length : Int) → most < ((goF (stepG p) (contG p most) R (acc, c)).1.length : Int)))
  | [], acc, c => by simp [goF]
  | t :: R, acc, c => by
    have e : acc ++ (t :: R).filter p = accR p acc t ++ R.filter p := by
      unfold accR
      by_cases h : p t = true
      · simp [h]
      · simp [h]
    have hs : stepG p (acc, c) t = (accR p acc t, c + 1) := rfl
    have hc : contG p most (acc, c) t = decide (((accR p acc t).length : Int) ≤ most) := rfl
    rw [e]
    by_cases hl : ((accR p acc t).length : Int) ≤ most
    · rw [goF_more (by rw [hc]; simpa using hl), hs]
      exact gather_math p most R _ _
    · rw [goF_stop (by rw [hc]; simpa using hl), hs]
      refine ⟨fun h => ?_, fun _ => by simpa using hl⟩
      simp only [List.length_append] at h
      omega

def GathEnds (B0 : Nat) (w' : World) (e : Ending) (scope : List Int) (R : List (List Int)) (most : Int) : Prop :=
  ((R.length : Int) ≤ most ∧ ∃ vs vr, e = .returned (.tuple #[.agg #[vs, vr], .int .i64 0]) ∧ Ints w' vs scope ∧ Tups w' vr R ∧ ∀ g, vr.ownBlock = some g → B0 ≤ g) ∨
  (most < (R.length : Int) ∧ e = .returned (.tuple #[.agg #[.slice none 0 0, .slice none 0 0], .int .i64 9]))

/-- What holds while goThrough runs within gather. -/
def GInv (B : Nat) (w2 : World) (bv bl : Nat) (N : Nat) (W : World) (s : List (List Int) × Nat) : Prop :=
  Keeps (fun g => g = bv ∨ g = bl ∨ w2.heap.size ≤ g) w2 W ∧ w2.heap.size ≤ N ∧ s.1.length ≤ s.2 ∧
  ∃ v, W.cell? ⟨bv, 0, none⟩ = some v ∧ W.frozen? ⟨bv, 0, none⟩ = false ∧ OwnTN N B W v s.1 ∧ ∀ g, v.ownBlock = some g → g = bl ∨ N ≤ g

theorem GInv.set {B : Nat} {w2 : World} {bv bl N : Nat} {W W' : World} {s : List (List Int) × Nat} {g : Nat} (hv : bv < w2.heap.size) (hl : bl < w2.heap.size) (h : GInv B w2 bv bl N W s) (hg : W.grownBy W' (some g)) (h1 : w2.heap.size ≤ g) (h2 : g < N) : GInv B w2 bv bl N W' s := by
  obtain ⟨k1, k2, k3, v, k4, k5, k6, k7⟩ := h
  refine ⟨k1.then (Keeps.grown hg (fun b e => by injection e with e; subst e; exact .inr (.inr h1))), k2, k3, v, hg.cell k4 (by intro e; injection e with e; have e' : bv = g := e; omega), ?_, k6.kept hg (by intro b e; cases e; exact h2) (Or.inr (by intro e; have := k7 g e; omega)), k7⟩
  rw [World.frozen?_of_block (hg.block bv (cell_lt k4) (by intro e; cases e; omega))]; exact k5

set_option maxHeartbeats 4000000 in
theorem gather_any {F : FuncId} {caps : Array Value} {p : List Int → Bool} {most : Int} {doms : List (List Int)} {scope : List Int} {vd vs : Value} {w : World} {R : List (List Int)} (hd : Tups w vd doms) (hs : Ints w vs scope) (hin : ∀ x ∈ scope, 0 ≤ x ∧ x < (doms.length : Int)) (hlen : scope.length < 100000)
    (hcnt : (fullL (scope.map (domL doms))).length < 1000000000) (hdl : ∀ d ∈ doms, d.length < 1000000000) (hEN : ∀ args w, (callFunc F args).run Try.prog w = .ok (.enter F args) w)
    (hW : ∀ W t vt, Below w.heap.size w W → Ints W vt t → t ∈ fullL (scope.map (domL doms)) → Calls Try.prog F (#[vt] ++ caps) W fun e w' => e = .returned (.bool (p t)) ∧ Below W.heap.size W w')
    (hR : R = (fullL (scope.map (domL doms))).filter p) :
    Calls Try.prog 27 #[vd, vs, .int .i64 most, .func (.func F) #[] caps] w fun e w' => GathEnds w.heap.size w' e scope R most ∧ Below w.heap.size w w' := by
  obtain ⟨a, ca, rfl, hla, hca⟩ := hd.form
  obtain ⟨b, cb, rfl, hlb, hcb⟩ := hs.form
  unfold maxLen at hca hcb
  obtain ⟨FL, hFL⟩ : ∃ F, F = fullL (scope.map (domL doms)) := ⟨_, rfl⟩
  rw [← hFL] at hcnt hR
  simp only [← hFL] at hW
  have hch := hide (fun W (hb : Below w.heap.size w W) => choices_any hd hb (hs.below hb) hin hlen)
  have hS := hide hs
  have HW := hide hW
  have HFL := hide hFL
  have HR := hide hR
  have HDL := hide hdl
  have HCN := hide hcnt
  clear hd hs hin hW hFL hR hdl hcnt
  go_enter Try.func27, Try.ntmps27
  go_wp2_with fail
  obtain ⟨w1, hw1⟩ : ∃ W, W = (((((w.alloc (.cells #[.int .i64 most] 3)).alloc (.cells #[.func (.func F) #[] caps] 53)).alloc (.cells #[.slice none 0 0, .slice none 0 0] 36)).alloc (.cells #[] 29)).alloc (.cells #[.slice (some ⟨w.heap.size + 1 + 1 + 1, 0, none⟩) 0 0] 22)) := ⟨_, rfl⟩
  have m0 : w1.heap[w.heap.size]? = some (.cells #[.int .i64 most] 3) := by rw [hw1]; simp only [alloc_at, World.size_alloc]; repeat (first | rw [if_pos True.intro] | rw [if_pos rfl] | rw [if_neg (by omega)])
  have m1 : w1.heap[w.heap.size + 1]? = some (.cells #[.func (.func F) #[] caps] 53) := by rw [hw1]; simp only [alloc_at, World.size_alloc]; repeat (first | rw [if_pos True.intro] | rw [if_pos rfl] | rw [if_neg (by omega)])
  have m2 : w1.heap[w.heap.size + 1 + 1]? = some (.cells #[.slice none 0 0, .slice none 0 0] 36) := by rw [hw1]; simp only [alloc_at, World.size_alloc]; repeat (first | rw [if_pos True.intro] | rw [if_pos rfl] | rw [if_neg (by omega)])
  have m3 : w1.heap[w.heap.size + 1 + 1 + 1]? = some (.cells #[] 29) := by rw [hw1]; simp only [alloc_at, World.size_alloc]; repeat (first | rw [if_pos True.intro] | rw [if_pos rfl] | rw [if_neg (by omega)])
  have m4 : w1.heap[w.heap.size + 1 + 1 + 1 + 1]? = some (.cells #[.slice (some ⟨w.heap.size + 1 + 1 + 1, 0, none⟩) 0 0] 22) := by rw [hw1]; simp only [alloc_at, World.size_alloc]; repeat (first | rw [if_pos True.intro] | rw [if_pos rfl] | rw [if_neg (by omega)])
  have hbel1 : Below w.heap.size w w1 := by rw [hw1]; exact (((((Below.refl _ w).alloc (Nat.le_refl _) _).alloc (by simp) _).alloc (by simp; omega) _).alloc (by simp; omega) _).alloc (by simp; omega) _
  have hsz1 : w1.heap.size = w.heap.size + 5 := by rw [hw1]; simp
  rw [← hw1]
  clear hw1
  refine (unhide hch _ hbel1).mono ?_
  rintro e w2 ⟨vL, L, us, rfl, hownL, hul, hrd, hfl, hLl, hLd, hb2⟩
  have hs2 := hb2.size
  have hbel2 : Below w.heap.size w w2 := hbel1.trans (hb2.mono (by omega))
  -- the blocks
  obtain ⟨bm, hbm⟩ : ∃ k, k = w.heap.size := ⟨_, rfl⟩
  obtain ⟨bw, hbw⟩ : ∃ k, k = w.heap.size + 1 := ⟨_, rfl⟩
  obtain ⟨br, hbr⟩ : ∃ k, k = w.heap.size + 1 + 1 := ⟨_, rfl⟩
  obtain ⟨bl, hbl⟩ : ∃ k, k = w.heap.size + 1 + 1 + 1 := ⟨_, rfl⟩
  obtain ⟨bv, hbv⟩ : ∃ k, k = w.heap.size + 1 + 1 + 1 + 1 := ⟨_, rfl⟩
  rw [← hbm] at m0
  rw [← hbw] at m1
  rw [← hbr] at m2
  rw [← hbl] at m3
  rw [← hbv, ← hbl] at m4
  rw [← hbv, ← hbl, ← hbr, ← hbw, ← hbm]
  have hX : ∀ g, w2.heap.size ≤ g → (fun g => g = bv ∨ g = bl ∨ w2.heap.size ≤ g) g := fun g h => .inr (.inr h)
  have htx : TupsX (fun g => g = bv ∨ g = bl ∨ w2.heap.size ≤ g) w2 vL L := by
    refine ⟨us, Seq.of_own (enc := id) (by simpa using hownL), fun _ g hg hx => ?_, hul, fun i hi hi' => ⟨(hrd i hi hi').below hbel2, fun hne g hg hx => ?_⟩⟩
    · have := hownL.lt g hg
      rcases hx with h | h | h <;> omega
    · have := (hrd i hi hi').inheap hne g hg
      have := hbel2.size
      rcases hx with h | h | h <;> omega
  have c0 : ∀ W, Keeps (fun g => g = bv ∨ g = bl ∨ w2.heap.size ≤ g) w2 W → W.cell? ⟨bm, 0, none⟩ = some (.int .i64 most) ∧ W.cell? ⟨bw, 0, none⟩ = some (.func (.func F) #[] caps) ∧ W.heap[br]? = some (.cells #[.slice none 0 0, .slice none 0 0] 36) := fun W hk => by
    have hh : ∀ g, g < w1.heap.size → g ≠ bv → g ≠ bl → W.heap[g]? = w1.heap[g]? := fun g h1 h2 h3 => (hk.block g (by omega) (by rintro (h | h | h) <;> omega)).trans (hb2.block g h1)
    refine ⟨?_, ?_, ?_⟩
    · unfold World.cell?; rw [hh bm (by omega) (by omega) (by omega), m0]; rfl
    · unfold World.cell?; rw [hh bw (by omega) (by omega) (by omega), m1]; rfl
    · rw [hh br (by omega) (by omega) (by omega), m2]
  have hgo := goThrough_any (σ := List (List Int) × Nat) (G := 38) (c1 := .pointer (some ⟨bw, 0, none⟩)) (c2 := .pointer (some ⟨bv, 0, none⟩)) (c3 := .pointer (some ⟨bm, 0, none⟩)) _ hX htx hLl
    (fun l hl => by
      rcases hLd l hl with rfl | h
      · simp
      · exact unhide HDL l h) (GInv w.heap.size w2 bv bl) (stepG p) (contG p most) ([], 0) (fun s => s.2) (fun s t => rfl)
    (fun W hW => by
      have h4 : W.heap[bv]? = some (.cells #[.slice (some ⟨bl, 0, none⟩) 0 0] 22) := by rw [hW.block bv (by omega), hb2.block bv (by omega), m4]
      refine ⟨Keeps.belowW hW, hW.size, Nat.le_refl _, .slice (some ⟨bl, 0, none⟩) 0 0, by unfold World.cell?; rw [h4]; rfl, frozen_of_row _ _ _ _ _ h4, OwnTN.nilE ⟨by simp, .inr ⟨bl, 0, #[], rfl, by omega, by rw [hW.block bl (by omega), hb2.block bl (by omega), m3], by simp, by simp [maxLen], by simp, by simp⟩⟩, fun g hg => ?_⟩
      left
      have hg' : some bl = some g := hg
      injection hg' with hg'
      exact hg'.symm)
    (fun N W s h => h.1) (fun N W W' s g h hg h1 h2 => h.set (by omega) (by omega) hg h1 h2)
    (fun args W => enters Try.func38 (by kernel_rfl) rfl args W)
    (fun N W s t vt h hc ht hN hvt htl hvb => by
      obtain ⟨k1, k2, k3, v, k4, k5, k6, k7⟩ := h
      have hb : Below w.heap.size w W := hbel2.trans (k1.to (B := w.heap.size) (fun g hg => by rcases hg with h | h | h <;> omega) (by omega))
      have hcn : s.1.length < 10000000000 := by
        have hfc := unhide HCN
        have hfe := unhide HFL
        rw [hfl, ← hfe] at hc
        simp only [Nat.zero_add] at hc
        omega
      refine (gather1_any (p := p) hEN (c0 W k1).2.1 (c0 W k1).1 k4 k5 k6 (fun g hg => by rcases k7 g hg with h | h <;> exact ⟨by omega, by omega⟩) (by omega) (by omega) hN (by omega) hvt hcn (by omega) (unhide HW W t vt hb hvt (by rw [unhide HFL, ← hfl]; exact ht))).mono ?_
      rintro e w' ⟨rfl, v', q1, q2, q3, q4, q5⟩
      have hkx : Keeps (fun g => g = bv ∨ g = bl ∨ w2.heap.size ≤ g) W w' := ⟨q5.os, q5.tape, q5.output, q5.size, fun k hk hx => q5.block k hk (by
        rintro (h | h)
        · exact hx (.inl h)
        · rcases k7 k h with h | h
          · exact hx (.inr (.inl h))
          · exact hx (.inr (.inr (by omega))))⟩
      refine ⟨rfl, ⟨k1.then hkx, k2, ?_, v', q1, q2, q3, fun g hg => ?_⟩, q5.size, fun g h1 h2 => q5.block g (by omega) (by
        rintro (h | h)
        · omega
        · rcases k7 g h with h | h <;> omega)⟩
      · show (accR p s.1 t).length ≤ s.2 + 1
        unfold accR
        split
        · simp; omega
        · omega
      · rcases q4 with h | ⟨g', h, hg'⟩
        · exact k7 g (h ▸ hg)
        · rw [h] at hg
          injection hg with hg
          right; omega)
  have gm := gather_math p most (fullL L) [] 0
  simp only [List.nil_append] at gm
  have hRL : R = (fullL L).filter p := by rw [unhide HR, unhide HFL, ← hfl]
  rw [← hRL] at gm
  have HGO := hide hgo
  have HC0 := hide c0
  have HB2 := hide hbel2
  have hbl1 : w.heap.size ≤ bl := by omega
  have hbv1 : w.heap.size ≤ bv := by omega
  have hbr1 : w.heap.size ≤ br := by omega
  have hbr2 : br < w2.heap.size := by omega
  have hbrl1 : bl ≠ br := by omega
  have hbvr : bv ≠ br := by omega
  have hws2 : w.heap.size ≤ w2.heap.size := by omega
  clear hbm hbw hbr hbl hbv hs2
  clear hgo c0 htx hX hownL hul hrd hfl hLl hLd hRL m0 m1 m2 m3 m4 hb2 hbel1 hsz1
  generalize goF (stepG p) (contG p most) (fullL L) ([], 0) = st at *
  go_wp2_with fail
  refine (unhide HGO).mono ?_
  rintro e w3 ⟨rfl, N, k1, k2, k3, v, k4, k5, k6, k7⟩
  have hb3 : Below w.heap.size w w3 := (unhide HB2).trans (k1.to (B := w.heap.size) (fun g hg => by rcases hg with h | h | h <;> omega) (by omega))
  obtain ⟨f0, f1, f2⟩ := unhide HC0 w3 k1
  obtain ⟨acc, hacc⟩ : ∃ acc, acc = st.1 := ⟨_, rfl⟩
  rw [← hacc] at k6 gm
  obtain ⟨va, vc, rfl, hvl, hvc⟩ := k6.ownT.tups.form
  unfold maxLen at hvc
  have ht : True := trivial
  have y0 : w3.cell? ⟨br, 0, none⟩ = some (.slice none 0 0) := by unfold World.cell?; rw [f2]; rfl
  have y1 : w3.cell? ⟨br, 1, none⟩ = some (.slice none 0 0) := by unfold World.cell?; rw [f2]; rfl
  have y2 : w3.frozen? ⟨br, 0, none⟩ = false := frozen_of_row _ _ _ _ _ f2
  have y3 : w3.frozen? ⟨br, 1, none⟩ = false := frozen_of_row _ _ _ _ _ f2
  have hbrl : br < w3.heap.size := cell_lt y0
  have HB3 := hide hb3
  have HK6 := hide k6
  have hbrN : br < N := by omega
  have hvbr : (Value.slice va acc.length vc).ownBlock ≠ some br := fun e => by rcases k7 br e with h | h <;> omega
  have HVB := hide hvbr
  clear hvbr k7 k2 k5
  clear f1 f2 HGO HC0 k1 k6 hb3 k3 hacc
  by_cases hle : (R.length : Int) ≤ most
  · have hae := gm.1 hle
    subst hae
    have hgt : decide (most < (acc.length : Int)) = false := by simpa using hle
    have hCL := hide (fun W (hb : Below w.heap.size w W) => cloneI_any ((unhide hS).below hb) (by omega))
    clear gm ht
    go_wp2
    go_region_held3 (fun W => W.cell? ⟨bv, 0, none⟩ = some (.slice va acc.length vc))
      (first | exact k4 | exact k4b | (rw [World.cell?_setCell_other _ _ _ _ (by intro e; injection e with e; exact hbvr e.symm), World.cell?_setCell_other _ _ _ _ (by intro e; injection e with e; exact hbvr e.symm)]; exact k4b))
      (first
        | (go_at_call 39; refine (unhide hCL _ (by first | exact (unhide HB3).drew | exact unhide HB3)).mono ?_; rintro e w4 ⟨u4, rfl, hown4, hb4⟩; obtain ⟨ua, uc, rfl, _, _⟩ := (Seq.of_own hown4).form; have hb4' : Below w3.heap.size w3 w4 := ⟨hb4.os, hb4.tape, hb4.output, hb4.size, hb4.block⟩; have k4b := Below.cell_of hb4' k4; have z0 := Below.cell_of hb4' y0; have z1 := Below.cell_of hb4' y1; have z2 : w4.frozen? ⟨br, 0, none⟩ = false := (by rw [World.frozen?_of_block (hb4'.block br hbrl)]; exact y2); have z3 : w4.frozen? ⟨br, 1, none⟩ = false := (by rw [World.frozen?_of_block (hb4'.block br hbrl)]; exact y3)))
    have hfin := (unhide HK6).below hb4'
    have g1 := grown_set w4 br 0 (.slice ua scope.length uc)
    have g2 := grown_set (w4.setCell ⟨br, 0, none⟩ (.slice ua scope.length uc)) br 1 (.slice va acc.length vc)
    have hf1 := hfin.kept g1 (fun b e => by injection e with e; omega) (Or.inr (unhide HVB))
    have hf2 := hf1.kept g2 (fun b e => by injection e with e; omega) (Or.inr (unhide HVB))
    have hu0 := Seq.of_own hown4
    have hune : scope ≠ [] → (Value.slice ua scope.length uc).ownBlock ≠ some br := fun _ e => by have h1 : w3.heap.size ≤ br := ((New.of_own hown4) br e).1; omega
    have hu1 := (hu0.setCell (i := 0) hune (.slice ua scope.length uc)).setCell (i := 1) hune (.slice va acc.length vc)
    have hbE := ((below_then (unhide HB3) hb4').setCell (p := ⟨br, 0, none⟩) hbr1 (.slice ua scope.length uc)).setCell (p := ⟨br, 1, none⟩) hbr1 (.slice va acc.length vc)
    have HE := hide (And.intro hu1 (And.intro (And.intro hf2.ownT.tups (fun g hg => (hf2.ownT.new g hg).1)) hbE))
    clear hfin g1 g2 hf1 hf2 hu0 hune hu1 hbE hown4 hb4 hb4'
    go_wp2
    refine bodyPost_ret (v := .tuple #[.agg #[.slice ua scope.length uc, .slice va acc.length vc], .int .i64 0]) (by simp [results, Try.results27, go_sem, z0, z1]) rfl ⟨.inl ⟨hle, _, _, rfl, (unhide HE).1, (unhide HE).2.1.1, (unhide HE).2.1.2⟩, (unhide HE).2.2⟩
  · have hgt0 : most < (acc.length : Int) := gm.2 (by omega)
    have hgt : decide (most < (acc.length : Int)) = true := by simpa using hgt0
    have hgl : most < (R.length : Int) := by omega
    clear gm ht hgt0
    go_wp2
    refine bodyPost_ret (v := .tuple #[.agg #[.slice none 0 0, .slice none 0 0], .int .i64 9]) (by simp [results, Try.results27, go_sem, y0, y1]) rfl ⟨.inr ⟨hgl, rfl⟩, ((unhide HB3).setCell (p := ⟨br, 0, none⟩) hbr1 _).setCell (p := ⟨br, 1, none⟩) hbr1 _⟩

end Go.Proofs.Ytflibcfecnhjgaa
