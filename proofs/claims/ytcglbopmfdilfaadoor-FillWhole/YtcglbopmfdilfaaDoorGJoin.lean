/-
  The contracts of joinAll, and Join.
-/
import Derived.Test.YtcglbopmfdilfaaDoorGClq
import Derived.Test.YtcglbopmfdilfaaDoorOffs
namespace Go.Proofs.YtcglbopmfdilfaaDoor
open Go.RowKit
set_option linter.unusedVariables false
set_option linter.unusedSimpArgs false
set_option maxRecDepth 20000

/-- Those of L are joined with all of A. -/
def joinT (g : List Nat) (A : Nat) (L : List Int) : List Nat := g.mapIdx fun i x => if (i : Int) ∈ L then x ||| andNot64 A (bitN g.length i) else x
theorem joinT_len (g : List Nat) (A : Nat) (L : List Int) : (joinT g A L).length = g.length := by simp [joinT]
theorem joinT_nil (g : List Nat) (A : Nat) : joinT g A [] = g := by
  apply List.ext_getElem (by simp [joinT])
  intro i h1 h2
  simp [joinT]
theorem joinT_all (g : List Nat) (l : List Int) : joinT g (bitsN g.length l) l = joinN g l := rfl
theorem joinT_w64 {g : List Nat} {A : Nat} (hw : W64 g) (hA : A < 18446744073709551616) (l : List Int) : W64 (joinT g A l) := by
  intro x hx
  obtain ⟨i, hi, rfl⟩ := List.getElem_of_mem hx
  simp only [joinT, List.getElem_mapIdx]
  have hx0 : g[i]'(by rwa [joinT_len] at hi) < 18446744073709551616 := hw _ (List.getElem_mem _)
  split
  · exact or64_lt hx0 (andNot64_lt hA)
  · exact hx0

theorem joinT_no {g : List Nat} {A : Nat} {L : List Int} {a : Int} (h : ptB g.length a = false) : joinT g A (L ++ [a]) = joinT g A L := by
  have hp : ¬ (0 ≤ a ∧ a < (g.length : Int)) := fun h' => by rw [ptB_iff.2 h'] at h; cases h
  apply List.ext_getElem (by simp [joinT])
  intro i h1 h2
  rw [joinT_len] at h1
  simp only [joinT, List.getElem_mapIdx, List.mem_append, List.mem_singleton]
  have : ¬ ((i : Int) = a) := fun e => hp (by omega)
  simp [this]

theorem joinT_set {g : List Nat} {A : Nat} {L : List Int} {j : Nat} (hj : j < g.length) : (joinT g A L).set j ((joinT g A L).getD j 0 ||| andNot64 A (bitN g.length (j : Int))) = joinT g A (L ++ [(j : Int)]) := by
  obtain ⟨v, hv⟩ : ∃ v, v = (joinT g A L).getD j 0 ||| andNot64 A (bitN g.length (j : Int)) := ⟨_, rfl⟩
  rw [← hv]
  apply List.ext_getElem (by simp [joinT])
  intro i h1 h2
  rw [List.length_set, joinT_len] at h1
  have e0 : (joinT g A L).getD j 0 = (joinT g A L)[j]'(by rw [joinT_len]; exact hj) := (getD_at _).symm
  rw [List.getElem_set]
  rw [e0] at hv
  by_cases e : j = i
  · subst e
    rw [if_pos rfl, hv]
    simp only [joinT, List.getElem_mapIdx, List.mem_append, List.mem_singleton, or_true, if_true]
    split
    · rw [Nat.or_assoc, Nat.or_self]
    · rfl
  · rw [if_neg e]
    simp only [joinT, List.getElem_mapIdx, List.mem_append, List.mem_singleton]
    have : ¬ ((i : Int) = (j : Int)) := fun h => e (by omega)
    simp [this]

theorem own_off {B n m c : Nat} {e : TypeId} {w : World} {p : Addr} {xs : List Value} (h : w.ownsRow B e 1 (.slice (some p) n c) m xs) : p.off = 0 := by
  obtain ⟨h1, h2⟩ := h
  rcases h2 with ⟨h2, _⟩ | ⟨g', cap, cur, hv, _⟩
  · cases h2
  · cases hv; rfl

theorem own_setW {B : Nat} {w : World} {g n c : Nat} {l : List Nat} (h : OwnW B w (.slice (some ⟨g, 0, none⟩) n c) l) (hn : n = l.length) {i : Nat} (hi : i < n) (y : Nat) :
    (∃ u, w.cell? ⟨g, i, none⟩ = some u) ∧ w.frozen? ⟨g, i, none⟩ = false ∧ OwnW B (w.setCell ⟨g, i, none⟩ (.int .u64 (y : Int))) (.slice (some ⟨g, 0, none⟩) n c) (l.set i y) ∧ Below B w (w.setCell ⟨g, i, none⟩ (.int .u64 (y : Int))) := by
  subst hn
  obtain ⟨h1, h2, h3, h4⟩ := own_set h hi (.int .u64 (y : Int))
  refine ⟨h1, h2, ?_, h4⟩
  simpa [OwnW, List.map_set] using h3

theorem grown_setG (w : World) (b i : Nat) (v : Value) : w.grownBy (w.setCell ⟨b, i, none⟩ v) (some b) :=
  ⟨rfl, rfl, rfl, by simp, fun k hk hne => by
    have : k ≠ b := fun e => hne (by rw [e])
    exact heap_setCell_other _ _ _ _ this⟩

set_option maxHeartbeats 4000000 in
theorem joinAll_any {B : Nat} {g : List Nat} {l : List Int} {x v : Value} {w : World} (hg : OwnW B w x g) (hn : g.length ≤ 64) (hw : W64 g) (hl : Ints w v l) (ha : Apart v l x) (hB : B ≤ w.heap.size) :
    Calls Tryd.prog 63 #[.agg #[x], v] w fun e w' => e = .returned (.tuple #[]) ∧ OwnW B w' x (joinN g l) ∧ Below B w w' ∧ Keeps (fun b => x.ownBlock = some b) w w' := by
  have hgs := Seq.of_own hg
  obtain ⟨W1, hW1, hb1, hz1, hx1⟩ := boxed (w := w) (x := x)
  have hlt : ∀ b, x.ownBlock = some b → B ≤ b ∧ b < w.heap.size := fun b hb => hg.lt b hb
  have hown0 := own_below hg hb1
  have HA := hide (bitsOf_any (hgs.below hb1) hn (hl.below hb1))
  have HC := hide (fun W (hb : Keeps (fun b => x.ownBlock = some b) W1 W) => hb.cell hx1.cell (fun e => by have := (hlt _ e).2; simp at this))
  have HL := hide (fun W (hb : Keeps (fun b => x.ownBlock = some b) W1 W) => hb.seq (hl.below hb1) (fun hne g h1 h2 => ha hne g h1 h2))
  have HB := hide hb1
  have HW1 := hide hW1
  obtain ⟨ax, cx, rfl, hlx, hcx⟩ := hgs.form
  obtain ⟨al, cl, rfl, hll, hcl⟩ := hl.form
  unfold maxLen at hcl hcx
  have hA := bitsN_lt hn l
  rw [← joinT_all]
  have y0 := unhide HC W1 (Keeps.refl _ _)
  have hlt1 : ∀ b, (Value.slice ax g.length cx).ownBlock = some b → B ≤ b ∧ b < W1.heap.size := fun b hb => by have := hlt b hb; omega
  generalize bitsN g.length l = A at *
  have HLT := hide hlt1
  have hlt0 : ∀ b, (Value.slice ax g.length cx).ownBlock = some b → b < w.heap.size := fun b hb => (hlt b hb).2
  clear hb1 hx1 hg hW1 hl hgs ha hlt hlt1
  go_enter Tryd.func63, Tryd.ntmps63
  go_wp2_with fail
  rw [← unhide HW1]
  go_wp2_with fail
  refine (unhide HA).mono ?_
  rintro e w2 ⟨rfl, hb2⟩
  have hown2 := own_below hown0 hb2
  have hK2 : Keeps (fun b => (Value.slice ax g.length cx).ownBlock = some b) W1 w2 := Keeps.belowW hb2
  clear hb2 HA y0 hown0
  go_wp2
  go_loopw [12] (fun i wr => ∃ k : Nat, k ≤ l.length ∧ i = .int .i64 k ∧ OwnW B wr (.slice ax g.length cx) (joinT g A (l.take k)) ∧ Keeps (fun b => (Value.slice ax g.length cx).ownBlock = some b) W1 wr) (fun i wr => l.length - (intOf i).toNat)
  case atStart => exact ⟨0, by omega, rfl, by rw [List.take_zero, joinT_nil]; exact hown2, hK2⟩
  case round =>
    clear hown2 hK2
    obtain ⟨k, hk, rfl, hown, hkp⟩ := hrel
    rename World => wr
    have hzr := hkp.size
    have y0 := unhide HC wr hkp
    by_cases hkl : k < l.length
    · obtain ⟨bl, ol, e0, q1⟩ := (unhide HL wr hkp).at hkl
      subst e0
      have htk := List.take_succ_eq_append_getElem hkl
      have hlenT := joinT_len g A (l.take k)
      have hwT := joinT_w64 hw hA (l.take k)
      have hgs := Seq.of_own hown
      rw [← hlenT] at hn
      have HPA := hide (fun W (hb : Below wr.heap.size wr W) => isPoint_any (a := l[k]) (hgs.below hb))
      have HTA := hide (fun W (hb : Below wr.heap.size wr W) => bitOf_any (a := l[k]) (hgs.below hb) hn)
      have HCB := hide (fun W (hb : Below wr.heap.size wr W) => unhide HC W (hkp.then (Keeps.belowW hb)))
      have hno := @joinT_no g A (l.take k) l[k]
      have hst := @joinT_set g A (l.take k)
      generalize l[k] = a at *
      rw [hlenT] at HPA HTA hn
      cases hp : ptB g.length a with
      | false =>
        have HNO := hide (hno hp)
        rw [hp] at HPA
        have HPB := hide (unhide HPA wr (Below.refl _ _))
        have HO := hide hown
        clear hno hst hgs hown
        go_wp2_with fail
        refine (unhide HPB).mono ?_
        rintro e w3 ⟨rfl, hb3⟩
        have HO3 := hide (own_below (unhide HO) hb3)
        have HK3 := hide (hkp.then (Keeps.belowW hb3))
        clear hb3 HO
        go_wp2
        go_roundw
        case rel => exact ⟨k + 1, by omega, by go_num, by rw [htk, unhide HNO]; exact unhide HO3, unhide HK3⟩
        case measure => simp [intOf]; omega
      | true =>
        obtain ⟨h0, h1⟩ := ptB_iff.1 hp
        have ha : (a.toNat : Int) = a := by omega
        have hka : a.toNat < g.length := by omega
        rw [hp] at HPA
        have HPB := hide (unhide HPA wr (Below.refl _ _))
        have hst2 := hst hka
        rw [ha] at hst2
        have hbn := bitN_lt (n := g.length) hn a
        generalize a.toNat = j at *
        subst ha
        have hx0 := getD_lt hwT j
        have hj : j < (joinT g A (l.take k)).length := by omega
        obtain ⟨bg, og, e1, q2⟩ := hgs.at hj
        subst e1
        have ho := own_off hown
        simp only at ho
        subst ho
        rw [getD_at hj, Nat.zero_add] at q2
        have HV : Hid (bits .or .u64 (((joinT g A (l.take k)).getD j 0 : Nat) : Int) (bits .andNot .u64 (A : Int) ((bitN g.length (j : Int) : Nat) : Int)) = (((joinT g A (l.take k)).getD j 0 ||| andNot64 A (bitN g.length (j : Int)) : Nat) : Int)) := hide (by
          rw [u64_andNot_nat _ _ hA hbn]
          exact u64_or_nat _ _ hx0 (andNot64_lt hA))
        generalize (joinT g A (l.take k)).getD j 0 ||| andNot64 A (bitN g.length (j : Int)) = y at *
        generalize (joinT g A (l.take k)).getD j 0 = x0 at *
        obtain ⟨T2, hT2⟩ : ∃ T2, T2 = joinT g A (l.take k ++ [(j : Int)]) := ⟨_, rfl⟩
        rw [← hT2] at hst2
        have HT2 := hide hT2
        generalize joinT g A (l.take k) = T at *
        generalize bitN g.length (j : Int) = t at *
        have HO := hide hown
        have HST := hide hst2
        have hbgB := (unhide HLT bg rfl).1
        have hbgW := (unhide HLT bg rfl).2
        have hbgr : bg ≠ w.heap.size := fun e => by have := cell_lt q2; have := hown.lt bg rfl; have e2 := unhide HC wr hkp; have h9 := hlt0 bg rfl; omega
        clear hno hst hgs hown hT2 hst2 hx0 hbn
        go_wp2_with fail
        refine (unhide HPB).mono ?_
        rintro e w3 ⟨rfl, hb3⟩
        have hown3 := own_below (unhide HO) hb3
        have q3 := Below.cell_of hb3 q2
        have y3 := unhide HCB w3 hb3
        have HB3 := hide hb3
        have hz3 := hb3.size
        clear hb3 q2 y0
        go_wp2
        refine wp_region_till (st := 12) (S := fun U => U.cell? ⟨w.heap.size, 0, none⟩ = some (.slice (some ⟨bg, 0, none⟩) g.length cx) ∧ U.cell? ⟨bg, j, none⟩ = some (.int .u64 (x0 : Int))) (by kernel_rfl) ?_
        have hS0 : w3.drew.cell? ⟨w.heap.size, 0, none⟩ = some (.slice (some ⟨bg, 0, none⟩) g.length cx) ∧ w3.drew.cell? ⟨bg, j, none⟩ = some (.int .u64 (x0 : Int)) := ⟨y3, q3⟩
        refine till_take (i := 0) (v := ?_) rfl (by kernel_rfl) (by kernel_rfl) (by kernel_rfl) (by kernel_rfl) (fun _ _ _ h => h) (Or.inl ⟨by kernel_rfl, ?_⟩) (by assumption) ?_
        rotate_left
        · intro W hSW; obtain ⟨hS1, hS2⟩ := hSW; go_simp; first | done | rfl
        simp only [Act.put, List.setIfInBounds_toArray, List.set_cons_zero, List.set_cons_succ]
        refine till_take (i := 1) (v := ?_) rfl (by kernel_rfl) (by kernel_rfl) (by kernel_rfl) (by kernel_rfl) (fun _ _ _ h => h) (Or.inl ⟨by kernel_rfl, ?_⟩) (by assumption) ?_
        rotate_left
        · intro W hSW; obtain ⟨hS1, hS2⟩ := hSW; go_simp; first | done | rfl
        simp only [Act.put, List.setIfInBounds_toArray, List.set_cons_zero, List.set_cons_succ]
        refine till_take (i := 2) (v := ?_) rfl (by kernel_rfl) (by kernel_rfl) (by kernel_rfl) (by kernel_rfl) (fun _ _ _ h => h) (Or.inl ⟨by kernel_rfl, ?_⟩) (by assumption) ?_
        rotate_left
        · intro W hSW; obtain ⟨hS1, hS2⟩ := hSW; go_simp; first | done | rfl
        simp only [Act.put, List.setIfInBounds_toArray, List.set_cons_zero, List.set_cons_succ]
        refine till_take (i := 3) (v := ?_) rfl (by kernel_rfl) (by kernel_rfl) (by kernel_rfl) (by kernel_rfl) (fun _ _ _ h => h) (Or.inl ⟨by kernel_rfl, ?_⟩) (by assumption) ?_
        rotate_left
        · intro W hSW; obtain ⟨hS1, hS2⟩ := hSW; go_simp; first | done | rfl
        simp only [Act.put, List.setIfInBounds_toArray, List.set_cons_zero, List.set_cons_succ]
        refine till_take (i := 4) (v := ?_) rfl (by kernel_rfl) (by kernel_rfl) (by kernel_rfl) (by kernel_rfl) (fun _ _ _ h => h) (Or.inl ⟨by kernel_rfl, ?_⟩) (by assumption) ?_
        rotate_left
        · intro W hSW; obtain ⟨hS1, hS2⟩ := hSW; go_simp; first | done | rfl
        simp only [Act.put, List.setIfInBounds_toArray, List.set_cons_zero, List.set_cons_succ]
        refine till_take (i := 5) (v := ?_) rfl (by kernel_rfl) (by kernel_rfl) (by kernel_rfl) (by kernel_rfl) (fun _ _ _ h => h) (Or.inl ⟨by kernel_rfl, ?_⟩) (by assumption) ?_
        rotate_left
        · intro W hSW; obtain ⟨hS1, hS2⟩ := hSW; go_simp; first | done | rfl
        simp only [Act.put, List.setIfInBounds_toArray, List.set_cons_zero, List.set_cons_succ]
        refine till_take (i := 6) (v := ?_) rfl (by kernel_rfl) (by kernel_rfl) (by kernel_rfl) (by kernel_rfl) (fun _ _ _ h => h) (Or.inl ⟨by kernel_rfl, ?_⟩) (by assumption) ?_
        rotate_left
        · intro W hSW; obtain ⟨hS1, hS2⟩ := hSW; go_simp; first | done | rfl
        simp only [Act.put, List.setIfInBounds_toArray, List.set_cons_zero, List.set_cons_succ]
        refine till_take (i := 7) (v := ?_) rfl (by kernel_rfl) (by kernel_rfl) (by kernel_rfl) (by kernel_rfl) (fun _ _ _ h => h) (Or.inl ⟨by kernel_rfl, ?_⟩) (by assumption) ?_
        rotate_left
        · intro W hSW; obtain ⟨hS1, hS2⟩ := hSW; go_simp; first | done | rfl
        simp only [Act.put, List.setIfInBounds_toArray, List.set_cons_zero, List.set_cons_succ]
        refine till_one (i := 8) (by kernel_rfl) rfl rfl (by decide) (fun K hK => ?_)
        go_simp
        refine (unhide HTA _ (by exact (unhide HB3).trans (Below.mono (below_same rfl rfl rfl rfl) hz3))).mono ?_
        rintro e w4 ⟨rfl, hb4⟩
        have hb4' : Below w3.heap.size w3 w4 := ⟨hb4.os, hb4.tape, hb4.output, hb4.size, hb4.block⟩
        have hown4 := own_below hown3 hb4'
        have q4 := Below.cell_of hb4' q3
        have y4 := Below.cell_of hb4' y3
        refine hK.out _ _ ⟨y4, q4⟩ (fun hHeld => ?_)
        clear hK K
        try simp only [Act.put, List.setIfInBounds_toArray, List.set_cons_zero, List.set_cons_succ]
        have hS0 : w4.cell? ⟨w.heap.size, 0, none⟩ = some (.slice (some ⟨bg, 0, none⟩) g.length cx) ∧ w4.cell? ⟨bg, j, none⟩ = some (.int .u64 (x0 : Int)) := ⟨y4, q4⟩
        refine till_take (i := 9) (v := ?_) rfl (by kernel_rfl) (by kernel_rfl) (by kernel_rfl) (by kernel_rfl) (fun _ _ _ h => h) (Or.inl ⟨by kernel_rfl, ?_⟩) (by assumption) ?_
        rotate_left
        · intro W hSW; obtain ⟨hS1, hS2⟩ := hSW; go_simp; first | done | rfl
        simp only [Act.put, List.setIfInBounds_toArray, List.set_cons_zero, List.set_cons_succ]
        refine till_take (i := 10) (v := ?_) rfl (by kernel_rfl) (by kernel_rfl) (by kernel_rfl) (by kernel_rfl) (fun _ _ _ h => h) (Or.inl ⟨by kernel_rfl, ?_⟩) (by assumption) ?_
        rotate_left
        · intro W hSW; obtain ⟨hS1, hS2⟩ := hSW; go_simp; first | done | rfl
        simp only [Act.put, List.setIfInBounds_toArray, List.set_cons_zero, List.set_cons_succ]
        refine till_take (i := 11) (v := ?_) rfl (by kernel_rfl) (by kernel_rfl) (by kernel_rfl) (by kernel_rfl) (fun _ _ _ h => h) (Or.inl ⟨by kernel_rfl, ?_⟩) (by assumption) ?_
        rotate_left
        · intro W hSW; obtain ⟨hS1, hS2⟩ := hSW; go_simp; first | done | rfl
        simp only [Act.put, List.setIfInBounds_toArray, List.set_cons_zero, List.set_cons_succ]
        obtain ⟨_, hfr, hset, hbs⟩ := own_setW hown4 (by omega) (i := j) (by omega) y
        rw [unhide HST] at hset
        have gset := grown_setG w4 bg j (.int .u64 (y : Int))
        rw [← unhide HV] at hset hbs gset
        have HF := hide (And.intro hset (hkp.then ((Keeps.belowW (unhide HB3)).then ((Keeps.belowW hb4').then (Keeps.grown gset (fun b e => e))))))
        refine till_last (by kernel_rfl) rfl rfl (by kernel_rfl) (fun K hK => ?_)
        go_simp
        refine hK.out _ _ ?_
        clear hK K hset hbs gset hown4 hown3 q4 y4 hfr q3 y3
        try simp only [Act.put, List.setIfInBounds_toArray, List.set_cons_zero, List.set_cons_succ]
        generalize w4.setCell ⟨bg, j, none⟩ (.int .u64 (bits .or .u64 (x0 : Int) (bits .andNot .u64 (A : Int) (t : Int)))) = w5 at *
        go_wp2
        go_roundw
        case rel => exact ⟨k + 1, by omega, by go_num, by rw [htk, ← unhide HT2]; exact (unhide HF).1, (unhide HF).2⟩
        case measure => simp [intOf]; omega
    · have e : l.take k = l := List.take_of_length_le (by omega)
      rw [e] at hown
      go_wp2
      go_end0
      exact ⟨rfl, hown, ((unhide HB).mono (by omega)).trans (hkp.to (fun b hb => (unhide HLT b hb).1) (by omega)), (Keeps.belowW (unhide HB)).then hkp⟩

end Go.Proofs.YtcglbopmfdilfaaDoor
