/-
  The contract of All.
-/
import Derived.Test.YtoiokplgkanepaaGreatDoorLawKit3
namespace Go.Proofs.YtoiokplgkanepaaGreatDoor
open Go.RowKit
set_option linter.unusedVariables false
set_option linter.unusedSimpArgs false
set_option maxRecDepth 20000

/-- The slice value v reads in w as these relations. -/
def RelS (w : World) (v : Value) (rs : List (List Int × List (List Int))) : Prop :=
  ∃ a cap, v = .slice a rs.length cap ∧ rs.length ≤ cap ∧ cap ≤ maxLen ∧ ∀ i (h : i < rs.length), ∃ b off x y, a = some ⟨b, off, none⟩ ∧ w.cell? ⟨b, off + i * 2, none⟩ = some x ∧ w.cell? ⟨b, off + i * 2 + 1, none⟩ = some y ∧ RelV w (.agg #[x, y]) rs[i].1 rs[i].2

theorem RelS.below {w w' : World} {v : Value} {rs : List (List Int × List (List Int))} (h : RelS w v rs) (hb : Below w.heap.size w w') : RelS w' v rs := by
  obtain ⟨a, cap, h1, h2, h3, h4⟩ := h
  refine ⟨a, cap, h1, h2, h3, fun i hi => ?_⟩
  obtain ⟨b, off, x, y, k1, k2, k3, k4⟩ := h4 i hi
  exact ⟨b, off, x, y, k1, Below.cell_of hb k2, Below.cell_of hb k3, k4.below hb⟩

theorem RelS.nil (w : World) : RelS w (.slice none 0 0) [] := ⟨none, 0, rfl, by simp, by simp [maxLen], fun i h => by simp at h⟩

def stepR (A r : List Int × List (List Int)) : List Int × List (List Int) := (joinL A.1 r.1, joinR A.1 A.2 r.1 r.2)
def allR (rs : List (List Int × List (List Int))) : List Int × List (List Int) := rs.foldl stepR ([], [[]])
theorem all_snoc {rs : List (List Int × List (List Int))} {k : Nat} (hk : k < rs.length) : allR (rs.take (k + 1)) = stepR (allR (rs.take k)) rs[k] := by
  unfold allR
  rw [List.take_succ_eq_append_getElem hk, List.foldl_append]; rfl
/-- How many rows join number k has. -/
def cntR (rs : List (List Int × List (List Int))) (k : Nat) : Nat := (pairR (allR (rs.take k)).1 (allR (rs.take k)).2 (rs.getD k ([], [])).1 (rs.getD k ([], [])).2).length

theorem cnt_at {rs : List (List Int × List (List Int))} {k : Nat} (hk : k < rs.length) : cntR rs k = (pairR (allR (rs.take k)).1 (allR (rs.take k)).2 rs[k].1 rs[k].2).length := by
  unfold cntR; rw [List.getD_eq_getElem?_getD, List.getElem?_eq_getElem hk]; rfl

theorem all_fine {rs : List (List Int × List (List Int))} (hrs : ∀ r ∈ rs, Fine r.1 r.2 12 ∧ r.1.length ≤ 3) (h5 : rs.length ≤ 5) : ∀ k, k ≤ rs.length → Fine (allR (rs.take k)).1 (allR (rs.take k)).2 (allR (rs.take k)).2.length ∧ (allR (rs.take k)).1.length ≤ 3 * k
  | 0, _ => ⟨fine_unit, Nat.le_refl _⟩
  | k + 1, hk => by
    obtain ⟨h1, h2⟩ := all_fine hrs h5 k (by omega)
    have hkl : k < rs.length := by omega
    obtain ⟨g, g3⟩ := hrs rs[k] (List.getElem_mem hkl)
    have hj := h1.join g (by omega)
    have hs := joinS_le 0 h1.asc g.asc
    rw [all_snoc hkl]
    exact ⟨⟨hj.asc, hj.pos, hj.asl, hj.wide, hj.slen, Nat.le_refl _, hj.dig⟩, by show (joinL _ _).length ≤ _; omega⟩

theorem Box.set0 {w : World} {b : Nat} {x y : Value} (h : Box w b x y) (z : Value) : Box (w.setCell ⟨b, 0, none⟩ z) b z y := by
  unfold Box at h ⊢
  rw [heap_setCell_same w b 0 _ _ z h]; simp

theorem box_keep {w : World} {c : Nat} {x y : Value} (h : Box w c x y) {b i : Nat} (hne : c ≠ b) (z : Value) : Box (w.setCell ⟨b, i, none⟩ z) c x y := by
  unfold Box at h ⊢
  rw [heap_setCell_other w ⟨b, i, none⟩ c z hne]; exact h

set_option maxHeartbeats 1000000 in
theorem unitN_any (w : World) : Calls Tryz.prog 40 #[] w fun e w' => ∃ x y, e = .returned (.agg #[x, y]) ∧ RelV w' (.agg #[x, y]) [] [[]] ∧ (∀ b, b < w.heap.size → y.ownBlock ≠ some b) ∧ Below w.heap.size w w' := by
  go_enter Tryz.func40, Tryz.ntmps40
  go_wp2
  refine bodyPost_ret (v := .agg #[.slice (some ⟨w.heap.size + 1, 0, none⟩) 0 0, .slice (some ⟨w.heap.size + 1 + 1 + 1, 0, none⟩) 1 1]) (by simp [results, Tryz.results40, go_sem]) rfl ⟨_, _, rfl, ⟨_, _, rfl, ?_, ?_⟩, ?_, ?_⟩
  · exact litI_at (c := #[]) (e := 3) (fr := (0, 0)) (by simp only [alloc_at, World.size_alloc]; simp) rfl rfl (by simp)
  · refine ⟨[.slice (some ⟨w.heap.size + 1 + 1, 0, none⟩) 0 0], litT_at (c := #[.slice (some ⟨w.heap.size + 1 + 1, 0, none⟩) 0 0]) (e := 22) (fr := (0, 0)) (by simp only [alloc_at, World.size_alloc]; simp) rfl rfl (by simp), rfl, fun i hi hi' => ?_⟩
    match i, hi, hi' with
    | 0, _, _ => exact litI_at (c := #[]) (e := 3) (fr := (0, 0)) (by simp only [alloc_at, World.size_alloc]; simp) rfl rfl (by simp)
  · intro b hb e
    have : w.heap.size + 1 + 1 + 1 = b := by simpa [Value.ownBlock] using e
    omega
  · exact ((((Below.refl _ _).alloc (Nat.le_refl _) _).alloc (by simp) _).alloc (by simp; omega) _).alloc (by simp; omega) _

/-- What All answers. -/
def AllEnds (w' : World) (e : Ending) (rs : List (List Int × List (List Int))) (most : Int) : Prop :=
  (∃ x y, e = .returned (.tuple #[.agg #[x, y], .int .i64 0]) ∧ RelV w' (.agg #[x, y]) (allR rs).1 (allR rs).2 ∧ ∀ k, k < rs.length → (cntR rs k : Int) ≤ most) ∨
  (e = .returned (.tuple #[.agg #[.slice none 0 0, .slice none 0 0], .int .i64 9]) ∧ ∃ k, k < rs.length ∧ (∀ j, j < k → (cntR rs j : Int) ≤ most) ∧ most < (cntR rs k : Int))

set_option maxHeartbeats 16000000 in
theorem all_any {rs : List (List Int × List (List Int))} {v : Value} {most : Int} {w : World} (h : RelS w v rs) (hrs : ∀ r ∈ rs, Fine r.1 r.2 12 ∧ r.1.length ≤ 3) (h5 : rs.length ≤ 5) (hbd : ∀ k, k < rs.length → (∀ j, j < k → (cntR rs j : Int) ≤ most) → (allR (rs.take k)).2.length ≤ 5000) :
    Calls Tryz.prog 16 #[v, .int .i64 most] w fun e w' => AllEnds w' e rs most ∧ Below w.heap.size w w' := by
  have hb0 := (Below.refl w.heap.size w).alloc (Nat.le_refl _) (.cells #[.slice none 0 0, .slice none 0 0] 27)
  have hbx := Box.new w (.slice none 0 0) (.slice none 0 0)
  obtain ⟨W0, hW0⟩ : ∃ W, W = w.alloc (.cells #[.slice none 0 0, .slice none 0 0] 27) := ⟨_, rfl⟩
  rw [← hW0] at hb0 hbx
  have HU := hide (unitN_any W0)
  have HS := hide (fun W (hb : Below w.heap.size w W) => h.below hb)
  have HFI := hide (all_fine hrs h5)
  have HRS := hide hrs
  have HBD := hide hbd
  obtain ⟨a, cap, rfl, hc1, hc2, _⟩ := h
  unfold maxLen at hc2
  have HW0 := hide hW0
  have hz0 := hbx.lt
  clear hW0 hrs hbd
  go_enter Tryz.func16, Tryz.ntmps16
  go_wp2_with fail
  rw [← unhide HW0]
  refine (unhide HU).mono ?_
  rintro e w1 ⟨x1, y1, rfl, hr1, hn1, hb1⟩
  obtain ⟨ua, uc, ub, ud, hue, _, _, _, _, _, _⟩ := hr1.form
  have hue' : Value.agg #[x1, y1] = .agg #[.slice ua 0 uc, .slice ub 1 ud] := hue
  cases hue'
  have hbel1 := hb0.trans (hb1.mono hb0.size)
  have hz1 := hbel1.size
  have hzw1 : w.heap.size < w1.heap.size := Nat.lt_of_lt_of_le hz0 hb1.size
  have hbs := (Below.refl w1.heap.size w1).alloc (Nat.le_refl _) (.cells #[.slice ua 0 uc, .slice ub 1 ud] 27)
  have hx6 := Box.new w1 (.slice ua 0 uc) (.slice ub 1 ud)
  have hr6 := hr1.below hbs
  have hb6 := hbel1.trans (hbs.mono hz1)
  have hbx6 := (hbx.belowH hb1).push (.cells #[.slice ua 0 uc, .slice ub 1 ud] 27)
  have hn6 := hn1 w.heap.size hz0
  clear HU hr1 hb1 hbs hue hn1 hbx hb0
  go_wp2
  go_loopw [8, 9, 10, 14] (fun _ _ _ i wr => ∃ (k : Nat) (xa xb : Option Addr) (xn xc yn yc : Nat), k ≤ rs.length ∧ i = .int .i64 k ∧ Box wr w1.heap.size (.slice xa xn xc) (.slice xb yn yc) ∧ RelV wr (.agg #[.slice xa xn xc, .slice xb yn yc]) (allR (rs.take k)).1 (allR (rs.take k)).2 ∧ Box wr w.heap.size (.slice none 0 0) (.slice none 0 0) ∧ (Value.slice xb yn yc).ownBlock ≠ some w.heap.size ∧ Below w.heap.size w wr ∧ ∀ j, j < k → (cntR rs j : Int) ≤ most) (fun _ _ _ i _ => rs.length - (intOf i).toNat)
  case atStart => exact ⟨0, ua, ub, 0, uc, 1, ud, by omega, rfl, hx6, hr6, hbx6, hn6, hb6, fun j hj => by omega⟩
  case round =>
    clear hx6 hr6 hbx6 hn6 hb6
    obtain ⟨k, xa, xb, xn, xc, yn, yc, hk, rfl, hx, hr, hbo, hne, hbel, hmo⟩ := hrel
    have hz := hbel.size
    have hxl := hx.lt
    by_cases hkl : k < rs.length
    · obtain ⟨a', cap', ha, _, _, hat⟩ := unhide HS _ hbel
      cases ha
      obtain ⟨bl, ol, rx, ry, hae, hcx, hcy, hrk⟩ := hat k hkl
      subst hae
      obtain ⟨ra, rc, rb, rd, hre, _, _, _, _, _, _⟩ := hrk.form
      cases hre
      have hg := (unhide HFI k (by omega)).1
      have hgk := (unhide HRS rs[k] (List.getElem_mem hkl)).1
      have hle := unhide HBD k hkl hmo
      have hbs := (Below.refl wr.heap.size wr).alloc (Nat.le_refl _) (.cells #[.slice ra rs[k].1.length rc, .slice rb rs[k].2.length rd] 27)
      have HJ := hide (join_any (most := most) (hr.below hbs) (hrk.below hbs) hg hgk (by omega) (by omega) (by omega))
      have HCN := hide (cnt_at hkl)
      have HSN := hide (all_snoc hkl)
      have HXX := hide hx
      have hd0 := (hx.push (.cells #[.slice ra rs[k].1.length rc, .slice rb rs[k].2.length rd] 27)).cell0
      have hd1 := (hx.push (.cells #[.slice ra rs[k].1.length rc, .slice rb rs[k].2.length rd] 27)).cell1
      have hgl := hg.llen
      rw [← unhide HCN] at HJ
      obtain ⟨S', hS'⟩ : ∃ S', S' = joinL (allR (rs.take k)).1 rs[k].1 := ⟨_, rfl⟩
      obtain ⟨J', hJ'⟩ : ∃ J', J' = joinR (allR (rs.take k)).1 (allR (rs.take k)).2 rs[k].1 rs[k].2 := ⟨_, rfl⟩
      rw [← hS', ← hJ'] at HJ
      have HS' := hide hS'
      have HJ' := hide hJ'
      obtain ⟨cn, hcn⟩ : ∃ c, c = cntR rs k := ⟨_, rfl⟩
      rw [← hcn] at HJ
      have HC := hide hcn
      generalize rs[k].1.length = rn at *
      generalize rs[k].2.length = rm at *
      clear hg hgk hr hrk hx hS' hJ' hcn hat HCN
      go_wp2_with fail
      refine (unhide HJ).mono ?_
      rintro e w3 ⟨hE, hb3⟩
      have hB3 := below_then hbs hb3
      have hx3 := (unhide HXX).belowH hB3
      have hbo3 := hbo.belowH hB3
      have hbel3 := below_then hbel hB3
      rcases hE with ⟨x, y, rfl, hrj, hle2, hnew⟩ | ⟨rfl, hgt⟩
      · obtain ⟨ja, jc, jb, jd, hje, _, _, _, _, hji, hjt⟩ := hrj.form
        cases hje
        have hx4 := hx3.push (.cells #[.slice ja S'.length jc, .slice jb J'.length jd] 27)
        have hbo4 := hbo3.push (.cells #[.slice ja S'.length jc, .slice jb J'.length jd] 27)
        have hpb := (Below.refl w3.heap.size w3).alloc (Nat.le_refl _) (.cells #[.slice ja S'.length jc, .slice jb J'.length jd] 27)
        have hq0 := hx4.cell0
        have hq1 := hx4.cell1
        have hf0 := hx4.frozen 0
        have hf1 := hx4.frozen 1
        have hfin := hide (rel_store hx4.boxS hq0 (hji.below hpb) (hjt.below hpb) (hnew _ (by simp; omega)))
        have hbx5 := hide ((hx4.set0 (.slice ja S'.length jc)).set1 (.slice jb J'.length jd))
        have hbel4 := hide (below_store ((below_then hbel3 hpb)) (b := w1.heap.size) (by omega) (.slice ja S'.length jc) (.slice jb J'.length jd))
        have hbo5 := hide (box_keep (box_keep hbo4 (b := w1.heap.size) (i := 0) (by omega) (.slice ja S'.length jc)) (b := w1.heap.size) (i := 1) (by omega) (.slice jb J'.length jd))
        have hne5 := hide (hnew w.heap.size (by simp; omega))
        clear HJ hrj hji hjt hd0 hd1 hnew
        go_wp2
        go_roundw
        case rel => exact ⟨k + 1, ja, jb, S'.length, jc, J'.length, jd, by omega, by go_num, unhide hbx5, by rw [unhide HSN]; unfold stepR; rw [← unhide HS', ← unhide HJ']; exact unhide hfin, unhide hbo5, unhide hne5, unhide hbel4, fun j hj => by
          rcases Nat.lt_or_ge j k with h | h
          · exact hmo j h
          · have : j = k := by omega
            subst this
            rw [← unhide HC]; exact hle2⟩
        case measure => simp [intOf]; omega
      · have hbo4 := hbo3.push (.cells #[.slice none 0 0, .slice none 0 0] 27)
        have hpb := (Below.refl w3.heap.size w3).alloc (Nat.le_refl _) (.cells #[.slice none 0 0, .slice none 0 0] 27)
        have hq0 := hbo4.cell0
        have hq1 := hbo4.cell1
        have hf0 := hbo4.frozen 0
        have hf1 := hbo4.frozen 1
        have hbel4 := below_then hbel3 hpb
        clear HJ hd0 hd1
        go_wp2
        refine bodyPost_ret (v := .tuple #[.agg #[.slice none 0 0, .slice none 0 0], .int .i64 9]) (by simp [results, Tryz.results16, go_sem, hq0, hq1]) rfl ⟨.inr ⟨rfl, k, hkl, hmo, by rw [← unhide HC]; exact hgt⟩, below_store hbel4 (Nat.le_refl _) _ _⟩
    · have hkk : k = rs.length := by omega
      subst hkk
      rw [List.take_length] at hr
      obtain ⟨ja, jc, jb, jd, hje, _, _, _, _, hji, hjt⟩ := hr.form
      cases hje
      have hq0 := hx.cell0
      have hq1 := hx.cell1
      have hp0 := hbo.cell0
      have hp1 := hbo.cell1
      have hf0 := hbo.frozen 0
      have hf1 := hbo.frozen 1
      have hfin := hide (rel_store hbo.boxS hp0 hji hjt hne)
      have hbl := hide (below_store hbel (Nat.le_refl _) (.slice xa (allR rs).1.length xc) (.slice xb (allR rs).2.length yc))
      generalize (allR rs).1.length = sn at *
      generalize (allR rs).2.length = sm at *
      clear hr hji hjt hx
      go_wp2
      refine bodyPost_ret (v := .tuple #[.agg #[.slice xa sn xc, .slice xb sm yc], .int .i64 0]) (by simp [results, Tryz.results16, go_sem, hp0, hp1]) rfl ⟨.inl ⟨_, _, rfl, unhide hfin, hmo⟩, unhide hbl⟩

end Go.Proofs.YtoiokplgkanepaaGreatDoor
