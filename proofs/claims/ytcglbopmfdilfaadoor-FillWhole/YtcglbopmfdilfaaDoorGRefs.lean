/-
  The document's Neighbors and Clique; and the law's same.
-/
import Derived.Test.YtcglbopmfdilfaaDoorGRefG
import Derived.Test.YtcglbopmfdilfaaDoorGNb
import Derived.Test.YtcglbopmfdilfaaDoorTupCmp
namespace Go.Proofs.YtcglbopmfdilfaaDoor
open Go.RowKit
set_option linter.unusedVariables false
set_option linter.unusedSimpArgs false
set_option maxRecDepth 20000

theorem nbUp_skip {g : List Nat} {a k : Nat} (hb : besB g a k = false) : nbUp g a (k + 1) = nbUp g a k := by
  refine Asc.ext (nbUp_asc _ _ _) (nbUp_asc _ _ _) (fun x => ?_)
  rw [mem_nbUp, mem_nbUp]
  constructor
  · rintro ⟨j, h1, h2, h3, rfl⟩
    rcases Nat.lt_or_ge j k with h | h
    · exact ⟨j, h, h2, h3, rfl⟩
    · have e : j = k := by omega
      subst e
      rw [hb] at h3; cases h3
  · rintro ⟨j, h1, h2, h3, rfl⟩
    exact ⟨j, by omega, h2, h3, rfl⟩

set_option maxHeartbeats 2000000 in
theorem refNeighbors_any {B0 : Nat} {M : List (List Bool)} {v : Value} {bs : List Nat} {a : Int} {w : World} (hM : OwnMat B0 w v M.length M bs) (hl : M.length ≤ 40) :
    Calls Tryd.prog 38 #[v, .int .i64 a] w fun e w' => ∃ u, e = .returned u ∧ OwnI w.heap.size w' u (nbL (graphR M) a) ∧ Below w.heap.size w w' := by
  have hb0 := (Below.refl w.heap.size w).alloc (Nat.le_refl _) (.cells #[] 3)
  have ho0 : OwnI w.heap.size (w.alloc (.cells #[] 3)) (.slice (some ⟨w.heap.size, 0, none⟩) 0 0) [] := own_litI (Nat.le_refl _)
  have HM := hide (fun W (hb : Below w.heap.size w W) => hM.below hb)
  obtain ⟨av, cv, rfl, hvl, hvm⟩ := hM.form
  unfold maxLen at hvm
  have hGl := graphR_len M
  have HB := hide (fun i j => graphR_bes (M := M) i j)
  obtain ⟨G, hG⟩ : ∃ G, G = graphR M := ⟨_, rfl⟩
  rw [← hG] at hGl HB ⊢
  have HGL := hide hGl
  clear hM hG hGl
  have hpB : ptB G.length a = (decide (0 ≤ a) && decide (a < (M.length : Int))) := by unfold ptB; rw [unhide HGL]
  cases hp : ptB G.length a with
  | false =>
    have e : nbL G a = [] := by unfold nbL; rw [if_neg (by simp [hp])]
    rw [e]
    have hcase : Hid (¬ 0 < M.length ∨ (0 < M.length ∧ ¬ 0 ≤ a) ∨ (0 < M.length ∧ 0 ≤ a ∧ ¬ a < (M.length : Int))) := hide (by
      rw [hp] at hpB
      by_cases h1 : 0 < M.length
      · by_cases h2 : 0 ≤ a
        · right; right
          refine ⟨h1, h2, fun h3 => ?_⟩
          simp [h2, h3] at hpB
        · exact .inr (.inl ⟨h1, h2⟩)
      · exact .inl h1)
    have HO := hide (And.intro ho0 hb0)
    clear ho0 hb0 hp hpB
    go_enter Tryd.func38, Tryd.ntmps38
    go_wp2
    go_loopw [5, 6] (fun v i wr => i = .int .i64 0 ∧ v = .slice (some ⟨w.heap.size, 0, none⟩) 0 0 ∧ wr = w.alloc (.cells #[] 3)) (fun _ i _ => 0)
    case atStart => exact ⟨rfl, rfl, rfl⟩
    case round =>
      obtain ⟨rfl, rfl, rfl⟩ := hrel
      rcases unhide hcase with h1 | ⟨h1, h2⟩ | ⟨h1, h2, h3⟩
      all_goals
        clear hcase
        go_wp2
        go_ret
        exact ⟨_, rfl, (unhide HO).1, (unhide HO).2⟩
  | true =>
    obtain ⟨h0, h1⟩ := ptB_iff.1 hp
    rw [unhide HGL] at h1
    obtain ⟨k0, rfl⟩ : ∃ k0 : Nat, a = (k0 : Int) := ⟨a.toNat, by omega⟩
    have hk0 : k0 < M.length := by omega
    clear hp hpB
    go_enter Tryd.func38, Tryd.ntmps38
    go_wp2
    go_loopw [5, 6] (fun v i wr => ∃ k : Nat, k ≤ M.length ∧ i = .int .i64 k ∧ OwnI w.heap.size wr v (nbUp G k0 k) ∧ Below w.heap.size w wr) (fun _ i _ => M.length - (intOf i).toNat)
    case atStart => exact ⟨0, by omega, rfl, by simpa [nbUp] using ho0, hb0⟩
    case round =>
      clear ho0 hb0
      obtain ⟨k, hk, rfl, hown, hbel⟩ := hrel
      rename World => wr
      have hszr := hbel.size
      obtain ⟨ov, oc, rfl, hol, hoc⟩ := (Seq.of_own hown).form
      unfold maxLen at hoc
      by_cases hkl : k < M.length
      · obtain ⟨b, o, r, e, c1, c2, _⟩ := (unhide HM wr hbel).at hk0 hkl
        subst e
        have hbes : besB G k0 k = (M.getD k0 []).getD k false := by rw [unhide HB]; simp [hkl]; rfl
        have hlen := nbUp_len G k0 k
        rw [← hbes] at c2
        cases hb : besB G k0 k with
        | true =>
          rw [hb] at c2
          have hnx := nbUp_next (g := G) (a := k0) (m := k) (Nat.le_refl k) (fun i hi hik => by omega) hb
          rw [if_pos (by rw [unhide HGL]; exact hkl)] at hnx
          have HN := hide hnx
          have HO := hide hown
          clear hnx hb hbes hown
          go_wp2_with (at_builtin; refine wp_app_int rfl (.tmp 31) (.tmp 33) rfl (B := w.heap.size) (unhide HO) rfl (by omega) rfl (by omega) ?_; intro v5 w5 hown5 hg5)
          go_roundw
          case rel => exact ⟨k + 1, by omega, by go_num, by rw [unhide HN]; exact hown5, hbel.trans hg5.below⟩
          case measure => simp [intOf]; omega
        | false =>
          rw [hb] at c2
          have HN := hide (nbUp_skip hb)
          have HO := hide hown
          clear hb hbes hown
          go_wp2
          go_roundw
          case rel => exact ⟨k + 1, by omega, by go_num, by rw [unhide HN]; exact unhide HO, hbel⟩
          case measure => simp [intOf]; omega
      · have hkM : M.length = k := by omega
        have hend : nbUp G k0 k = nbL G (k0 : Int) := nbUp_end (by rw [unhide HGL]; exact hk0) (fun i hi => by
          rw [unhide HB]
          have : ¬ i < M.length := by omega
          simp [this])
        rw [hend] at hown hol ⊢
        have HO := hide hown
        clear hend hown
        go_wp2
        go_ret
        exact ⟨_, rfl, unhide HO, hbel⟩

/-- What the document's Clique asks of two places. -/
def pairOk (g : List Nat) (a b : Int) : Bool := a == b || besB g a.toNat b.toNat

theorem clqB_eq (g : List Nat) (l : List Int) : clqB g l = (l.all (ptB g.length) && l.all fun a => l.all (pairOk g a)) := by
  rw [Bool.eq_iff_iff]
  unfold clqB pairOk
  simp only [List.all_eq_true, Bool.and_eq_true]
  exact ⟨fun h => ⟨fun a ha => (h a ha).1, fun a ha => (h a ha).2⟩, fun h a ha => ⟨h.1 a ha, h.2 a ha⟩⟩

set_option maxHeartbeats 4000000 in
theorem refClique_any {B0 : Nat} {M : List (List Bool)} {l : List Int} {v vl : Value} {bs : List Nat} {w : World} (hM : OwnMat B0 w v M.length M bs) (hm : MatOk M) (hi : Ints w vl l) :
    Calls Tryd.prog 26 #[v, vl] w fun e w' => e = .returned (.bool (clqB (graphR M) l)) ∧ ∃ n, w' = w.drewN n := by
  obtain ⟨av, cv, rfl, hvl, hvm⟩ := hM.form
  obtain ⟨al, cl, rfl, hll, hlc⟩ := hi.form
  unfold maxLen at hvm hlc
  have hGl := graphR_len M
  have HBES := hide (fun i j => graphR_at hm.wide (M := M) i j)
  obtain ⟨G, hG⟩ : ∃ G, G = graphR M := ⟨_, rfl⟩
  rw [← hG] at hGl HBES ⊢
  have HGL := hide hGl
  obtain ⟨c, hc⟩ : ∃ c, c = clqB G l := ⟨_, rfl⟩
  rw [← hc]
  rw [clqB_eq] at hc
  have HC := hide hc
  have HMM := hide hM
  clear hG hGl hc hM
  go_enter Tryd.func26, Tryd.ntmps26
  go_wp2
  go_loop [5] (fun i => ∃ k : Nat, k ≤ l.length ∧ i = .int .i64 k ∧ Hid (∀ j (h : j < l.length), j < k → ptB G.length l[j] = true)) (fun i => l.length - (intOf i).toNat)
  case atStart => exact ⟨0, by omega, rfl, hide (fun j h hj => by omega)⟩
  case round =>
    obtain ⟨k, hk, rfl, HP⟩ := hrel
    by_cases hkl : k < l.length
    · obtain ⟨bl, ol, rfl, ql⟩ := hi.at hkl
      have hpt : ptB G.length l[k] = (decide (0 ≤ l[k]) && decide (l[k] < (M.length : Int))) := by unfold ptB; rw [unhide HGL]
      have HNX := hide (show ptB G.length l[k] = true → ∀ j (h : j < l.length), j < k + 1 → ptB G.length l[j] = true from fun hp j h hj => by
        rcases Nat.lt_or_ge j k with h1 | h1
        · exact unhide HP j h h1
        · have e : j = k := by omega
          subst e; exact hp)
      have HNO := hide (show ptB G.length l[k] = false → c = false from fun hp => by
        rw [unhide HC, Bool.and_eq_false_iff]
        left
        rw [List.all_eq_false]
        exact ⟨_, List.getElem_mem hkl, by rw [hp]; simp⟩)
      generalize l[k] = x at *
      clear HP
      by_cases h0 : x < 0
      · have HF := hide (unhide HNO (by rw [hpt]; simp; omega))
        clear hpt HNX HNO hi
        go_wp2
        go_ret
        exact ⟨by rw [unhide HF]; rfl, 0, rfl⟩
      · by_cases h1 : (M.length : Int) ≤ x
        · have HF := hide (unhide HNO (by rw [hpt]; simp; omega))
          clear hpt HNX HNO hi
          go_wp2
          go_ret
          exact ⟨by rw [unhide HF]; rfl, 0, rfl⟩
        · have HN2 := hide (unhide HNX (by rw [hpt]; simp; omega))
          clear hpt HNX HNO
          go_wp2
          go_round
          case rel => exact ⟨k + 1, by omega, by go_num, HN2⟩
          case measure => simp [intOf]; omega
    · have HPA := hide (show ∀ a ∈ l, ptB G.length a = true from fun a ha => by
        obtain ⟨j, hj, rfl⟩ := List.getElem_of_mem ha
        exact unhide HP j hj (by omega))
      have HC2 : Hid (c = l.all fun a => l.all (pairOk G a)) := hide (by
        rw [unhide HC, List.all_eq_true.2 (unhide HPA), Bool.true_and])
      clear HP HC
      go_wp2
      go_loopw [6] (fun i wr => ∃ a n : Nat, a ≤ l.length ∧ i = .int .i64 a ∧ wr = w.drewN n ∧ Hid (c = (l.drop a).all fun x => l.all (pairOk G x))) (fun i _ => l.length - (intOf i).toNat)
      case atStart => exact ⟨0, 0, by omega, rfl, rfl, hide (by rw [List.drop_zero]; exact unhide HC2)⟩
      case round =>
        clear HC2
        obtain ⟨a, n, ha, rfl, rfl, HCA⟩ := hrel
        by_cases hal : a < l.length
        · have hca := unhide HCA
          rw [List.drop_eq_getElem_cons hal, List.all_cons] at hca
          obtain ⟨r, hr⟩ : ∃ r, r = (l.drop (a + 1)).all fun x => l.all (pairOk G x) := ⟨_, rfl⟩
          rw [← hr] at hca
          have HR := hide hr
          have HCB : Hid (c = ((l.drop 0).all (pairOk G l[a]) && r)) := hide (by rw [List.drop_zero]; exact hca)
          clear HCA hca hr
          go_wp2
          go_loopw [7] (fun i wr => ∃ b n : Nat, b ≤ l.length ∧ i = .int .i64 b ∧ wr = w.drewN n ∧ Hid (c = ((l.drop b).all (pairOk G l[a]) && r))) (fun i _ => l.length - (intOf i).toNat)
          case atStart => exact ⟨0, n, by omega, rfl, rfl, HCB⟩
          case round =>
            clear HCB
            obtain ⟨b, n2, hb, rfl, rfl, HCB⟩ := hrel
            by_cases hbl : b < l.length
            · obtain ⟨bl, ol, rfl, qa⟩ := hi.at hal
              obtain ⟨bl', ol', e1, qb⟩ := hi.at hbl
              cases e1
              have hcb := unhide HCB
              rw [List.drop_eq_getElem_cons hbl, List.all_cons] at hcb
              have hpa := ptB_iff.1 (unhide HPA _ (List.getElem_mem hal))
              have hpb := ptB_iff.1 (unhide HPA _ (List.getElem_mem hbl))
              rw [unhide HGL] at hpa hpb
              obtain ⟨x, ex⟩ : ∃ x : Nat, l[a] = (x : Int) := ⟨l[a].toNat, by omega⟩
              obtain ⟨y, ey⟩ : ∃ y : Nat, l[b] = (y : Int) := ⟨l[b].toNat, by omega⟩
              rw [ex] at hpa qa
              rw [ey] at hpb qb
              have hxM : x < M.length := by omega
              have hyM : y < M.length := by omega
              obtain ⟨b3, o3, r3, e3, c1, c2, _⟩ := (unhide HMM).at (i := x) (k := y) hxM hyM
              subst e3
              have hbes : besB G x y = (M.getD x []).getD y false := by rw [unhide HBES]; rfl
              rw [← hbes] at c2
              have hpk : pairOk G l[a] l[b] = (((x : Int) == (y : Int)) || besB G x y) := by unfold pairOk; rw [ex, ey]; simp
              rw [hpk] at hcb
              have HXY := hide (And.intro ex ey)
              obtain ⟨rest, hrest⟩ : ∃ rest, rest = ((l.drop (b + 1)).all (pairOk G l[a]) && r) := ⟨_, rfl⟩
              have HRE := hide hrest
              have hcb : c = ((((x : Int) == (y : Int)) || besB G x y) && rest) := by rw [hcb, hrest, Bool.and_assoc]
              generalize besB G x y = p at *
              by_cases hxy : x = y
              · have t1 : ((x : Int) != (y : Int)) = false := by simp [hxy]
                have HC3 : Hid (c = ((l.drop (b + 1)).all (pairOk G l[a]) && r)) := hide (by rw [hcb, hrest]; simp [hxy])
                clear hcb hbes hpk hrest HCB hxy
                go_wp2
                go_quiet (fail)
                go_wp2
                go_roundw
                case rel => exact ⟨b + 1, _, by omega, by go_num, rfl, HC3⟩
                case measure => simp [intOf]; omega
              · have t1 : ((x : Int) != (y : Int)) = true := by simp; omega
                have t2 : ((x : Int) == (y : Int)) = false := by simp; omega
                rw [t2, Bool.false_or] at hcb
                cases p with
                | true =>
                  have HC3 : Hid (c = ((l.drop (b + 1)).all (pairOk G l[a]) && r)) := hide (by rw [hcb, hrest, Bool.true_and])
                  clear hcb hbes hpk hrest HCB hxy t2
                  go_wp2
                  go_quiet (fail)
                  go_wp2
                  go_roundw
                  case rel => exact ⟨b + 1, _, by omega, by go_num, rfl, HC3⟩
                  case measure => simp [intOf]; omega
                | false =>
                  have HC3 : Hid (c = false) := hide (by rw [hcb, Bool.false_and])
                  clear hcb hbes hpk hrest HCB hxy t2
                  go_wp2
                  go_quiet (fail)
                  go_wp2
                  go_ret
                  exact ⟨by rw [unhide HC3]; rfl, _, by first | rfl | exact World.drewN_drewN _ _ _⟩
            · have HC3 : Hid (c = (l.drop (a + 1)).all fun x => l.all (pairOk G x)) := hide (by
                rw [unhide HCB, List.drop_eq_nil_of_le (by omega), List.all_nil, Bool.true_and, unhide HR])
              clear HCB
              go_wp2
              go_roundw
              case rel => exact ⟨a + 1, _, by omega, by go_num, rfl, HC3⟩
              case measure => simp [intOf]; omega
        · have HC3 : Hid (c = true) := hide (by rw [unhide HCA, List.drop_eq_nil_of_le (by omega)]; rfl)
          clear HCA
          go_wp2
          go_ret
          exact ⟨by rw [unhide HC3]; rfl, _, by first | rfl | exact World.drewN_drewN _ _ _⟩

end Go.Proofs.YtcglbopmfdilfaaDoor
