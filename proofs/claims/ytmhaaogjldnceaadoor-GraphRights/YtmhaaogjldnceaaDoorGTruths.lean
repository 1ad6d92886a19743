/-
  The contract of the document's Truths: what it says of a graph's rightness.
-/
import Derived.Test.YtmhaaogjldnceaaDoorGShown
import Derived.Test.YtmhaaogjldnceaaDoorGMade
namespace Go.Proofs.YtmhaaogjldnceaaDoor
open Go.RowKit
set_option linter.unusedVariables false
set_option linter.unusedSimpArgs false
set_option maxRecDepth 20000

def rowUp (g : List Nat) (i m : Nat) : List Bool := (List.range g.length).map fun j => decide (j < m) && besB g i j
def truthsM (g : List Nat) (k : Nat) : List (List Bool) := (List.range k).map fun i => rowUp g i 64

theorem rowUp_len (g : List Nat) (i m : Nat) : (rowUp g i m).length = g.length := by simp [rowUp]
theorem rowUp_zero (g : List Nat) (i : Nat) : rowUp g i 0 = List.replicate g.length false := by
  apply List.ext_getElem (by simp [rowUp])
  intro j h1 h2
  simp [rowUp]
theorem rowUp_set {g : List Nat} {i m : Nat} (hm : m < g.length) : (rowUp g i m).set m (besB g i m) = rowUp g i (m + 1) := by
  apply List.ext_getElem (by simp [rowUp])
  intro j h1 h2
  rw [List.length_set, rowUp_len] at h1
  rw [List.getElem_set]
  split
  · rename_i e; subst e; simp [rowUp]
  · rename_i e
    simp only [rowUp, List.getElem_map, List.getElem_range]
    have : decide (j < m) = decide (j < m + 1) := by rw [decide_eq_decide]; omega
    rw [this]
theorem rowUp_past {g : List Nat} {i m : Nat} (hm : g.length ≤ m) : rowUp g i (m + 1) = rowUp g i m := by
  apply List.ext_getElem (by simp [rowUp])
  intro j h1 h2
  rw [rowUp_len] at h1
  simp only [rowUp, List.getElem_map, List.getElem_range]
  have e1 : decide (j < m + 1) = true := by simp; omega
  have e2 : decide (j < m) = true := by simp; omega
  rw [e1, e2]
theorem truthsM_succ (g : List Nat) (k : Nat) : truthsM g (k + 1) = truthsM g k ++ [rowUp g k 64] := by simp [truthsM, List.range_succ]
theorem truthsM_len (g : List Nat) (k : Nat) : (truthsM g k).length = k := by simp [truthsM]
theorem truthsM_at {g : List Nat} (hn : g.length ≤ 64) {a b : Nat} (ha : a < g.length) (hb : b < g.length) : ((truthsM g g.length).getD a []).getD b false = besB g a b := by
  have e1 : (truthsM g g.length).getD a [] = rowUp g a 64 := by
    rw [List.getD_eq_getElem?_getD, List.getElem?_eq_getElem (by rw [truthsM_len]; exact ha)]
    simp [truthsM]
  rw [e1, List.getD_eq_getElem?_getD, List.getElem?_eq_getElem (by rw [rowUp_len]; exact hb)]
  simp [rowUp]
  omega

theorem own_setBv {B : Nat} {w : World} {g n c : Nat} {l : List Bool} (h : OwnB B w (.slice (some ⟨g, 0, none⟩) n c) l) (hn : n = l.length) {i : Nat} (hi : i < n) (y : Bool) :
    (∃ u, w.cell? ⟨g, i, none⟩ = some u) ∧ w.frozen? ⟨g, i, none⟩ = false ∧ OwnB B (w.setCell ⟨g, i, none⟩ (.bool y)) (.slice (some ⟨g, 0, none⟩) n c) (l.set i y) ∧ Below B w (w.setCell ⟨g, i, none⟩ (.bool y)) := own_setB h hn hi y

theorem shr_bit {x m : Nat} (hx : x < 18446744073709551616) (hm : m < 64) : (bits .and .u64 ((x : Int) / 2 ^ m) 1 == 1) = x.testBit m := by
  have e : (x : Int) / 2 ^ m = ((x / 2 ^ m : Nat) : Int) := by simp
  have h1 : x / 2 ^ m < 18446744073709551616 := Nat.lt_of_le_of_lt (Nat.div_le_self _ _) hx
  have e2 : bits .and .u64 ((x / 2 ^ m : Nat) : Int) 1 = ((x / 2 ^ m &&& 1 : Nat) : Int) := u64_and_nat _ 1 h1 (by decide)
  rw [e, e2, nat_mask1, Nat.testBit_eq_decide_div_mod_eq, Bool.eq_iff_iff, beq_iff_eq, decide_eq_true_eq]
  omega

theorem right_of {g : List Nat} (hw : W64 g) (h40 : g.length ≤ 40) {c : Bool} (hc : c = true ↔ (∀ a, a < g.length → ∀ j, besB g a j = true → j < g.length) ∧ ∀ i, i < g.length → ∀ j, j < g.length → besB g i j = besB g j i ∧ (i = j → besB g i j = false)) : rightS g = c := by
  rw [Bool.eq_iff_iff, rightS_iff hw, hc]
  constructor
  · intro h
    refine ⟨fun a _ j hj => h.pts a j hj, fun i _ j _ => ⟨?_, ?_⟩⟩
    · rw [Bool.eq_iff_iff]; exact ⟨h.sym _ _, h.sym _ _⟩
    · rintro rfl; exact h.irr _
  · rintro ⟨h1, h2⟩
    refine ⟨h40, hw, fun a b hb => h1 a (besB_lt hb) b hb, fun a => ?_, fun a b hb => ?_⟩
    · cases h : besB g a a with
      | false => rfl
      | true => rw [(h2 a (besB_lt h) a (besB_lt h)).2 rfl] at h; cases h
    · rw [← (h2 a (besB_lt hb) b (h1 a (besB_lt hb) b hb)).1]; exact hb

set_option maxHeartbeats 2000000 in
theorem truths_any {g : List Nat} {x : Value} {w : World} (hg : Words w x g) (hw : W64 g) (hn42 : g.length ≤ 42) :
    Calls Tryd.prog 12 #[.agg #[x]] w fun e w' => (∃ v, e = .returned (.tuple #[v, .bool (rightS g)])) ∧ Below w.heap.size w w' := by
  obtain ⟨W1, hW1, hb1, hz1, hx1⟩ := boxed (w := w) (x := x)
  have HG := hide (fun W (hb : Below W1.heap.size W1 W) => ((hg.below hb1).below hb))
  have HC := hide (fun W (hb : Below W1.heap.size W1 W) => (hx1.below hb (by omega)).cell)
  have HB := hide hb1
  have HW1 := hide hW1
  obtain ⟨ax, cx, rfl, hlx, hcx⟩ := hg.form
  unfold maxLen at hcx
  have hy := hx1.cell
  clear hb1 hx1 hg hW1
  by_cases h40 : g.length ≤ 40
  · have hright := rightS_iff hw
    have HRI := hide hright
    clear hright
    obtain ⟨n, hn⟩ : ∃ n, n = g.length := ⟨_, rfl⟩
    have HN := hide hn
    rw [← hn] at hlx h40 hy HG HC HW1 ⊢
    clear hn hn42
    have hb2 : Below W1.heap.size W1 (W1.alloc (.cells #[] 37)) := (Below.refl _ _).alloc (Nat.le_refl _) _
    have ho2 : (W1.alloc (.cells #[] 37)).ownsRow W1.heap.size 37 1 (.slice (some ⟨W1.heap.size, 0, none⟩) 0 0) 0 [] := World.ownsRow_made W1 #[] 0 (Nat.le_refl _) (by simp [maxLen]) (by simp)
    have HO2 := hide (OwnMat.nil (n := n) ho2)
    have HB2 := hide hb2
    clear hb2 ho2
    go_enter Tryd.func12, Tryd.ntmps12
    go_wp2_with fail
    rw [← unhide HW1]
    rw [hz1] at HO2
    go_loopw [5, 6, 7] (fun v o i wr => ∃ (k : Nat) (b : Bool) (bs : List Nat), k ≤ n ∧ i = .int .i64 k ∧ o = .bool b ∧ OwnMat W1.heap.size wr v n (truthsM g k) bs ∧ Hid (b = true ↔ ∀ a, a < k → ∀ j, besB g a j = true → j < n) ∧ Below W1.heap.size W1 wr) (fun _ _ i _ => n - (intOf i).toNat)
    case atStart => exact ⟨0, true, [], by omega, rfl, rfl, by rw [hz1]; exact unhide HO2, hide (by simp), unhide HB2⟩
    case round =>
      clear HO2 HB2 hy
      obtain ⟨k, b, bs, hk, rfl, rfl, hown, HS, hbel⟩ := hrel
      rename World => wr
      have hszr := hbel.size
      have y0 := unhide HC wr hbel
      obtain ⟨av, cv, rfl, hvl, hvm⟩ := hown.form
      rw [truthsM_len] at hown hvl ⊢
      unfold maxLen at hvm
      by_cases hkn : k < n
      · obtain ⟨bg, og, e1, q2⟩ := words_cell (unhide HG wr hbel) (i := k) (by rw [← unhide HN]; exact hkn)
        subst e1
        have HO := hide hown
        have HBE := hide hbel
        have HD := hide (fun W (hb : Below wr.heap.size wr W) => And.intro (unhide HC W (hbel.trans (hb.mono hszr))) (Below.cell_of hb q2))
        clear hown hbel
        go_wp2_with (at_make; refine wp_make_bools rfl _ _ rfl (B := wr.heap.size) (Nat.le_refl _) rfl rfl (by omega) ?_; intro w1 hown1 hb1)
        have hown1' : OwnB wr.heap.size w1 (.slice (some ⟨wr.heap.size, 0, none⟩) n n) (rowUp g k 0) := by rw [rowUp_zero, ← unhide HN]; exact hown1
        have hx64 := getD_lt hw k
        have HBT := hide (fun (m : Nat) (hm : m < 64) => shr_bit hx64 hm)
        go_loopw [6, 9] (fun o j wq => ∃ (m : Nat) (c : Bool), m ≤ 64 ∧ j = .int .i64 m ∧ o = .bool c ∧ OwnB wr.heap.size wq (.slice (some ⟨wr.heap.size, 0, none⟩) n n) (rowUp g k m) ∧ Hid (c = true ↔ b = true ∧ ∀ j, j < m → besB g k j = true → j < n) ∧ Below wr.heap.size wr wq) (fun _ j _ => 64 - (intOf j).toNat)
        case atStart => exact ⟨0, b, by omega, rfl, rfl, hown1', hide (by simp), hb1⟩
        case round =>
          clear hown1 hown1' hb1 y0 q2
          obtain ⟨m, c, hm, rfl, rfl, hrow, HSI, hbq⟩ := hrel
          rename World => wq
          obtain ⟨y1, q1⟩ := unhide HD wq hbq
          by_cases hm64 : m < 64
          · have hbt0 := unhide HBT m hm64
            obtain ⟨bt, hbte⟩ : ∃ bt, bt = besB g k m := ⟨_, rfl⟩
            have hbt : (bits .and .u64 (((g.getD k 0 : Nat) : Int) / 2 ^ m) 1 == 1) = bt := by rw [hbt0, hbte]; rfl
            clear hbt0
            have HST := hide (show ∀ c' : Bool, (c' = true ↔ c = true ∧ (bt = true → m < n)) → (c' = true ↔ b = true ∧ ∀ j, j < m + 1 → besB g k j = true → j < n) from fun c' h => by
              rw [h, unhide HSI, hbte]
              constructor
              · rintro ⟨⟨h1, h2⟩, h3⟩
                refine ⟨h1, fun j hj hb => ?_⟩
                rcases Nat.lt_or_ge j m with h4 | h4
                · exact h2 j h4 hb
                · have e : j = m := by omega
                  subst e; exact h3 hb
              · rintro ⟨h1, h2⟩
                exact ⟨⟨h1, fun j hj => h2 j (by omega)⟩, fun hb => h2 m (by omega) hb⟩)
            generalize g.getD k 0 = xx at *
            by_cases hmn : m < n
            · obtain ⟨⟨old, hcell⟩, hfr, hset, hbs⟩ := own_setBv hrow (by rw [rowUp_len, ← unhide HN]) (i := m) hmn bt
              rw [hbte, rowUp_set (by rw [← unhide HN]; exact hmn), ← hbte] at hset
              have HF := hide (And.intro hset (hbq.trans hbs))
              have HS2 := hide (unhide HST c (by simp [hmn]))
              clear hrow hset hbs hbq HST hbte HSI
              go_wp2
              go_roundw
              case rel => exact ⟨m + 1, c, by omega, by go_num, rfl, (unhide HF).1, HS2, (unhide HF).2⟩
              case measure => simp [intOf]; omega
            · have hpast := rowUp_past (g := g) (i := k) (m := m) (by rw [← unhide HN]; omega)
              have HP := hide hpast
              have HRW := hide hrow
              have HBQ := hide hbq
              cases bt with
              | true =>
                have HS2 := hide (unhide HST false (by simp [hmn]))
                clear hrow hbq HST hbte HSI hpast
                go_wp2
                go_roundw
                case rel => exact ⟨m + 1, false, by omega, by go_num, rfl, by rw [unhide HP]; exact unhide HRW, HS2, unhide HBQ⟩
                case measure => simp [intOf]; omega
              | false =>
                have HS2 := hide (unhide HST c (by simp))
                clear hrow hbq HST hbte HSI hpast
                go_wp2
                go_roundw
                case rel => exact ⟨m + 1, c, by omega, by go_num, rfl, by rw [unhide HP]; exact unhide HRW, HS2, unhide HBQ⟩
                case measure => simp [intOf]; omega
          · have hm' : m = 64 := by omega
            subst hm'
            have HS2 : Hid (c = true ↔ ∀ a, a < k + 1 → ∀ j, besB g a j = true → j < n) := hide (by
              rw [unhide HSI, unhide HS]
              constructor
              · rintro ⟨h1, h2⟩ a ha j hj
                rcases Nat.lt_or_ge a k with h3 | h3
                · exact h1 a h3 j hj
                · have e : a = k := by omega
                  subst e
                  exact h2 j (test_lt64 (getD_lt hw a) hj) hj
              · intro h
                exact ⟨fun a ha => h a (by omega), fun j _ hj => h k (by omega) j hj⟩)
            have HRW := hide (own_mono hrow (show W1.heap.size ≤ wr.heap.size from hszr))
            have HBQ := hide hbq
            have hlen : (rowUp g k 64).length = n := by rw [rowUp_len, ← unhide HN]
            have HLE := hide hlen
            have hszq := hbq.size
            have htl : (truthsM g k).length < 100000000000 := by rw [truthsM_len]; omega
            clear hrow hbq HSI hlen
            go_wp2_with (at_builtin; refine wp_app_mrow rfl (.tmp 48) (.tmp 50) rfl ((unhide HO).below (unhide HBQ)) (unhide HRW) (unhide HLE) (fun hm => by have := ((unhide HO).lt hm).2; omega) (fun e => by have := ((unhide HO).outer.lt _ e).2; omega) rfl (by omega) rfl htl ?_; intro v2 w2 hown2 hg2)
            go_roundw
            case rel => exact ⟨k + 1, c, _, by omega, by go_num, rfl, by rw [truthsM_succ]; exact hown2, HS2, (unhide HBE).trans (((unhide HBQ).mono hszr).trans hg2.below)⟩
            case measure => simp [intOf]; omega
      · have hkn' : n = k := by omega
        subst hkn'
        have HTA := hide (fun (i j : Nat) (hi : i < n) (hj : j < n) => truthsM_at (g := g) (by rw [← unhide HN]; omega) (a := i) (b := j) (by rw [← unhide HN]; exact hi) (by rw [← unhide HN]; exact hj))
        rw [← unhide HN] at HTA
        have HOM := hide (fun W (hb : Below wr.heap.size wr W) => hown.below hb)
        have HBE := hide ((unhide HB).trans (hbel.mono (by omega)))
        clear hown hbel y0
        go_wp2
        go_loopw [6, 11] (fun o i wq => ∃ (a : Nat) (c : Bool), a ≤ n ∧ i = .int .i64 a ∧ o = .bool c ∧ Hid (c = true ↔ b = true ∧ ∀ i, i < a → ∀ j, j < n → besB g i j = besB g j i ∧ (i = j → besB g i j = false)) ∧ Below wr.heap.size wr wq) (fun _ i _ => n - (intOf i).toNat)
        case atStart => exact ⟨0, b, by omega, rfl, rfl, hide (by simp), Below.refl _ _⟩
        case round =>
          obtain ⟨a, c, ha, rfl, rfl, HSA, hbq⟩ := hrel
          rename World => wq
          by_cases han : a < n
          · have HBQ := hide hbq
            clear hbq
            go_wp2
            go_loopw [6, 12] (fun o i wz => ∃ (m : Nat) (d : Bool), m ≤ n ∧ i = .int .i64 m ∧ o = .bool d ∧ Hid (d = true ↔ c = true ∧ ∀ j, j < m → besB g a j = besB g j a ∧ (a = j → besB g a j = false)) ∧ Below wr.heap.size wr wz) (fun _ i _ => n - (intOf i).toNat)
            case atStart => exact ⟨0, c, by omega, rfl, rfl, hide (by simp), unhide HBQ⟩
            case round =>
              clear HBQ
              obtain ⟨m, d, hm, rfl, rfl, HSD, hbz⟩ := hrel
              rename World => wz
              by_cases hmn : m < n
              · obtain ⟨b1, o1, r1, e1, c1, c2, _⟩ := (unhide HOM wz hbz).at (i := a) (k := m) (by rw [truthsM_len]; exact han) hmn
                subst e1
                obtain ⟨b2, o2, r2, e2, c3, c4, _⟩ := (unhide HOM wz hbz).at (i := m) (k := a) (by rw [truthsM_len]; exact hmn) han
                cases e2
                rw [unhide HTA a m han hmn] at c2
                rw [unhide HTA m a hmn han] at c4
                have HST := hide (show ∀ d' : Bool, (d' = true ↔ d = true ∧ (besB g a m = besB g m a ∧ (a = m → besB g a m = false))) → (d' = true ↔ c = true ∧ ∀ j, j < m + 1 → besB g a j = besB g j a ∧ (a = j → besB g a j = false)) from fun d' h => by
                  rw [h, unhide HSD]
                  constructor
                  · rintro ⟨⟨h1, h2⟩, h3⟩
                    refine ⟨h1, fun j hj => ?_⟩
                    rcases Nat.lt_or_ge j m with h4 | h4
                    · exact h2 j h4
                    · have e : j = m := by omega
                      subst e; exact h3
                  · rintro ⟨h1, h2⟩
                    exact ⟨⟨h1, fun j hj => h2 j (by omega)⟩, h2 m (by omega)⟩)
                have HBZ := hide hbz
                by_cases hgood : besB g a m = besB g m a ∧ (a = m → besB g a m = false)
                · have HS2 := hide (unhide HST d ⟨fun h => ⟨h, hgood⟩, fun h => h.1⟩)
                  obtain ⟨g1, g2⟩ := hgood
                  rw [← g1] at c4
                  have hcase : Hid (besB g a m = false ∨ (besB g a m = true ∧ ((a : Int) == (m : Int)) = false)) := hide (by
                    cases h : besB g a m with
                    | false => exact .inl rfl
                    | true =>
                      right
                      refine ⟨rfl, ?_⟩
                      simp only [beq_eq_false_iff_ne, ne_eq]
                      intro e
                      have := g2 (by omega)
                      rw [h] at this; cases this)
                  generalize besB g a m = p at *
                  clear HST HSD hbz g1 g2
                  rcases unhide hcase with rfl | ⟨rfl, hne⟩
                  · clear hcase
                    by_cases e : a = m
                    · have hee : ((a : Int) == (m : Int)) = true := by simp [e]
                      clear e
                      go_wp2
                      go_quiet (fail)
                      go_wp2
                      go_roundw
                      case rel => exact ⟨m + 1, d, by omega, by go_num, rfl, HS2, Below.drewN1 (unhide HBZ) _⟩
                      case measure => simp [intOf]; omega
                    · have hee : ((a : Int) == (m : Int)) = false := by simp; omega
                      clear e
                      go_wp2
                      go_quiet (fail)
                      go_wp2
                      go_roundw
                      case rel => exact ⟨m + 1, d, by omega, by go_num, rfl, HS2, Below.drewN1 (unhide HBZ) _⟩
                      case measure => simp [intOf]; omega
                  · clear hcase
                    go_wp2
                    go_quiet (fail)
                    go_wp2
                    go_roundw
                    case rel => exact ⟨m + 1, d, by omega, by go_num, rfl, HS2, Below.drewN1 (unhide HBZ) _⟩
                    case measure => simp [intOf]; omega
                · have HS2 := hide (unhide HST false ⟨(fun h => by cases h), (fun h => absurd h.2 hgood)⟩)
                  have hcase : Hid ((besB g a m = true ∧ besB g m a = false) ∨ (besB g a m = false ∧ besB g m a = true) ∨ (besB g a m = true ∧ besB g m a = true ∧ ((a : Int) == (m : Int)) = true)) := hide (by
                    cases h1 : besB g a m <;> cases h2 : besB g m a
                    · exact absurd ⟨by rw [h1, h2], fun _ => h1⟩ hgood
                    · exact .inr (.inl ⟨rfl, rfl⟩)
                    · exact .inl ⟨rfl, rfl⟩
                    · right; right
                      refine ⟨rfl, rfl, ?_⟩
                      by_cases e : a = m
                      · simp [e]
                      · exact absurd ⟨by rw [h1, h2], fun h => absurd h e⟩ hgood)
                  generalize besB g a m = p at *
                  generalize besB g m a = q at *
                  clear HST HSD hbz hgood
                  rcases unhide hcase with ⟨rfl, rfl⟩ | ⟨rfl, rfl⟩ | ⟨rfl, rfl, hee⟩
                  all_goals
                    clear hcase
                    go_wp2
                    go_quiet (fail)
                    go_wp2
                    go_roundw
                    case rel => exact ⟨m + 1, false, by omega, by go_num, rfl, HS2, Below.drewN1 (unhide HBZ) _⟩
                    case measure => simp [intOf]; omega
              · have hm' : n = m := by omega
                subst hm'
                have HS2 : Hid (d = true ↔ b = true ∧ ∀ i, i < a + 1 → ∀ j, j < n → besB g i j = besB g j i ∧ (i = j → besB g i j = false)) := hide (by
                  rw [unhide HSD, unhide HSA]
                  constructor
                  · rintro ⟨⟨h1, h2⟩, h3⟩
                    refine ⟨h1, fun i hi => ?_⟩
                    rcases Nat.lt_or_ge i a with h4 | h4
                    · exact h2 i h4
                    · have e : i = a := by omega
                      subst e; exact h3
                  · rintro ⟨h1, h2⟩
                    exact ⟨⟨h1, fun i hi => h2 i (by omega)⟩, h2 a (by omega)⟩)
                have HBZ := hide hbz
                clear HSD hbz
                go_wp2
                go_roundw
                case rel => exact ⟨a + 1, d, by omega, by go_num, rfl, HS2, unhide HBZ⟩
                case measure => simp [intOf]; omega
          · have ha' : n = a := by omega
            subst ha'
            have hfin : rightS g = c := right_of hw (by rw [← unhide HN]; exact h40) (by rw [← unhide HN, unhide HSA, unhide HS])
            have HF := hide hfin
            have HBQ := hide ((unhide HBE).trans (hbq.mono (by have := (unhide HBE).size; omega)))
            clear HSA hbq hfin
            go_wp2
            go_ret2
            exact ⟨⟨_, by rw [unhide HF]; rfl⟩, unhide HBQ⟩
  · have e : rightS g = false := by unfold rightS; simp; omega
    rw [e]
    have h41 : 40 < g.length := by omega
    go_enter Tryd.func12, Tryd.ntmps12
    go_wp2_with fail
    rw [← unhide HW1]
    go_wp2
    go_ret2
    exact ⟨⟨_, rfl⟩, unhide HB⟩

end Go.Proofs.YtmhaaogjldnceaaDoor
