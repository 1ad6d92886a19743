/-
  Proved: RelTurned answers true for every scheme and rows, and leaves what was handed in as it was. No condition.
-/
import Derived.Test.YtmppialileoimaaRelRows
namespace Go.Proofs.Ytmppialileoimaa.relTurned
open Go.RowKit Go.ChangeShapes Go.WideShapes Go.ChangeAt
set_option linter.unusedVariables false
set_option linter.unusedSimpArgs false
set_option maxRecDepth 20000

def turnL (ll : List (List Int)) : List (List Int) := ll.reverse.flatMap fun t => [t.reverse, t.reverse]

theorem mem_turn {ll : List (List Int)} {u : List Int} : u ∈ turnL ll ↔ ∃ t ∈ ll, u = t.reverse := by
  unfold turnL
  simp only [List.mem_flatMap, List.mem_reverse]
  constructor
  · rintro ⟨t, ht, hu⟩; exact ⟨t, ht, by simpa using hu⟩
  · rintro ⟨t, ht, rfl⟩; exact ⟨t, ht, by simp⟩

theorem get_turn {s t : List Int} (hn : s.Nodup) (hl : t.length = s.length) {x : Int} (hx : x ∈ s) : getR s.reverse t.reverse x = getR s t x := by
  obtain ⟨k, hk, h1, h2⟩ := place_mem hx
  have hk' : s.length - 1 - k < s.reverse.length := by simp; omega
  have e : s.reverse[s.length - 1 - k] = x := by
    rw [List.getElem_reverse]
    have : s.length - 1 - (s.length - 1 - k) = k := by omega
    simp only [this]; exact h2
  have h3 : placeL s.reverse x = (s.length - 1 - k : Nat) := by
    have := place_at_nodup (List.pairwise_reverse.2 (hn.imp fun h => h.symm)) hk'
    rw [e] at this; exact this
  unfold getR
  rw [h1, h3]
  have hkt : k < t.length := by omega
  have hkr : s.length - 1 - k < t.reverse.length := by simp; omega
  have e2 : t.reverse[s.length - 1 - k] = t[k] := by
    rw [List.getElem_reverse]
    have : t.length - 1 - (s.length - 1 - k) = k := by omega
    simp only [this]
  simp only [Int.toNat_natCast, List.getD_eq_getElem?_getD, List.getElem?_eq_getElem hkr, List.getElem?_eq_getElem hkt, Option.getD_some, e2]

theorem rise_asc {s : List Int} (h : Asc s) : riseL s = s := Asc.ext (riseL_spec s).1 h (riseL_spec s).2
theorem rise_turn {s : List Int} (h : Asc s) : riseL s.reverse = s := Asc.ext (riseL_spec _).1 h fun x => by rw [(riseL_spec _).2, List.mem_reverse]

theorem ok_self {s : List Int} {ll : List (List Int)} (g : Good s ll) : makeOk s ll = true := by
  unfold makeOk schemeOk wideB
  rw [rise_asc g.asc, headB_of g.pos]
  simp only [Bool.and_true, Bool.true_and, decide_true, List.all_eq_true, decide_eq_true_eq]
  exact fun t ht => by rw [g.wide t ht]
theorem ok_turn {s : List Int} {ll : List (List Int)} (g : Good s ll) : makeOk s.reverse (turnL ll) = true := by
  unfold makeOk schemeOk wideB
  rw [rise_turn g.asc, headB_of g.pos]
  simp only [Bool.and_true, List.length_reverse, decide_true, Bool.true_and, List.all_eq_true, decide_eq_true_eq]
  intro u hu
  obtain ⟨t, ht, rfl⟩ := mem_turn.1 hu
  rw [List.length_reverse, g.wide t ht]

theorem make_self {s : List Int} {ll : List (List Int)} (g : Good s ll) : makeL s ll = ll := by
  unfold makeL
  rw [rise_asc g.asc]
  refine AscL.ext (sortL_spec _).1 g.asl fun u => ?_
  unfold cutL
  rw [(sortL_spec _).2, List.mem_map]
  constructor
  · rintro ⟨t, ht, rfl⟩
    rw [pick_map (fun x h => h) (g.wide t ht), map_getR (Asc.nodup g.asc) (g.wide t ht)]; exact ht
  · exact fun hu => ⟨u, hu, by rw [pick_map (fun x h => h) (g.wide u hu), map_getR (Asc.nodup g.asc) (g.wide u hu)]⟩

theorem make_turn {s : List Int} {ll : List (List Int)} (g : Good s ll) : makeL s.reverse (turnL ll) = ll := by
  unfold makeL
  rw [rise_turn g.asc]
  refine AscL.ext (sortL_spec _).1 g.asl fun u => ?_
  unfold cutL
  rw [(sortL_spec _).2, List.mem_map]
  have key : ∀ t ∈ ll, pickL t.reverse (s.map (placeL s.reverse)) = t := fun t ht => by
    rw [pick_map (fun x h => List.mem_reverse.2 h) (by simp [g.wide t ht])]
    have : s.map (getR s.reverse t.reverse) = s.map (getR s t) := List.map_congr_left fun x hx => get_turn (Asc.nodup g.asc) (g.wide t ht) hx
    rw [this, map_getR (Asc.nodup g.asc) (g.wide t ht)]
  constructor
  · rintro ⟨v, hv, rfl⟩
    obtain ⟨t, ht, rfl⟩ := mem_turn.1 hv
    rw [key t ht]; exact ht
  · exact fun hu => ⟨u.reverse, mem_turn.2 ⟨u, hu, rfl⟩, key u hu⟩

theorem drop_rev {α : Type} {l : List α} {k : Nat} (h0 : 0 < k) (hk : k ≤ l.length) : (l.drop (k - 1)).reverse = (l.drop k).reverse ++ [l[k - 1]'(by omega)] := by
  rw [List.drop_eq_getElem_cons (show k - 1 < l.length by omega), List.reverse_cons]
  congr 3; omega

theorem turn_drop {ll : List (List Int)} {k : Nat} (h0 : 0 < k) (hk : k ≤ ll.length) : turnL (ll.drop (k - 1)) = turnL (ll.drop k) ++ [(ll[k - 1]'(by omega)).reverse, (ll[k - 1]'(by omega)).reverse] := by
  unfold turnL
  rw [drop_rev h0 hk, List.flatMap_append]; simp

theorem turn_len (ll : List (List Int)) : (turnL ll).length = 2 * ll.length := by
  unfold turnL
  induction ll with
  | nil => rfl
  | cons x r ih => rw [List.reverse_cons, List.flatMap_append, List.length_append, ih]; simp; omega

/-- Two rows more, both the same. -/
theorem wp_app_two {w : World} {ops : Array Oper} {rest : List Oper} {o : Oper} {a : Act} {Q : Exit → Act → World → Prop} (hgd : o.guard = none) (s x : Operand)
    (ho : o.op = .call { callee := .builtin .append, args := #[s, x], argTypes := #[23, 23] }) {B : Nat} {v u : Value} {ll : List (List Int)} {l : List Int} (hown : OwnT B w v ll) (hu : Ints w u l) (ha : Apart u l v) (hs : a.eval s = v) (hB : B ≤ w.heap.size)
    (hx : a.eval x = .slice (some ⟨w.heap.size, 0, none⟩) 2 2) (hlen : ll.length < 100000000)
    (h : ∀ v' w', OwnT B w' v' (ll ++ [l, l]) → Below B w w' → wpList Try.prog ops Q rest (a.put o.dst v') w') :
    wpList Try.prog ops Q (o :: rest) a (w.alloc (.cells #[u, u] 22)) := by
  have hpb := (Below.refl w.heap.size w).alloc (Nat.le_refl _) (.cells #[u, u] 22)
  have hown1 := hown.below hpb
  obtain ⟨vs, h1, h2, h3⟩ := hown1
  have hsq : Seq id (w.alloc (.cells #[u, u] 22)) (.slice (some ⟨w.heap.size, 0, none⟩) 2 2) [u, u] := litT_at (c := #[u, u]) (heap_alloc_new w _) rfl rfl (by simp)
  refine wpList_plain hgd fun K hK => op_app_rows s x ho h1 hs (by simp; omega) hsq hx (fun y hy => ?_) (by simp; omega) fun v' w' q1 q2 => hK _ _ (h v' w' ?_ ?_)
  · have : y = u := by simpa using hy
    subst this; exact hu.one
  · refine OwnT.app (hown.below hpb) h1 rfl (fun i hi hi' => ?_) q1 q2
    match i, hi, hi' with
    | 0, _, _ => exact ⟨hu.below hpb, ha⟩
    | 1, _, _ => exact ⟨hu.below hpb, ha⟩
  · exact (hpb.mono hB).trans q2.below

set_option maxHeartbeats 16000000 in
theorem walk {l0 : List Int} {l1 : List (List Int)} {v0 v1 : Value} {w : World} (i0 : Ints w v0 l0) (m0 : ∀ n ∈ l0, InI64 n) (i1 : Tups w v1 l1) (m1 : ∀ l ∈ l1, ∀ n ∈ l, InI64 n) :
    Calls Try.prog 9 #[v0, v1] w fun e w' => e = .returned (.bool true) ∧ Below w.heap.size w w' := by
  clear m0 m1
  have hB := Below.refl w.heap.size w
  have G := hide (good_small l0 l1)
  go_enter Try.func9, Try.ntmps9
  go_wp2_with fail
  refine (shown2_any _).mono ?_
  rintro e w101 ⟨rfl, hb⟩
  replace i0 := i0.below hb
  replace i1 := i1.below hb
  replace hB := below_then hB hb
  clear hb
  go_wp2_with fail
  refine (small_any i0 i1).mono ?_
  rintro e w102 ⟨u_r, rfl, r, hb⟩
  replace hB := below_then hB hb
  obtain ⟨a_r, c_r, b_r, d_r, e_r, _, _, _, _, _, _⟩ := r.form
  rw [e_r] at r ⊢
  clear e_r
  clear hb
  clear i0 i1
  generalize smallS l0 = s at *
  generalize smallR l0 l1 = ll at *
  have pb := (Below.refl _ w102).alloc (Nat.le_refl _) (.cells #[.slice a_r (s).length c_r, .slice b_r (ll).length d_r] 25)
  replace r := r.below pb
  have xr := Box.new w102 (.slice a_r (s).length c_r) (.slice b_r (ll).length d_r)
  replace hB := below_then hB pb
  clear pb
  have hsl := (unhide G).slen
  have hll := (unhide G).llen
  have c0_xr := xr.cell0
  have c1_xr := xr.cell1
  go_wp2
  generalize (w102.alloc (.cells #[.slice a_r (s).length c_r, .slice b_r (ll).length d_r] 25)) = W0 at *
  have hsI : Ints W0 (.slice a_r s.length c_r) s := by obtain ⟨_, _, e, h, _⟩ := r; cases e; exact h
  have hsT : Tups W0 (.slice b_r ll.length d_r) ll := by obtain ⟨_, _, e, _, h⟩ := r; cases e; exact h
  clear c0_xr c1_xr
  go_loopw [7, 8] (fun v i wr => ∃ k : Nat, k ≤ s.length ∧ i = .int .i64 k ∧ OwnI W0.heap.size wr v (s.drop k).reverse ∧ Below W0.heap.size W0 wr) (fun _ i _ => (intOf i).toNat)
  case atStart => exact ⟨s.length, by omega, rfl, by rw [List.drop_length]; exact own_nilI _ _, Below.refl _ _⟩
  case round =>
    obtain ⟨k, hk, rfl, hown, hbel⟩ := hrel
    rename World => W1
    have hz := hbel.size
    have yr := xr.belowH hbel
    have c0 := yr.cell0
    have c1 := yr.cell1
    by_cases hk0 : 0 < k
    · obtain ⟨bs, os, rfl, hcs⟩ := (hsI.below hbel).at (k := k - 1) (by omega)
      have HN := hide (drop_rev (l := s) hk0 hk)
      have hkp : (1 : Int) ≤ (k : Int) := by omega
      have hlen : (s.drop k).reverse.length ≤ 1000 := by simp; omega
      generalize (s.drop k).reverse = L at hown HN hlen
      clear xr r hsI hsT
      go_wp2_with (at_builtin; refine wp_app_int rfl (.tmp 28) (.tmp 35) rfl hown rfl hz rfl (by omega) ?_; intro v' w3 hown3 hgrew)
      go_roundw
      case rel => exact ⟨k - 1, by omega, by first | go_num | (congr 1; omega), by rw [unhide HN]; exact hown3, hbel.trans hgrew.below⟩
      case measure => simp [intOf]; omega
    · have hkz : k = 0 := by omega
      subst hkz
      rw [List.drop_zero] at hown
      have hS := Seq.of_own hown
      obtain ⟨sa, sc, hse, _, _⟩ := hS.form
      rw [List.length_reverse] at hse
      have HSR := hide hS
      have hnS := New.of_own hown
      rw [hse] at HSR hnS ⊢
      clear hS hown hse hk hk0
      go_wp2
      go_loopw [9, 10, 11, 12] (fun v i _ _ wq => ∃ k : Nat, k ≤ ll.length ∧ i = .int .i64 k ∧ OwnT W1.heap.size wq v (turnL (ll.drop k)) ∧ Below W1.heap.size W1 wq) (fun _ i _ _ _ => (intOf i).toNat)
      case atStart => exact ⟨ll.length, by omega, rfl, by rw [List.drop_length]; exact OwnT.nil _ _, Below.refl _ _⟩
      case round =>
        obtain ⟨j, hj, rfl, hown, hbel2⟩ := hrel
        rename World => W2
        have hz2 := hbel2.size
        have yr2 := yr.belowH hbel2
        clear c0 c1
        have c0 := yr2.cell0
        have c1 := yr2.cell1
        by_cases hj0 : 0 < j
        · have hj1 : j - 1 < ll.length := by omega
          have hjp : (1 : Int) ≤ (j : Int) := by omega
          obtain ⟨bl, ol, ul, rfl, hcl, hiL⟩ := ((hsT.below hbel).below hbel2).at hj1
          obtain ⟨ia, ic, rfl, _, hic⟩ := hiL.form
          unfold maxLen at hic
          have HN := hide (turn_drop hj0 hj)
          have hwd := (unhide G).wide _ (List.getElem_mem hj1)
          have hwd1 : ll[j - 1].length ≤ s.length := by omega
          have hwd2 : s.length ≤ ll[j - 1].length := by omega
          have hlen : (turnL (ll.drop j)).length ≤ 20000 := by rw [turn_len]; simp; omega
          generalize turnL (ll.drop j) = L at hown HN hlen
          generalize ll[j - 1] = row at *
          clear hwd
          go_wp2
          go_loopw [11, 12] (fun v i wi => ∃ k : Nat, k ≤ s.length ∧ i = .int .i64 k ∧ OwnI W2.heap.size wi v (row.drop k).reverse ∧ Below W2.heap.size W2 wi) (fun _ i _ => (intOf i).toNat)
          case atStart => exact ⟨s.length, by omega, rfl, by rw [List.drop_eq_nil_of_le hwd1]; exact own_litI (Nat.le_refl _), (Below.refl _ _).alloc (Nat.le_refl _) _⟩
          case round =>
            obtain ⟨k2, hk2, rfl, howni, hbel3⟩ := hrel
            rename World => W3
            have hz3 := hbel3.size
            have yr3 := yr2.belowH hbel3
            clear c0 c1
            have c0 := yr3.cell0
            have c1 := yr3.cell1
            have hclw := Below.cell_of hbel3 hcl
            by_cases hk20 : 0 < k2
            · obtain ⟨bi, oi, e1, hci⟩ := (hiL.below hbel3).at (k := k2 - 1) (by omega)
              subst e1
              have HNi := hide (drop_rev (l := row) hk20 (by omega))
              have hkp : (1 : Int) ≤ (k2 : Int) := by omega
              have hlen2 : (row.drop k2).reverse.length ≤ 1000 := by simp; omega
              have hkr : k2 - 1 < row.length := by omega
              have hkr' : (k2 : Int) - 1 < row.length := by omega
              generalize (row.drop k2).reverse = M at howni HNi hlen2
              clear hiL hcl hsT hsI xr yr yr2 yr3 r
              go_wp2_with (at_builtin; refine wp_app_int rfl (.tmp 51) (.tmp 62) rfl howni rfl hz3 rfl (by omega) ?_; intro v' w4 hown4 hgrew)
              go_roundw
              case rel =>
                first | exact ⟨k2 - 1, by omega, by first | go_num | (congr 1; omega), by rw [unhide HNi]; exact hown4, hbel3.trans hgrew.below⟩ | ((repeat apply Exists.intro); exact ⟨⟨k2 - 1, by omega, by first | go_num | (congr 1; omega), by rw [unhide HNi]; exact hown4, hbel3.trans hgrew.below⟩, rfl⟩)
              case measure => simp [intOf]; omega
            · have hkz : k2 = 0 := by omega
              subst hkz
              rw [List.drop_zero] at howni
              have hti := Seq.of_own howni
              have hnt := New.of_own howni
              have hownL := hown.below hbel3
              have hap := hide (show Sep _ _ from (Sep.of_new hown.new (Nat.le_refl _) hnt).symm)
              have hzz := Nat.le_trans hz2 hz3
              obtain ⟨ta, tn, tc, hte⟩ : ∃ a n c, _ = Value.slice a n c := by obtain ⟨a, c, e, _, _⟩ := hti.form; exact ⟨_, _, _, e⟩
              rw [hte] at hti hnt hap ⊢
              generalize row.reverse = RR at hti HN
              clear howni hown hiL hcl hsT hsI xr yr yr2 yr3 r hte hk20 hk2
              go_wp2_with (at_builtin; refine wp_app_two rfl (.tmp 64) (.tmp 67) rfl hownL hti (fun _ => unhide hap) rfl hzz rfl (by omega) ?_; intro v' w4 hown4 hb4)
              go_roundw
              case rel =>
                first | exact ⟨j - 1, by omega, by first | go_num | (congr 1; omega), by rw [unhide HN]; exact hown4, (hbel2.trans (hbel3.mono hz2)).trans hb4⟩ | ((repeat apply Exists.intro); exact ⟨⟨j - 1, by omega, by first | go_num | (congr 1; omega), by rw [unhide HN]; exact hown4, (hbel2.trans (hbel3.mono hz2)).trans hb4⟩, rfl⟩)
              case measure => simp [intOf]; omega
        · have hjz : j = 0 := by omega
          subst hjz
          rw [List.drop_zero] at hown
          have hT := hown.tups
          have hb02 := below_then hbel hbel2
          have HR := hide (r.below hb02)
          have hB2 := below_then hB hb02
          obtain ⟨la, ln, lc, hle⟩ := hown.sl
          have hS2 := (unhide HSR).below hbel2
          have htl := turn_len ll
          have HMK := hide (make_ok hS2 hT (by omega) (by rw [List.length_reverse]; omega) (ok_turn (unhide G)))
          rw [rise_turn (unhide G).asc, make_turn (unhide G)] at HMK
          rw [hle] at HMK ⊢
          clear hown hT hS2 hle htl hsT hsI xr yr r HSR hnS hbel hbel2 hb02 hB hj0 hj
          have r := unhide HR
          have hB := hB2
          clear HR hB2 c0 c1
          
          have c0_yr2 := yr2.cell0
          have c1_yr2 := yr2.cell1
          go_wp2_with fail
          refine (unhide HMK).mono ?_
          rintro e w103 ⟨u_a, rfl, a, hb⟩
          replace r := r.below hb
          replace yr2 := yr2.belowH hb
          replace hB := below_then hB hb
          obtain ⟨a_a, c_a, b_a, d_a, e_a, _, _, _, _, _, _⟩ := a.form
          rw [e_a] at a ⊢
          clear e_a
          clear hb c0_yr2 c1_yr2
          have pb := (Below.refl _ w103).alloc (Nat.le_refl _) (.cells #[.slice a_a (s).length c_a, .slice b_a (ll).length d_a] 25)
          replace r := r.below pb
          replace a := a.below pb
          replace yr2 := yr2.push (.cells #[.slice a_a (s).length c_a, .slice b_a (ll).length d_a] 25)
          have xa := Box.new w103 (.slice a_a (s).length c_a) (.slice b_a (ll).length d_a)
          replace hB := below_then hB pb
          clear pb
          have hsI : Ints _ (.slice a_r s.length c_r) s := r.ints
          have hsT : Tups _ (.slice b_r ll.length d_r) ll := r.tups
          have HMK2 := hide (make_ok hsI hsT (by omega) (by omega) (ok_self (unhide G)))
          rw [rise_asc (unhide G).asc, make_self (unhide G)] at HMK2
          clear hsI hsT HMK
          have c0_yr2 := yr2.cell0
          have c1_yr2 := yr2.cell1
          have c0_xa := xa.cell0
          have c1_xa := xa.cell1
          go_wp2_with fail
          refine (unhide HMK2).mono ?_
          rintro e w104 ⟨u_z, rfl, z, hb⟩
          replace r := r.below hb
          replace a := a.below hb
          replace yr2 := yr2.belowH hb
          replace xa := xa.belowH hb
          replace hB := below_then hB hb
          obtain ⟨a_z, c_z, b_z, d_z, e_z, _, _, _, _, _, _⟩ := z.form
          rw [e_z] at z ⊢
          clear e_z
          clear hb c0_yr2 c1_yr2 c0_xa c1_xa
          have pb := (Below.refl _ w104).alloc (Nat.le_refl _) (.cells #[.slice a_z (s).length c_z, .slice b_z (ll).length d_z] 25)
          replace r := r.below pb
          replace a := a.below pb
          replace z := z.below pb
          replace yr2 := yr2.push (.cells #[.slice a_z (s).length c_z, .slice b_z (ll).length d_z] 25)
          replace xa := xa.push (.cells #[.slice a_z (s).length c_z, .slice b_z (ll).length d_z] 25)
          have xz := Box.new w104 (.slice a_z (s).length c_z) (.slice b_z (ll).length d_z)
          replace hB := below_then hB pb
          clear pb
          have c0_yr2 := yr2.cell0
          have c1_yr2 := yr2.cell1
          have c0_xa := xa.cell0
          have c1_xa := xa.cell1
          have c0_xz := xz.cell0
          have c1_xz := xz.cell1
          go_wp2_with fail
          refine (same_yes a r rfl rfl).mono ?_
          rintro e w105 ⟨rfl, hb⟩
          replace r := r.below hb
          replace z := z.below hb
          replace yr2 := yr2.belowH hb
          replace xa := xa.belowH hb
          replace xz := xz.belowH hb
          replace hB := below_then hB hb
          clear hb c0_yr2 c1_yr2 c0_xa c1_xa c0_xz c1_xz
          have c0_yr2 := yr2.cell0
          have c1_yr2 := yr2.cell1
          have c0_xz := xz.cell0
          have c1_xz := xz.cell1
          go_wp2_with fail
          refine (same_yes z r rfl rfl).mono ?_
          rintro e w106 ⟨rfl, hb⟩
          replace yr2 := yr2.belowH hb
          replace xz := xz.belowH hb
          replace hB := below_then hB hb
          clear hb c0_yr2 c1_yr2 c0_xz c1_xz
          go_wp2
          go_ret
          exact ⟨rfl, hB⟩

set_option maxRecDepth 100000 in
theorem lifted (os : Os) (started : os.Started) (H : Type) (enc : TypeId × Value → H) :
    ReturnsInHanded {} Try.checked os 9 .any (Rows.relTurnedSpec.pre6 enc Try.prog Try.f9 Rows.relTurnedRow.domain false) (Rows.relTurnedSpec.post enc Try.prog Try.f9 false true false false) := by
  refine returnsInHanded_of_change (C := Try.checked) own started (by kernel_rfl) Try.func9
    (ChangeSpec.witness6 (enc := enc) (C := Try.checked) false ⟨#[], #[.slice none 0 0, .slice none 0 0], []⟩ 8 (by kernel_rfl) (by kernel_rfl) (by kernel_rfl) (by kernel_rfl)) ?_
  intro W base args ds gs before hval0 hW hcnd _
  have hval : ∀ (j : Nat) t v, Try.f9.params[j]? = some t → args[j]? = some v → Value.okWide Try.prog W .any base t v := hval0
  have hW' := hW
  obtain ⟨p, q, hA0, hV, rfl, hfz, hnd⟩ := hW
  have hA : DataW.TrodAll enc Try.prog W 0 (fun _ => true) true Try.f9.params.toList args.toList ds p := hA0
  rw [Try.params9] at hA hval
  obtain ⟨v0, vs0, d0, ds0, p0, q0, hargs, rfl, rfl, h0, r0⟩ := trodAll_cons hA
  obtain ⟨v1, vs1, d1, ds1, p1, q1, rfl, rfl, rfl, h1, r1⟩ := trodAll_cons r0
  obtain ⟨rfl, rfl, rfl⟩ := trodAll_nil r1
  obtain rfl : args = #[v0, v1] := by cases args; simp_all
  obtain ⟨rfl, rfl⟩ := trodVars_none hV
  obtain ⟨l0, i0, m0⟩ := read_ints h0 (okWide_slice Try.underlying22 (hval 0 22 v0 rfl rfl))
  have lt0 : ∀ x ∈ p0, x.block < W.heap.size := by obtain ⟨m, hm⟩ := h0; exact DataW.trod_lt m _ _ _ hm
  obtain ⟨l1, i1, m1⟩ := read_tups h1 (okWide_slice Try.underlying23 (hval 1 23 v1 rfl rfl))
  have lt1 : ∀ x ∈ p1, x.block < W.heap.size := by obtain ⟨m, hm⟩ := h1; exact DataW.trod_lt m _ _ _ hm
  clear hA0 hval0
  refine (walk i0 m0 i1 m1).mono fun e W' ⟨he, bel⟩ => ?_
  subst he
  exact ⟨_, rfl, _, _, _, [], _, [], hW', trodAll_mk1 (shut_bool Try.underlying4 _), (trodAll_cons_mk (Below.trod laidOut (by kernel_rfl) (of_decide_eq_true (by kernel_rfl)) h0 bel lt0) (trodAll_cons_mk (Below.trod laidOut (by kernel_rfl) (of_decide_eq_true (by kernel_rfl)) h1 bel lt1) trodAll_mk0)), rfl, bel.frame _, fun h => by cases h⟩

theorem over : Rows.relTurnedRow.holds Try.pinned (OpenSpec.ofChange Rows.relTurnedSpec) :=
  OpenClaim.holds_of_wide 9 Try.f9 rfl rfl rfl rfl rfl rfl rfl ⟨rfl, rfl, rfl, rfl, rfl⟩ rfl rfl rfl rfl rfl (by kernel_rfl) Try.func9 (by kernel_rfl)
    (of_decide_eq_true (by kernel_rfl)) (by unfold Func.isWrapper; first | (rw [if_pos (by decide +kernel)]; kernel_rfl) | (rw [if_neg (by decide +kernel)]; exact ⟨rfl, rfl⟩))
    (fun os started H enc _ => lifted os started H enc)

/-- The statement. -/
theorem proved : Rows.RelTurnedSaid := over
#print axioms proved
end Go.Proofs.Ytmppialileoimaa.relTurned
