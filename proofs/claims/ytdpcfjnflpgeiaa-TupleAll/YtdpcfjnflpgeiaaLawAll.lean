/-
  Proved: TupleAll answers true for every tuple and every two rows of places, and leaves what was handed in as it was. No condition.
-/
import Derived.Test.YtdpcfjnflpgeiaaFrame
import Derived.Test.YtdpcfjnflpgeiaaLawShown
namespace Go.Proofs.Ytdpcfjnflpgeiaa.tupleAll
open Go.RowKit Go.ChangeShapes Go.WideShapes Go.ChangeAt
set_option linter.unusedVariables false
set_option linter.unusedSimpArgs false
set_option maxRecDepth 20000

def toI (ns : List Nat) : List Int := ns.map fun (i : Nat) => (i : Int)
theorem toI_len (ns : List Nat) : (toI ns).length = ns.length := by simp [toI]
theorem toI_snoc (ns : List Nat) (k : Nat) : toI (ns ++ [k]) = toI ns ++ [(k : Int)] := by simp [toI]

/-- A place: counted round. -/
def pk (x : Int) (n : Nat) : Nat := (x % 65536).toNat % n

theorem low16 (n : Int) : bits .and .i64 n 65535 = n % 65536 := by
  have hc : (BitVec.ofInt 64 65535).toNat = 2 ^ 16 - 1 := by decide
  have key : (BitVec.ofInt 64 n &&& BitVec.ofInt 64 65535).toNat = (n % ((2 ^ 64 : Nat) : Int)).toNat % 2 ^ 16 := by
    rw [BitVec.toNat_and, BitVec.toNat_ofInt, hc, Nat.and_two_pow_sub_one_eq_mod]
  show IntKind.i64.wrap ((BitVec.ofInt 64 n &&& BitVec.ofInt 64 65535).toNat : Nat) = n % 65536
  rw [key, IntKind.wrap_i64]
  omega

theorem pk_eq (x : Int) {n : Nat} (h : 0 < n) : (bits BinOp.and IntKind.i64 x 65535).tmod (n : Int) = ((pk x n : Nat) : Int) := by
  rw [low16, Int.tmod_eq_emod_of_nonneg (by omega)]
  unfold pk
  rw [Int.natCast_emod, Int.toNat_of_nonneg (by omega)]

theorem pk_lt (x : Int) {n : Nat} (h : 0 < n) : pk x n < n := Nat.mod_lt _ h

theorem pick_nats (t : List Int) : ∀ (ns : List Nat), (∀ i ∈ ns, i < t.length) → pickL t (toI ns) = ns.map fun i => t.getD i 0
  | [], _ => rfl
  | i :: ns, h => by
    have hi := h i (by simp)
    have ih := pick_nats t ns (fun j hj => h j (by simp [hj]))
    have e : toI (i :: ns) = (i : Int) :: toI ns := rfl
    unfold pickL at ih ⊢
    rw [e, List.filterMap_cons, if_pos (by omega)]
    simp only [List.map_cons, ih, Int.toNat_natCast]

theorem pick_all (t : List Int) : pickL t (toI (List.range t.length)) = t := by
  rw [pick_nats t _ (fun i hi => List.mem_range.1 hi)]
  apply List.ext_getElem
  · simp
  · intro i h1 h2; simp [h2]

theorem pick_pick (t : List Int) (os ts : List Nat) (ho : ∀ i ∈ os, i < t.length) (ht : ∀ i ∈ ts, i < os.length) :
    pickL (pickL t (toI os)) (toI ts) = pickL t (toI (ts.map fun i => os.getD i 0)) := by
  rw [pick_nats t os ho, pick_nats _ ts (fun i hi => by simpa using ht i hi), pick_nats t _ ?_, List.map_map]
  · apply List.map_congr_left
    intro i hi
    have := ht i hi
    simp [this]
  · intro i hi
    obtain ⟨j, hj, rfl⟩ := List.mem_map.1 hi
    have := ht j hj
    simp only [List.getD_eq_getElem?_getD, List.getElem?_eq_getElem this, Option.getD_some]
    exact ho _ (List.getElem_mem this)

set_option maxHeartbeats 16000000 in
theorem walk {l0 l1 l2 : List Int} {v0 v1 v2 : Value} {w : World} (i0 : Ints w v0 l0) (m0 : ∀ n ∈ l0, InI64 n) (i1 : Ints w v1 l1) (m1 : ∀ n ∈ l1, InI64 n) (i2 : Ints w v2 l2) (m2 : ∀ n ∈ l2, InI64 n) :
    Calls Try.prog 10 #[v0, v1, v2] w fun e w' => e = .returned (.bool true) ∧ Below w.heap.size w w' := by
  obtain ⟨a, ca, rfl, hla, hca⟩ := i0.form
  obtain ⟨b, cb, rfl, hlb, hcb⟩ := i1.form
  obtain ⟨c, cc, rfl, hlc, hcc⟩ := i2.form
  unfold maxLen at hca hcb hcc
  have hB := Below.refl w.heap.size w
  go_enter Try.func10, Try.ntmps10
  go_wp2_with fail
  refine (shown_any _).mono ?_
  rintro e W ⟨rfl, hb⟩
  replace i0 := i0.below hb
  replace i1 := i1.below hb
  replace i2 := i2.below hb
  replace hB := below_then hB hb
  clear hb
  have t := i0.cut 60
  clear i0
  by_cases h0 : l0 = [] ∨ l1 = []
  · have n0 : ([] : List Int).length < 100000000000 := by simp
    have hpn : pickL (l0.take 60) [] = [] := rfl
    have HPN := hide hpn
    clear hpn i1 i2 m0 m1 m2
    by_cases h00 : l0 = []
    · have e1 : ((max (min (l0.length : Int) 60) 0 : Int) == 0) = true := by subst h00; rfl
      clear h0 h00
      go_wp2_with fail
      refine (pick_any t (Seq.nil _ _) n0).mono ?_
      rintro e w172 ⟨v_u1, rfl, u1, n_u1, hb⟩
      replace hB := below_then hB hb
      clear hb n_u1
      rw [unhide HPN] at u1
      obtain ⟨ua, uc, hue, _, _⟩ := u1.form
      rw [hue]
      go_wp2
      go_ret
      exact ⟨rfl, hB⟩
    · have h1 : 0 < l0.length := List.length_pos_iff.2 h00
      have h2 : l1 = [] := h0.resolve_left h00
      have e1 : ((max (min (l0.length : Int) 60) 0 : Int) == 0) = false := by rw [beq_eq_false_iff_ne]; omega
      have e2 : ((l1.length : Int) == 0) = true := by subst h2; rfl
      clear h0 h00 h2
      go_wp2_with fail
      refine (pick_any t (Seq.nil _ _) n0).mono ?_
      rintro e w173 ⟨v_u1, rfl, u1, n_u1, hb⟩
      replace hB := below_then hB hb
      clear hb n_u1
      rw [unhide HPN] at u1
      obtain ⟨ua, uc, hue, _, _⟩ := u1.form
      rw [hue]
      go_wp2
      go_ret
      exact ⟨rfl, hB⟩
  · have h1 : 0 < l0.length := List.length_pos_iff.2 fun e => h0 (.inl e)
    have h2 : 0 < l1.length := List.length_pos_iff.2 fun e => h0 (.inr e)
    clear h0
    have e1 : ((max (min (l0.length : Int) 60) 0 : Int) == 0) = false := by rw [beq_eq_false_iff_ne]; omega
    have e2 : ((l1.length : Int) == 0) = false := by rw [beq_eq_false_iff_ne]; omega
    obtain ⟨tl, htl⟩ : ∃ tl, tl = l0.take 60 := ⟨_, rfl⟩
    have eN : (min (l0.length : Int) 60).toNat = tl.length := by rw [htl, List.length_take]; omega
    have ht0 : 0 < tl.length := by rw [htl, List.length_take]; omega
    have ht6 : tl.length ≤ 60 := by rw [htl, List.length_take]; omega
    rw [← htl] at t
    have eN' : (min (l0.length : Int) ((60 : Nat) : Int)).toNat = tl.length := eN
    rw [eN'] at t
    have HEN := hide eN
    clear htl eN eN'
    go_wp2
    clear e1 e2
    rw [unhide HEN]
    go_loopw [8, 9] (fun v si wr => ∃ k : Nat, k ≤ tl.length ∧ si = .int .i64 k ∧ OwnI W.heap.size wr v (toI (List.range k)) ∧ Below W.heap.size W wr) (fun _ si _ => tl.length - (intOf si).toNat)
    case atStart => exact ⟨0, by omega, rfl, own_nilI _ _, Below.refl _ _⟩
    case round =>
      obtain ⟨k, hk, rfl, hown, hbel⟩ := hrel
      have hz := hbel.size
      by_cases hkl : k < tl.length
      · have HS := hide (show toI (List.range (k + 1)) = toI (List.range k) ++ [(k : Int)] by rw [List.range_succ, toI_snoc])
        have hln : (toI (List.range k)).length < 100000000000 := by rw [toI_len]; simp; omega
        go_wp2_with (at_builtin; refine wp_app_int rfl (.tmp 43) (.tmp 45) rfl hown rfl hz rfl hln ?_; intro v' w1 hown1 hgrew)
        go_roundw
        case rel => exact ⟨k + 1, by omega, by go_num, by rw [unhide HS]; exact hown1, hbel.trans hgrew.below⟩
        case measure => simp [intOf]; omega
      · have hkk : k = tl.length := by omega
        subst hkk
        replace hB := below_then hB hbel
        have hall := Seq.of_own hown
        have t1 := t.below hbel
        replace i1 := i1.below hbel
        replace i2 := i2.below hbel
        have hz1 := hB.size
        clear t hown hbel
        go_wp2
        go_loopw [10, 11] (fun v si w2 => ∃ k : Nat, k ≤ l1.length ∧ k ≤ 60 ∧ si = .int .i64 k ∧ OwnI wr.heap.size w2 v (toI ((l1.take k).map fun x => pk x tl.length)) ∧ Below wr.heap.size wr w2) (fun _ si _ => l1.length - (intOf si).toNat)
        case atStart => exact ⟨0, by omega, by omega, rfl, own_nilI _ _, Below.refl _ _⟩
        case round =>
          rename World => wr2
          obtain ⟨k, hk, hk6, rfl, hown, hbel⟩ := hrel
          have hz := hbel.size
          by_cases hkp : k < l1.length ∧ k < 60
          · obtain ⟨hkl, hk60⟩ := hkp
            obtain ⟨bb, ob, rfl, hcb⟩ := (i1.below hbel).at hkl
            have hd0 : ((tl.length : Int) == 0) = false := by rw [beq_eq_false_iff_ne]; omega
            have HS := hide (show toI ((l1.take (k + 1)).map fun x => pk x tl.length) = toI ((l1.take k).map fun x => pk x tl.length) ++ [((pk l1[k] tl.length : Nat) : Int)] by rw [List.take_succ_eq_append_getElem hkl, List.map_append, List.map_cons, List.map_nil, toI_snoc])
            have hpk := pk_eq l1[k] ht0
            have hln : (toI ((l1.take k).map fun x => pk x tl.length)).length < 100000000000 := by rw [toI_len]; simp; omega
            generalize hgen : pk l1[k] tl.length = y at hpk HS
            generalize l1[k] = x at hcb hpk
            clear hgen
            go_wp2_with (at_builtin; refine wp_app_int rfl (.tmp 57) (.tmp 66) rfl hown rfl hz rfl hln ?_; intro v' w1 hown1 hgrew)
            go_roundw
            case rel => exact ⟨k + 1, by omega, by omega, by go_num, by rw [unhide HS]; exact hown1, hbel.trans hgrew.below⟩
            case measure => simp [intOf]; omega
          · have hkd : l1.take k = l1.take 60 := by
              rcases Nat.lt_or_ge k 60 with h6 | h6
              · rw [List.take_of_length_le (by omega), List.take_of_length_le (by omega)]
              · rw [show k = 60 by omega]
            rw [hkd] at hown
            obtain ⟨os, hos⟩ : ∃ os, os = (l1.take 60).map fun x => pk x tl.length := ⟨_, rfl⟩
            rw [← hos] at hown
            have hosl : os.length = min 60 l1.length := by rw [hos]; simp
            have hos0 : 0 < os.length := by omega
            have hos6 : os.length ≤ 60 := by omega
            have hosm : ∀ i ∈ os, i < tl.length := by
              rw [hos]; intro i hi
              obtain ⟨x, _, rfl⟩ := List.mem_map.1 hi
              exact pk_lt x ht0
            have HOSM := hide hosm
            have hone := Seq.of_own hown
            obtain ⟨oa, oc, hoe, hol, hoc⟩ := hone.form
            rw [toI_len] at hoe hol
            rw [hoe] at hone
            subst hoe
            have hall1 := hall.below hbel
            have t2 := t1.below hbel
            have j2 := i2.below hbel
            have hB2 := below_then hB hbel
            have hzz := hB2.size
            unfold maxLen at hoc
            by_cases hkl : k < l1.length
            all_goals
              (try have hk60 : ¬ k < 60 := by omega)
              clear hkd hos hosm hkp hown hbel hall t1 i1 i2 hB hosl hk hk6 hz
              go_wp2
              clear hkl
              go_loopw [12, 13, 14] (fun va vb si w3 => ∃ k : Nat, k ≤ l2.length ∧ k ≤ 60 ∧ si = .int .i64 k ∧ OwnI wr2.heap.size w3 va (toI ((l2.take k).map fun x => pk x os.length)) ∧ OwnI wr2.heap.size w3 vb (toI (((l2.take k).map fun x => pk x os.length).map fun i => os.getD i 0)) ∧ Sep va vb ∧ Below wr2.heap.size wr2 w3) (fun _ _ si _ => l2.length - (intOf si).toNat)
              case atStart => exact ⟨0, by omega, by omega, rfl, own_nilI _ _, own_nilI _ _, Sep.nil _, Below.refl _ _⟩
              case round =>
                rename World => wr3
                obtain ⟨k3, hk3, hk36, rfl, hownA, hownB, hsep, hbel3⟩ := hrel
                have hz3 := hbel3.size
                by_cases hkp : k3 < l2.length ∧ k3 < 60
                · obtain ⟨hkl3, hk60⟩ := hkp
                  obtain ⟨bc, oc3, e3, hcc3⟩ := (j2.below hbel3).at hkl3
                  subst e3
                  have hd0 : ((os.length : Int) == 0) = false := by rw [beq_eq_false_iff_ne]; omega
                  have hpk := pk_eq l2[k3] hos0
                  have hpl := pk_lt l2[k3] hos0
                  have HSA := hide (show toI ((l2.take (k3 + 1)).map fun x => pk x os.length) = toI ((l2.take k3).map fun x => pk x os.length) ++ [((pk l2[k3] os.length : Nat) : Int)] by rw [List.take_succ_eq_append_getElem hkl3, List.map_append, List.map_cons, List.map_nil, toI_snoc])
                  have HSB := hide (show toI (((l2.take (k3 + 1)).map fun x => pk x os.length).map fun i => os.getD i 0) = toI (((l2.take k3).map fun x => pk x os.length).map fun i => os.getD i 0) ++ [((os.getD (pk l2[k3] os.length) 0 : Nat) : Int)] by rw [List.take_succ_eq_append_getElem hkl3, List.map_append, List.map_append, List.map_cons, List.map_nil, List.map_cons, List.map_nil, toI_snoc])
                  have hlnA : (toI ((l2.take k3).map fun x => pk x os.length)).length < 100000000000 := by rw [toI_len]; simp; omega
                  have hlnB : (toI (((l2.take k3).map fun x => pk x os.length).map fun i => os.getD i 0)).length < 100000000000 := by rw [toI_len]; simp; omega
                  generalize hgen : pk l2[k3] os.length = y at hpk hpl HSA HSB
                  generalize l2[k3] = x at hcc3 hpk
                  clear hgen
                  obtain ⟨bo, oo, e4, hco⟩ := hone.at (k := y) (by rw [toI_len]; exact hpl)
                  subst e4
                  have hgo : (toI os)[y]'(by rw [toI_len]; exact hpl) = ((os.getD y 0 : Nat) : Int) := by simp [toI, hpl]
                  rw [hgo] at hco
                  generalize os.getD y 0 = z at hco HSB
                  have HCO := hide (fun W (hb : Below wr2.heap.size wr2 W) => Below.cell_of hb hco)
                  clear hgo hco
                  go_wp2_with (first | (at_builtin; refine wp_app_int rfl (.tmp 86) (.tmp 88) rfl hownA rfl hz3 rfl hlnA ?_; intro va' w4 hownA1 hgrewA; have hco := unhide HCO _ (hbel3.trans hgrewA.below)) | (at_builtin; refine wp_app_int rfl (.tmp 90) (.tmp 95) rfl (own_grew hownB hgrewA hsep.symm.or) rfl (Nat.le_trans hz3 hgrewA.by_.size) rfl hlnB ?_; intro vb' w5 hownB1 hgrewB))
                  go_roundw
                  case rel =>
                    have s1 : Sep _ va' := hsep.symm.grewN (New.of_own hownB) hgrewA
                    have s2 : Sep va' vb' := s1.symm.grewN (New.of_own hownA1) hgrewB
                    exact ⟨k3 + 1, by omega, by omega, by go_num, by rw [unhide HSA]; exact own_grew hownA1 hgrewB s1.symm.or, by rw [unhide HSB]; exact hownB1, s2, (hbel3.trans hgrewA.below).trans hgrewB.below⟩
                  case measure => simp [intOf]; omega
                · have hkd3 : l2.take k3 = l2.take 60 := by
                    rcases Nat.lt_or_ge k3 60 with h6 | h6
                    · rw [List.take_of_length_le (by omega), List.take_of_length_le (by omega)]
                    · rw [show k3 = 60 by omega]
                  rw [hkd3] at hownA hownB
                  obtain ⟨ts, hts⟩ : ∃ ts, ts = (l2.take 60).map fun x => pk x os.length := ⟨_, rfl⟩
                  rw [← hts] at hownA hownB
                  have htsm : ∀ i ∈ ts, i < os.length := by
                    rw [hts]; intro i hi
                    obtain ⟨x, _, rfl⟩ := List.mem_map.1 hi
                    exact pk_lt x hos0
                  have htsl : ts.length ≤ 60 := by rw [hts]; simp; omega
                  have E := hide (pick_pick tl os ts (unhide HOSM) htsm)
                  have rA := Seq.of_own hownA
                  have rB := Seq.of_own hownB
                  have rO := hone.below hbel3
                  have rL := hall1.below hbel3
                  have rT := t2.below hbel3
                  have hB := below_then hB2 hbel3
                  have n1 : (toI (List.range tl.length)).length < 100000000000 := by rw [toI_len]; simp; omega
                  have n2 : (toI os).length < 100000000000 := by rw [toI_len]; omega
                  have n3 : (toI ts).length < 100000000000 := by rw [toI_len]; omega
                  have n4 : (toI (ts.map fun i => os.getD i 0)).length < 100000000000 := by rw [toI_len]; simp; omega
                  by_cases hkl3 : k3 < l2.length
                  all_goals
                    (try have hk603 : ¬ k3 < 60 := by omega)
                    clear hkd3 hts htsm hkp hownA hownB hone hall1 t2 hbel3 hsep hk3 hk36 hz3 hB2 j2
                    go_wp2_with fail
                    refine (pick_any rT rL n1).mono ?_
                    rintro e w174 ⟨v_u1, rfl, u1, n_u1, hb⟩
                    replace rT := rT.below hb
                    replace rO := rO.below hb
                    replace rA := rA.below hb
                    replace rB := rB.below hb
                    replace hB := below_then hB hb
                    clear hb n_u1
                    rw [pick_all] at u1
                    go_wp2_with fail
                    refine (Calls.toBelow (compare_any u1 rT)).mono ?_
                    rintro e w175 ⟨rfl, hb⟩
                    replace rT := rT.below hb
                    replace rO := rO.below hb
                    replace rA := rA.below hb
                    replace rB := rB.below hb
                    replace hB := below_then hB hb
                    clear hb
                    rw [cmpL_refl]
                    clear u1
                    go_wp2_with fail
                    refine (pick_any rT rO n2).mono ?_
                    rintro e w176 ⟨v_u2, rfl, u2, n_u2, hb⟩
                    replace rT := rT.below hb
                    replace rA := rA.below hb
                    replace rB := rB.below hb
                    replace hB := below_then hB hb
                    clear hb n_u2
                    go_wp2_with fail
                    refine (pick_any u2 rA n3).mono ?_
                    rintro e w177 ⟨v_u3, rfl, u3, n_u3, hb⟩
                    replace rT := rT.below hb
                    replace rB := rB.below hb
                    replace hB := below_then hB hb
                    clear hb n_u3
                    rw [unhide E] at u3
                    go_wp2_with fail
                    refine (pick_any rT rB n4).mono ?_
                    rintro e w178 ⟨v_u4, rfl, u4, n_u4, hb⟩
                    replace u3 := u3.below hb
                    replace hB := below_then hB hb
                    clear hb n_u4
                    go_wp2_with fail
                    refine (Calls.toBelow (compare_any u3 u4)).mono ?_
                    rintro e w179 ⟨rfl, hb⟩
                    replace hB := below_then hB hb
                    clear hb
                    rw [cmpL_refl]
                    clear u2 u3 u4
                    go_wp2
                    go_ret
                    exact ⟨rfl, hB⟩

set_option maxRecDepth 100000 in
theorem lifted (os : Os) (started : os.Started) (H : Type) (enc : TypeId × Value → H) :
    ReturnsInHanded {} Try.checked os 10 .any (Rows.tupleAllSpec.pre6 enc Try.prog Try.f10 Rows.tupleAllRow.domain false) (Rows.tupleAllSpec.post enc Try.prog Try.f10 false true false false) := by
  refine returnsInHanded_of_change (C := Try.checked) own started (by kernel_rfl) Try.func10
    (ChangeSpec.witness6 (enc := enc) (C := Try.checked) false ⟨#[], #[.slice none 0 0, .slice none 0 0, .slice none 0 0], []⟩ 8 (by kernel_rfl) (by kernel_rfl) (by kernel_rfl) (by kernel_rfl)) ?_
  intro W base args ds gs before hval0 hW hcnd _
  have hval : ∀ (j : Nat) t v, Try.f10.params[j]? = some t → args[j]? = some v → Value.okWide Try.prog W .any base t v := hval0
  have hW' := hW
  obtain ⟨p, q, hA0, hV, rfl, hfz, hnd⟩ := hW
  have hA : DataW.TrodAll enc Try.prog W 0 (fun _ => true) true Try.f10.params.toList args.toList ds p := hA0
  rw [Try.params10] at hA hval
  obtain ⟨v0, vs0, d0, ds0, p0, q0, hargs, rfl, rfl, h0, r0⟩ := trodAll_cons hA
  obtain ⟨v1, vs1, d1, ds1, p1, q1, rfl, rfl, rfl, h1, r1⟩ := trodAll_cons r0
  obtain ⟨v2, vs2, d2, ds2, p2, q2, rfl, rfl, rfl, h2, r2⟩ := trodAll_cons r1
  obtain ⟨rfl, rfl, rfl⟩ := trodAll_nil r2
  obtain rfl : args = #[v0, v1, v2] := by cases args; simp_all
  obtain ⟨rfl, rfl⟩ := trodVars_none hV
  obtain ⟨l0, i0, m0⟩ := read_ints h0 (okWide_slice Try.underlying23 (hval 0 23 v0 rfl rfl))
  have lt0 : ∀ x ∈ p0, x.block < W.heap.size := by obtain ⟨m, hm⟩ := h0; exact DataW.trod_lt m _ _ _ hm
  obtain ⟨l1, i1, m1⟩ := read_ints h1 (okWide_slice Try.underlying23 (hval 1 23 v1 rfl rfl))
  have lt1 : ∀ x ∈ p1, x.block < W.heap.size := by obtain ⟨m, hm⟩ := h1; exact DataW.trod_lt m _ _ _ hm
  obtain ⟨l2, i2, m2⟩ := read_ints h2 (okWide_slice Try.underlying23 (hval 2 23 v2 rfl rfl))
  have lt2 : ∀ x ∈ p2, x.block < W.heap.size := by obtain ⟨m, hm⟩ := h2; exact DataW.trod_lt m _ _ _ hm
  clear hA0 hval0
  refine (walk i0 m0 i1 m1 i2 m2).mono fun e W' ⟨he, bel⟩ => ?_
  subst he
  exact ⟨_, rfl, _, _, _, [], _, [], hW', trodAll_mk1 (shut_bool Try.underlying4 _), (trodAll_cons_mk (Below.trod laidOut (by kernel_rfl) (of_decide_eq_true (by kernel_rfl)) h0 bel lt0) (trodAll_cons_mk (Below.trod laidOut (by kernel_rfl) (of_decide_eq_true (by kernel_rfl)) h1 bel lt1) (trodAll_cons_mk (Below.trod laidOut (by kernel_rfl) (of_decide_eq_true (by kernel_rfl)) h2 bel lt2) trodAll_mk0))), rfl, bel.frame _, fun h => by cases h⟩

theorem over : Rows.tupleAllRow.holds Try.pinned (OpenSpec.ofChange Rows.tupleAllSpec) :=
  OpenClaim.holds_of_wide 10 Try.f10 rfl rfl rfl rfl rfl rfl rfl ⟨rfl, rfl, rfl, rfl, rfl⟩ rfl rfl rfl rfl rfl (by kernel_rfl) Try.func10 (by kernel_rfl)
    (of_decide_eq_true (by kernel_rfl)) (by unfold Func.isWrapper; first | (rw [if_pos (by decide +kernel)]; kernel_rfl) | (rw [if_neg (by decide +kernel)]; exact ⟨rfl, rfl⟩))
    (fun os started H enc _ => lifted os started H enc)

/-- The statement. -/
theorem proved : Rows.TupleAllSaid := over
#print axioms proved
end Go.Proofs.Ytdpcfjnflpgeiaa.tupleAll
