/-
  The contracts of placesOf and of shelve.
-/
import Derived.Test.YtcndapakkkaojaaGreatDoorJoinShelf1
import Derived.Test.YtcndapakkkaojaaGreatDoorRelBox
namespace Go.Proofs.YtcndapakkkaojaaGreatDoor
open Go.RowKit Go.Maps Go.WideMaps
set_option linter.unusedVariables false
set_option linter.unusedSimpArgs false
set_option maxRecDepth 20000
attribute [local go_sem ↓] Go.wp_at_zero Go.wp_at_succ

set_option maxHeartbeats 8000000 in
theorem placesOf_any {s vars : List Int} {vs vv : Value} {w : World} (hs : Ints w vs s) (hv : Ints w vv vars) (hup : vars.Pairwise (· ≤ ·)) (hsl : s.length < 100000000) (hvl : vars.length < 100000000) :
    Calls Tryz.prog 36 #[vs, vv] w fun e w' => ∃ u, e = .returned u ∧ Ints w' u (idxL s vars s.length) ∧ New w.heap.size w' u ∧ Below w.heap.size w w' := by
  obtain ⟨a, ca, rfl, k1, k2⟩ := hs.form
  obtain ⟨d, cd, rfl, k3, k4⟩ := hv.form
  unfold maxLen at k2 k4
  go_enter Tryz.func36, Tryz.ntmps36
  go_wp2
  go_loopw [5, 6, 7, 8, 9, 13] (fun v _ _ _ _ i wr => ∃ k : Nat, k ≤ s.length ∧ i = .int .i64 k ∧ OwnI w.heap.size wr v (idxL s vars k) ∧ Below w.heap.size w wr) (fun _ _ _ _ _ i _ => s.length - (intOf i).toNat)
  case atStart => exact ⟨0, by omega, rfl, own_litI (Nat.le_refl _), (Below.refl _ _).alloc (Nat.le_refl _) _⟩
  case round =>
    obtain ⟨k, hk, rfl, hown, hbel⟩ := hrel
    have hz := hbel.size
    have hil := idxL_le s vars k
    by_cases hkl : k < s.length
    · obtain ⟨bl, ol, rfl, hcl⟩ := (hs.below hbel).at hkl
      have HBS := hide (search_ints (x := s[k]) (hv.below hbel) hup (by omega))
      have HH := hide (fun h => idxL_hit (vars := vars) hkl h)
      have HM := hide (fun h => idxL_miss (vars := vars) hkl h)
      generalize inB vars s[k] = q at HBS HH HM
      clear hs hv
      cases q with
      | true =>
        have HN := hide (unhide HH rfl)
        clear HH HM
        go_wp2_with (first | (go_at_call 54; refine (unhide HBS).mono ?_; rintro e w' ⟨j, rfl, m, rfl⟩) | (at_builtin; refine wp_app_int rfl (.tmp 25) (.tmp 27) rfl (own_drewN hown m) rfl hz rfl (by omega) ?_; intro v' w3 hown3 hgrew))
        go_roundw
        case rel => exact ⟨k + 1, by omega, by go_num, by rw [unhide HN]; exact hown3, (Below.drewN1 hbel m).trans hgrew.below⟩
        case measure => simp [intOf]; omega
      | false =>
        have HN := hide (unhide HM rfl)
        clear HH HM
        go_wp2_with (go_at_call 54; refine (unhide HBS).mono ?_; rintro e w' ⟨j, rfl, m, rfl⟩)
        go_roundw
        case rel => exact ⟨k + 1, by omega, by go_num, by rw [unhide HN]; exact own_drewN hown m, Below.drewN1 hbel m⟩
        case measure => simp [intOf]; omega
    · have hkk : k = s.length := by omega
      subst hkk
      have hps := Seq.of_own hown
      have hnw := New.of_own hown
      clear hs hv hown
      go_wp2
      go_ret
      exact ⟨_, rfl, hps, hnw, hbel⟩

/-- The values of rows, of these, that have p at the places ps. -/
def fOf (ps : List Int) (vl : List (Value × List Int)) (p : List Int) : List Value := (vl.filter fun x => decide (pickL x.2 ps = p)).map Prod.fst

theorem fOf_snoc (ps : List Int) (vl : List (Value × List Int)) (y : Value) (t p : List Int) : fOf ps (vl ++ [(y, t)]) p = fOf ps vl p ++ if pickL t ps = p then [y] else [] := by
  unfold fOf
  rw [List.filter_append, List.map_append]
  by_cases h : pickL t ps = p <;> simp [List.filter_cons, h]

theorem fOf_len (ps : List Int) (vl : List (Value × List Int)) (p : List Int) (h : vl.length < 1000000) : (fOf ps vl p).length < 100000000000 := by
  unfold fOf
  rw [List.length_map]
  have := List.length_filter_le (fun x : Value × List Int => decide (pickL x.2 ps = p)) vl
  omega

theorem zip_like {ps p : List Int} {vl : List (Value × List Int)} : likeL ps p (vl.map Prod.snd) = (vl.filter fun x => decide (pickL x.2 ps = p)).map Prod.snd := by
  unfold likeL
  rw [List.filter_map]; rfl

theorem fOf_tups {w : World} {ps p : List Int} {vl : List (Value × List Int)} {B : Nat} {v : Value} (hv : ∀ x ∈ vl, Ints w x.1 x.2) (h : OwnV B w v (fOf ps vl p)) : Tups w v (likeL ps p (vl.map Prod.snd)) := by
  rw [zip_like]
  refine ⟨fOf ps vl p, Seq.of_own (enc := id) (by simpa using h), by simp [fOf], fun i hi hi' => ?_⟩
  unfold fOf at hi ⊢
  simp only [List.getElem_map]
  exact hv _ (List.mem_filter.1 (List.getElem_mem _)).1

theorem fOf_none {ps p : List Int} {vl : List (Value × List Int)} (h : fOf ps vl p = []) : likeL ps p (vl.map Prod.snd) = [] := by
  rw [zip_like]
  unfold fOf at h
  rw [List.map_eq_nil_iff] at h
  rw [h]; rfl

theorem ShSt.setOut {B : Nat} {w : World} {V : Value} {n : Nat} {D : DataW Unit} {ks : List (List Int)} {gs : List Value} {f : List Int → List Value} (h : ShSt B w V n D ks gs f) {b i : Nat} (hb : b < B) (z : Value) : ShSt B (w.setCell ⟨b, i, none⟩ z) V n D ks gs f := by
  have g := grown_setCell w b i z
  have k : ∀ {u : Value} {e : TypeId} {m : Nat} {xs : List Value}, w.ownsRow (B + 2) e 1 u m xs → (w.setCell ⟨b, i, none⟩ z).ownsRow (B + 2) e 1 u m xs := fun hu => hu.kept g (by
    cases hub : Value.ownBlock _ with
    | none => exact .inl rfl
    | some c => right; intro e; have := own_new hu c hub; injection e with e; omega)
  exact ⟨h.map.kept g (by intro e; injection e with e; omega), h.mof, h.box.grown g (by intro e; injection e with e; omega), k h.own, h.len, fun i hi hi' => k (h.grp i hi hi'), h.sepV, h.sepG, h.kn, h.kd, h.out⟩

theorem ShSt.start (w : World) (ps : List Int) : ShSt w.heap.size ((w.alloc (.map #[] 0)).alloc (.cells #[.map (some w.heap.size), .slice none 0 0] 57)) (.slice none 0 0) 0 (.map []) [] [] (fOf ps []) := by
  refine ⟨(World.ownsMap_made w _ _ _).alloc _, MapOf.nil, ?_, World.ownsRow_nil _ _ _ _, rfl, fun i h => by simp at h, fun i h => by simp at h, fun i j h => by simp at h, List.Pairwise.nil, by simp, fun p _ => rfl⟩
  have := heap_alloc_new (w.alloc (.map #[] 0)) (.cells #[.map (some w.heap.size), .slice none 0 0] 57)
  unfold BoxM
  simpa using this

theorem Tups.rows {w : World} {v : Value} {ll : List (List Int)} (h : Tups w v ll) : ∃ vl : List (Value × List Int), vl.map Prod.snd = ll ∧ Seq id w v (vl.map Prod.fst) ∧ ∀ x ∈ vl, Ints w x.1 x.2 := by
  obtain ⟨vs, h1, h2, h3⟩ := h
  refine ⟨vs.zip ll, ?_, ?_, fun x hx => ?_⟩
  · rw [List.map_snd_zip]; omega
  · rw [List.map_fst_zip (by omega)]; exact h1
  · obtain ⟨i, hi, rfl⟩ := List.getElem_of_mem hx
    simp only [List.length_zip] at hi
    simp only [List.getElem_zip]
    exact h3 i (by omega) (by omega)

theorem wf_len {n : Nat} (h : n < 100000000) : (Lit.int .i64 (n : Int)).wf = true := WalkArith.wf_i64 (by omega)

set_option maxHeartbeats 40000000 in
theorem shelve_any {s vars : List Int} {ll : List (List Int)} {v vv : Value} {w : World} (h : RelV w v s ll) (hv : Ints w vv vars) (hup : vars.Pairwise (· ≤ ·)) (hd : ∀ t ∈ ll, Dig t) (hl : ll.length < 1000000) (hsl : s.length < 10000) (hvl : vars.length < 10000) :
    Calls Tryz.prog 37 #[v, vv] w fun e w' => ∃ u, e = .returned u ∧ ShelfV w' u (idxL s vars s.length) ll ∧ Below w.heap.size w w' := by
  obtain ⟨a, ca, b, cb, rfl, k1, k2, k3, k4, hs, ht⟩ := h.form
  obtain ⟨d, cd, rfl, k5, k6⟩ := hv.form
  unfold maxLen at k2 k4 k6
  have hb0 := b2x w (.cells #[.slice a s.length ca, .slice b ll.length cb] 27) (.cells #[.map none, .slice none 0 0] 57)
  obtain ⟨W0, hW0⟩ : ∃ W, W = (w.alloc (.cells #[.slice a s.length ca, .slice b ll.length cb] 27)).alloc (.cells #[.map none, .slice none 0 0] 57) := ⟨_, rfl⟩
  have hbx0 : Box W0 w.heap.size (.slice a s.length ca) (.slice b ll.length cb) := by rw [hW0]; exact (Box.new w _ _).push _
  have hbx1 : BoxM W0 (w.heap.size + 1) (.map none) (.slice none 0 0) := by
    rw [hW0]; have := heap_alloc_new (w.alloc (.cells #[.slice a s.length ca, .slice b ll.length cb] 27)) (.cells #[.map none, .slice none 0 0] 57); unfold BoxM; simpa using this
  rw [← hW0] at hb0
  have HPL := hide (placesOf_any (hs.below hb0) (hv.below hb0) hup (by omega) (by omega))
  have hpl := idxL_le s vars s.length
  generalize idxL s vars s.length = ps at HPL hpl ⊢
  have HW0 := hide hW0
  have HD := hide hd
  have HT := hide ht
  have hz0 := hb0.size
  clear h hv hup hW0 hd hs ht
  go_enter Tryz.func37, Tryz.ntmps37
  go_wp2_with fail
  rw [← unhide HW0]
  refine (unhide HPL).mono ?_
  rintro e w1 ⟨u1, rfl, hu1, hun1, hb1⟩
  obtain ⟨ua, uc, rfl, k7, k8⟩ := hu1.form
  have hbw1 := hb0.trans (hb1.mono hz0)
  replace hbx0 := hbx0.belowH hb1
  have gN : W0.grownBy w1 none := ⟨hb1.os, hb1.tape, hb1.output, hb1.size, fun k hk _ => hb1.block k hk⟩
  replace hbx1 := hbx1.grown gN (by simp)
  have hzb := hbx1.lt
  have hmm := @run_makeMap Tryz.prog
  have hc1 := hbx0.cell1
  obtain ⟨vl, hvl1, hvs, hvi⟩ := (unhide HT).rows
  have hlen : vl.length = ll.length := by rw [← hvl1]; simp
  have HLEN := hide hlen
  have HVL := hide hvl1
  have HVS := hide (hvs.below hbw1)
  have HVI := hide (fun W (hb : Below w.heap.size w W) x hx => (hvi x hx).below (w' := W) hb)
  have HU1 := hide hu1
  have HST := hide (ShSt.start w1 ps)
  have hc1' := cell_push (cell_push hc1 (.map #[] 0)) (.cells #[.map (some w1.heap.size), .slice none 0 0] 57)
  clear HPL hu1 hun1 hvs hvi hvl1 hlen hb1 gN
  go_wp2
  go_loopw [8, 9, 10, 11, 21] (fun _ _ _ _ i wr => ∃ (k : Nat) (V : Value) (n : Nat) (D : DataW Unit) (ks : List (List Int)) (gs : List Value), k ≤ ll.length ∧ i = .int .i64 k ∧ ShSt w1.heap.size wr V n D ks gs (fOf ps (vl.take k)) ∧ Below w1.heap.size w1 wr ∧ n ≤ k ∧ gs.length ≤ k) (fun _ _ _ _ i _ => ll.length - (intOf i).toNat)
  case atStart => exact ⟨0, _, 0, _, _, _, by omega, rfl, unhide HST, ((Below.refl _ _).alloc (Nat.le_refl _) _).alloc (by simp) _, Nat.le_refl _, by simp⟩
  case round =>
    clear hc1' hmm HST
    obtain ⟨k, V, n, D, ks, gs, hk, rfl, hst, hbel, hn, hg⟩ := hrel
    have hz := hbel.size
    by_cases hkl : k < ll.length
    · have hkv : k < vl.length := by have := unhide HLEN; omega
      obtain ⟨bl, ol, hble, hcl⟩ := ((unhide HVS).below hbel).at (k := k) (by simpa using hkv)
      subst hble
      simp only [id, List.getElem_map] at hcl
      have hrow := unhide HVI _ (hbw1.trans (hbel.mono hbw1.size)) _ (List.getElem_mem hkv)
      have etk : vl[k].2 = ll[k] := by have := unhide HVL; subst this; simp
      have hdg := unhide HD ll[k] (List.getElem_mem hkl)
      rw [etk] at hrow
      have HTK := hide (show vl.take (k + 1) = vl.take k ++ [(vl[k].1, ll[k])] by rw [List.take_succ_eq_append_getElem hkv, ← etk])
      have hpd := pick_dig (ps := ps) hdg
      have hpn := pick_len ll[k] ps
      have hp6 : (pickL ll[k] ps).length < 1000000 := by omega
      have HKY := hide (key_any hrow ((unhide HU1).below hbel) hdg (by omega))
      have HF := hide (fOf_snoc ps (vl.take k) vl[k].1 ll[k])
      obtain ⟨y, hye⟩ : ∃ y, y = vl[k].1 := ⟨_, rfl⟩
      rw [← hye] at hrow hcl HTK HF HKY
      obtain ⟨ya, yc, hyf, _, _⟩ := hrow.form
      have HYE := hide hye
      have HFL := hide (fun q => fOf_len ps (vl.take k) q (by rw [List.length_take]; have := unhide HLEN; omega))
      generalize fOf ps (vl.take k) = f at hst HF HFL
      obtain ⟨t, hte⟩ : ∃ t, t = ll[k] := ⟨_, rfl⟩
      rw [← hte] at hrow hpd hp6 HKY HTK HF hyf hpn
      have HTE := hide hte
      have HROW := hide hrow
      subst hyf
      generalize pickL t ps = p at *
      clear hye hte etk hdg hrow hpn
      go_wp2_with fail
      refine (unhide HKY).mono ?_
      rintro e w2 ⟨rfl, hb2⟩
      have hst2 := hst.below hb2
      have hbel2 := below_then hbel hb2
      have hrow2 := hide ((unhide HROW).below hb2)
      have hbx := hst2.box
      have hcc0 := hbx.cell0
      have hcc1 := hbx.cell1
      obtain ⟨va, vc, hVe, _, _⟩ := (Seq.of_own (enc := id) (l := gs) (by simpa using hst2.own)).form
      subst hVe
      have hmb := hst2.map
      have HST2 := hide hst2
      clear HKY hst hbx hst2 hcl
      by_cases hp : p ∈ ks
      case pos =>
        obtain ⟨iX, hikX, hipX⟩ := List.getElem_of_mem hp
        have hlenX := (unhide HST2).len
        have hiX : iX < gs.length := by omega
        obtain ⟨hq1, hq2⟩ := (unhide HST2).mof.yes hikX ((unhide HST2).kd _ (List.getElem_mem hikX))
        rw [hipX] at hq1 hq2
        clear hlenX
        go_wp2_with (at_lookup; refine wp_look rfl _ _ rfl hmb rfl rfl hp6 hq1 hq2 ?_)
        obtain ⟨gv, ga, gn, gc, eg1, eg2, eg3, hS1, hS2, hgo, hm1, hm2, hgvl, hnext⟩ := (unhide HST2).get hiX hikX
        subst eg1
        unfold maxLen at hm2
        have hiV : iX < gs.length := by exact hiX
        have HNX := hide hnext
        have HXX := hide ((unhide HST2).below ((Below.refl _ _).drew))
        have HG3 := hide eg3
        have hgo2 := hide (own_below hgo ((Below.refl _ _).drew))
        have HBZ := hide (show w1.heap.size + 2 ≤ w2.heap.size by have := (unhide HST2).box.lt; omega)
        clear hnext eg2 eg3 hgo hq1 hq2 hmb hcc0 hcc1
        refine wp_region_noPanic ?_
        refine wp_region_till (st := 12) (S := fun W => W.cell? ⟨w1.heap.size + 1, 1, none⟩ = some (.slice (some ⟨gv, 0, none⟩) gs.length vc) ∧ W.cell? ⟨gv, iX, none⟩ = some (.slice ga gn gc)) (by kernel_rfl) ?_
        have hS0 : w2.drew.cell? ⟨w1.heap.size + 1, 1, none⟩ = some (.slice (some ⟨gv, 0, none⟩) gs.length vc) ∧ w2.drew.cell? ⟨gv, iX, none⟩ = some (.slice ga gn gc) := ⟨hS1, hS2⟩
        refine till_take (i := 0) (v := ?_) rfl (by kernel_rfl) (by kernel_rfl) (by kernel_rfl) (by kernel_rfl) (fun _ _ _ h => h) (Or.inl ⟨by rfl, ?_⟩) (by assumption) ?_
        rotate_left
        · intro W hSW; obtain ⟨hS1, hS2⟩ := hSW; go_simp; first | done | rfl
        simp only [Act.put, List.setIfInBounds_toArray, List.set_cons_zero, List.set_cons_succ]
        refine till_take (i := 1) (v := ?_) rfl (by kernel_rfl) (by kernel_rfl) (by kernel_rfl) (by kernel_rfl) (fun _ _ _ h => h) (Or.inl ⟨by rfl, ?_⟩) (by assumption) ?_
        rotate_left
        · intro W hSW; obtain ⟨hS1, hS2⟩ := hSW; go_simp; first | done | rfl
        simp only [Act.put, List.setIfInBounds_toArray, List.set_cons_zero, List.set_cons_succ]
        refine till_take (i := 2) (v := ?_) rfl (by kernel_rfl) (by kernel_rfl) (by kernel_rfl) (by kernel_rfl) (fun _ _ _ h => h) (Or.inl ⟨by rfl, ?_⟩) (by assumption) ?_
        rotate_left
        · intro W hSW; obtain ⟨hS1, hS2⟩ := hSW; go_simp; first | done | rfl
        simp only [Act.put, List.setIfInBounds_toArray, List.set_cons_zero, List.set_cons_succ]
        refine till_take (i := 3) (v := ?_) rfl (by kernel_rfl) (by kernel_rfl) (by kernel_rfl) (by kernel_rfl) (fun _ _ _ h => h) (Or.inl ⟨by rfl, ?_⟩) (by assumption) ?_
        rotate_left
        · intro W hSW; obtain ⟨hS1, hS2⟩ := hSW; go_simp; first | done | rfl
        simp only [Act.put, List.setIfInBounds_toArray, List.set_cons_zero, List.set_cons_succ]
        refine till_take (i := 4) (v := ?_) rfl (by kernel_rfl) (by kernel_rfl) (by kernel_rfl) (by kernel_rfl) (fun _ _ _ h => h) (Or.inl ⟨by rfl, ?_⟩) (by assumption) ?_
        rotate_left
        · intro W hSW; obtain ⟨hS1, hS2⟩ := hSW; go_simp; first | done | rfl
        simp only [Act.put, List.setIfInBounds_toArray, List.set_cons_zero, List.set_cons_succ]
        refine till_take (i := 5) (v := ?_) rfl (by kernel_rfl) (by kernel_rfl) (by kernel_rfl) (by kernel_rfl) (fun _ _ _ h => h) (Or.inl ⟨by rfl, ?_⟩) (by assumption) ?_
        rotate_left
        · intro W hSW; obtain ⟨hS1, hS2⟩ := hSW; go_simp; first | done | rfl
        simp only [Act.put, List.setIfInBounds_toArray, List.set_cons_zero, List.set_cons_succ]
        refine till_take (i := 6) (v := ?_) rfl (by kernel_rfl) (by kernel_rfl) (by kernel_rfl) (by kernel_rfl) (fun _ _ _ h => h) (Or.inl ⟨by rfl, ?_⟩) (by assumption) ?_
        rotate_left
        · intro W hSW; obtain ⟨hS1, hS2⟩ := hSW; go_simp; first | done | rfl
        simp only [Act.put, List.setIfInBounds_toArray, List.set_cons_zero, List.set_cons_succ]
        refine till_take (i := 7) (v := ?_) rfl (by kernel_rfl) (by kernel_rfl) (by kernel_rfl) (by kernel_rfl) (fun _ _ _ h => h) (Or.inl ⟨by rfl, ?_⟩) (by assumption) ?_
        rotate_left
        · intro W hSW; obtain ⟨hS1, hS2⟩ := hSW; go_simp; first | done | rfl
        simp only [Act.put, List.setIfInBounds_toArray, List.set_cons_zero, List.set_cons_succ]
        refine till_take (i := 8) (v := ?_) rfl (by kernel_rfl) (by kernel_rfl) (by kernel_rfl) (by kernel_rfl) (fun _ _ _ h => h) (Or.inl ⟨by rfl, ?_⟩) (by assumption) ?_
        rotate_left
        · intro W hSW; obtain ⟨hS1, hS2⟩ := hSW; go_simp; first | done | rfl
        simp only [Act.put, List.setIfInBounds_toArray, List.set_cons_zero, List.set_cons_succ]
        refine till_one (i := 9) (by kernel_rfl) rfl rfl (by decide) (fun K hK => ?_)
        go_simp
        refine hK.out _ _ ⟨cell_push hS0.1 _, cell_push hS0.2 _⟩ (fun hHeld => ?_)
        clear hK K
        try simp only [Act.put, List.setIfInBounds_toArray, List.set_cons_zero, List.set_cons_succ]
        refine till_one (i := 10) (by kernel_rfl) rfl rfl (by decide) (fun K hK => ?_)
        refine op_app_row (.tmp 56) (.tmp 58) rfl (B := w1.heap.size + 2) (w := w2.drew) (unhide hgo2) rfl (unhide HBZ) rfl rfl (unhide HFL _) ?_
        intro g5 w6 hown6 hgrew6
        obtain ⟨g5a, g5n, g5c, hg5⟩ := ownV_sl hown6
        subst hg5
        obtain ⟨hn1, hn2, hn3⟩ := unhide HNX w6 _ ⟨((Below.refl (w1.heap.size + 2) w2).drew).trans hgrew6.below, ⟨hgrew6.by_.os, hgrew6.by_.tape, hgrew6.by_.output, hgrew6.by_.size, hgrew6.by_.block⟩, hgrew6.at_⟩
        refine hK.out _ _ ⟨hn1, hn2⟩ (fun hHeld => ?_)
        clear hK K
        try simp only [Act.put, List.setIfInBounds_toArray, List.set_cons_zero, List.set_cons_succ]
        refine till_one (i := 11) (by kernel_rfl) rfl rfl (by decide) (fun K hK => ?_)
        go_simp
        refine hK.out _ _ hHeld (fun hHeld => ?_)
        clear hK K
        try simp only [Act.put, List.setIfInBounds_toArray, List.set_cons_zero, List.set_cons_succ]
        refine till_last (by kernel_rfl) rfl rfl (by kernel_rfl) (fun K hK => ?_)
        go_simp
        refine hK.out _ _ (NoPanic.normal ?_)
        have HFX := hide ((unhide HXX).put hiX hikX (f' := fOf ps (vl.take (k + 1))) (g' := .slice g5a g5n g5c) (y := .slice ya t.length yc) (by rw [unhide HTK, unhide HF, hipX]; simp) (fun q hq => by rw [unhide HTK, unhide HF, if_neg (fun e => hq (by rw [hipX]; exact e.symm))]; simp) hown6 (by rw [unhide HG3]; exact hgrew6))
        have hB6 : Below w1.heap.size w1 (w6.setCell ⟨gv, iX, none⟩ (.slice g5a g5n g5c)) := (hbel2.trans (((Below.refl (w1.heap.size + 2) w2).drew.trans hgrew6.below).mono (by omega))).setCell (show w1.heap.size ≤ gv by omega) _
        clear hHeld hS0 hS1 hS2 hn1 hn2 hn3
        go_wp2
        go_roundw
        case rel => first | exact ⟨k + 1, _, n, D, ks, _, by omega, by go_num, unhide HFX, hB6, by omega, by simp; omega⟩ | ((repeat apply Exists.intro); exact ⟨⟨k + 1, _, n, D, ks, _, by omega, by go_num, unhide HFX, hB6, by omega, by simp; omega⟩, rfl⟩)
        case measure => simp [intOf]; omega
      case neg =>
        obtain ⟨hq1, hq2⟩ := (unhide HST2).mof.no hpd hp
        have hown0 := (unhide HST2).own
        have hwg := wf_len (n := gs.length) (by omega)
        go_wp2_with (first
          | (at_lookup; refine wp_look rfl _ _ rfl hmb rfl rfl hp6 hq1 hq2 ?_)
          | (at_mapUpdate; refine wpList_mapUpdate_own _ rfl _ _ _ 54 rfl 9 3 strLaw Tryz.underlying54 _ w1.heap.size n D rfl hmb (by unfold maxLen; omega) _ _ (kl p) rfl rfl (key_lit hp6) (.lit (.int .i64 (gs.length : Int))) [] (plainElem_int Tryz.underlying3 hwg) ?_; intro w3 hm3 hg3; have hbx3 := (unhide HST2).box.grown hg3 (by simp); have hd0 := hbx3.cell0; have hd1 := hbx3.cell1; have hown3 := shst_own hown0 hg3)
          | (at_builtin; refine wp_app_tupsX rfl (.tmp 45) (.tmp 46) rfl hown3 rfl (by have := hbx3.lt; omega) rfl rfl (by omega) ?_; intro V4 w4 hown4 hg4; obtain ⟨v4a, v4n, v4c, hV4⟩ := ownX_sl hown4; subst hV4; have hbx4 := hbx3.grown hg4.by_ (shst_ne hown3); have he0 := hbx4.cell1; have hf1 := hbx4.frozen 1))
        have HX := hide ((unhide HST2).add hpd hp hm3 hg3 hown4 hg4)
        have hb4 : Below w1.heap.size w1 (w4.setCell ⟨w1.heap.size + 1, 1, none⟩ (.slice v4a v4n v4c)) := ((hbel2.grown hg3 hbel2.size (fun k hk => by cases hk; exact Nat.le_refl _)).trans (hg4.below.mono (by omega))).setCell (show w1.heap.size ≤ w1.heap.size + 1 by omega) _
        have hlX := (unhide HST2).len
        obtain ⟨iX, hiX, hikX, hipX, hiE⟩ : ∃ i, ∃ _ : i < (gs ++ [Value.slice none 0 0]).length, ∃ hk : i < (ks ++ [p]).length, (ks ++ [p])[i] = p ∧ i = gs.length := ⟨gs.length, by simp, by simp; omega, by rw [List.getElem_append_right (by omega)]; simp [hlX], rfl⟩
        have hrowX := hide (fun W hb => Seq.below (w' := W) (unhide hrow2) hb)
        have hbX2 : Below w2.heap.size w2 (w4.setCell ⟨w1.heap.size + 1, 1, none⟩ (.slice v4a v4n v4c)) → True := fun _ => trivial
        have hgl : (gs ++ [Value.slice none 0 0]).length ≤ k + 1 := by simp; omega
        rw [← hiE]
        generalize gs ++ [Value.slice none 0 0] = gs' at *
        generalize ks ++ [p] = ks' at *
        generalize D.put (kl p) (.lit (.int .i64 (gs.length : Int))) = D' at *
        generalize w4.setCell ⟨w1.heap.size + 1, 1, none⟩ (.slice v4a v4n v4c) = w5 at *
        clear hlX hm3 hg3 hown4 hg4 hbx4 he0 hf1 hbx3 hd0 hd1 hown3 hown0 hcc0 hcc1 hmb hbX2 hiE
        obtain ⟨gv, ga, gn, gc, eg1, eg2, eg3, hS1, hS2, hgo, hm1, hm2, hgvl, hnext⟩ := (unhide HX).get hiX hikX
        subst eg1
        unfold maxLen at hm2
        have hiV : iX < v4n := by omega
        have HNX := hide hnext
        have HXX := hide ((unhide HX).below ((Below.refl _ _).drew))
        have HG3 := hide eg3
        have hgo2 := hide (own_below hgo ((Below.refl _ _).drew))
        have HBZ := hide (show w1.heap.size + 2 ≤ w5.heap.size by have := (unhide HX).box.lt; omega)
        clear hnext eg2 eg3 hgo hq1 hq2
        refine wp_region_noPanic ?_
        refine wp_region_till (st := 12) (S := fun W => W.cell? ⟨w1.heap.size + 1, 1, none⟩ = some (.slice (some ⟨gv, 0, none⟩) v4n v4c) ∧ W.cell? ⟨gv, iX, none⟩ = some (.slice ga gn gc)) (by kernel_rfl) ?_
        have hS0 : w5.drew.cell? ⟨w1.heap.size + 1, 1, none⟩ = some (.slice (some ⟨gv, 0, none⟩) v4n v4c) ∧ w5.drew.cell? ⟨gv, iX, none⟩ = some (.slice ga gn gc) := ⟨hS1, hS2⟩
        refine till_take (i := 0) (v := ?_) rfl (by kernel_rfl) (by kernel_rfl) (by kernel_rfl) (by kernel_rfl) (fun _ _ _ h => h) (Or.inl ⟨by rfl, ?_⟩) (by assumption) ?_
        rotate_left
        · intro W hSW; obtain ⟨hS1, hS2⟩ := hSW; go_simp; first | done | rfl
        simp only [Act.put, List.setIfInBounds_toArray, List.set_cons_zero, List.set_cons_succ]
        refine till_take (i := 1) (v := ?_) rfl (by kernel_rfl) (by kernel_rfl) (by kernel_rfl) (by kernel_rfl) (fun _ _ _ h => h) (Or.inl ⟨by rfl, ?_⟩) (by assumption) ?_
        rotate_left
        · intro W hSW; obtain ⟨hS1, hS2⟩ := hSW; go_simp; first | done | rfl
        simp only [Act.put, List.setIfInBounds_toArray, List.set_cons_zero, List.set_cons_succ]
        refine till_take (i := 2) (v := ?_) rfl (by kernel_rfl) (by kernel_rfl) (by kernel_rfl) (by kernel_rfl) (fun _ _ _ h => h) (Or.inl ⟨by rfl, ?_⟩) (by assumption) ?_
        rotate_left
        · intro W hSW; obtain ⟨hS1, hS2⟩ := hSW; go_simp; first | done | rfl
        simp only [Act.put, List.setIfInBounds_toArray, List.set_cons_zero, List.set_cons_succ]
        refine till_take (i := 3) (v := ?_) rfl (by kernel_rfl) (by kernel_rfl) (by kernel_rfl) (by kernel_rfl) (fun _ _ _ h => h) (Or.inl ⟨by rfl, ?_⟩) (by assumption) ?_
        rotate_left
        · intro W hSW; obtain ⟨hS1, hS2⟩ := hSW; go_simp; first | done | rfl
        simp only [Act.put, List.setIfInBounds_toArray, List.set_cons_zero, List.set_cons_succ]
        refine till_take (i := 4) (v := ?_) rfl (by kernel_rfl) (by kernel_rfl) (by kernel_rfl) (by kernel_rfl) (fun _ _ _ h => h) (Or.inl ⟨by rfl, ?_⟩) (by assumption) ?_
        rotate_left
        · intro W hSW; obtain ⟨hS1, hS2⟩ := hSW; go_simp; first | done | rfl
        simp only [Act.put, List.setIfInBounds_toArray, List.set_cons_zero, List.set_cons_succ]
        refine till_take (i := 5) (v := ?_) rfl (by kernel_rfl) (by kernel_rfl) (by kernel_rfl) (by kernel_rfl) (fun _ _ _ h => h) (Or.inl ⟨by rfl, ?_⟩) (by assumption) ?_
        rotate_left
        · intro W hSW; obtain ⟨hS1, hS2⟩ := hSW; go_simp; first | done | rfl
        simp only [Act.put, List.setIfInBounds_toArray, List.set_cons_zero, List.set_cons_succ]
        refine till_take (i := 6) (v := ?_) rfl (by kernel_rfl) (by kernel_rfl) (by kernel_rfl) (by kernel_rfl) (fun _ _ _ h => h) (Or.inl ⟨by rfl, ?_⟩) (by assumption) ?_
        rotate_left
        · intro W hSW; obtain ⟨hS1, hS2⟩ := hSW; go_simp; first | done | rfl
        simp only [Act.put, List.setIfInBounds_toArray, List.set_cons_zero, List.set_cons_succ]
        refine till_take (i := 7) (v := ?_) rfl (by kernel_rfl) (by kernel_rfl) (by kernel_rfl) (by kernel_rfl) (fun _ _ _ h => h) (Or.inl ⟨by rfl, ?_⟩) (by assumption) ?_
        rotate_left
        · intro W hSW; obtain ⟨hS1, hS2⟩ := hSW; go_simp; first | done | rfl
        simp only [Act.put, List.setIfInBounds_toArray, List.set_cons_zero, List.set_cons_succ]
        refine till_take (i := 8) (v := ?_) rfl (by kernel_rfl) (by kernel_rfl) (by kernel_rfl) (by kernel_rfl) (fun _ _ _ h => h) (Or.inl ⟨by rfl, ?_⟩) (by assumption) ?_
        rotate_left
        · intro W hSW; obtain ⟨hS1, hS2⟩ := hSW; go_simp; first | done | rfl
        simp only [Act.put, List.setIfInBounds_toArray, List.set_cons_zero, List.set_cons_succ]
        refine till_one (i := 9) (by kernel_rfl) rfl rfl (by decide) (fun K hK => ?_)
        go_simp
        refine hK.out _ _ ⟨cell_push hS0.1 _, cell_push hS0.2 _⟩ (fun hHeld => ?_)
        clear hK K
        try simp only [Act.put, List.setIfInBounds_toArray, List.set_cons_zero, List.set_cons_succ]
        refine till_one (i := 10) (by kernel_rfl) rfl rfl (by decide) (fun K hK => ?_)
        refine op_app_row (.tmp 56) (.tmp 58) rfl (B := w1.heap.size + 2) (w := w5.drew) (unhide hgo2) rfl (unhide HBZ) rfl rfl (unhide HFL _) ?_
        intro g5 w6 hown6 hgrew6
        obtain ⟨g5a, g5n, g5c, hg5⟩ := ownV_sl hown6
        subst hg5
        obtain ⟨hn1, hn2, hn3⟩ := unhide HNX w6 _ ⟨((Below.refl (w1.heap.size + 2) w5).drew).trans hgrew6.below, ⟨hgrew6.by_.os, hgrew6.by_.tape, hgrew6.by_.output, hgrew6.by_.size, hgrew6.by_.block⟩, hgrew6.at_⟩
        refine hK.out _ _ ⟨hn1, hn2⟩ (fun hHeld => ?_)
        clear hK K
        try simp only [Act.put, List.setIfInBounds_toArray, List.set_cons_zero, List.set_cons_succ]
        refine till_one (i := 11) (by kernel_rfl) rfl rfl (by decide) (fun K hK => ?_)
        go_simp
        refine hK.out _ _ hHeld (fun hHeld => ?_)
        clear hK K
        try simp only [Act.put, List.setIfInBounds_toArray, List.set_cons_zero, List.set_cons_succ]
        refine till_last (by kernel_rfl) rfl rfl (by kernel_rfl) (fun K hK => ?_)
        go_simp
        refine hK.out _ _ (NoPanic.normal ?_)
        have HFX := hide ((unhide HXX).put hiX hikX (f' := fOf ps (vl.take (k + 1))) (g' := .slice g5a g5n g5c) (y := .slice ya t.length yc) (by rw [unhide HTK, unhide HF, hipX]; simp) (fun q hq => by rw [unhide HTK, unhide HF, if_neg (fun e => hq (by rw [hipX]; exact e.symm))]; simp) hown6 (by rw [unhide HG3]; exact hgrew6))
        have hB6 : Below w1.heap.size w1 (w6.setCell ⟨gv, iX, none⟩ (.slice g5a g5n g5c)) := (hb4.trans (((Below.refl (w1.heap.size + 2) w5).drew.trans hgrew6.below).mono (by omega))).setCell (show w1.heap.size ≤ gv by omega) _
        clear hHeld hS0 hS1 hS2 hn1 hn2 hn3
        go_wp2
        go_roundw
        case rel => first | exact ⟨k + 1, _, n + 1, D', ks', _, by omega, by go_num, unhide HFX, hB6, by omega, by simp; omega⟩ | ((repeat apply Exists.intro); exact ⟨⟨k + 1, _, n + 1, D', ks', _, by omega, by go_num, unhide HFX, hB6, by omega, by simp; omega⟩, rfl⟩)
        case measure => simp [intOf]; omega
    · have hkk : k = ll.length := by omega
      subst hkk
      have hLV := unhide HLEN
      rw [← hLV, List.take_length] at hst
      obtain ⟨va, vc, hVe, _, _⟩ := (Seq.of_own (enc := id) (l := gs) (by simpa using hst.own)).form
      subst hVe
      have hbxr := hst.box
      have hcc0 := hbxr.cell0
      have hcc1 := hbxr.cell1
      have hout := hbx1.grown (w' := wr) (row := none) ⟨hbel.os, hbel.tape, hbel.output, hbel.size, fun k hk _ => hbel.block k hk⟩ (by simp)
      have ho0 := hout.cell0
      have ho1 := hout.cell1
      have hf0 := hout.frozen 0
      have hf1 := hout.frozen 1
      have HFIN := hide ((hst.setOut (b := w.heap.size + 1) (i := 0) (by omega) (.map (some w1.heap.size))).setOut (b := w.heap.size + 1) (i := 1) (by omega) (.slice va gs.length vc))
      have hbF := below_store (hbw1.trans (hbel.mono hbw1.size)) (b := w.heap.size + 1) (by omega) (.map (some w1.heap.size)) (.slice va gs.length vc)
      clear hst hbxr hout hLV
      go_wp2
      refine bodyPost_ret (v := .agg #[.map (some w1.heap.size), .slice va gs.length vc]) (by simp [results, Tryz.results37, go_sem, ho0, ho1]) rfl ⟨_, rfl, ?_, hbF⟩
      have hV := unhide HVL
      rw [← hV]
      exact (unhide HFIN).shelf (fun p v hv => fOf_tups (unhide HVI _ hbF) hv) (fun p hp => fOf_none hp)

end Go.Proofs.YtcndapakkkaojaaGreatDoor
