/-
  Rows of rows that are filled in place; the contracts of placesOf, bundle, joined.
-/
import Derived.Test.YtafpecdmaogohaaGreatConcat
import Derived.Test.YtafpecdmaogohaaGreatJoinProg
import Derived.Test.YtafpecdmaogohaaGreatApp3
import Derived.Test.YtafpecdmaogohaaGreatUntil
import Derived.Test.YtafpecdmaogohaaGreatTupFind
import Derived.Test.YtafpecdmaogohaaGreatRelBox
namespace Go.Proofs.YtafpecdmaogohaaGreat
open Go.RowKit
set_option linter.unusedVariables false
set_option linter.unusedSimpArgs false
set_option maxRecDepth 20000
attribute [local go_sem ↓] Go.wp_at_zero Go.wp_at_succ

/-- Rows of numbers of the call's own: the outer row and each inner one lie apart, all from B on. -/
def OwnS (B : Nat) (w : World) (v : Value) (ll : List (List Int)) : Prop :=
  ∃ vs : List Value, OwnV B w v vs ∧ vs.length = ll.length ∧ (∀ i (h : i < vs.length) (h' : i < ll.length), OwnI B w vs[i] ll[i] ∧ Sep vs[i] v) ∧ ∀ i j (h : i < vs.length) (h' : j < vs.length), i ≠ j → Sep vs[i] vs[j]

theorem OwnS.tups {B : Nat} {w : World} {v : Value} {ll : List (List Int)} (h : OwnS B w v ll) : Tups w v ll := by
  obtain ⟨vs, h1, h2, h3, _⟩ := h
  exact ⟨vs, Seq.of_own (enc := id) (by simpa using h1), h2, fun i hi hi' => Seq.of_own (h3 i hi hi').1⟩
theorem OwnS.new {B : Nat} {w : World} {v : Value} {ll : List (List Int)} (h : OwnS B w v ll) : New B w v := by
  obtain ⟨vs, h1, _⟩ := h
  exact New.of_own h1
theorem OwnS.below {B : Nat} {w w' : World} {v : Value} {ll : List (List Int)} (h : OwnS B w v ll) (hb : Below w.heap.size w w') : OwnS B w' v ll := by
  obtain ⟨vs, h1, h2, h3, h4⟩ := h
  exact ⟨vs, own_below h1 hb, h2, fun i hi hi' => ⟨own_below (h3 i hi hi').1 hb, (h3 i hi hi').2⟩, h4⟩

theorem own_form {B : Nat} {e : TypeId} {w : World} {v : Value} {n : Nat} {xs : List Value} (h : w.ownsRow B e 1 v n xs) : ∃ a c, v = .slice a n c := by
  obtain ⟨h1, h2⟩ := h
  rcases h2 with ⟨rfl, rfl⟩ | ⟨g, cap, cur, hv, _⟩
  · exact ⟨_, _, rfl⟩
  · exact ⟨_, _, hv⟩

theorem own_sl {B : Nat} {e : TypeId} {w : World} {v : Value} {n : Nat} {xs : List Value} (h : w.ownsRow B e 1 v n xs) : ∃ a m c, v = .slice a m c := by
  obtain ⟨a, c, h⟩ := own_form h
  exact ⟨a, n, c, h⟩

/-- One of the rows, and what is left when something was appended to it, and it was put back. -/
theorem OwnS.at {B : Nat} {w : World} {g n c : Nat} {ll : List (List Int)} (h : OwnS B w (.slice (some ⟨g, 0, none⟩) n c) ll) {i : Nat} (hi : i < ll.length) :
    ∃ ua uc, w.cell? ⟨g, i, none⟩ = some (.slice ua ll[i].length uc) ∧ OwnI B w (.slice ua ll[i].length uc) ll[i] ∧
      ∀ u' w' l', OwnI B w' u' l' → Grew B w w' (.slice ua ll[i].length uc) u' →
        (∃ z, w'.cell? ⟨g, i, none⟩ = some z) ∧ w'.frozen? ⟨g, i, none⟩ = false ∧ OwnS B (w'.setCell ⟨g, i, none⟩ u') (.slice (some ⟨g, 0, none⟩) n c) (ll.set i l') ∧ Below B w' (w'.setCell ⟨g, i, none⟩ u') := by
  obtain ⟨vs, h1, h2, h3, h4⟩ := h
  have hn : n = vs.length := ownsRow_len (v := .slice none 0 0) h1
  subst hn
  have hiv : i < vs.length := by omega
  obtain ⟨ho, hsv⟩ := h3 i hiv hi
  obtain ⟨ua, uc, hu⟩ := own_form ho
  have hcell : w.cell? ⟨g, i, none⟩ = some vs[i] := by
    have := (Seq.of_own (enc := id) (l := vs) (by simpa using h1)).at hiv
    obtain ⟨b, off, e, hc⟩ := this
    cases e
    simpa using hc
  refine ⟨ua, uc, by rw [← hu]; exact hcell, by rw [← hu]; exact ho, ?_⟩
  rw [← hu]
  intro u' w' l' hown' hgr
  have hgl : g < w.heap.size := ((New.of_own h1) g rfl).2
  have hvg := own_grew h1 hgr (Sep.or hsv.symm)
  obtain ⟨k1, k2, k3, k4⟩ := own_set hvg (i := i) hiv u'
  have hsu : Sep (.slice (some ⟨g, 0, none⟩) vs.length c) u' := Sep.grewN hsv.symm (New.of_own h1) hgr
  have hne : ∀ {x : Value}, Sep x (.slice (some ⟨g, 0, none⟩) vs.length c) → x.ownBlock ≠ some g := fun hs e => hs g e rfl
  refine ⟨k1, k2, ⟨vs.set i u', by simpa [OwnV] using k3, by simp [h2], fun j hj hj' => ?_, fun j k hj hk hjk => ?_⟩, k4⟩
  · have hj0 : j < vs.length := by simpa using hj
    have hj0' : j < ll.length := by simpa using hj'
    by_cases e : i = j
    · subst e
      simp only [List.getElem_set_self]
      exact ⟨ownsRow_setCell_other hown' (hne hsu.symm) _, hsu.symm⟩
    · rw [List.getElem_set_ne e, List.getElem_set_ne e]
      obtain ⟨hoj, hsj⟩ := h3 j hj0 hj0'
      exact ⟨ownsRow_setCell_other (own_grew hoj hgr (Sep.or (h4 j i hj0 hiv (fun e' => e e'.symm)))) (hne hsj) _, hsj⟩
  · have hj0 : j < vs.length := by simpa using hj
    have hk0 : k < vs.length := by simpa using hk
    by_cases e : i = j
    · subst e
      rw [List.getElem_set_self, List.getElem_set_ne hjk]
      exact (Sep.grewN (h4 k i hk0 hiv (fun e => hjk e.symm)) (New.of_own (h3 k hk0 (by omega)).1) hgr).symm
    · by_cases e2 : i = k
      · subst e2
        rw [List.getElem_set_self, List.getElem_set_ne e]
        exact Sep.grewN (h4 j i hj0 hiv hjk) (New.of_own (h3 j hj0 (by omega)).1) hgr
      · rw [List.getElem_set_ne e, List.getElem_set_ne e2]
        exact h4 j k hj0 hk0 hjk

/-- A slice of n rows is made: all without numbers, each of which will grow by itself. -/
theorem wp_make_src {w : World} {ops : Array Oper} {rest : List Oper} {o : Oper} {a : Act} {Q : Exit → Act → World → Prop} (hgd : o.guard = none) (l c : Operand) (ho : o.op = Op.makeSlice 23 l c) {B : Nat} (hB : B ≤ w.heap.size)
    {n : Nat} (hl : a.eval l = .int .i64 (n : Int)) (hc : a.eval c = .int .i64 (n : Int)) (hlen : n < 100000000000)
    (h : ∀ w', OwnS B w' (.slice (some ⟨w.heap.size, 0, none⟩) n n) (List.replicate n []) → Below w.heap.size w w' → wpList Tryz.prog ops Q rest (a.put o.dst (.slice (some ⟨w.heap.size, 0, none⟩) n n)) w') :
    wpList Tryz.prog ops Q (o :: rest) a w := by
  obtain ⟨i, hi, hz0, hz1, hz2⟩ := info_parts Tryz.infoInts
  refine wpList_make_full w hgd l c 23 ho B 22 i (.slice none 0 0) 1 Tryz.underlying23 hi hz0 hz1 .i64 .i64 _ _ n hl hc rfl rfl (by rw [hz2]; omega) (by unfold maxLen; omega) hB ?_
  intro w' hown hg
  refine h w' ⟨List.replicate n (.slice none 0 0), ?_, by simp, fun i hi hi' => ?_, fun i j hi hj hij => ?_⟩ ⟨hg.os, hg.tape, hg.output, hg.size, fun k hk => hg.block k hk (by simp)⟩
  · have : (madeCells (Value.slice none 0 0).cells (n * 1)).toList = List.replicate n (Value.slice none 0 0) := by
      rw [show (Value.slice none 0 0).cells = #[.slice none 0 0] from rfl, toList_madeCells_one]; simp
    rw [this] at hown
    simpa [OwnV] using hown
  · simp only [List.getElem_replicate]
    exact ⟨own_nilI _ _, Sep.nil _⟩
  · simp only [List.getElem_replicate]
    exact Sep.nil _

set_option maxHeartbeats 8000000 in
theorem placesW_any {s vars : List Int} {vs vv : Value} {w : World} (hs : Ints w vs s) (hv : Ints w vv vars) (hup : vars.Pairwise (· ≤ ·)) (hsl : s.length < 100000000) (hvl : vars.length < 100000000) :
    Calls Tryz.prog 32 #[vs, vv] w fun e w' => ∃ u, e = .returned u ∧ Ints w' u (idxL s vars s.length) ∧ New w.heap.size w' u ∧ Below w.heap.size w w' := by
  obtain ⟨a, ca, rfl, k1, k2⟩ := hs.form
  obtain ⟨d, cd, rfl, k3, k4⟩ := hv.form
  unfold maxLen at k2 k4
  go_enter Tryz.func32, Tryz.ntmps32
  go_wp2
  go_loopw [5, 6, 7, 8, 9, 13] (fun v _ _ _ _ i wr => ∃ k : Nat, k ≤ s.length ∧ i = .int .i64 k ∧ OwnI w.heap.size wr v (idxL s vars k) ∧ Below w.heap.size w wr) (fun _ _ _ _ _ i _ => s.length - (intOf i).toNat)
  case atStart => exact ⟨0, by omega, rfl, own_litI (Nat.le_refl _), (Below.refl _ _).alloc (Nat.le_refl _) _⟩
  case round =>
    obtain ⟨k, hk, rfl, hown, hbel⟩ := hrel
    have hz := hbel.size
    have hil := idxL_le s vars k
    by_cases hkl : k < s.length
    · obtain ⟨bl, ol, rfl, hcl⟩ := (hs.below hbel).at hkl
      have HBS := hide (search_ints (x := s[k]) (hv.below hbel) hup (by omega))
      have HH := hide (fun h => idxL_hit (vars := vars) hkl h)
      have HM := hide (fun h => idxL_miss (vars := vars) hkl h)
      generalize inB vars s[k] = q at HBS HH HM
      clear hs hv
      cases q with
      | true =>
        have HN := hide (unhide HH rfl)
        clear HH HM
        go_wp2_with (first | (go_at_call 47; refine (unhide HBS).mono ?_; rintro e w' ⟨j, rfl, m, rfl⟩) | (at_builtin; refine wp_app_int rfl (.tmp 25) (.tmp 27) rfl (own_drewN hown m) rfl hz rfl (by omega) ?_; intro v' w3 hown3 hgrew))
        go_roundw
        case rel => exact ⟨k + 1, by omega, by go_num, by rw [unhide HN]; exact hown3, (Below.drewN1 hbel m).trans hgrew.below⟩
        case measure => simp [intOf]; omega
      | false =>
        have HN := hide (unhide HM rfl)
        clear HH HM
        go_wp2_with (go_at_call 47; refine (unhide HBS).mono ?_; rintro e w' ⟨j, rfl, m, rfl⟩)
        go_roundw
        case rel => exact ⟨k + 1, by omega, by go_num, by rw [unhide HN]; exact own_drewN hown m, Below.drewN1 hbel m⟩
        case measure => simp [intOf]; omega
    · have hkk : k = s.length := by omega
      subst hkk
      have hps := Seq.of_own hown
      have hnw := New.of_own hown
      clear hs hv hown
      go_wp2
      go_ret
      exact ⟨_, rfl, hps, hnw, hbel⟩

/-- Where what is there is found. -/
theorem find_in {C : List (List Int)} (hs : AscL C) {t : List Int} (ht : t ∈ C) : ∃ h : lowN C t < C.length, C[lowN C t] = t ∧ isAt C t (lowN C t) = true := by
  obtain ⟨j, hj, e⟩ := List.getElem_of_mem ht
  have hp := List.pairwise_iff_getElem.1 hs
  have hlow : lowN C t = j := low_is hs (Nat.le_of_lt hj) (fun i hi hij => by rw [← e]; exact hp i j hi hj hij) (fun i hi hji hlt => by
    rcases Nat.lt_or_ge j i with h | h
    · have := hp j i hj hi h
      rw [e] at this
      have h2 := cmpL_swap C[i] t
      omega
    · have : i = j := by omega
      subst this
      rw [e, cmpL_refl] at hlt; omega)
  refine ⟨by omega, ?_, ?_⟩
  · subst hlow; exact e
  · unfold isAt
    rw [dif_pos (by omega), decide_eq_true_eq]
    subst hlow
    rw [e, cmpL_refl]
theorem find_out {C : List (List Int)} {t : List Int} (ht : t ∉ C) : isAt C t (lowN C t) = false := by
  unfold isAt
  split
  · rename_i h
    rw [decide_eq_false_iff_not]
    intro e
    exact ht (cmpL_eq e ▸ List.getElem_mem h)
  · rfl

/-- The places of the first k rows that have c at the places ps. -/
def srcAt (ps : List Int) (ll : List (List Int)) (k : Nat) (c : List Int) : List Int := ((List.range k).filter fun i => decide (pickL (ll.getD i []) ps = c)).map Int.ofNat

theorem src_step {ps : List Int} {ll C : List (List Int)} {k j : Nat} (hk : k < ll.length) (hj : j < C.length) (hn : C.Nodup) (e : pickL ll[k] ps = C[j]) :
    C.map (srcAt ps ll (k + 1)) = (C.map (srcAt ps ll k)).set j (srcAt ps ll k C[j] ++ [(k : Int)]) := by
  have one : ∀ c, srcAt ps ll (k + 1) c = srcAt ps ll k c ++ if pickL ll[k] ps = c then [(k : Int)] else [] := fun c => by
    unfold srcAt
    rw [List.range_succ, List.filter_append, List.map_append]
    congr 1
    have hg : ll.getD k [] = ll[k] := by simp [hk]
    by_cases h : pickL ll[k] ps = c
    · simp [h, hk]
    · simp [h, hk]
  apply List.ext_getElem
  · simp
  · intro i h1 h2
    have hi : i < C.length := by simpa using h1
    rw [List.getElem_map, one]
    by_cases hij : j = i
    · subst hij
      rw [List.getElem_set_self, e, if_pos rfl]
    · rw [List.getElem_set_ne hij, List.getElem_map, e, if_neg (fun h => hij ?_), List.append_nil]
      have := List.pairwise_iff_getElem.1 hn
      rcases Nat.lt_trichotomy i j with h' | h' | h'
      · exact absurd h.symm (this i j hi hj h')
      · exact h'.symm
      · exact absurd h (this j i hj hi h')

theorem src_len (ps : List Int) (ll : List (List Int)) (k : Nat) (c : List Int) : (srcAt ps ll k c).length ≤ k := by
  unfold srcAt; rw [List.length_map]; exact Nat.le_trans (List.length_filter_le _ _) (by simp)

/-- For each row of the projection the places of the rows that are cut to it. -/
def srcL (s : List Int) (ll : List (List Int)) (vars : List Int) : List (List Int) := (projL s ll vars).map (srcAt ((meetL s vars).map (placeL s)) ll ll.length)

theorem places_meet {s : List Int} (vars : List Int) (hs : Asc s) : idxL s (meetL s vars) s.length = (meetL s vars).map (placeL s) := by
  rw [← (idx_all (meetL s vars) hs.nodup).2, meet_meet hs]

set_option maxHeartbeats 16000000 in
theorem bundle_any {s vars : List Int} {ll : List (List Int)} {v vv : Value} {w : World} (h : RelV w v s ll) (hv : Ints w vv vars) (hs : Asc s) (hl : ll.length < 100000) (hsl : s.length < 10000) (hvl : vars.length < 10000000) :
    Calls Tryz.prog 19 #[v, vv] w fun e w' => ∃ x y z, e = .returned (.tuple #[.agg #[x, y], z]) ∧ RelV w' (.agg #[x, y]) (meetL s vars) (projL s ll vars) ∧ Tups w' z (srcL s ll vars) ∧ (∀ b, b < w.heap.size → y.ownBlock ≠ some b ∧ z.ownBlock ≠ some b) ∧ Below w.heap.size w w' := by
  obtain ⟨a, ca, b, cb, rfl, k1, k2, k3, k4, hs1, ht1⟩ := h.form
  obtain ⟨d, cd, rfl, k5, k6⟩ := hv.form
  unfold maxLen at k2 k4 k6
  obtain ⟨W0, hW0⟩ : ∃ W, W = (w.alloc (.cells #[.slice a s.length ca, .slice b ll.length cb] 29)).alloc (.cells #[.slice none 0 0, .slice none 0 0] 29) := ⟨_, rfl⟩
  have hb0 : Below w.heap.size w W0 := by rw [hW0]; exact b2x w _ _
  have x0 : Box W0 w.heap.size (.slice a s.length ca) (.slice b ll.length cb) := by rw [hW0]; exact (Box.new w _ _).push _
  have x1 : Box W0 (w.heap.size + 1) (.slice none 0 0) (.slice none 0 0) := by
    rw [hW0]; have := Box.new (w.alloc (.cells #[.slice a s.length ca, .slice b ll.length cb] 29)) (.slice none 0 0) (.slice none 0 0); simpa using this
  have HP := hide (project_nw (h.below hb0) (hv.below hb0) hs.nodup hl (by omega) (by omega))
  have HI := hide (fun W (hb : Below w.heap.size w W) => hs1.below hb)
  have HT := hide (fun W (hb : Below w.heap.size w W) => ht1.below hb)
  have HW0 := hide hW0
  have HX1 := hide x1.lt
  have hzw := hb0.size
  have HPM := hide (places_meet vars hs)
  have HPR := hide (show ∀ k (hk : k < ll.length), pickL ll[k] ((meetL s vars).map (placeL s)) ∈ projL s ll vars from fun k hk => by
    unfold projL cutL
    rw [(sortL_spec _).2]
    exact List.mem_map.2 ⟨ll[k], List.getElem_mem hk, rfl⟩)
  have HSR := hide (show srcL s ll vars = (projL s ll vars).map (srcAt ((meetL s vars).map (placeL s)) ll ll.length) from rfl)
  have HAS := hide (asc_proj s vars ll)
  have hpl := proj_le s vars ll
  have hml := meetL_le s vars
  have HUP := hide (asc_le (asc_meetL (b := vars) hs))
  generalize srcL s ll vars = SR at HSR
  generalize projL s ll vars = C at *
  generalize meetL s vars = M at *
  clear h hv hs1 ht1 hW0
  go_enter Tryz.func19, Tryz.ntmps19
  go_wp2_with fail
  rw [← unhide HW0]
  refine (unhide HP).mono ?_
  rintro e w1 ⟨x, y, rfl, hr, hyn, hb1⟩
  obtain ⟨ma, mc, ra, rc, hre, _, _, _, _, hri, hrt⟩ := hr.form
  cases hre
  have hb2 := (Below.refl w1.heap.size w1).alloc (Nat.le_refl _) (.cells #[.slice ma M.length mc, .slice ra C.length rc] 29)
  have x2 := Box.new w1 (.slice ma M.length mc) (.slice ra C.length rc)
  replace x0 := (x0.belowH hb1).belowH hb2
  replace x1 := (x1.belowH hb1).belowH hb2
  have hb12 := below_then hb1 hb2
  have hbel := hb0.trans (hb12.mono hzw)
  have HQ := hide (placesW_any (unhide HI _ hbel) (hri.below hb2) (unhide HUP) (by omega) (by omega))
  rw [unhide HPM] at HQ
  have c00 := x0.cell0
  have c20 := x2.cell0
  have HR := hide (hr.below hb2)
  have hw1 : W0.heap.size ≤ w1.heap.size := hb1.size
  have hx1 := x1.lt
  clear hr hri hrt HP hb1 hb2
  go_wp2_with fail
  refine (unhide HQ).mono ?_
  rintro e w3 ⟨vp, rfl, hvp, _, hb3⟩
  obtain ⟨pa, pc, rfl, _, _⟩ := hvp.form
  have hpsl : (M.map (placeL s)).length ≤ s.length := by rw [List.length_map]; exact hml
  generalize M.map (placeL s) = ps at *
  replace x0 := x0.belowH hb3
  replace x1 := x1.belowH hb3
  replace x2 := x2.belowH hb3
  have hbel3 := below_then hbel hb3
  have HR3 := hide ((unhide HR).below hb3)
  have c21 := x2.cell1
  have HVP := hide hvp
  have hl0 := x0.lt
  have hl1 := x1.lt
  have hl2 := x2.lt
  have HB3 := hide hbel3
  have hz3 := hbel3.size
  clear HQ HR c00 c20 hbel hb12 hb3 hvp
  go_wp2_with (at_make; refine wp_make_src rfl _ _ rfl (Nat.le_refl _) rfl rfl (by omega) ?_; intro w4 hown4 hb4; have c01 := (x0.belowH hb4).cell1)
  have HOW := hide hown4
  clear hown4 c21 hbel3
  go_loopw [9, 10, 11, 12, 28] (fun _ _ _ _ i wr => ∃ k : Nat, k ≤ ll.length ∧ i = .int .i64 k ∧ OwnS w3.heap.size wr (.slice (some ⟨w3.heap.size, 0, none⟩) C.length C.length) (C.map (srcAt ps ll k)) ∧ Below w3.heap.size w3 wr) (fun _ _ _ _ i _ => ll.length - (intOf i).toNat)
  case atStart => exact ⟨0, by omega, rfl, by
    have e : C.map (srcAt ps ll 0) = List.replicate C.length [] := by
      apply List.ext_getElem
      · simp
      · intro i h1 h2; simp [srcAt]
    rw [e]; exact unhide HOW, hb4⟩
  case round =>
    clear c01 HOW hb4
    obtain ⟨k, hk, rfl, hown, hbel⟩ := hrel
    have hz := hbel.size
    have hbw : Below w.heap.size w wr := (unhide HB3).trans (hbel.mono hz3)
    by_cases hkl : k < ll.length
    · obtain ⟨bl, ol, ul, rfl, hcl, hiL⟩ := (unhide HT _ hbw).at hkl
      obtain ⟨ia, ic, rfl, _, _⟩ := hiL.form
      obtain ⟨hj, hje, hjt⟩ := find_in (unhide HAS) (unhide HPR k hkl)
      have HPK := hide (fun W (hb : Below wr.heap.size wr W) => pick_any (hiL.below hb) ((unhide HVP).below (hbel.trans (hb.mono hz))) (by omega))
      have HFD := hide (fun W (hb : Below wr.heap.size wr W) vt (ht : Ints W vt (pickL ll[k] ps)) => Calls.toBelow (find_any ((unhide HR3).tups.below (hbel.trans (hb.mono hz))) ht (unhide HAS) (by omega)))
      rw [hjt] at HFD
      have HST := hide (src_step hkl hj (AscL.nodup (unhide HAS)) hje.symm)
      have hsl2 := src_len ps ll k C[lowN C (pickL ll[k] ps)]
      have HMJ := hide (show (C.map (srcAt ps ll k))[lowN C (pickL ll[k] ps)]'(by simpa using hj) = srcAt ps ll k C[lowN C (pickL ll[k] ps)] by simp)
      generalize hT : pickL ll[k] ps = T at *
      generalize hJ : lowN C T = j at *
      have HL := hide (hown)
      have HK := hide (fun W (hb : Below wr.heap.size wr W) => ((x2.below hbel hl2).belowH hb).cell1)
      have hbR := Below.refl wr.heap.size wr
      have hjc : ((j : Int) < (C.length : Int)) := by omega
      clear hown hiL hT hJ hje hjt
      go_wp2
      go_region_held3 (fun W => W.cell? ⟨w1.heap.size, 1, none⟩ = some (.slice ra C.length rc)) (first | exact unhide HK _ (by first | exact hB2 | exact hB1 | exact hbR | exact below_same rfl rfl rfl rfl))
        (first
          | (go_at_call 33; refine (unhide HFD _ hB1 _ hu3).mono ?_; rintro e w5 ⟨rfl, hb5⟩; have hB2 : Below wr.heap.size wr w5 := below_then hB1 hb5)
          | (go_at_call 34; refine (unhide HPK _ (by first | exact hbR | exact below_same rfl rfl rfl rfl)).mono ?_; rintro e w4 ⟨u3, rfl, hu3, hun3, hb3⟩; obtain ⟨ka, kc, hue, _, _⟩ := hu3.form; rw [hue] at hu3 hun3 ⊢; clear hue; have hB1 : Below wr.heap.size wr w4 := below_then (by first | exact hbR | exact below_same rfl rfl rfl rfl) hb3))
      have hown5 := (unhide HL).below hB2
      have hjm : j < (C.map (srcAt ps ll k)).length := by simpa using hj
      obtain ⟨ua, uc, hcj, howj, hput⟩ := hown5.at hjm
      rw [unhide HMJ] at hcj howj hput
      generalize srcAt ps ll k C[j] = L at hcj howj hput HST hsl2
      have HPUT := hide hput
      have hB5z : w3.heap.size ≤ w5.heap.size := Nat.le_trans hz hB2.size
      clear hput hown5 HPK HFD HK HMJ
      go_wp2_with (at_builtin; refine wp_app_int rfl (.tmp 48) (.tmp 50) rfl howj rfl hB5z rfl (by omega) ?_; intro v' w7 hown7 hgrew; obtain ⟨na, nm, nc, hv7⟩ := own_sl hown7; subst hv7; obtain ⟨⟨z7, hz7⟩, hfr7, hset7, hbs7⟩ := unhide HPUT _ w7 _ hown7 hgrew)
      go_roundw
      case rel => exact ⟨k + 1, by omega, by go_num, by rw [unhide HST]; exact hset7, ((hbel.trans (hB2.mono hz)).trans hgrew.below).trans hbs7⟩
      case measure => simp [intOf]; omega
    · have hkk : k = ll.length := by omega
      subst hkk
      rw [← unhide HSR] at hown
      have y1 := x1.below hbel hl1
      have y2 := x2.below hbel hl2
      have hc0 := y2.cell0
      have hc1 := y2.cell1
      have hd0 := y1.cell0
      have hd1 := y1.cell1
      have hg0 := y1.frozen 0
      have hg1 := y1.frozen 1
      have hrel := (unhide HR3).below hbel
      have htu := hown.tups
      have hbs := y1.boxS
      have hne : (Value.slice (some ⟨w3.heap.size, 0, none⟩) C.length C.length).ownBlock ≠ some (w.heap.size + 1) := fun e => by have := hown.new _ e; omega
      have HY := hide hyn
      clear hown y2 hyn
      go_wp2
      have hx1z : w.heap.size + 1 < W0.heap.size := by have := unhide HX1; exact this
      have hfin := rel_store hbs hd0 hrel.ints hrel.tups (unhide HY _ hx1z)
      have hb' := hbs.setCell hd0 ma M.length mc
      have htf := (htu.setBox hbs hne 0 (.slice ma M.length mc)).setBox hb' hne 1 (.slice ra C.length rc)
      refine bodyPost_ret (v := .tuple #[.agg #[.slice ma M.length mc, .slice ra C.length rc], .slice (some ⟨w3.heap.size, 0, none⟩) C.length C.length]) (by simp [results, Tryz.results19, go_sem, hd0, hd1]) rfl ⟨_, _, _, rfl, hfin, htf, fun b hb => ⟨unhide HY b (by omega), fun e => by have e' : w3.heap.size = b := (by simpa [Value.ownBlock] using e); omega⟩, below_store hbw (by omega) _ _⟩

end Go.Proofs.YtafpecdmaogohaaGreat

namespace Go.Proofs.YtafpecdmaogohaaGreat
open Go.RowKit
set_option linter.unusedVariables false
set_option linter.unusedSimpArgs false
set_option maxRecDepth 20000

theorem src_rows (ps : List Int) (lb : List (List Int)) (c : List Int) : (srcAt ps lb lb.length c).map (fun i => lb.getD i.toNat []) = likeL ps c lb := by
  have key : ∀ k, k ≤ lb.length → (srcAt ps lb k c).map (fun i => lb.getD i.toNat []) = likeL ps c (lb.take k) := by
    intro k
    induction k with
    | zero => intro _; simp [srcAt, likeL]
    | succ k ih =>
      intro hk
      have hk' : k < lb.length := by omega
      have ih' := ih (by omega)
      unfold srcAt likeL at *
      rw [List.range_succ, List.filter_append, List.map_append, List.map_append, ih', List.take_succ_eq_append_getElem hk', List.filter_append]
      congr 1
      have hg : lb[k]?.getD [] = lb[k] := by simp [hk']
      by_cases h : pickL lb[k] ps = c
      · simp [h, hg]
      · simp [h, hg]
  have := key lb.length (Nat.le_refl _)
  rwa [List.take_length] at this

theorem src_range {ps : List Int} {lb : List (List Int)} {k : Nat} {c : List Int} {i : Int} (h : i ∈ srcAt ps lb k c) : 0 ≤ i ∧ i < k := by
  unfold srcAt at h
  obtain ⟨m, hm, rfl⟩ := List.mem_map.1 h
  have := List.mem_range.1 (List.mem_filter.1 hm).1
  exact ⟨Int.natCast_nonneg m, by simpa using this⟩

/-- Where the first's row is found among the second's, and what the places there say. -/
theorem src_like {s u t : List Int} {lb : List (List Int)} (hs : Asc s) (hu : Asc u) (ht : t.length = s.length) (wb : ∀ v ∈ lb, v.length = u.length) :
    match isAt (projL u lb (meetL s u)) (pickL t (idxL s (meetL s u) s.length)) (lowN (projL u lb (meetL s u)) (pickL t (idxL s (meetL s u) s.length))) with
    | false => lb.filter (fitB s u t) = []
    | true => ∃ h : lowN (projL u lb (meetL s u)) (pickL t (idxL s (meetL s u) s.length)) < (srcL u lb (meetL s u)).length, (srcL u lb (meetL s u))[lowN (projL u lb (meetL s u)) (pickL t (idxL s (meetL s u) s.length))].map (fun i => lb.getD i.toNat []) = lb.filter (fitB s u t) ∧ ∀ i ∈ (srcL u lb (meetL s u))[lowN (projL u lb (meetL s u)) (pickL t (idxL s (meetL s u) s.length))], 0 ≤ i ∧ i < lb.length := by
  have hpl : idxL u (meetL s u) u.length = (meetL u (meetL s u)).map (placeL u) := (idx_all (meetL s u) hu.nodup).2.symm
  have hlk := like_fit (lb := lb) hs hu ht wb
  generalize pickL t (idxL s (meetL s u) s.length) = key at *
  by_cases hin : key ∈ projL u lb (meetL s u)
  · obtain ⟨h1, h2, h3⟩ := find_in (asc_proj u (meetL s u) lb) hin
    rw [h3]
    have h4 : lowN (projL u lb (meetL s u)) key < (srcL u lb (meetL s u)).length := by unfold srcL; simpa using h1
    have e : (srcL u lb (meetL s u))[lowN (projL u lb (meetL s u)) key] = srcAt ((meetL u (meetL s u)).map (placeL u)) lb lb.length key := by
      have hS : srcL u lb (meetL s u) = (projL u lb (meetL s u)).map (srcAt ((meetL u (meetL s u)).map (placeL u)) lb lb.length) := rfl
      simp only [hS, List.getElem_map, h2]
    refine ⟨h4, ?_, ?_⟩
    · rw [e, src_rows, ← hpl]; exact hlk
    · rw [e]; exact fun i hi => src_range hi
  · rw [find_out hin]
    show lb.filter (fitB s u t) = []
    rw [← hlk]
    unfold likeL
    rw [List.filter_eq_nil_iff]
    intro v hv hd
    rw [decide_eq_true_eq] at hd
    apply hin
    unfold projL cutL
    rw [(sortL_spec _).2, ← hpl]
    exact List.mem_map.2 ⟨v, hv, hd⟩

set_option maxHeartbeats 40000000 in
theorem joined_any {s u : List Int} {la lb : List (List Int)} {n m : Nat} {v v' : Value} {most : Int} {w : World} (h : RelV w v s la) (h' : RelV w v' u lb) (g : Fine s la n) (g' : Fine u lb m) (hn : n < 100000) (hm : m < 100000) (hnm : n * m < 100000) :
    Calls Tryz.prog 39 #[v, v', .int .i64 most] w fun e w' => JoinEnds w.heap.size w' e (joinL s u) (joinR s la u lb) (pairR s la u lb).length most ∧ Below w.heap.size w w' := by
  obtain ⟨a, ca, b, cb, rfl, k1, k2, k3, k4, hs1, ht1⟩ := h.form
  obtain ⟨a', ca', b', cb', rfl, k1', k2', k3', k4', hs2, ht2⟩ := h'.form
  unfold maxLen at k2 k4 k2' k4'
  obtain ⟨W0, hW0⟩ : ∃ W, W = ((w.alloc (.cells #[.slice a s.length ca, .slice b la.length cb] 29)).alloc (.cells #[.slice a' u.length ca', .slice b' lb.length cb'] 29)).alloc (.cells #[.slice none 0 0, .slice none 0 0] 29) := ⟨_, rfl⟩
  have hb0 : Below w.heap.size w W0 := by rw [hW0]; exact (b2x w _ _).alloc (by simp; omega) _
  have hbx0 : Box W0 w.heap.size (.slice a s.length ca) (.slice b la.length cb) := by rw [hW0]; exact ((Box.new w _ _).push _).push _
  have hbx1 : Box W0 (w.heap.size + 1) (.slice a' u.length ca') (.slice b' lb.length cb') := by
    rw [hW0]; have := (Box.new (w.alloc (.cells #[.slice a s.length ca, .slice b la.length cb] 29)) (.slice a' u.length ca') (.slice b' lb.length cb')).push (.cells #[.slice none 0 0, .slice none 0 0] 29); simpa using this
  have hbx2 : Box W0 (w.heap.size + 1 + 1) (.slice none 0 0) (.slice none 0 0) := by
    rw [hW0]; have := Box.new ((w.alloc (.cells #[.slice a s.length ca, .slice b la.length cb] 29)).alloc (.cells #[.slice a' u.length ca', .slice b' lb.length cb'] 29)) (.slice none 0 0) (.slice none 0 0); simpa using this
  have hsl := g.slen
  have hul := g'.slen
  have hll := Nat.lt_of_le_of_lt g.llen hn
  have hml := Nat.lt_of_le_of_lt g'.llen hm
  have hrows : (progR s la u lb).length < 100000 := Nat.lt_of_le_of_lt (Nat.le_trans (pairs_le s u la lb) (Nat.mul_le_mul g.llen g'.llen)) hnm
  have HMK := hide (prog_make g g')
  have HPL := hide (prog_len s u lb la)
  have HW0 := hide hW0
  have hzw := hb0.size
  have HA := hide (fun W (hb : Below w.heap.size w W) => hs1.below hb)
  have HB := hide (fun W (hb : Below w.heap.size w W) => hs2.below hb)
  have HT := hide (fun W (hb : Below w.heap.size w W) => ht1.below hb)
  have HR2 := hide (fun W (hb : Below w.heap.size w W) => h'.below hb)
  have HG := hide g
  have HG' := hide g'
  have hblen : (meetL s u).length ≤ s.length := meetL_le s u
  have hrlen : (lessL u s).length ≤ u.length := List.length_filter_le _ _
  generalize joinR s la u lb = JR at HMK ⊢
  rw [← unhide HPL]
  clear h h' hW0 hs1 hs2 ht1 ht2 g g' HPL
  by_cases hneg : most < 0
  · clear HMK HA HB HT HR2
    have hd0 := hbx2.cell0
    have hd1 := hbx2.cell1
    have hg0 := hbx2.frozen 0
    have hg1 := hbx2.frozen 1
    go_enter Tryz.func39, Tryz.ntmps39
    go_wp2
    try rw [← unhide HW0]
    refine bodyPost_ret (v := .tuple #[.agg #[.slice none 0 0, .slice none 0 0], .int .i64 9]) (by simp [results, Tryz.results39, go_sem, hd0, hd1]) rfl ⟨.inr ⟨rfl, by omega⟩, ?_⟩
    first | exact hb0 | exact below_store hb0 (by omega) _ _
  have HMT := hide (fun W (hb : Below W0.heap.size W0 W) => meet_any (unhide HA _ (hb0.trans (hb.mono hzw))) (unhide HB _ (hb0.trans (hb.mono hzw))) (by omega))
  have HWO := hide (fun W (hb : Below W0.heap.size W0 W) => without_any (unhide HB _ (hb0.trans (hb.mono hzw))) (unhide HA _ (hb0.trans (hb.mono hzw))) (by omega))
  rw [mrg_and (unhide HG).asc (unhide HG').asc] at HMT
  rw [mrg_not (unhide HG').asc (unhide HG).asc] at HWO
  have HK := hide (fun W (hb : Below W0.heap.size W0 W) => And.intro (hbx0.belowH hb).cell0 (hbx1.belowH hb).cell0)
  have hbR := Below.refl W0.heap.size W0
  go_enter Tryz.func39, Tryz.ntmps39
  go_wp2
  rw [← unhide HW0]
  go_region_held3 (fun W => W.cell? ⟨w.heap.size, 0, none⟩ = some (.slice a s.length ca) ∧ W.cell? ⟨w.heap.size + 1, 0, none⟩ = some (.slice a' u.length ca'))
    (first | exact unhide HK _ (by first | exact hB2 | exact hB1 | exact hbR | exact below_same rfl rfl rfl rfl))
    (first
      | (go_at_call 55; refine (unhide HWO _ hB1).mono ?_; rintro e w2 ⟨v2, rfl, hm2, _, hb2⟩; obtain ⟨ra, rc, re, _, _⟩ := hm2.form; rw [re] at hm2 ⊢; clear re; have hB2 : Below W0.heap.size W0 w2 := below_then hB1 hb2)
      | (go_at_call 54; refine (unhide HMT _ (by first | exact hbR | exact below_same rfl rfl rfl rfl)).mono ?_; rintro e w1 ⟨v1, rfl, hm1, _, hb1⟩; obtain ⟨ma, mc, me, _, _⟩ := hm1.form; rw [me] at hm1 ⊢; clear me; have hB1 : Below W0.heap.size W0 w1 := below_then (by first | exact hbR | exact below_same rfl rfl rfl rfl) hb1))
  replace hm1 := hm1.below hb2
  replace hbx0 := hbx0.belowH hB2
  replace hbx1 := hbx1.belowH hB2
  replace hbx2 := hbx2.belowH hB2
  have hbel2 := hb0.trans (hB2.mono hzw)
  have hz2 := hbel2.size
  have HP1 := hide (fun W (hb : Below w2.heap.size w2 W) => placesW_any (unhide HA _ (hbel2.trans (hb.mono hz2))) (hm1.below hb) (asc_le (asc_meetL (unhide HG).asc)) (by omega) (by omega))
  have HP2 := hide (fun W (hb : Below w2.heap.size w2 W) => placesW_any (unhide HB _ (hbel2.trans (hb.mono hz2))) (hm2.below hb) (asc_le (asc_lessL (unhide HG').asc)) (by omega) (by omega))
  have HK2 := hide (fun W (hb : Below w2.heap.size w2 W) => And.intro (hbx0.belowH hb).cell0 (hbx1.belowH hb).cell0)
  have hbR2 := Below.refl w2.heap.size w2
  clear HMT HWO HK hbR hB1 hB2 hb1 hb2 hb0 hzw
  have hm1' := hide hm1
  have hm2' := hide hm2
  clear hm1 hm2
  go_wp2
  go_region_held3 (fun W => W.cell? ⟨w.heap.size, 0, none⟩ = some (.slice a s.length ca) ∧ W.cell? ⟨w.heap.size + 1, 0, none⟩ = some (.slice a' u.length ca'))
    (first | exact unhide HK2 _ (by first | exact hB4 | exact hB3 | exact hbR2 | exact below_same rfl rfl rfl rfl))
    (first
      | (go_at_call 32; refine (unhide HP2 _ hB3).mono ?_; rintro e w4 ⟨v4, rfl, hp2, _, hb4⟩; obtain ⟨qa, qc, qe, _, _⟩ := hp2.form; rw [qe] at hp2 ⊢; clear qe; have hB4 : Below w2.heap.size w2 w4 := below_then hB3 hb4)
      | (go_at_call 32; refine (unhide HP1 _ (by first | exact hbR2 | exact below_same rfl rfl rfl rfl)).mono ?_; rintro e w3 ⟨v3, rfl, hp1, _, hb3⟩; obtain ⟨pa, pc, pe, _, _⟩ := hp1.form; rw [pe] at hp1 ⊢; clear pe; have hB3 : Below w2.heap.size w2 w3 := below_then (by first | exact hbR2 | exact below_same rfl rfl rfl rfl) hb3))
  replace hp1 := hp1.below hb4
  replace hbx0 := hbx0.belowH hB4
  replace hbx1 := hbx1.belowH hB4
  replace hbx2 := hbx2.belowH hB4
  have hbel4 := hbel2.trans (hB4.mono hz2)
  have hm1 := (unhide hm1').below hB4
  have hm2 := (unhide hm2').below hB4
  have HS := hide (bundle_any (unhide HR2 _ hbel4) hm1 (unhide HG').asc (by omega) (by omega) (by omega))
  have hc10 := hbx1.cell0
  have hc11 := hbx1.cell1
  have HP1' := hide hp1
  have HP2' := hide hp2
  have HM2 := hide hm2
  clear HP1 HP2 HK2 hbR2 hB3 hB4 hb3 hb4 hm1 hm2 hm1' hm2' hp1 hp2
  have HSR := hide (fun (t : List Int) (ht : t.length = s.length) => src_like (lb := lb) (unhide HG).asc (unhide HG').asc ht (unhide HG').wide)
  have HAS := hide (asc_proj u (meetL s u) lb)
  have HCL := hide (proj_le u (meetL s u) lb)
  have hsrl : (srcL u lb (meetL s u)).length = (projL u lb (meetL s u)).length := by unfold srcL; simp
  generalize projL u lb (meetL s u) = C at *
  generalize srcL u lb (meetL s u) = SR at *
  generalize meetL u (meetL s u) = M2 at *
  go_wp2_with fail
  refine (unhide HS).mono ?_
  rintro e w5 ⟨x5, y5, z5, rfl, hr5, hz5, _, hb5⟩
  obtain ⟨xa, xc, xb, xd, hxe, _, _, _, _, hxi5, hxt5⟩ := hr5.form
  cases hxe
  obtain ⟨za5, zc5, rfl, _, hzc5⟩ := hz5.form
  unfold maxLen at hzc5
  replace hbx0 := hbx0.belowH hb5
  replace hbx1 := hbx1.belowH hb5
  replace hbx2 := hbx2.belowH hb5
  have hbel5 := hbel4.trans (hb5.mono hbel4.size)
  have hb6 := (Below.refl w5.heap.size w5).alloc (Nat.le_refl _) (.cells #[.slice xa M2.length xc, .slice xb C.length xd] 29)
  have hbm := Box.new w5 (.slice xa M2.length xc) (.slice xb C.length xd)
  have hsz6 : (w5.alloc (.cells #[.slice xa M2.length xc, .slice xb C.length xd] 29)).heap.size = w5.heap.size + 1 := by simp
  obtain ⟨W6, hW6⟩ : ∃ W, W = w5.alloc (.cells #[.slice xa M2.length xc, .slice xb C.length xd] 29) := ⟨_, rfl⟩
  rw [← hW6] at hb6 hbm hsz6
  have HW6 := hide hW6
  have HSZ6 := hide hsz6
  replace hbx0 := hbx0.belowH hb6
  replace hbx1 := hbx1.belowH hb6
  replace hbx2 := hbx2.belowH hb6
  have hc01 := hbx0.cell1
  have hc01' : (w5.alloc (.cells #[.slice xa M2.length xc, .slice xb C.length xd] 29)).cell? ⟨w.heap.size, 1, none⟩ = some (.slice b la.length cb) := by rw [← hW6]; exact hc01
  have hc02 := cell_push hc01' (.cells #[] 22)
  have hbel6 := hbel5.trans (hb6.mono hbel5.size)
  have hb46 := below_then hb5 hb6
  have HI1 := hide ((unhide HP1').below hb46)
  have HI2 := hide ((unhide HP2').below hb46)
  rw [rest_right (unhide HG').asc] at HI2
  have HRS := hide ((unhide HM2).below hb46)
  have HTC := hide (hxt5.below hb6)
  have HTZ := hide (hz5.below hb6)
  have HOW := hide (OwnT.lit (w := W6) (Nat.le_refl W6.heap.size))
  have hzz6 : w.heap.size + 1 + 1 < W6.heap.size := hbx2.lt
  have hz6 := hbel6.size
  have hprl : ((lessL u s).map (placeL u)).length ≤ u.length := by rw [List.length_map]; exact hrlen
  have HPT := hide (fun t => show progT s u lb t = (lb.filter (fitB s u t)).map fun v => t ++ pickL v ((lessL u s).map (placeL u)) from rfl)
  have eix := idxL_le u (lessL u s) u.length
  rw [rest_right (unhide HG').asc] at eix
  have eqI : Hid ((idxL u (lessL u s) u.length).length = ((lessL u s).map (placeL u)).length) := hide (by rw [rest_right (unhide HG').asc])
  rw [unhide eqI]
  generalize (lessL u s).map (placeL u) = pr at *
  clear HS hc10 hc11 hr5 hz5 hxi5 hxt5 hW6 hsz6 hc01 hc01' hb5 hb6 hb46 HP1' HP2' HM2 eix eqI
  go_wp2
  rw [← unhide HW6]
  go_loopw [14, 16, 17, 18, 20, 52] (fun v _ _ _ _ i wr => ∃ k : Nat, k ≤ la.length ∧ i = .int .i64 k ∧ OwnT W6.heap.size wr v (progR s (la.take k) u lb) ∧ Below W6.heap.size W6 wr ∧ ((progR s (la.take k) u lb).length : Int) ≤ most) (fun _ _ _ _ _ i _ => la.length - (intOf i).toNat)
  case atStart => exact ⟨0, by omega, rfl, by have := unhide HOW; rw [unhide HSZ6] at this ⊢; simpa [progR] using this, (Below.refl _ _).alloc (Nat.le_refl _) _, by simp [progR]; omega⟩
  case round =>
    clear hc02 HOW
    obtain ⟨k, hk, rfl, hown, hbel, hmost⟩ := hrel
    have hz := hbel.size
    by_cases hkl : k < la.length
    · obtain ⟨bl, ol, ul0, hble, hcl0, hiL0⟩ := (unhide HT _ hbel6).at hkl
      subst hble
      have hcl := Below.cell_of hbel hcl0
      obtain ⟨ia, ic, rfl, _, _⟩ := hiL0.form
      have htw := (unhide HG).wide _ (List.getElem_mem hkl)
      have HN := hide (prog_snoc (s := s) (u := u) (lb := lb) hkl)
      have HMR := hide (prog_more (s := s) (u := u) (lb := lb) hkl)
      have HPK1 := hide (fun W (hb : Below wr.heap.size wr W) => pick_any (w := W) ((hiL0.below hbel).below hb) (((unhide HI1).below hbel).below hb) (by have := idxL_le s (meetL s u) s.length; omega))
      have HFD := hide (fun W (hb : Below wr.heap.size wr W) vt (ht : Ints W vt (pickL la[k] (idxL s (meetL s u) s.length))) => Calls.toBelow (find_any (((unhide HTC).below hbel).below hb) ht (unhide HAS) (by have := unhide HCL; omega)))
      have HLK := hide (unhide HSR la[k] htw)
      have HKB := hide (fun W (hb : Below wr.heap.size wr W) => ((hbm.belowH hbel).belowH hb).cell1)
      have HIL := hide (fun W (hb : Below W6.heap.size W6 W) => hiL0.below hb)
      rw [unhide HPT la[k]] at HN HMR
      have hfl := List.length_filter_le (fitB s u la[k]) lb
      generalize lb.filter (fitB s u la[k]) = F at HLK HN HMR hfl
      generalize progR s (la.take k) u lb = L at hown HN HMR hmost
      generalize pickL la[k] (idxL s (meetL s u) s.length) = key at HPK1 HFD HLK
      obtain ⟨t, hte⟩ : ∃ t, t = la[k] := ⟨_, rfl⟩
      rw [← hte] at HN HMR HIL hcl HPK1
      have htl : t.length ≤ 200 := by rw [hte, htw]; exact hsl
      have hbRR := Below.refl wr.heap.size wr
      try rw [← hte]
      generalize lowN C key = jj at HFD HLK
      generalize isAt C key jj = qq at HFD HLK
      clear hiL0 hcl0 htw hte
      go_wp2
      go_region_held3 (fun W => W.cell? ⟨w5.heap.size, 1, none⟩ = some (.slice xb C.length xd)) (first | exact unhide HKB _ (by first | exact hBq2 | exact hBq1 | exact hbRR | exact below_same rfl rfl rfl rfl))
        (first
          | (go_at_call 33; refine (unhide HFD _ hBq1 _ hu3).mono ?_; rintro e w7 ⟨rfl, hb7⟩; have hBq2 : Below wr.heap.size wr w7 := below_then hBq1 hb7)
          | (go_at_call 34; refine (unhide HPK1 _ (by first | exact hbRR | exact below_same rfl rfl rfl rfl)).mono ?_; rintro e w7a ⟨u3, rfl, hu3, hun3, hb3⟩; obtain ⟨ka, kc, hue, _, _⟩ := hu3.form; rw [hue] at hu3 hun3 ⊢; clear hue; have hBq1 : Below wr.heap.size wr w7a := below_then (by first | exact hbRR | exact below_same rfl rfl rfl rfl) hb3))
      have hown7 := hown.below hBq2
      have hbel7 := below_then hbel hBq2
      clear HPK1 HFD HKB hown hBq1 hBq2 hb7 hbel hu3 hun3 hb3
      have hwq : W6.heap.size ≤ w7.heap.size := hbel7.size
      cases qq with
      | false =>
        have hF0 := unhide HLK
        simp only at hF0
        have hN0 := unhide HN
        rw [hF0] at hN0
        have HN0 := hide (show progR s (la.take (k + 1)) u lb = L by rw [hN0]; simp)
        clear hF0 hN0 HN HMR HLK
        go_wp2
        go_roundw
        case rel => exact ⟨k + 1, by omega, by go_num, by rw [unhide HN0]; exact hown7, hbel7, by rw [unhide HN0]; exact hmost⟩
        case measure => simp [intOf]; omega
      | true =>
      obtain ⟨hjj, hIrow, hIpos⟩ := unhide HLK
      obtain ⟨bz, oz, uz, hze, hcz0, hiZ⟩ := (unhide HTZ).at hjj
      subst hze
      have hcz := Below.cell_of hbel7 hcz0
      obtain ⟨fa, fc, rfl, _, hfc⟩ := hiZ.form
      unfold maxLen at hfc
      have hjc : ((jj : Int) < (C.length : Int)) := by omega
      have hjc2 : ((jj : Int) < (SR.length : Int)) := by omega
      have HIP := hide hIpos
      have HIR := hide hIrow
      have HZZ := hide hiZ
      have hIl : SR[jj].length = F.length := by have := congrArg List.length hIrow; simpa using this
      generalize SR[jj] = I at *
      clear hIpos hIrow HLK hiZ hcz0
      go_wp2
      go_loopw [14, 20, 72] (fun v _ i wq => ∃ j : Nat, j ≤ I.length ∧ i = .int .i64 j ∧ OwnT W6.heap.size wq v (L ++ (F.take j).map fun v => t ++ pickL v pr) ∧ Below W6.heap.size W6 wq ∧ ((L ++ (F.take j).map fun v => t ++ pickL v pr).length : Int) ≤ most) (fun _ _ i _ => I.length - (intOf i).toNat)
      case atStart => exact ⟨0, by omega, rfl, by simpa using hown7, hbel7, by simpa using hmost⟩
      case round =>
        clear hown7 hbel7 hmost hwq
        obtain ⟨j, hj, rfl, howq, hbq, hmq⟩ := hrel
        have hzq := hbq.size
        by_cases hjl : j < I.length
        · have hjf : j < F.length := by omega
          obtain ⟨bq, oq, hbqe, hcq0⟩ := (unhide HZZ).at hjl
          subst hbqe
          have hcq := Below.cell_of hbq hcq0
          have hIj : ∃ p : Nat, I[j] = (p : Int) ∧ ∃ hp : p < lb.length, lb[p] = F[j] := by
            obtain ⟨h0, h1⟩ := unhide HIP _ (List.getElem_mem hjl)
            obtain ⟨p, hp⟩ := Int.eq_ofNat_of_zero_le h0
            refine ⟨p, hp, by omega, ?_⟩
            have e1 : (I.map fun i => lb.getD i.toNat [])[j]? = F[j]? := by rw [unhide HIR]
            rw [List.getElem?_map, List.getElem?_eq_getElem hjl, List.getElem?_eq_getElem hjf, hp] at e1
            have hpl : p < lb.length := by omega
            simpa [hpl] using e1
          obtain ⟨p, hpe, hpl, hpF⟩ := hIj
          rw [hpe] at hcq
          obtain ⟨bp, op, up, hbpe, hcp0, hiQ0⟩ := (unhide HR2 _ hbel6).tups.at hpl
          subst hbpe
          have hcp := Below.cell_of hbq hcp0
          rw [hpF] at hiQ0
          obtain ⟨ja, jc, rfl, _, _⟩ := hiQ0.form
          have hb11 := (hbx1.belowH hbq).cell1
          have hplc : ((p : Int) < (lb.length : Int)) := by omega
          have HNJ := hide (show (F.take (j + 1)).map (fun v => t ++ pickL v pr) = (F.take j).map (fun v => t ++ pickL v pr) ++ [t ++ pickL F[j] pr] by rw [List.take_succ_eq_append_getElem hjf, List.map_append]; rfl)
          have hlen : (L ++ (F.take j).map fun v => t ++ pickL v pr).length = L.length + j := by simp; omega
          have hmr := unhide HMR
          rw [List.length_map] at hmr
          have hle9 : (L ++ (F.take j).map fun v => t ++ pickL v pr).length < (progR s la u lb).length := by omega
          have HPK := hide (pick_any (hiQ0.below hbq) ((unhide HI2).below hbq) (by omega))
          have hpk := pickL_le F[j] pr
          have HNJ2 := hide (show L ++ (F.take (j + 1)).map (fun v => t ++ pickL v pr) = (L ++ (F.take j).map fun v => t ++ pickL v pr) ++ [t ++ pickL F[j] pr] by rw [unhide HNJ, List.append_assoc])
          have hiT := unhide HIL _ hbq
          generalize pickL F[j] pr = P at *
          obtain ⟨Q, hQe⟩ : ∃ Q, Q = (L ++ (F.take j).map fun v => t ++ pickL v pr) := ⟨_, rfl⟩
          rw [← hQe] at howq hmq hle9 HNJ2
          obtain ⟨ya, yc, hye, _, _⟩ := howq.tups.form
          subst hye
          clear hQe hlen hmr HNJ hiQ0 hcq0 hcp0 hpF hpe
          by_cases heq : (Q.length : Int) = most
          · have heq1 : ((Q.length : Int) == most) = true := by simpa using heq
            have hbq2 := hbx2.belowH hbq
            have hd0 := hbq2.cell0
            have hd1 := hbq2.cell1
            have hg0 := hbq2.frozen 0
            have hg1 := hbq2.frozen 1
            have HEQ := hide heq
            clear howq hiT HPK heq hmq
            go_wp2
            refine bodyPost_ret (v := .tuple #[.agg #[.slice none 0 0, .slice none 0 0], .int .i64 9]) (by simp [results, Tryz.results39, go_sem, hd0, hd1]) rfl ⟨.inr ⟨rfl, by have := unhide HEQ; omega⟩, below_store (hbel6.trans (hbq.mono hz6)) (by omega) _ _⟩
          · have heq1 : ((Q.length : Int) == most) = false := by simpa using heq
            have HEQ := hide heq
            have HOQ := hide howq
            have HTT := hide hiT
            clear howq hiT heq
            go_wp2_with fail
            refine (unhide HPK).mono ?_
            rintro e w8 ⟨vp, rfl, hvp, hnp, hb8⟩
            obtain ⟨za, zc, rfl, _, _⟩ := hvp.form
            have hb9 := (Below.refl w8.heap.size w8).alloc (Nat.le_refl _) (.cells #[.slice ia t.length ic, .slice za P.length zc] 22)
            have HC := hide (concatI_any ((((unhide HTT).below hb8)).below hb9) (hvp.below hb9) (heap_alloc_new w8 _) (by omega) (by omega))
            generalize t ++ P = R at HC HNJ2
            clear HPK hvp hnp hcq
            go_wp2_with fail
            refine (unhide HC).mono ?_
            rintro e w9 ⟨vc, rfl, hvc, hnc, hb10⟩
            obtain ⟨ea, ec, rfl, _, _⟩ := hvc.form
            have hB9 : Below _ _ w9 := below_then hb8 (below_then hb9 hb10)
            have howq9 := (unhide HOQ).below hB9
            have hsep := hide (show Sep _ _ from (Sep.of_new (unhide HOQ).new (show _ ≤ (w8.alloc (.cells #[.slice ia t.length ic, .slice za P.length zc] 22)).heap.size from Nat.le_trans hb8.size (by simp)) hnc).symm)
            have hz9 := hB9.size
            clear HC hnc hb9 hb10 hb8
            go_wp2_with (at_builtin; refine wp_app_tup rfl (.tmp 81) (.tmp 92) rfl howq9 hvc (fun _ => unhide hsep) rfl (by omega) rfl (by omega) ?_; intro v' w10 hown10 hgrew)
            go_roundw
            case rel => exact ⟨j + 1, by omega, by go_num, by rw [unhide HNJ2]; exact hown10, (below_then hbq hB9).trans hgrew.below, by rw [unhide HNJ2, List.length_append]; have := unhide HEQ; simp; omega⟩
            case measure => simp [intOf]; omega
        · have hjj2 : j = F.length := by omega
          rw [hjj2, List.take_length, ← unhide HN] at howq hmq
          go_wp2
          go_roundw
          case rel => exact ⟨k + 1, by omega, by go_num, howq, hbq, hmq⟩
          case measure => simp [intOf]; omega
    · have hkk : k = la.length := by omega
      subst hkk
      rw [List.take_length] at hown hmost
      have hbelr := hbel6.trans (hbel.mono hz6)
      have hbr2 := hbx2.belowH hbel
      have hc0r := (hbx0.belowH hbel).cell0
      have hbl := (Below.refl wr.heap.size wr).alloc (Nat.le_refl _) (.cells #[.slice a s.length ca, .slice ra (lessL u s).length rc] 22)
      have HC := hide (concatI_any ((unhide HA _ hbelr).below hbl) (((unhide HRS).below hbel).below hbl) (heap_alloc_new wr _) (by omega) (by omega))
      obtain ⟨ya, yc, hye, _, _⟩ := hown.tups.form
      have HTU := hide hown.tups
      rw [hye] at HTU ⊢
      have hS2 : (s ++ lessL u s).length ≤ 400 := by rw [List.length_append]; omega
      generalize s ++ lessL u s = S2 at HC HMK hS2
      clear hown hye
      go_wp2_with fail
      refine (unhide HC).mono ?_
      rintro e w7 ⟨vc, rfl, hvc, hnc, hb7⟩
      obtain ⟨ea, ec, rfl, _, _⟩ := hvc.form
      have hB7 : Below wr.heap.size wr w7 := hbl.trans (hb7.mono (by simp))
      obtain ⟨hok, hrise, hmake⟩ := unhide HMK
      have HMA := hide (make_okN hvc ((unhide HTU).below hB7) hrows (by omega) hok)
      rw [hrise, hmake] at HMA
      clear HC hvc hnc hb7 hok hrise hmake HMK hc0r
      go_wp2_with fail
      refine (unhide HMA).mono ?_
      rintro e w8 ⟨x8, y8, rfl, hx8, hx8n, hb8⟩
      obtain ⟨fa, fc, fb, fd, hxe, _, _, _, _, hxi, hxt⟩ := hx8.form
      cases hxe
      have hB8 := below_then hB7 hb8
      have hbr8 := hbr2.belowH hB8
      have hd0 := hbr8.cell0
      have hd1 := hbr8.cell1
      have hg0 := hbr8.frozen 0
      have hg1 := hbr8.frozen 1
      have hblw := hbelr.trans (hB8.mono hbelr.size)
      clear HMA
      go_wp2
      have hfin := rel_store hbr8.boxS hd0 hxi hxt (hx8n _ (by have := hB7.size; omega))
      refine bodyPost_ret (v := .tuple #[.agg #[.slice fa (joinL s u).length fc, .slice fb JR.length fd], .int .i64 0]) (by simp [results, Tryz.results39, go_sem, hd0, hd1]) rfl ⟨.inl ⟨_, _, rfl, hfin, hmost, fun b hb => hx8n b (by have := hB7.size; have := hbelr.size; omega)⟩, below_store hblw (by omega) _ _⟩

end Go.Proofs.YtafpecdmaogohaaGreat
