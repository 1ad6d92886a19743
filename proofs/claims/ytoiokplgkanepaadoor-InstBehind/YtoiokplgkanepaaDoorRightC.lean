/-
  The contract of Right, of an instance whose hard constraints have neither rows nor args, and that has no soft ones.
-/
import Derived.Test.YtoiokplgkanepaaDoorRightB
namespace Go.Proofs.YtoiokplgkanepaaDoor
open Go.RowKit
set_option linter.unusedVariables false
set_option linter.unusedSimpArgs false
set_option maxRecDepth 20000

set_option maxHeartbeats 1000000 in
theorem isHard_plain {k : Nat} (h3 : 3 ≤ k) (h5 : k ≤ 5) {l : List Int} {sv : Value} {w : World} {da ra aa : Option Addr} {m dc rc ac : Nat} (h : Ints w sv l) (hm : m ≤ 9223372036854775807) :
    Calls Tryd.prog 27 #[.slice da m dc, .agg #[.int .i64 (k : Int), sv, .slice ra 0 rc, .slice aa 0 ac]] w fun e w' => e = .returned (.bool (scopeB m l)) ∧ Below w.heap.size w w' := by
  obtain ⟨a, ca, rfl, hla, hca⟩ := h.form
  unfold maxLen at hca
  have hb0 := (Below.refl w.heap.size w).alloc (Nat.le_refl _) (.cells #[.int .i64 (k : Int), .slice a l.length ca, .slice ra 0 rc, .slice aa 0 ac] 42)
  have x0 := BoxK.new 42 w (.int .i64 (k : Int)) (.slice a l.length ca) (.slice ra 0 rc) (.slice aa 0 ac)
  have HSC := hide (isScope_any (da := da) (m := m) (dc := dc) (h.below hb0) hm)
  have HHR := hide (fun W => hasRows_any k W)
  rw [show decide (k = 1 ∨ k = 2) = false by simp; omega] at HHR
  have HAR := hide (fun W => areRows_nil (dv := .slice da m dc) (sv := .slice a l.length ca) (a := ra) (c := rc) (w := W) rfl)
  have HAA := hide (fun W => areArgs_plain (k := k) (by omega) (sv := .slice a l.length ca) (rv := .slice ra 0 rc) (a := aa) (n := 0) (c := ac) (w := W) rfl rfl)
  have k1 : ((k : Int) < 1) = False := by simp; omega
  have k2 : ((6 : Int) < k) = False := by simp; omega
  have k1' : decide ((k : Int) < 1) = false := by simp; omega
  have k2' : decide ((6 : Int) < (k : Int)) = false := by simp; omega
  have X0 := hide x0
  have HB0 := hide hb0
  generalize scopeB m l = q at *
  clear h x0 hb0 h3 h5 k1 k2
  cases q with
  | false =>
    go_enter Tryd.func27, Tryd.ntmps27
    go_wp2_with fail
    refine (unhide HSC).mono ?_
    rintro e w1 ⟨rfl, hb1⟩
    go_wp2
    go_ret
    exact ⟨rfl, below_then (unhide HB0) hb1⟩
  | true =>
    go_enter Tryd.func27, Tryd.ntmps27
    go_wp2_with fail
    refine (unhide HSC).mono ?_
    rintro e w1 ⟨rfl, hb1⟩
    have x1 := (unhide X0).belowH hb1
    have c0 := x1.cell0; have c1 := x1.cell1; have c2 := x1.cell2; have c3 := x1.cell3
    have X1 := hide x1
    clear x1 X0 HSC
    go_wp2_with fail
    refine (unhide HHR _).mono ?_
    rintro e w2 ⟨rfl, rfl⟩
    go_wp2_with fail
    refine (unhide HAR _).mono ?_
    rintro e w3 ⟨rfl, hb3⟩
    have x3 := (unhide X1).belowH hb3
    have d0 := x3.cell0; have d1 := x3.cell1; have d2 := x3.cell2; have d3 := x3.cell3
    clear c0 c1 c2 c3 x3 X1
    go_wp2_with fail
    refine (unhide HAA _).mono ?_
    rintro e w4 ⟨rfl, hb4⟩
    go_wp2
    go_ret
    exact ⟨rfl, below_then (below_then (below_then (unhide HB0) hb1) hb3) hb4⟩

/-- A hard constraint with neither rows nor args. -/
def PlainC (c : Con) : Prop := ∃ k : Nat, c.kind = (k : Int) ∧ 3 ≤ k ∧ k ≤ 5 ∧ c.rows = [] ∧ c.args = []

set_option maxHeartbeats 1000000 in
theorem right1_plain {c : Con} (hp : PlainC c) {q : Quad} {w : World} {b : Nat} {da : Option Addr} {m dc : Nat} (h : ConO (fun _ => False) w q c) (hm : m ≤ 9223372036854775807) (hc : w.cell? ⟨b, 0, none⟩ = some (.slice da m dc)) :
    Calls Tryd.prog 26 #[.agg #[q.a, q.b, q.c, q.d], .pointer (some ⟨b, 0, none⟩)] w fun e w' => e = .returned (.bool (scopeB m c.scope)) ∧ Below w.heap.size w w' := by
  obtain ⟨k, hk, h3, h5, hr, ha⟩ := hp
  obtain ⟨ck, cs, cr, ca⟩ := c
  simp only [] at hk hr ha
  subst hk hr ha
  obtain ⟨q0, q1, q2, q3⟩ := h
  obtain ⟨a, sc, e1, _, _⟩ := q1.1.form
  obtain ⟨ra, rc, e2, _, _⟩ := q2.form
  obtain ⟨aa, ac, e3, _, _⟩ := q3.1.form
  rw [q0, e1, e2, e3]
  rw [e1] at q1
  have hb0 := (Below.refl w.heap.size w).alloc (Nat.le_refl _) (.cells #[.int .i64 (k : Int), .slice a cs.length sc, .slice ra 0 rc, .slice aa 0 ac] 42)
  have HH := hide (isHard_plain (da := da) (m := m) (dc := dc) (ra := ra) (aa := aa) (rc := rc) (ac := ac) h3 h5 (q1.1.below hb0) hm)
  have hc' := cell_push0 hc
  have HB0 := hide hb0
  simp only [List.length_nil] at *
  generalize scopeB m cs = qq at *
  clear q0 q1 q2 q3 e1 e2 e3 hb0 hc h3 h5
  go_enter Tryd.func26, Tryd.ntmps26
  go_wp2_with fail
  refine (unhide HH).mono ?_
  rintro e w1 ⟨rfl, hb1⟩
  go_wp2
  go_ret
  exact ⟨rfl, below_then (unhide HB0) hb1⟩

set_option maxHeartbeats 1000000 in
theorem allC_plain {xs : List Con} {qs : List Quad} {v : Value} {w : World} {b : Nat} {da : Option Addr} {m dc : Nat} (hq : SeqQ w v qs) (hql : qs.length = xs.length) (hqc : ∀ i (h : i < qs.length) (h' : i < xs.length), ConO (fun _ => False) w qs[i] xs[i]) (hp : ∀ c ∈ xs, PlainC c) (hm : m ≤ 9223372036854775807) (hc : w.cell? ⟨b, 0, none⟩ = some (.slice da m dc)) :
    Calls Tryd.prog 25 #[v, .func (.func 26) #[] #[.pointer (some ⟨b, 0, none⟩)]] w fun e w' => e = .returned (.bool (xs.all fun c => scopeB m c.scope)) ∧ Below w.heap.size w w' := by
  obtain ⟨a, ca, rfl, hla, hca⟩ := hq.form
  unfold maxLen at hca
  obtain ⟨q, hqq⟩ : ∃ q, q = xs.all fun c => scopeB m c.scope := ⟨_, rfl⟩
  rw [← hqq]
  obtain ⟨n, hn⟩ : ∃ n, n = qs.length := ⟨_, rfl⟩
  have hnx : n = xs.length := hn.trans hql
  have HN1 := hide hn
  have HN2 := hide hnx
  have HQ0 := hide hq
  have HQC := hide hqc
  have HP := hide hp
  have HC0 := hide hc
  have HQ : Hid (q = (xs.drop 0).all fun c => scopeB m c.scope) := hide hqq
  rw [← hn] at hla ⊢
  clear hq hqc hp hc hqq hql hn hnx
  go_enter Tryd.func25, Tryd.ntmps25
  go_wp2
  go_loopw [9] (fun i wr => ∃ k : Nat, k ≤ n ∧ i = .int .i64 k ∧ Below w.heap.size w wr ∧ Hid (q = (xs.drop k).all fun c => scopeB m c.scope)) (fun i _ => n - (intOf i).toNat)
  case atStart => exact ⟨0, by omega, rfl, Below.refl _ _, HQ⟩
  case round =>
    clear HQ
    obtain ⟨k, hk, rfl, hb, HQ⟩ := hrel
    rename World => wr
    by_cases hlt : k < n
    · have hkq : k < qs.length := by rw [← unhide HN1]; exact hlt
      have hkx : k < xs.length := by rw [← unhide HN2]; exact hlt
      have hQ := HQ.out
      rw [List.drop_eq_getElem_cons hkx, List.all_cons] at hQ
      have g := grown_below hb none
      have sq := (unhide HQ0).keptO (X := fun _ => False) (by
        intro g' hg'
        refine ⟨id, ?_⟩
        obtain ⟨b', off, e, k0, _⟩ := (unhide HQ0).at (i := k) hkq
        cases e
        cases hg'
        exact (cell_lt (a := ⟨b', off + k * 4, none⟩) k0)) g (by simp)
      obtain ⟨bb, oo, rfl, k0, k1, k2, k3⟩ := sq.at hkq
      have co := ((unhide HQC) k hkq hkx).kept g (by simp)
      have HR1 := hide (fun W (hb2 : Below wr.heap.size wr W) => right1_plain (unhide HP _ (List.getElem_mem hkx)) (co.kept (grown_below hb2 none) (by simp)) hm (Below.cell_of hb2 (Below.cell_of hb (unhide HC0))))
      generalize hpl : scopeB m xs[k].scope = bo at *
      have co2 := co
      obtain ⟨q0, q1, q2, q3⟩ := co2
      obtain ⟨sa, sc, e1, _, _⟩ := q1.1.form
      obtain ⟨ra, rc, e2, _, _⟩ := q2.form
      obtain ⟨aa, ac, e3, _, _⟩ := q3.1.form
      rw [q0, e1, e2, e3] at HR1
      rw [q0] at k0
      rw [e1] at k1
      rw [e2] at k2
      rw [e3] at k3
      generalize xs[k].scope.length = n1 at *
      generalize xs[k].rows.length = n2 at *
      generalize xs[k].args.length = n3 at *
      generalize xs[k].kind = kk at *
      have HC := hide (unhide HR1 _ ((Below.refl wr.heap.size wr).alloc (Nat.le_refl _) (.cells #[.int .i64 kk, .slice sa n1 sc, .slice ra n2 rc, .slice aa n3 ac] 42)))
      have HB := hide (hb.alloc hb.size (.cells #[.int .i64 kk, .slice sa n1 sc, .slice ra n2 rc, .slice aa n3 ac] 42))
      have HQ2 := hide hQ
      clear hpl hQ HQ hb co q0 q1 q2 q3 e1 e2 e3 HR1 sq g
      cases bo with
      | true =>
        go_wp2_with fail
        refine (unhide HC).mono ?_
        rintro e w1 ⟨rfl, hb1⟩
        go_wp2
        go_roundw
        case rel => exact ⟨k + 1, by omega, by go_num, (unhide HB).trans (hb1.mono (unhide HB).size), by simpa using HQ2⟩
        case measure => simp [intOf]; omega
      | false =>
        go_wp2_with fail
        refine (unhide HC).mono ?_
        rintro e w1 ⟨rfl, hb1⟩
        go_wp2
        go_ret
        exact ⟨ret_bool (by rw [unhide HQ2]; simp), (unhide HB).trans (hb1.mono (unhide HB).size)⟩
    · have hQ := HQ.out
      rw [List.drop_eq_nil_of_le (by have := unhide HN2; omega)] at hQ
      have HQ2 := hide hQ
      clear hQ HQ
      go_wp2
      go_ret
      exact ⟨ret_bool (by rw [unhide HQ2]; rfl), hb⟩

set_option maxHeartbeats 1000000 in
theorem allS_nil {w : World} {a : Option Addr} {c : Nat} {f : Value} : Calls Tryd.prog 28 #[.slice a 0 c, f] w fun e w' => e = .returned (.bool true) ∧ w' = w := by
  go_enter Tryd.func28, Tryd.ntmps28
  go_wp2
  go_loop [9] (fun i => i = .int .i64 0) (fun _ => 0)
  case atStart => rfl
  case round =>
    subst hrel
    go_wp2
    go_ret
    exact ⟨rfl, rfl⟩

/-- An instance whose hard constraints are plain, and that has no soft ones, and is right. -/
structure PlainI (x : Ins) : Prop where
  d1 : x.doms.length ≤ 40
  d2 : ∀ d ∈ x.doms, domB d = true ∧ ∀ n ∈ d, -9223372036854775808 ≤ n ∧ n ≤ 9223372036854775807
  h1 : x.hard.length ≤ 200
  h2 : ∀ c ∈ x.hard, PlainC c ∧ scopeB x.doms.length c.scope = true
  s1 : x.soft = []

set_option maxHeartbeats 2000000 in
theorem right_plain {x : Ins} {v : Value} {w : World} (h : InsV w v x) (hx : PlainI x) :
    Calls Tryd.prog 11 #[v] w fun e w' => e = .returned (.bool true) ∧ Below w.heap.size w w' := by
  have hmf : ∀ (fn : Fn) (first cap : Array Value) (w : World), (Instr.makeFunc fn first cap).run Tryd.prog w = .ok (.func fn first cap) w := fun _ _ _ _ => rfl
  obtain ⟨dv, hv, sv, rfl, hd, ⟨qs, q1, q2, q3, q4⟩, us, s1, s2, s3, s4⟩ := h
  have hs0 := hx.s1
  obtain ⟨da, dc, rfl, hdl, hdc⟩ := hd.form
  obtain ⟨ha, hc, rfl, hhl, hhc⟩ := q1.form
  obtain ⟨sa, sc, rfl, hsl, hsc⟩ := s1.form
  unfold maxLen at hdc hhc hsc
  have hu0 : us.length = 0 := by rw [s3, hs0]; rfl
  rw [hu0]
  have hb0 := (Below.refl w.heap.size w).alloc (Nat.le_refl _) (.cells #[.slice da x.doms.length dc, .slice ha qs.length hc, .slice sa 0 sc] 27)
  have g0 := grown_below hb0 none
  have k : ∀ b, (none : Option Nat) = some b → False := fun b e => by cases e
  have x0 := Box3.new 27 w (.slice da x.doms.length dc) (.slice ha qs.length hc) (.slice sa 0 sc)
  have HDA := hide (allT0 (hd.tups.below hb0) Tryd.func24 (by kernel_rfl) rfl domB (fun i hi u W hb hu => isDomain_any hu (hx.d2 _ (List.getElem_mem hi)).2))
  rw [show x.doms.all domB = true from List.all_eq_true.2 (fun d hd => (hx.d2 d hd).1)] at HDA
  have HCA := hide (fun W (hb : Below (w.alloc (.cells #[.slice da x.doms.length dc, .slice ha qs.length hc, .slice sa 0 sc] 27)).heap.size (w.alloc (.cells #[.slice da x.doms.length dc, .slice ha qs.length hc, .slice sa 0 sc] 27)) W) => allC_plain (b := w.heap.size) (da := da) (m := x.doms.length) (dc := dc) ((q1.keptO q2 g0 k).keptO (q2.kept hb0.size) (grown_below hb none) k) q3 (fun i hi hi' => ((q4 i hi hi').kept g0 k).kept (grown_below hb none) k) (fun c hc => (hx.h2 c hc).1) (by omega) (Below.cell_of hb x0.cell0))
  rw [show (x.hard.all fun c => scopeB x.doms.length c.scope) = true from List.all_eq_true.2 (fun c hc => (hx.h2 c hc).2)] at HCA
  have HSA := hide (fun W f => allS_nil (w := W) (a := sa) (c := sc) (f := f))
  have n1 : decide ((40 : Int) < (x.doms.length : Int)) = false := by have := hx.d1; simp; omega
  have n2 : decide ((200 : Int) < (qs.length : Int)) = false := by have := hx.h1; simp; omega
  have X0 := hide x0
  have HB0 := hide hb0
  clear hd q1 q2 q3 q4 s1 s2 s3 s4 hx hs0 hu0 hb0 g0 k x0
  generalize x.doms.length = nd at *
  generalize qs.length = nh at *
  go_enter Tryd.func11, Tryd.ntmps11
  go_wp2_with fail
  refine (unhide HDA).mono ?_
  rintro e w1 ⟨rfl, hb1⟩
  have g1 := grown_below hb1 none
  have x1 := (unhide X0).keep g1 (by simp)
  have c0 := x1.cell0; have c1 := x1.cell1; have c2 := x1.cell2
  have X1 := hide x1
  clear x1 g1
  go_wp2_with fail
  refine (unhide HCA _ hb1).mono ?_
  rintro e w2 ⟨rfl, hb2⟩
  have g2 := grown_below hb2 none
  have x2 := (unhide X1).keep g2 (by simp)
  have d0 := x2.cell0; have d1 := x2.cell1; have d2 := x2.cell2
  clear x2 g2 c0 c1 c2
  go_wp2_with fail
  refine (unhide HSA _ _).mono ?_
  rintro e w3 ⟨rfl, rfl⟩
  go_wp2
  go_ret
  exact ⟨rfl, below_then (below_then (unhide HB0) hb1) hb2⟩

end Go.Proofs.YtoiokplgkanepaaDoor
