/-
  Proved: InstEmpty answers true for every row of bytes, and leaves what was handed in as it was. No condition.
-/
import Derived.Test.YtkgpdhhpmfehnaaDoorShownI
import Derived.Test.YtkgpdhhpmfehnaaDoorFrame6
namespace Go.Proofs.YtkgpdhhpmfehnaaDoor.instEmpty
open Go.RowKit Go.ChangeShapes Go.WideShapes Go.ChangeAt
set_option linter.unusedVariables false
set_option linter.unusedSimpArgs false
set_option maxRecDepth 20000

/-- A text that is left out, whatever comes behind it. -/
def Blank (u : Bytes) : Prop := ∀ rest, skipN false (u ++ rest) = u.length + skipN false rest
theorem blank_nil : Blank [] := fun rest => by simp
theorem Blank.app {u v : Bytes} (h : Blank u) (k : Blank v) : Blank (u ++ v) := fun rest => by
  rw [List.append_assoc, h, k, List.length_append]; omega
theorem skip_cons (note : Bool) (c : UInt8) (r : Bytes) : skipN note (c :: r) = if c.toNat = 10 then skipN false r + 1 else if c.toNat = 35 then skipN true r + 1 else if c.toNat ≠ 32 ∧ c.toNat ≠ 9 ∧ note = false then 0 else skipN note r + 1 := rfl
theorem blank_space : Blank [32] := fun rest => by
  show skipN false (32 :: rest) = _
  rw [skip_cons]; simp; omega
theorem blank_line : Blank [10] := fun rest => by
  show skipN false (10 :: rest) = _
  rw [skip_cons]; simp; omega
theorem blank_tab : Blank [9] := fun rest => by
  show skipN false (9 :: rest) = _
  rw [skip_cons]; simp; omega
theorem blank_note : Blank [35, 118, 97, 114, 32, 48, 59, 10] := fun rest => by
  show skipN false (35 :: 118 :: 97 :: 114 :: 32 :: 48 :: 59 :: 10 :: rest) = _
  rw [skip_cons, if_neg (by decide), if_pos (by decide)]
  iterate 6 rw [skip_cons, if_neg (by decide), if_neg (by decide), if_neg (by decide)]
  rw [skip_cons, if_pos (by decide)]
  simp only [List.length_cons, List.length_nil]
  omega
theorem lbA (a b : ByteArray) : lb (a ++ b) = lb a ++ lb b := by
  unfold lb
  simp [ByteArray.data_append]
theorem Blank.scan {u : Bytes} (h : Blank u) : scanA 0 u = .good [⟨4, [], 0, u.length⟩] := by
  have h1 : skipN false u = u.length := by have := h []; simpa [skipN] using this
  rw [scan_eq, h1, List.drop_eq_nil_of_le (Nat.le_refl _)]
  simp [tokG]
theorem parse_end (p : Nat) : parseR [⟨4, [], 0, p⟩] = .ok ⟨[], [], []⟩ [⟨4, [], 0, p⟩] := rfl

theorem szA {S x : ByteArray} {k : Nat} (h : S.size ≤ k * 8) (hx : x.size ≤ 8) : (S ++ x).size ≤ (k + 1) * 8 := by
  rw [ByteArray.size_append]; omega

set_option maxHeartbeats 2000000 in
theorem walk {L : Bytes} {v : Value} {w : World} (T : Tabs w) (h : Seq byC w v L) :
    Calls Tryd.prog 6 #[v] w fun e w' => e = .returned (.bool true) ∧ Below w.heap.size w w' := by
  obtain ⟨a, ca, rfl, hla, hca⟩ := h.form
  unfold maxLen at hca
  have HS := hide (fun W (hb : Below w.heap.size w W) => h.below hb)
  have HT := hide T
  clear T h
  go_enter Tryd.func6, Tryd.ntmps6
  go_wp2_with fail
  refine (shown6_any w (unhide HT)).mono ?_
  rintro e w1 ⟨rfl, hb1⟩
  have HB1 := hide hb1
  clear hb1
  go_wp2
  go_loop [4, 5] (fun s i => ∃ (k : Nat) (S : ByteArray), k ≤ L.length ∧ k ≤ 60 ∧ i = .int .i64 k ∧ s = .string S ∧ S.size ≤ k * 8 ∧ Hid (Blank (lb S))) (fun _ i => 60 - (intOf i).toNat)
  case atStart => exact ⟨0, ⟨#[]⟩, Nat.zero_le _, Nat.zero_le _, rfl, rfl, by simp [ByteArray.size], hide blank_nil⟩
  case round =>
    obtain ⟨k, S, hk1, hk2, rfl, rfl, hsz, HE⟩ := hrel
    by_cases hlt : k < L.length ∧ k < 60
    · obtain ⟨hl1, hl2⟩ := hlt
      obtain ⟨bb, oo, rfl, hc⟩ := (unhide HS w1 (unhide HB1)).at hl1
      unfold byC at hc
      generalize hcv : L[k] = c at *
      clear hcv
      have hc256 : c.toNat < 256 := c.toNat_lt
      have q0 : (0 : Int) ≤ (c.toNat : Int) := by omega
      have q1 : (c.toNat : Int) ≤ 255 := by omega
      go_wp2
      all_goals
        refine ⟨⟨k + 1, _, by omega, by omega, by go_num, rfl, ?_, ?_⟩, by simp [intOf]; omega⟩
        · first
            | exact szA hsz (by decide)
            | omega
        · first
            | exact hide (by rw [lbA]; exact (unhide HE).app blank_space)
            | exact hide (by rw [lbA]; exact (unhide HE).app blank_line)
            | exact hide (by rw [lbA]; exact (unhide HE).app blank_tab)
            | exact hide (by rw [lbA]; exact (unhide HE).app blank_note)
            | exact HE
    · have hcond : (¬ (k : Int) < (L.length : Int)) ∧ L.length ≤ k ∨ ((k : Int) < (L.length : Int) ∧ k < L.length) ∧ ¬ (k : Int) < 60 ∧ 60 ≤ k := by omega
      have hS : S.size ≤ 100000 := by omega
      have HPA := hide (parse_good S w1 ((unhide HT).below (unhide HB1)) hS (unhide HE).scan)
      rw [parse_end] at HPA
      clear hlt HE
      rcases hcond with ⟨h1, h1'⟩ | ⟨⟨h1, h1'⟩, h2, h2'⟩
      all_goals
        go_wp2_with fail
        refine (unhide HPA).mono ?_
        rintro e w2 ⟨⟨v, rfl, hv⟩, hb2⟩
        have hv0 := hv
        obtain ⟨dv, hh, sv, rfl, hdo, ⟨qs, q1, q2, q3, q4⟩, us, s1, s2, s3, s4⟩ := hv0
        obtain ⟨da, dc, rfl, _, _⟩ := hdo.form
        obtain ⟨ha, hc, rfl, _, _⟩ := q1.form
        obtain ⟨sa, sc, rfl, _, _⟩ := s1.form
        have hq1 : qs.length = 0 := q3
        have hu0 : us.length = 0 := s3
        rw [hq1, hu0] at hv ⊢
        simp only [List.length_nil] at hv ⊢
        have hbA := (Below.refl w2.heap.size w2).alloc (Nat.le_refl _) (.cells #[.slice da 0 dc, .slice ha 0 hc, .slice sa 0 sc] 27)
        have x1 := Box3.new 27 w2 (.slice da 0 dc) (.slice ha 0 hc) (.slice sa 0 sc)
        have HV := hide (hv.below hbA)
        have HSM := hide (same_nil (a1 := da) (a2 := ha) (a3 := sa) (b1 := none) (b2 := none) (b3 := none) (c1 := dc) (c2 := hc) (c3 := sc) (d1 := 0) (d2 := 0) (d3 := 0) (w := w2.alloc (.cells #[.slice da 0 dc, .slice ha 0 hc, .slice sa 0 sc] 27)))
        have HB2 := hide (below_then (below_then (unhide HB1) hb2) hbA)
        have X1 := hide x1
        clear hv hdo q1 q2 q3 q4 s1 s2 s3 s4 hq1 hu0 hbA x1 hb2 HPA
        go_wp2_with fail
        refine (unhide HSM).mono ?_
        rintro e w3 ⟨rfl, hb3⟩
        have x3 := (unhide X1).keep (grown_below hb3 none) (by simp)
        have c0 := x3.cell0; have c1 := x3.cell1; have c2 := x3.cell2
        have HR := hide (right_plain ((unhide HV).below hb3) plain_nil)
        have X3 := hide x3
        clear x3 HSM
        go_wp2_with fail
        refine (unhide HR).mono ?_
        rintro e w4 ⟨rfl, hb4⟩
        have x4 := (unhide X3).keep (grown_below hb4 none) (by simp)
        have d0 := x4.cell0; have d1 := x4.cell1; have d2 := x4.cell2
        have HPN := hide (print_nil (((unhide HV).below hb3).below hb4))
        clear x4 c0 c1 c2 HR
        go_wp2_with fail
        refine (unhide HPN).mono ?_
        rintro e w5 ⟨rfl, hb5⟩
        go_wp2
        go_ret
        exact ⟨rfl, below_then (below_then (below_then (unhide HB2) hb3) hb4) hb5⟩

set_option maxRecDepth 100000 in
theorem lifted (os : Os) (started : os.Started) (H : Type) (enc : TypeId × Value → H) :
    ReturnsInHanded {} Tryd.checked os 6 .any (fun w args => (Rows.instEmptySpec.pre enc Tryd.prog Tryd.f6 [] false w args ∧ laidMetH Tryd.prog laidIn w) ∧ sizedMet enc Tryd.prog Tryd.f6 (OpenSpec.ofChange Rows.instEmptySpec) false w args)
      (Rows.instEmptySpec.post enc Tryd.prog Tryd.f6 false true false false) := by
  refine returnsInHanded_of_change_and (C := Tryd.checked) (X := fun w _ => laidMetH Tryd.prog laidIn w) (fun _ _ _ hh h => h.of_heap hh) own started (by kernel_rfl) Tryd.func6
    (ChangeSpec.witness_shaped (enc := enc) (C := Tryd.checked) (os := os) (X := fun w _ => laidMetH Tryd.prog laidIn w) false (World.doorLaid Tryd.prog doorN os) #[.slice none 0 0] 8 rfl (World.shaped_of_RefB (by kernel_rfl) (by kernel_rfl)) (by kernel_rfl) (by kernel_rfl) (by kernel_rfl) (door_met os _)) ?_
  intro W base args ds gs before hval0 hW _ _ hL _
  have hval : ∀ (j : Nat) t v, Tryd.f6.params[j]? = some t → args[j]? = some v → Value.okWide Tryd.prog W .any base t v := hval0
  have hW' := hW
  obtain ⟨p, q, hA0, hV, rfl, hfz, hnd⟩ := hW
  have hA : DataW.TrodAll enc Tryd.prog W 0 (fun _ => true) true Tryd.f6.params.toList args.toList ds p := hA0
  rw [Tryd.params6] at hA hval
  obtain ⟨v0, vs0, d0, ds0, p0, q0, hargs, rfl, rfl, h0, r0⟩ := trodAll_cons hA
  obtain ⟨rfl, rfl, rfl⟩ := trodAll_nil r0
  obtain rfl : args = #[v0] := by cases args; simp_all
  obtain ⟨rfl, rfl⟩ := trodVars_none hV
  obtain ⟨l0, i0⟩ := read_bytes h0 (okWide_slice Tryd.underlying38 (hval 0 38 v0 rfl rfl))
  have lt0 : ∀ x ∈ p0, x.block < W.heap.size := by obtain ⟨m, hm⟩ := h0; exact DataW.trod_lt m _ _ _ hm
  clear hA0 hval0
  refine (walk (tabs_of hL) i0).mono fun e W' ⟨he, bel⟩ => ?_
  subst he
  exact ⟨_, rfl, _, _, _, [], _, [], hW', trodAll_mk1 (shut_bool Tryd.underlying4 _), (trodAll_cons_mk (Below.trod laidOut (by kernel_rfl) (of_decide_eq_true (by kernel_rfl)) h0 bel lt0) trodAll_mk0), rfl, bel.frame _, fun h => by cases h⟩

theorem over : Rows.instEmptyRow.holds Tryd.pinned (OpenSpec.ofChange Rows.instEmptySpec) :=
  OpenClaim.holds_of_wide 6 Tryd.f6 rfl rfl rfl rfl rfl rfl rfl ⟨rfl, rfl, rfl, rfl, rfl⟩ rfl rfl rfl rfl rfl (by kernel_rfl) Tryd.func6 (by kernel_rfl)
    (of_decide_eq_true (by kernel_rfl)) (by unfold Func.isWrapper; first | (rw [if_pos (by decide +kernel)]; kernel_rfl) | (rw [if_neg (by decide +kernel)]; exact ⟨rfl, rfl⟩))
    (fun os started H enc _ => lifted os started H enc)

/-- The statement: the tied card. -/
theorem proved : Rows.InstEmptyCardSaid :=
  Claim7.holds_tied_plain_at .later [] [.data, .data, .data, .data] true (true, "4a5c26e7eb7ef004d4ddb8f89d87f74099466696b1fd2b825a21b575a33a8ba8") true
    over (fun _ h => by cases h) (by kernel_rfl) (fun _ h => by cases h) instEmpty_row_tie rfl ⟨rfl, rfl⟩ (by kernel_rfl) rfl
    (fun f fn hf hfn => by
      obtain rfl : f = 6 := Option.some.inj ((show Tryd.prog.funcNamed "arborist/arboristlaw06.InstEmpty" = some 6 by kernel_rfl).symm.trans hf) |>.symm
      obtain rfl : fn = Tryd.f6 := (Option.some.inj (Tryd.func6.symm.trans hfn)).symm
      exact ⟨by kernel_rfl, fun j t ht => by
        rw [Tryd.params6] at ht
        have hm : t ∈ [38] := by simpa using Array.mem_of_getElem? ht
        have hall : ([38].all fun u => !Tryd.prog.wantsStandIn u) = true := by kernel_rfl
        exact (show Tryd.prog.wantsStandIn t = false by simpa using List.all_eq_true.1 hall t hm)⟩)
    (by kernel_rfl)

#print axioms proved

end Go.Proofs.YtkgpdhhpmfehnaaDoor.instEmpty
