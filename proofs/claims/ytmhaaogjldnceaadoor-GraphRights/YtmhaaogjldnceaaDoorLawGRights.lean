/-
  GraphRights: graphs are right as the document says; New makes them.
-/
import Derived.Test.YtmhaaogjldnceaaDoorFrame8
import Derived.Test.YtmhaaogjldnceaaDoorFrameN
import Derived.Test.YtmhaaogjldnceaaDoorGTruths
namespace Go.Proofs.YtmhaaogjldnceaaDoor.graphRights
open Go.RowKit Go.ChangeShapes Go.WideShapes Go.ChangeAt
set_option linter.unusedVariables false
set_option linter.unusedSimpArgs false
set_option maxRecDepth 20000

/-- 't[:h]' of a slice of words. -/
theorem run_cutW (a : Option Addr) (len cap : Nat) (h : Int) (n : Nat) (hn : h = n) (h2 : n ≤ cap) (w : World) :
    (Instr.slice 22 (.slice a len cap) none (some (.int .i64 h)) none).run Tryd.prog w = .ok (.slice a n cap) w := by
  have hu : Tryd.prog.underlying 22 = some (.slice (Tryd.prog.elem 22)) := by kernel_rfl
  have hsz : (sizeOf (Tryd.prog.elem 22)).run Tryd.prog w = .ok 1 w := by kernel_rfl
  subst hn
  rw [run_slice_h w 22 a len cap hu .i64 (n : Int) (by omega) (by omega), hsz]
  simp only [Result.andThen_ok, sliced]
  congr 1
  cases a with
  | none => simp
  | some x => simp [Addr.add]

set_option maxHeartbeats 2000000 in
theorem walk {l0 : List Nat} {v0 : Value} {l1 : Int} {v1 : Value} {w : World} (hT : TabD w) (i0 : Words w v0 l0) (m0 : W64 l0) (i1 : v1 = .int .i64 l1) (m1 : InI64 l1) :
    Calls Tryd.prog 3 #[v0, v1] w fun e w' => e = .returned (.bool true) ∧ Below w.heap.size w w' := by
  subst i1
  clear m1
  have HT := hide (fun W (hb : Below w.heap.size w W) => hT.below hb)
  have HSH := hide (shown8_any hT)
  obtain ⟨a0, c0, rfl, hl0, hc0⟩ := i0.form
  have hcm := hc0
  unfold maxLen at hc0
  obtain ⟨N, hN⟩ : ∃ N, N = min l0.length 42 := ⟨_, rfl⟩
  have hmin : ∀ W ts t, (Builtin.min_ ts t #[.int .i64 (l0.length : Int), .int .i64 42]).run Tryd.prog W = .ok (.int .i64 (N : Int)) W := fun W ts t => by rw [run_min_int2]; split <;> (congr 2; omega)
  have hcut := fun W => run_cutW a0 l0.length c0 (N : Int) N rfl (by omega) W
  have htk : Words w (.slice a0 N c0) (l0.take N) := i0.take (by omega)
  have hgl : (l0.take N).length = N := by rw [List.length_take]; omega
  have hw64 : W64 (l0.take N) := fun x hx => m0 x (List.mem_of_mem_take hx)
  have HTK := hide (fun W (hb : Below w.heap.size w W) => htk.below hb)
  have hN42 : N ≤ 42 := by omega
  generalize l0.take N = G at *
  obtain ⟨X, hX⟩ : ∃ X : Int, X = min l1 40 := ⟨_, rfl⟩
  have hmin2 : ∀ W ts t, (Builtin.min_ ts t #[.int .i64 l1, .int .i64 40]).run Tryd.prog W = .ok (.int .i64 X) W := fun W ts t => by rw [run_min_int2]; split <;> (congr 2; omega)
  have hmax2 : ∀ W ts t, (Builtin.max_ ts t #[.int .i64 0, .int .i64 X]).run Tryd.prog W = .ok (.int .i64 (newN l1 : Int)) W := fun W ts t => by rw [run_max_int2]; unfold newN; split <;> (congr 2; omega)
  have hnw : newN l1 ≤ 40 := by unfold newN; omega
  have HNW := hide (new_any l1)
  generalize newN l1 = m at *
  have HGL := hide hgl
  have HW64 := hide hw64
  clear hT i0 m0 hN hX htk hw64
  go_enter Tryd.func3, Tryd.ntmps3
  go_wp2_with fail
  refine (unhide HSH).mono ?_
  rintro e w1 ⟨rfl, hb1⟩
  have HB1 := hide hb1
  have hz1 := hb1.size
  have hb0 : Below w1.heap.size w1 (w1.alloc (.cells #[] 30)) := (Below.refl _ _).alloc (Nat.le_refl _) _
  have HW0 := hide (unhide HTK _ (hb1.trans (hb0.mono hz1)))
  have HB0 := hide hb0
  clear hb1 hb0 HSH HTK
  go_wp2_with (at_builtin; refine wp_app_words rfl (.tmp 12) (.tmp 17) rfl (B := w1.heap.size) (l := []) (own_litW (Nat.le_refl _)) rfl (by simp) (unhide HW0) rfl (by rw [hgl]; simp; omega) ?_; intro v4 w4 hown4 hg4; replace hown4 : OwnW w1.heap.size w4 v4 G := (by simpa using hown4); obtain ⟨a4, c4, rfl, hl4, hc4⟩ := (Seq.of_own hown4).form; have hB4 : Below w1.heap.size w1 w4 := (unhide HB0).trans hg4.below)
  rw [hgl] at hown4 hl4
  obtain ⟨W5, hW5⟩ : ∃ W, W = w4.alloc (.cells #[.slice a4 N c4] 25) := ⟨_, rfl⟩
  have hb5 : Below w4.heap.size w4 W5 := by rw [hW5]; exact (Below.refl _ _).alloc (Nat.le_refl _) _
  have hx5 : BoxG W5 w4.heap.size (.slice a4 N c4) := by rw [hW5]; exact BoxG.new w4 _
  have hz5 : W5.heap.size = w4.heap.size + 1 := by rw [hW5]; simp
  have hg5 : Words W5 (.slice a4 N c4) G := (Seq.of_own hown4).below hb5
  have HB5 := hide ((unhide HB1).trans ((hB4.trans (hb5.mono hB4.size)).mono hz1))
  have hw5 := (unhide HB5).size
  have HTR := hide (truths_any hg5 (unhide HW64) (by rw [hgl]; exact hN42))
  have HGW := hide (fun W (hb : Below W5.heap.size W5 W) => hg5.below hb)
  have HX5 := hide (fun W (hb : Below W5.heap.size W5 W) => (hx5.below hb (by omega)).cell)
  have HTW := hide (fun W (hb : Below W5.heap.size W5 W) => unhide HT W ((unhide HB5).trans (hb.mono hw5)))
  have HRG := hide (fun W (hb : Below W5.heap.size W5 W) => right_any (hg5.below hb) (by rw [hgl]; omega) (unhide HW64) (unhide HTW W hb))
  generalize rightS G = r at *
  have HW5 := hide hW5
  clear hg4 hown4 hB4 hb5 hx5 hg5 hW5 HT
  go_wp2_with fail
  rw [← unhide HW5]
  refine (unhide HTR).mono ?_
  rintro e w6 ⟨⟨v, rfl⟩, hb6⟩
  have HB6 := hide hb6
  have hz6 := hb6.size
  clear hb6 HTR HW5
  go_wp2_with fail
  refine (unhide HNW w6).mono ?_
  rintro e w7 ⟨x7, rfl, hown7, hb7⟩
  obtain ⟨a7, c7, rfl, hl7, hc7⟩ := (Seq.of_own hown7).form
  have hrl : (List.replicate m 0).length = m := by simp
  have hw7 : Words w7 (.slice a7 m c7) (List.replicate m 0) := by have h := Seq.of_own hown7; rw [hrl] at h; exact h
  rw [hrl] at hl7 ⊢
  unfold maxLen at hc7
  obtain ⟨W8, hW8⟩ : ∃ W, W = w7.alloc (.cells #[.slice a7 m c7] 25) := ⟨_, rfl⟩
  have hb8 : Below w7.heap.size w7 W8 := by rw [hW8]; exact (Below.refl _ _).alloc (Nat.le_refl _) _
  have hx8 : BoxG W8 w7.heap.size (.slice a7 m c7) := by rw [hW8]; exact BoxG.new w7 _
  have hw8 := hw7.below hb8
  have hB8 : Below W5.heap.size W5 W8 := (unhide HB6).trans ((hb7.trans (hb8.mono hb7.size)).mono hz6)
  have HB8 := hide hB8
  have y6 := unhide HX5 _ hB8
  have y9 := hx8.cell
  have HWE := hide (fun W (hb : Below W8.heap.size W8 W) => hw8.below hb)
  have HX9 := hide (fun W (hb : Below W8.heap.size W8 W) => (hx8.below hb hx8.lt).cell)
  have HRE := hide (fun W (hb : Below W8.heap.size W8 W) => right_any (hw8.below hb) (by rw [hrl]; omega) (right_new m hnw).w64 (unhide HTW W (hB8.trans (hb.mono hB8.size))))
  have hre : rightS (List.replicate m 0) = true := (rightS_iff (right_new m hnw).w64).2 (right_new m hnw)
  rw [hre] at HRE
  have HW8 := hide hW8
  clear hown7 hb7 hW8 hb8 hx8 hw8 hB8 hw7 hrl hre HNW
  go_wp2
  rw [← unhide HW8]
  go_loopw [10] (fun i wq => ∃ k : Nat, k ≤ m ∧ i = .int .i64 k ∧ wq = W8) (fun i _ => m - (intOf i).toNat)
  case atStart => exact ⟨0, by omega, rfl, rfl⟩
  case round =>
    obtain ⟨k, hk, rfl, hwq⟩ := hrel
    subst hwq
    by_cases hkm : k < m
    · obtain ⟨b, o, e1, q⟩ := words_cell (unhide HWE _ (Below.refl _ _)) (i := k) (by simpa using hkm)
      subst e1
      have h0 : (List.replicate m 0).getD k 0 = 0 := by rw [List.getD_eq_getElem?_getD, List.getElem?_replicate]; split <;> rfl
      rw [h0] at q
      have q : _ = some (Value.int .u64 0) := q
      go_wp2
      go_roundw
      case rel => exact ⟨k + 1, by omega, by go_num, by first | rfl | trivial⟩
      case measure => simp [intOf]; omega
    · have hB8 := unhide HB8
      have HR1 := hide (unhide HRG _ hB8)
      have hz8 := hB8.size
      clear hB8
      go_wp2_with fail
      refine (unhide HR1).mono ?_
      rintro e w9 ⟨rfl, hb9⟩
      have y9' := unhide HX9 _ hb9
      have HR2 := hide (unhide HRE _ hb9)
      have HB9 := hide ((unhide HB8).trans (hb9.mono hz8))
      have hrr : (r == r) = true := by simp
      clear hb9 y6 y9 HR1
      go_wp2_with fail
      refine (unhide HR2).mono ?_
      rintro e w10 ⟨rfl, hb10⟩
      have HB10 := hide ((unhide HB5).trans (((unhide HB9).trans (hb10.mono (unhide HB9).size)).mono hw5))
      clear hb10 y9' HR2
      go_wp2
      go_ret
      exact ⟨rfl, unhide HB10⟩

set_option maxRecDepth 100000 in
theorem lifted (os : Os) (started : os.Started) (H : Type) (enc : TypeId × Value → H) :
    ReturnsInHanded {} Tryd.checked os 3 .any (fun w args => (Rows.graphRightsSpec.pre enc Tryd.prog Tryd.f3 [] false w args ∧ laidMetH Tryd.prog laidIn w) ∧ sizedMet enc Tryd.prog Tryd.f3 (OpenSpec.ofChange Rows.graphRightsSpec) false w args)
      (Rows.graphRightsSpec.post enc Tryd.prog Tryd.f3 false true false false) := by
  refine returnsInHanded_of_change_and (C := Tryd.checked) (X := fun w _ => laidMetH Tryd.prog laidIn w) (fun _ _ _ hh h => h.of_heap hh) own started (by kernel_rfl) Tryd.func3
    (ChangeSpec.witness_shaped (enc := enc) (C := Tryd.checked) (os := os) (X := fun w _ => laidMetH Tryd.prog laidIn w) false (World.doorLaid Tryd.prog doorN os) #[.slice none 0 0, .int .i64 0] 8 rfl (World.shaped_of_RefB (by kernel_rfl) (by kernel_rfl)) (by kernel_rfl) (by kernel_rfl) (by kernel_rfl) (door_met os _)) ?_
  intro W base args ds gs before hval0 hW _ _ hL _
  have hval : ∀ (j : Nat) t v, Tryd.f3.params[j]? = some t → args[j]? = some v → Value.okWide Tryd.prog W .any base t v := hval0
  have hW' := hW
  obtain ⟨p, q, hA0, hV, rfl, hfz, hnd⟩ := hW
  have hA : DataW.TrodAll enc Tryd.prog W 0 (fun _ => true) true Tryd.f3.params.toList args.toList ds p := hA0
  rw [Tryd.params3] at hA hval
  obtain ⟨v0, vs0, d0, ds0, p0, q0, hargs, rfl, rfl, h0, r0⟩ := trodAll_cons hA
  obtain ⟨v1, vs1, d1, ds1, p1, q1, rfl, rfl, rfl, h1, r1⟩ := trodAll_cons r0
  obtain ⟨rfl, rfl, rfl⟩ := trodAll_nil r1
  obtain rfl : args = #[v0, v1] := by cases args; simp_all
  obtain ⟨rfl, rfl⟩ := trodVars_none hV
  obtain ⟨l0, i0, m0⟩ := read_words h0 (okWide_slice Tryd.underlying22 (hval 0 22 v0 rfl rfl))
  have lt0 : ∀ x ∈ p0, x.block < W.heap.size := by obtain ⟨m, hm⟩ := h0; exact DataW.trod_lt m _ _ _ hm
  obtain ⟨l1, i1, m1⟩ := read_int h1 (hval 1 3 v1 rfl rfl)
  have lt1 : ∀ x ∈ p1, x.block < W.heap.size := by obtain ⟨m, hm⟩ := h1; exact DataW.trod_lt m _ _ _ hm
  clear hA0 hval0
  refine (walk (tabs_of hL) i0 m0 i1 m1).mono fun e W' ⟨he, bel⟩ => ?_
  subst he
  exact ⟨_, rfl, _, _, _, [], _, [], hW', trodAll_mk1 (shut_bool Tryd.underlying4 _), (trodAll_cons_mk (Below.trod laidOut (by kernel_rfl) (of_decide_eq_true (by kernel_rfl)) h0 bel lt0) (trodAll_cons_mk (Below.trod laidOut (by kernel_rfl) (of_decide_eq_true (by kernel_rfl)) h1 bel lt1) trodAll_mk0)), rfl, bel.frame _, fun h => by cases h⟩

theorem over : Rows.graphRightsRow.holds Tryd.pinned (OpenSpec.ofChange Rows.graphRightsSpec) :=
  OpenClaim.holds_of_wide 3 Tryd.f3 rfl rfl rfl rfl rfl rfl rfl ⟨rfl, rfl, rfl, rfl, rfl⟩ rfl rfl rfl rfl rfl (by kernel_rfl) Tryd.func3 (by kernel_rfl)
    (of_decide_eq_true (by kernel_rfl)) (by unfold Func.isWrapper; first | (rw [if_pos (by decide +kernel)]; kernel_rfl) | (rw [if_neg (by decide +kernel)]; exact ⟨rfl, rfl⟩))
    (fun os started H enc _ => lifted os started H enc)

/-- The statement: the tied card. -/
theorem proved : Rows.GraphRightsCardSaid :=
  Claim7.holds_tied_plain_at .later [] [.data] true (true, "157dde362406d82824f5618f866d1cc9b7096a3b3657dcbd1ee63959cb86c8c6") false
    over (fun _ h => by cases h) (by kernel_rfl) (fun _ h => by cases h) graphRights_row_tie rfl ⟨rfl, rfl⟩ (by kernel_rfl) rfl
    (fun f fn hf hfn => by
      obtain rfl : f = 3 := Option.some.inj ((show Tryd.prog.funcNamed "arborist/arboristlaw08.GraphRights" = some 3 by kernel_rfl).symm.trans hf) |>.symm
      obtain rfl : fn = Tryd.f3 := (Option.some.inj (Tryd.func3.symm.trans hfn)).symm
      exact ⟨by kernel_rfl, fun j t ht => by
        rw [Tryd.params3] at ht
        have hm : t ∈ [22, 3] := by simpa using Array.mem_of_getElem? ht
        have hall : ([22, 3].all fun u => !Tryd.prog.wantsStandIn u) = true := by kernel_rfl
        exact (show Tryd.prog.wantsStandIn t = false by simpa using List.all_eq_true.1 hall t hm)⟩)
    (by kernel_rfl)

end Go.Proofs.YtmhaaogjldnceaaDoor.graphRights
