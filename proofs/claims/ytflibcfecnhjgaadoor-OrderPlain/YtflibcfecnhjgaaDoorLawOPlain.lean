/-
  OrderPlain: where none is beside any, or each is beside each, points go by their numbers; by Card from the other end.
-/
import Derived.Test.YtflibcfecnhjgaaDoorFrameT
import Derived.Test.YtflibcfecnhjgaaDoorFrameN
import Derived.Test.YtflibcfecnhjgaaDoorFrameB
import Derived.Test.YtflibcfecnhjgaaDoorOShown
import Derived.Test.YtflibcfecnhjgaaDoorGMade
import Derived.Test.YtflibcfecnhjgaaDoorGRefG
import Derived.Test.YtflibcfecnhjgaaDoorOPlainM
namespace Go.Proofs.YtflibcfecnhjgaaDoor.orderPlain
open Go.RowKit Go.ChangeShapes Go.WideShapes Go.ChangeAt
set_option linter.unusedVariables false
set_option linter.unusedSimpArgs false
set_option maxRecDepth 20000

/-- A point's bits so far. -/
def rowN (b : Bool) (i m : Nat) : Nat := if b = true then butN i m else 0
def graphB (b : Bool) (n k : Nat) : List Nat := (List.range k).map fun i => rowN b i n
theorem graphB_succ (b : Bool) (n k : Nat) : graphB b n (k + 1) = graphB b n k ++ [rowN b k n] := by simp [graphB, List.range_succ]
theorem graphB_len (b : Bool) (n k : Nat) : (graphB b n k).length = k := by simp [graphB]
theorem graphB_ok {b : Bool} {n : Nat} (h : n ≤ 40) : RightG (graphB b n n) ∧ ∀ how, ofL how (graphB b n n) = if how = 3 then (ptsL n).reverse else ptsL n := by
  cases b with
  | true =>
    have e : graphB true n n = wholeN n n := rfl
    rw [e]
    refine ⟨(whole_ok h).right, fun how => ?_⟩
    have := whole_of (whole_ok h) how
    rw [wholeN_len] at this
    exact this
  | false =>
    have e : graphB false n n = List.replicate n 0 := by
      refine List.ext_getElem (by simp [graphB]) (fun i h1 h2 => ?_)
      simp [graphB, rowN]
    rw [e]
    exact ⟨right_new n h, fun how => none_of how n⟩

set_option maxHeartbeats 1500000 in
theorem walk {l0 : Int} {v0 : Value} {b : Bool} {v1 : Value} {w : World} (hT : TabD w) (i0 : v0 = .int .i64 l0) (m0 : InI64 l0) (i1 : v1 = .bool b) :
    Calls Tryd.prog 8 #[v0, v1] w fun e w' => e = .returned (.bool true) ∧ Below w.heap.size w w' := by
  subst i0 i1
  clear m0
  have HT := hide (fun W (hb : Below w.heap.size w W) => hT.below hb)
  have HSH := hide (shown9_any hT)
  have hk := rndN_lt (x := l0) (n := 41) (by decide)
  have hke := rndN_eq (x := l0) (n := 41) (by decide)
  generalize rndN l0 41 = n at *
  have hq : (bits .and .i64 l0 65535).tmod 41 = (n : Int) := hke
  have HOK := hide (graphB_ok (b := b) (show n ≤ 40 by omega))
  clear hT hke
  go_enter Tryd.func8, Tryd.ntmps8
  go_wp2_with fail
  refine (unhide HSH).mono ?_
  rintro e w1 ⟨rfl, hb1⟩
  obtain ⟨W2, hW2, hb2, hz2, hx2⟩ := boxed (w := w1) (x := .slice none 0 0)
  have HB1 := hide hb1
  have HX2 := hide hx2
  have HB2 := hide hb2
  have HW2 := hide hW2
  have hz1 := hb1.size
  clear hb1 hb2 hx2 hW2 HSH
  go_wp2
  rw [← unhide HW2]
  go_loopw [7] (fun i wr => ∃ (k : Nat) (x : Value), k ≤ n ∧ i = .int .i64 k ∧ BoxG wr w1.heap.size x ∧ OwnW W2.heap.size wr x (graphB b n k) ∧ Below w1.heap.size w1 wr ∧ W2.heap.size ≤ wr.heap.size) (fun i _ => n - (intOf i).toNat)
  case atStart => exact ⟨0, _, by omega, rfl, unhide HX2, own_nilW _ _, unhide HB2, Nat.le_refl _⟩
  case round =>
    clear HX2 HB2 HW2
    obtain ⟨k, x, hk2, rfl, hx, hown, hbel, h2r⟩ := hrel
    rename World => wr
    have hzr := hbel.size
    obtain ⟨ax, cx, rfl, hlx, hcx⟩ := (Seq.of_own hown).form
    unfold maxLen at hcx
    have hgl := graphB_len b n k
    rw [hgl] at hlx
    have hx' : BoxG wr w1.heap.size (.slice ax k cx) := by rw [hgl] at hx; exact hx
    have hown' : OwnW W2.heap.size wr (.slice ax k cx) (graphB b n k) := by rw [hgl] at hown; exact hown

    have q3 := hx'.cell
    have f3 := hx'.frozen
    by_cases hkn : k < n
    · have HO := hide hown'
      have HX := hide hx'
      have HBE := hide hbel
      clear hown hown' hx hx' hbel
      go_wp2
      go_loop [8, 9] (fun x j => ∃ m : Nat, m ≤ n ∧ j = .int .i64 m ∧ x = .int .u64 (rowN b k m : Nat)) (fun _ j => n - (intOf j).toNat)
      case atStart => exact ⟨0, by omega, rfl, by cases b <;> rfl⟩
      case round =>
        obtain ⟨m, hm, rfl, rfl⟩ := hrel
        by_cases hmn : m < n
        · cases b with
          | true =>
            have hst : rowN true k (m + 1) = if m = k then rowN true k m else rowN true k m ||| 2 ^ m := rfl
            have hlt : rowN true k m < 18446744073709551616 := butN_lt (by omega)
            have hp : 2 ^ m < 18446744073709551616 := by
              have := Nat.pow_lt_pow_right (show 1 < 2 by decide) (show m < 64 by omega)
              simpa using this
            have hsh := shl_nat (k := m) (by omega)
            by_cases hmk : m = k
            · rw [if_pos hmk] at hst
              subst hmk
              have HS := hide hst
              have hne : ((m : Int) != (m : Int)) = false := by simp
              generalize rowN true m m = y at *
              clear hst hlt hp hsh
              go_wp2
              go_round
              case rel => exact ⟨m + 1, by omega, by go_num, by rw [unhide HS]⟩
              case measure => simp [intOf]; omega
            · rw [if_neg hmk] at hst
              have hne : ((m : Int) != (k : Int)) = true := by simp; omega
              have HS := hide hst
              have HV := hide (u64_or_nat (rowN true k m) (2 ^ m) hlt hp)
              have HSH := hide hsh
              generalize rowN true k m = y at *
              clear hst hlt hp hsh
              go_wp2
              go_round
              case rel => exact ⟨m + 1, by omega, by go_num, by rw [unhide HS, unhide HSH, unhide HV]⟩
              case measure => simp [intOf]; omega
          | false =>
            have e0 : rowN false k m = 0 := rfl
            have e1 : rowN false k (m + 1) = 0 := rfl
            have HE1 := hide e1
            rw [e0]
            clear e0 e1
            go_wp2
            go_round
            case rel => exact ⟨m + 1, by omega, by go_num, by rw [unhide HE1]⟩
            case measure => simp [intOf]; omega
        · obtain rfl : m = n := by omega
          have hsu := graphB_succ b m k
          have HSU := hide hsu
          have hgl2 := graphB_len b m k
          obtain ⟨A, hA⟩ : ∃ A, A = graphB b m k := ⟨_, rfl⟩
          have HA := hide hA
          rw [← hA] at HO hgl2
          have hlA : A.length < 100000 := by omega
          have HGL2 := hide hgl2
          generalize rowN b k m = y at *
          clear hsu hA hgl2 hgl
          go_wp2_with (at_builtin; refine wp_app_word rfl (.tmp 41) (.tmp 43) rfl (B := W2.heap.size) (l := A) (unhide HO) rfl h2r rfl (by omega) ?_; intro v6 w6 hown6 hg6; have hx6 : BoxG w6 w1.heap.size (.slice ax k cx) := (hg6.by_.block _ (unhide HX).lt (fun e => by have := (unhide HO).lt _ e.symm; omega)).trans (unhide HX); have k6 := hx6.cell; have f6 := hx6.frozen; have HX6 := hide hx6; have HB6 := hide ((unhide HBE).trans (hg6.below.mono (by omega))); have hs6 := hg6.below.size; have HW6 := hide hown6; obtain ⟨a6, c6, rfl, _, _⟩ := (Seq.of_own hown6).form; clear hown6 hg6 hx6)
          have HF := hide (show BoxG (w6.setCell ⟨w1.heap.size, 0, none⟩ (.slice a6 (A ++ [y]).length c6)) w1.heap.size (.slice a6 (A ++ [y]).length c6) ∧ OwnW W2.heap.size (w6.setCell ⟨w1.heap.size, 0, none⟩ (.slice a6 (A ++ [y]).length c6)) (.slice a6 (A ++ [y]).length c6) (A ++ [y]) ∧ Below w1.heap.size w1 (w6.setCell ⟨w1.heap.size, 0, none⟩ (.slice a6 (A ++ [y]).length c6)) from
            ⟨(unhide HX6).set _, ownsRow_setCell_below (unhide HW6) (a := ⟨w1.heap.size, 0, none⟩) (by show w1.heap.size < W2.heap.size; omega) _, (unhide HB6).setCell (Nat.le_refl _) _⟩)
          have hAl : (A ++ [y]).length = A.length + 1 := by simp
          rw [hAl] at HF
          go_roundw
          case rel => exact ⟨k + 1, _, by omega, by go_num, (unhide HF).1, by rw [unhide HSU, ← unhide HA]; exact (unhide HF).2.1, (unhide HF).2.2, by simp; omega⟩
          case measure => simp [intOf]; omega
    · obtain rfl : k = n := by omega
      have hg := Seq.of_own hown'
      have hok := unhide HOK
      have hr := hok.1
      have HG := hide (fun W (hb : Below wr.heap.size wr W) => And.intro ((hx'.below hb hx'.lt).cell) (hg.below hb))
      have HBE := hide ((unhide HB1).trans (hbel.mono hz1))
      have hzb := (unhide HBE).size
      have HOF := hide (fun (how : Int) W (hb : Below wr.heap.size wr W) (hw : (Lit.int .i64 how).wf = true) (h : how = 1 ∨ how = 2 ∨ how = 3) => of_any (how := how) (hg.below hb) hr (unhide HT W ((unhide HBE).trans (hb.mono hzb))) hw h)
      have H1 := hide ((hok.2 1).trans (if_neg (by decide)))
      have H2 := hide ((hok.2 2).trans (if_neg (by decide)))
      have H3 := hide ((hok.2 3).trans (if_pos rfl))
      have hpl := ptsL_len k
      clear hown hown' hx hx' hbel hg hok hr hq q3 f3 HOK hgl
      go_wp2
      go_loopw [10] (fun h wq => ∃ j : Nat, 0 < j ∧ j ≤ 4 ∧ h = .int .i64 j ∧ Below wr.heap.size wr wq) (fun h _ => 4 - (intOf h).toNat)
      case atStart => exact ⟨1, by omega, by omega, rfl, Below.refl _ _⟩
      case round =>
        obtain ⟨j, hj0, hj4, rfl, hbq⟩ := hrel
        rename World => wq
        obtain ⟨y0, hgq⟩ := unhide HG wq hbq
        have hzq := hbq.size
        have hj : j = 1 ∨ j = 2 ∨ j = 3 ∨ j = 4 := by omega
        clear hj0 hj4
        rcases hj with rfl | rfl | rfl | rfl
        · have hof := unhide HOF 1 wq hbq (by decide) (by decide)
          rw [unhide H1] at hof
          obtain ⟨L, hL⟩ : ∃ L, L = ptsL k := ⟨_, rfl⟩
          have hLl : L.length = k := by rw [hL]; simp [ptsL_len]
          have HAT := hide (fun (m : Nat) (hm : m < L.length) => (show L[m] = (m : Int) from by
            subst hL
            rw [ptsL_at]))
          rw [← hL] at hof
          have HOF2 := hide hof
          have HLL := hide hLl
          have HBQ := hide hbq
          clear hof hL hLl hgq hbq
          go_wp2_with fail
          refine (unhide HOF2).mono ?_
          rintro e w5 ⟨v5, rfl, ho5, hb5⟩
          obtain ⟨a5, c5, rfl, hc5, hm5⟩ := (Seq.of_own ho5).form
          unfold maxLen at hm5
          have HL5 := hide (Seq.of_own ho5)
          have HB5 := hide ((unhide HBQ).trans (hb5.mono hzq))
          rw [unhide HLL] at hc5 HL5 ⊢
          clear ho5 hb5 HOF2 y0
          go_wp2
          go_loop [13] (fun i => ∃ m : Nat, m ≤ k ∧ i = .int .i64 m) (fun i => k - (intOf i).toNat)
          case atStart => exact ⟨0, by omega, rfl⟩
          case round =>
            obtain ⟨m, hm, rfl⟩ := hrel
            by_cases hmk : m < k
            · have hml : m < L.length := by rw [unhide HLL]; exact hmk
              obtain ⟨b6, o6, e6, q6⟩ := (unhide HL5).at hml
              subst e6
              rw [unhide HAT m hml] at q6
              have hmI : (m : Int) < (k : Int) := by omega
              go_wp2
              go_round
              case rel => exact ⟨m + 1, by omega, by go_num⟩
              case measure => simp [intOf]; omega
            · go_wp2
              go_roundw
              case rel => exact ⟨2, by omega, by omega, by first | rfl | go_num, unhide HB5⟩
              case measure => simp [intOf]
        · have hof := unhide HOF 2 wq hbq (by decide) (by decide)
          rw [unhide H2] at hof
          obtain ⟨L, hL⟩ : ∃ L, L = ptsL k := ⟨_, rfl⟩
          have hLl : L.length = k := by rw [hL]; simp [ptsL_len]
          have HAT := hide (fun (m : Nat) (hm : m < L.length) => (show L[m] = (m : Int) from by
            subst hL
            rw [ptsL_at]))
          rw [← hL] at hof
          have HOF2 := hide hof
          have HLL := hide hLl
          have HBQ := hide hbq
          clear hof hL hLl hgq hbq
          go_wp2_with fail
          refine (unhide HOF2).mono ?_
          rintro e w5 ⟨v5, rfl, ho5, hb5⟩
          obtain ⟨a5, c5, rfl, hc5, hm5⟩ := (Seq.of_own ho5).form
          unfold maxLen at hm5
          have HL5 := hide (Seq.of_own ho5)
          have HB5 := hide ((unhide HBQ).trans (hb5.mono hzq))
          rw [unhide HLL] at hc5 HL5 ⊢
          clear ho5 hb5 HOF2 y0
          go_wp2
          go_loop [13] (fun i => ∃ m : Nat, m ≤ k ∧ i = .int .i64 m) (fun i => k - (intOf i).toNat)
          case atStart => exact ⟨0, by omega, rfl⟩
          case round =>
            obtain ⟨m, hm, rfl⟩ := hrel
            by_cases hmk : m < k
            · have hml : m < L.length := by rw [unhide HLL]; exact hmk
              obtain ⟨b6, o6, e6, q6⟩ := (unhide HL5).at hml
              subst e6
              rw [unhide HAT m hml] at q6
              have hmI : (m : Int) < (k : Int) := by omega
              go_wp2
              go_round
              case rel => exact ⟨m + 1, by omega, by go_num⟩
              case measure => simp [intOf]; omega
            · go_wp2
              go_roundw
              case rel => exact ⟨3, by omega, by omega, by first | rfl | go_num, unhide HB5⟩
              case measure => simp [intOf]
        · have hof := unhide HOF 3 wq hbq (by decide) (by decide)
          rw [unhide H3] at hof
          obtain ⟨L, hL⟩ : ∃ L, L = (ptsL k).reverse := ⟨_, rfl⟩
          have hLl : L.length = k := by rw [hL]; simp [ptsL_len]
          have HAT := hide (fun (m : Nat) (hm : m < L.length) => (show L[m] = (k : Int) - 1 - (m : Int) from by
            subst hL
            rw [List.getElem_reverse, ptsL_at, ptsL_len]; omega))
          rw [← hL] at hof
          have HOF2 := hide hof
          have HLL := hide hLl
          have HBQ := hide hbq
          clear hof hL hLl hgq hbq
          go_wp2_with fail
          refine (unhide HOF2).mono ?_
          rintro e w5 ⟨v5, rfl, ho5, hb5⟩
          obtain ⟨a5, c5, rfl, hc5, hm5⟩ := (Seq.of_own ho5).form
          unfold maxLen at hm5
          have HL5 := hide (Seq.of_own ho5)
          have HB5 := hide ((unhide HBQ).trans (hb5.mono hzq))
          rw [unhide HLL] at hc5 HL5 ⊢
          clear ho5 hb5 HOF2 y0
          go_wp2
          go_loop [13] (fun i => ∃ m : Nat, m ≤ k ∧ i = .int .i64 m) (fun i => k - (intOf i).toNat)
          case atStart => exact ⟨0, by omega, rfl⟩
          case round =>
            obtain ⟨m, hm, rfl⟩ := hrel
            by_cases hmk : m < k
            · have hml : m < L.length := by rw [unhide HLL]; exact hmk
              obtain ⟨b6, o6, e6, q6⟩ := (unhide HL5).at hml
              subst e6
              rw [unhide HAT m hml] at q6
              have hmI : (m : Int) < (k : Int) := by omega
              go_wp2
              go_round
              case rel => exact ⟨m + 1, by omega, by go_num⟩
              case measure => simp [intOf]; omega
            · go_wp2
              go_roundw
              case rel => exact ⟨4, by omega, by omega, by first | rfl | go_num, unhide HB5⟩
              case measure => simp [intOf]
        · clear hgq
          go_wp2
          go_ret
          exact ⟨rfl, (unhide HBE).trans (hbq.mono hzb)⟩

set_option maxRecDepth 100000 in
theorem lifted (os : Os) (started : os.Started) (H : Type) (enc : TypeId × Value → H) :
    ReturnsInHanded {} Tryd.checked os 8 .any (fun w args => (Rows.orderPlainSpec.pre enc Tryd.prog Tryd.f8 [] false w args ∧ laidMetH Tryd.prog laidIn w) ∧ sizedMet enc Tryd.prog Tryd.f8 (OpenSpec.ofChange Rows.orderPlainSpec) false w args)
      (Rows.orderPlainSpec.post enc Tryd.prog Tryd.f8 false true false false) := by
  refine returnsInHanded_of_change_and (C := Tryd.checked) (X := fun w _ => laidMetH Tryd.prog laidIn w) (fun _ _ _ hh h => h.of_heap hh) own started (by kernel_rfl) Tryd.func8
    (ChangeSpec.witness_shaped (enc := enc) (C := Tryd.checked) (os := os) (X := fun w _ => laidMetH Tryd.prog laidIn w) false (World.doorLaid Tryd.prog doorN os) #[.int .i64 0, .bool false] 8 rfl (World.shaped_of_RefB (by kernel_rfl) (by kernel_rfl)) (by kernel_rfl) (by kernel_rfl) (by kernel_rfl) (door_met os _)) ?_
  intro W base args ds gs before hval0 hW _ _ hL _
  have hval : ∀ (j : Nat) t v, Tryd.f8.params[j]? = some t → args[j]? = some v → Value.okWide Tryd.prog W .any base t v := hval0
  have hW' := hW
  obtain ⟨p, q, hA0, hV, rfl, hfz, hnd⟩ := hW
  have hA : DataW.TrodAll enc Tryd.prog W 0 (fun _ => true) true Tryd.f8.params.toList args.toList ds p := hA0
  rw [Tryd.params8] at hA hval
  obtain ⟨v0, vs0, d0, ds0, p0, q0, hargs, rfl, rfl, h0, r0⟩ := trodAll_cons hA
  obtain ⟨v1, vs1, d1, ds1, p1, q1, rfl, rfl, rfl, h1, r1⟩ := trodAll_cons r0
  obtain ⟨rfl, rfl, rfl⟩ := trodAll_nil r1
  obtain rfl : args = #[v0, v1] := by cases args; simp_all
  obtain ⟨rfl, rfl⟩ := trodVars_none hV
  obtain ⟨l0, i0, m0⟩ := read_int h0 (hval 0 3 v0 rfl rfl)
  have lt0 : ∀ x ∈ p0, x.block < W.heap.size := by obtain ⟨m, hm⟩ := h0; exact DataW.trod_lt m _ _ _ hm
  obtain ⟨l1, i1⟩ := read_bool h1 (hval 1 4 v1 rfl rfl)
  have lt1 : ∀ x ∈ p1, x.block < W.heap.size := by obtain ⟨m, hm⟩ := h1; exact DataW.trod_lt m _ _ _ hm
  clear hA0 hval0
  refine (walk (tabs_of hL) i0 m0 i1).mono fun e W' ⟨he, bel⟩ => ?_
  subst he
  exact ⟨_, rfl, _, _, _, [], _, [], hW', trodAll_mk1 (shut_bool Tryd.underlying4 _), (trodAll_cons_mk (Below.trod laidOut (by kernel_rfl) (of_decide_eq_true (by kernel_rfl)) h0 bel lt0) (trodAll_cons_mk (Below.trod laidOut (by kernel_rfl) (of_decide_eq_true (by kernel_rfl)) h1 bel lt1) trodAll_mk0)), rfl, bel.frame _, fun h => by cases h⟩

theorem over : Rows.orderPlainRow.holds Tryd.pinned (OpenSpec.ofChange Rows.orderPlainSpec) :=
  OpenClaim.holds_of_wide 8 Tryd.f8 rfl rfl rfl rfl rfl rfl rfl ⟨rfl, rfl, rfl, rfl, rfl⟩ rfl rfl rfl rfl rfl (by kernel_rfl) Tryd.func8 (by kernel_rfl)
    (of_decide_eq_true (by kernel_rfl)) (by unfold Func.isWrapper; first | (rw [if_pos (by decide +kernel)]; kernel_rfl) | (rw [if_neg (by decide +kernel)]; exact ⟨rfl, rfl⟩))
    (fun os started H enc _ => lifted os started H enc)

/-- The statement: the tied card. -/
theorem proved : Rows.OrderPlainCardSaid :=
  Claim7.holds_tied_plain_at .later [] [.data] true (true, "8f2d994e21dbfdcf108bf958dff57fcf320e77d1f440c1e17c51dcce542cbe3a") false
    over (fun _ h => by cases h) (by kernel_rfl) (fun _ h => by cases h) orderPlain_row_tie rfl ⟨rfl, rfl⟩ (by kernel_rfl) rfl
    (fun f fn hf hfn => by
      obtain rfl : f = 8 := Option.some.inj ((show Tryd.prog.funcNamed "arborist/arboristlaw09.OrderPlain" = some 8 by kernel_rfl).symm.trans hf) |>.symm
      obtain rfl : fn = Tryd.f8 := (Option.some.inj (Tryd.func8.symm.trans hfn)).symm
      exact ⟨by kernel_rfl, fun j t ht => by
        rw [Tryd.params8] at ht
        have hm : t ∈ [3, 4] := by simpa using Array.mem_of_getElem? ht
        have hall : ([3, 4].all fun u => !Tryd.prog.wantsStandIn u) = true := by kernel_rfl
        exact (show Tryd.prog.wantsStandIn t = false by simpa using List.all_eq_true.1 hall t hm)⟩)
    (by kernel_rfl)

#print axioms proved
end Go.Proofs.YtflibcfecnhjgaaDoor.orderPlain
