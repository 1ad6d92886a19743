/-
  GraphKeeps: what is handed in stays as it was; joined again it is the same.
-/
import Derived.Test.YtmhaaogjldnceaaDoorFrame8
import Derived.Test.YtmhaaogjldnceaaDoorFrameN
import Derived.Test.YtmhaaogjldnceaaDoorGRefG
import Derived.Test.YtmhaaogjldnceaaDoorGAdds
namespace Go.Proofs.YtmhaaogjldnceaaDoor.graphKeeps
open Go.RowKit Go.ChangeShapes Go.WideShapes Go.ChangeAt
set_option linter.unusedVariables false
set_option linter.unusedSimpArgs false
set_option maxRecDepth 20000

theorem wordUp_or (r : List Bool) (k : Nat) : wordUp r (k + 1) = wordUp r k ||| (if r.getD k false = true then 2 ^ k else 0) := by
  have hlt := wordUp_lt r k
  have e : wordUp r (k + 1) = wordUp r k + if r.getD k false = true then 2 ^ k else 0 := rfl
  rw [e]
  split
  · rw [Nat.or_comm, nat_join k (2 ^ k) (wordUp r k) (by simp) hlt, Nat.add_comm]
  · simp

theorem join_again {g : List Nat} (hr : RightG g) {a b : Nat} (ha : a < g.length) (hb : b < g.length) : joinN (joinN g [(a : Int), (b : Int)]) [(b : Int), (a : Int)] = joinN g [(a : Int), (b : Int)] := by
  have hr' := right_join hr [(a : Int), (b : Int)]
  refine graph_ext (by rw [joinN_len]) (fun x y => ?_)
  rw [Bool.eq_iff_iff, join_edge hr' (by rw [joinN_len]; exact hb) (by rw [joinN_len]; exact ha), join_edge hr ha hb]
  constructor
  · rintro (h | ⟨h1, h2 | h2⟩)
    · exact h
    · exact .inr ⟨h1, .inr h2⟩
    · exact .inr ⟨h1, .inl h2⟩
  · exact .inl

theorem join_or {g : List Nat} (hr : RightG g) {a b : Nat} (ha : a < g.length) (hb : b < g.length) (i : Nat) : (joinN g [(a : Int), (b : Int)]).getD i 0 ||| g.getD i 0 = (joinN g [(a : Int), (b : Int)]).getD i 0 := by
  apply Nat.eq_of_testBit_eq
  intro k
  rw [Nat.testBit_or]
  have h1 := join_edge hr ha hb i k
  show (besB (joinN g [(a : Int), (b : Int)]) i k || besB g i k) = besB (joinN g [(a : Int), (b : Int)]) i k
  cases h : besB g i k with
  | false => simp
  | true => rw [h1.2 (.inl h)]; rfl

set_option maxHeartbeats 2000000 in
theorem walk {l0 : Int} {v0 : Value} {l1 : List (List Int)} {v1 : Value} {l2 : Int} {v2 : Value} {l3 : Int} {v3 : Value} {w : World} (hT : TabD w) (i0 : v0 = .int .i64 l0) (m0 : InI64 l0) (i1 : Tups w v1 l1) (m1 : ∀ l ∈ l1, ∀ n ∈ l, InI64 n)
    (i2 : v2 = .int .i64 l2) (m2 : InI64 l2) (i3 : v3 = .int .i64 l3) (m3 : InI64 l3) :
    Calls Tryd.prog 9 #[v0, v1, v2, v3] w fun e w' => e = .returned (.bool true) ∧ Below w.heap.size w w' := by
  subst i0 i2 i3
  clear m0 m1 m2 m3
  have HT := hide (fun W (hb : Below w.heap.size w W) => hT.below hb)
  have HI := hide (fun W (hb : Below w.heap.size w W) => i1.below hb)
  have HSH := hide (shown8_any hT)
  obtain ⟨a0, c0, rfl, hl0, hc0⟩ := i1.form
  clear hT i1
  go_enter Tryd.func9, Tryd.ntmps9
  go_wp2_with fail
  refine (unhide HSH).mono ?_
  rintro e w1 ⟨rfl, hb1⟩
  have HB1 := hide hb1
  have HMD := hide (made_any (n := l0) (unhide HI w1 hb1))
  have hz1 := hb1.size
  clear hb1 HSH HI
  go_wp2_with fail
  refine (unhide HMD).mono ?_
  rintro e w2 ⟨u, M, bs, rfl, hM2, hok, hMl, hb2⟩
  have hN := rndN_lt (x := l0) (n := 13) (by decide)
  rw [← hMl] at hN
  have HRG := hide (graphR_right hok (by omega))
  have HM := hide (fun W (hb : Below w2.heap.size w2 W) => hM2.below hb)
  obtain ⟨au, cu, rfl, hul, hum⟩ := hM2.form
  unfold maxLen at hum
  have HB2 := hide ((unhide HB1).trans (hb2.mono hz1))
  have hz2 := (unhide HB2).size
  obtain ⟨G, hG⟩ : ∃ G, G = graphR M := ⟨_, rfl⟩
  rw [← hG] at HRG
  have hGl : G.length = M.length := by rw [hG, graphR_len]
  have HGE := hide (fun (k : Nat) (h : k < G.length) => show G[k] = wordUp (M.getD k []) M.length by
    subst hG
    have h2 : k < M.length := by rw [graphR_len] at h; exact h
    rw [List.getD_eq_getElem?_getD, List.getElem?_eq_getElem h2]
    simp [graphR])
  obtain ⟨W3, hW3⟩ : ∃ W, W = w2.alloc (.cells #[.slice none 0 0] 25) := ⟨_, rfl⟩
  have hb3 : Below w2.heap.size w2 W3 := by rw [hW3]; exact (Below.refl _ _).alloc (Nat.le_refl _) _
  have hz3 : W3.heap.size = w2.heap.size + 1 := by rw [hW3]; simp
  have hx3 : BoxG W3 w2.heap.size (.slice none 0 0) := by rw [hW3]; exact BoxG.new w2 _
  have HX3 := hide hx3
  have HB3 := hide hb3
  have HW3 := hide hW3
  clear hM2 hok hMl hb2 HMD HB1 hG hb3 hx3 hW3
  go_wp2
  rw [← unhide HW3]
  go_loopw [12] (fun i wr => ∃ (k : Nat) (x : Value), i = .int .i64 k ∧ k ≤ M.length ∧ BoxG wr w2.heap.size x ∧ OwnW W3.heap.size wr x (G.take k) ∧ Below w2.heap.size w2 wr ∧ W3.heap.size ≤ wr.heap.size) (fun i _ => M.length - (intOf i).toNat)
  case atStart => exact ⟨0, .slice none 0 0, rfl, by omega, unhide HX3, own_nilW _ _, unhide HB3, Nat.le_refl _⟩
  case round =>
    clear HX3
    obtain ⟨k, x, rfl, hk, hx3, hown, hbel, hszr⟩ := hrel
    rename World => wr
    obtain ⟨ax, cx, rfl, hlx, hcx⟩ := (Seq.of_own hown).form
    unfold maxLen at hcx
    have hkG : (G.take k).length = k := by rw [List.length_take]; omega
    rw [hkG] at hown hlx hx3
    have q3 := hx3.cell
    have f3 := hx3.frozen
    by_cases hkl : k < M.length
    · have HO := hide hown
      have HX3 := hide hx3
      have HBE := hide hbel
      have hMw := unhide HM wr hbel
      have HMW := hide hMw
      clear hown hx3 hbel hMw
      go_wp2
      go_loop [13, 14] (fun x j => ∃ m : Nat, m ≤ M.length ∧ j = .int .i64 m ∧ x = .int .u64 (wordUp (M.getD k []) m : Nat)) (fun _ j => M.length - (intOf j).toNat)
      case atStart => exact ⟨0, by omega, rfl, rfl⟩
      case round =>
        obtain ⟨m, hm, rfl, rfl⟩ := hrel
        by_cases hml : m < M.length
        · obtain ⟨b, o, r, e, c1, c2, _⟩ := (unhide HMW).at hkl hml
          subst e
          have hwl := wordUp_lt (M.getD k []) m
          have h40 : 2 ^ m ≤ 2 ^ 40 := Nat.pow_le_pow_right (by decide) (by omega)
          have h64 : (2 : Nat) ^ 40 = 1099511627776 := by decide
          have hsh := shl_nat (k := m) (by omega)
          have hstep := wordUp_or (M.getD k []) m
          cases hb : (M.getD k []).getD m false with
          | true =>
            rw [hb] at c2 hstep
            rw [if_pos rfl] at hstep
            have hor : bits .or .u64 ((wordUp (M.getD k []) m : Nat) : Int) ((2 ^ m : Nat) : Int) = ((wordUp (M.getD k []) m ||| 2 ^ m : Nat) : Int) := u64_or_nat _ _ (by rw [h64] at h40; omega) (by rw [h64] at h40; omega)
            rw [← hstep] at hor
            have HS := hide hor
            have HSH := hide hsh
            obtain ⟨y2, hy2⟩ : ∃ y2, y2 = wordUp (M.getD k []) (m + 1) := ⟨_, rfl⟩
            rw [← hy2] at HS
            have HY2 := hide hy2
            generalize wordUp (M.getD k []) m = y at *
            clear hwl h40 h64 hstep hb hsh hor hy2
            go_wp2
            go_round
            case rel => exact ⟨m + 1, by omega, by go_num, by rw [unhide HSH, unhide HS, unhide HY2]⟩
            case measure => simp [intOf]; omega
          | false =>
            rw [hb] at c2 hstep
            have hstep : wordUp (M.getD k []) (m + 1) = wordUp (M.getD k []) m := by rw [hstep]; simp
            have HS := hide hstep
            clear hwl h40 h64 hstep hb hsh
            go_wp2
            go_round
            case rel => exact ⟨m + 1, by omega, by go_num, by rw [unhide HS]⟩
            case measure => simp [intOf]; omega
        · have hmM : m = M.length := by omega
          subst hmM
          have hG := unhide HGE k (by omega)
          have htk : G.take (k + 1) = G.take k ++ [G[k]'(by omega)] := List.take_succ_eq_append_getElem (by omega)
          rw [hG] at htk
          have HTK := hide htk
          generalize wordUp (M.getD k []) M.length = y at *
          clear hG htk
          go_wp2_with (at_builtin; refine wp_app_word rfl (.tmp 49) (.tmp 51) rfl (B := W3.heap.size) (l := G.take k) (unhide HO) rfl (by omega) rfl (by omega) ?_; intro v6 w6 hown6 hg6; have hx6 : BoxG w6 w2.heap.size (.slice ax k cx) := (hg6.by_.block _ (unhide HX3).lt (fun e => by have := (unhide HO).lt _ e.symm; omega)).trans (unhide HX3); have k6 := hx6.cell; have f6 := hx6.frozen; have HX6 := hide hx6; have HB6 := hide ((unhide HBE).trans (hg6.below.mono (by omega))); have hs6 := hg6.below.size; have HW6 := hide hown6; obtain ⟨a6, c6, rfl, _, _⟩ := (Seq.of_own hown6).form; clear hown6 hg6 hx6)
          go_roundw
          case rel =>
            have e9 : (G.take k ++ [y]).length = k + 1 := by simp; omega
            have h9 : OwnW W3.heap.size (w6.setCell ⟨w2.heap.size, 0, none⟩ (.slice a6 (k + 1) c6)) (.slice a6 (k + 1) c6) (G.take k ++ [y]) := by
              have h10 := ownsRow_setCell_below (unhide HW6) (a := ⟨w2.heap.size, 0, none⟩) (by show w2.heap.size < W3.heap.size; omega) (.slice a6 (k + 1) c6)
              rw [e9] at h10
              rw [OwnW, e9]
              exact h10
            exact ⟨k + 1, _, by go_num, by omega, BoxG.set (unhide HX6) _, by rw [unhide HTK]; exact h9, (unhide HB6).setCell (Nat.le_refl _) _, by simp; omega⟩
          case measure => simp [intOf]; omega
    · have hkM : k = M.length := by omega
      have hGk : G.take k = G := List.take_of_length_le (by omega)
      rw [hGk] at hown
      subst hkM
      clear HGE HM hGk hkG hk hkl
      generalize M.length = N at *
      have HGL := hide hGl
      have hwG : Words wr (.slice ax N cx) G := Seq.of_own hown
      have HWG := hide (fun W (hb : Below wr.heap.size wr W) => hwG.below hb)
      have hbelw := (unhide HB2).trans (hbel.mono hz2)
      have hszw := hbelw.size
      have HTR := hide (fun W (hb : Below wr.heap.size wr W) => unhide HT W (hbelw.trans (hb.mono hszw)))
      have HBE := hide hbelw
      have hn64 : G.length ≤ 64 := by omega
      have HN64 := hide hn64
      by_cases h0 : N = 0
      · have hpl0 : (partsL G).length = 0 := by have := partsUp_len G G.length; unfold partsL; omega
        have HPA := hide (parts_any (unhide HWG _ (Below.refl _ _)) (unhide HRG) (unhide HTR _ (Below.refl _ _)))
        have HP0 := hide hpl0
        subst h0
        clear hpl0 hown hbel hx3 hbelw hn64 hGl
        go_wp2_with fail
        refine (unhide HPA).mono ?_
        rintro e w4 ⟨vp, rfl, ho4, hb4⟩
        obtain ⟨ap, cp, rfl, _, _⟩ := ho4.tups.form
        rw [unhide HP0]
        have HB4 := hide ((unhide HBE).trans (hb4.mono hszw))
        clear ho4 hb4
        go_wp2
        go_ret
        exact ⟨rfl, unhide HB4⟩
      · have hne0 : ((N : Int) == 0) = false := by simp; omega
        have hA := rndN_lt (x := l2) (n := N) (by omega)
        have hB := rndN_lt (x := l3) (n := N) (by omega)
        have eA := rndN_eq (x := l2) (n := N) (by omega)
        have eB := rndN_eq (x := l3) (n := N) (by omega)
        generalize rndN l2 N = A at *
        generalize rndN l3 N = B at *
        have hb0 : Below wr.heap.size wr (wr.alloc (.cells #[] 30)) := (Below.refl _ _).alloc (Nat.le_refl _) _
        have HW0 := hide (unhide HWG _ hb0)
        have q0 := Below.cell_of hb0 hx3.cell
        have HX3 := hide hx3
        have HB0 := hide hb0
        have hxlt := fun b hb => (hown.lt b hb).2
        have HXL := hide hxlt
        have HJA := hide (join_again (unhide HRG) (a := A) (b := B) (by omega) (by omega))
        have HJO := hide (join_or (unhide HRG) (a := A) (b := B) (by omega) (by omega))
        have HJL := hide (show (joinN G [(A : Int), (B : Int)]).length = N by rw [joinN_len, hGl])
        have HRJ := hide (right_join (unhide HRG) [(A : Int), (B : Int)])
        clear hown hbel hx3 hbelw hwG hb0 hxlt hn64 hGl
        go_wp2_with (at_builtin; refine wp_app_words rfl (.tmp 74) (.tmp 76) rfl (B := wr.heap.size) (l := []) (own_litW (Nat.le_refl _)) rfl (by simp) (unhide HW0) rfl (by have := unhide HN64; simp; omega) ?_; intro v4 w4 hown4 hg4; replace hown4 : OwnW wr.heap.size w4 v4 G := (by simpa using hown4); obtain ⟨a4, c4, rfl, hl4, hc4⟩ := (Seq.of_own hown4).form; rw [unhide HGL] at hown4 hl4 hg4 ⊢; have hB4 : Below wr.heap.size wr w4 := (unhide HB0).trans hg4.below; have k4 := ((unhide HX3).below hB4 (unhide HX3).lt).cell)
        have HJ := hide (join_any (a := (A : Int)) (b := (B : Int)) (unhide HWG _ hB4) (unhide HN64) (unhide HRG).w64)
        have HWA := hide (Seq.of_own hown4)
        have HLA := hide (fun b hb => (hown4.lt b hb))
        have HB4 := hide hB4
        have hz4 := hB4.size
        clear hg4 hown4 hB4 q0
        go_wp2_with fail
        refine (unhide HJ).mono ?_
        rintro e w5 ⟨y, rfl, hown5, hb5⟩
        generalize joinN G [(A : Int), (B : Int)] = H at *
        obtain ⟨ay, cy, rfl, hyl, hyc⟩ := (Seq.of_own hown5).form
        rw [unhide HJL] at hown5 hyl ⊢
        have hB5 := (unhide HB4).trans (hb5.mono hz4)
        obtain ⟨W6, hW6⟩ : ∃ W, W = w5.alloc (.cells #[.slice ay N cy] 25) := ⟨_, rfl⟩
        have hb6 : Below w5.heap.size w5 W6 := by rw [hW6]; exact (Below.refl _ _).alloc (Nat.le_refl _) _
        have hz6 : W6.heap.size = w5.heap.size + 1 := by rw [hW6]; simp
        have hx6 : BoxG W6 w5.heap.size (.slice ay N cy) := by rw [hW6]; exact BoxG.new w5 _
        have hown6 := own_below hown5 hb6
        have hz5 := hB5.size
        have HB6 := hide (hB5.trans (hb6.mono hz5))
        have HJ2 := hide (join_any (a := (B : Int)) (b := (A : Int)) (Seq.of_own hown6) (by have := unhide HJL; have := unhide HN64; have := unhide HGL; omega) (unhide HRJ).w64)
        rw [unhide HJA] at HJ2
        have HO6 := hide hown6
        have HX6 := hide hx6
        have HWA6 := hide ((unhide HWA).below (hb5.trans (hb6.mono hb5.size)))
        have k6 := hx6.cell
        have HW6 := hide hW6
        have hylt := (fun b hb => (hown5.lt b hb))
        have HYL := hide hylt
        clear hown5 hb5 hB5 hW6 hb6 hx6 hown6 HJ HJA hylt HWA k4
        go_wp2_with fail
        rw [← unhide HW6]
        refine (unhide HJ2).mono ?_
        rintro e w7 ⟨z, rfl, hown7, hb7⟩
        obtain ⟨az, cz, rfl, hzl, hzc⟩ := (Seq.of_own hown7).form
        rw [unhide HJL] at hown7 hzl ⊢
        obtain ⟨W8, hW8⟩ : ∃ W, W = w7.alloc (.cells #[.slice az N cz] 25) := ⟨_, rfl⟩
        have hb8 : Below w7.heap.size w7 W8 := by rw [hW8]; exact (Below.refl _ _).alloc (Nat.le_refl _) _
        have hz8 : W8.heap.size = w7.heap.size + 1 := by rw [hW8]; simp
        have hx8 : BoxG W8 w7.heap.size (.slice az N cz) := by rw [hW8]; exact BoxG.new w7 _
        have hz7 := hb7.size
        have hz60 := (unhide HB6).size
        have hb78 : Below W6.heap.size W6 W8 := hb7.trans (hb8.mono hz7)
        have HB8 := hide ((unhide HB6).trans (hb78.mono hz60))
        have HX8 := hide hx8
        have HX68 := hide ((unhide HX6).below hb78 (by omega))
        have HX38 := hide ((unhide HX3).below (unhide HB8) (unhide HX3).lt)
        have HO8 := hide (own_below (unhide HO6) hb78)
        have HWG8 := hide (unhide HWG _ (unhide HB8))
        have HWA8 := hide ((unhide HWA6).below hb78)
        have HWZ8 := hide ((Seq.of_own hown7).below hb8)
        have k8 := hx8.cell
        have k68 := (unhide HX68).cell
        have HW8 := hide hW8
        clear hown7 hb7 hW8 hb8 hx8 hb78 HJ2 HO6 HX6 HWA6 HX3 HW6 k6
        have k8s : (w7.alloc (.cells #[.slice az N cz] 25)).cell? ⟨w7.heap.size, 0, none⟩ = some (.slice az N cz) := by rw [← unhide HW8]; exact k8
        have k68s : (w7.alloc (.cells #[.slice az N cz] 25)).cell? ⟨w5.heap.size, 0, none⟩ = some (.slice ay N cy) := by rw [← unhide HW8]; exact k68
        go_wp2
        rw [← unhide HW8]
        clear k8s k68s k8 k68
        have hz8w : W8.heap.size = w7.heap.size + 1 := hz8
        have hsz8 := (unhide HB8).size
        go_loopw [18] (fun i wq => ∃ k : Nat, k ≤ N ∧ i = .int .i64 k ∧ Below W8.heap.size W8 wq) (fun i _ => N - (intOf i).toNat)
        case atStart => exact ⟨0, by omega, rfl, Below.refl _ _⟩
        case round =>
          obtain ⟨k, hk, rfl, hbq⟩ := hrel
          rename World => wq
          have b11 := ((unhide HX38).below hbq (unhide HX38).lt).cell
          have b16 := ((unhide HX68).below hbq (unhide HX68).lt).cell
          have b17 := ((unhide HX8).below hbq (unhide HX8).lt).cell
          by_cases hkN : k < N
          · obtain ⟨gb, go, e1, q1⟩ := words_cell ((unhide HWG8).below hbq) (i := k) (by rw [unhide HGL]; exact hkN)
            subst e1
            obtain ⟨ab, ao, e2, q2⟩ := words_cell ((unhide HWA8).below hbq) (i := k) (by rw [unhide HGL]; exact hkN)
            subst e2
            obtain ⟨hb, ho, e3, q3h⟩ := words_cell ((Seq.of_own (unhide HO8)).below hbq) (i := k) (by rw [unhide HJL]; exact hkN)
            subst e3
            obtain ⟨zb, zo, e4, q4⟩ := words_cell ((unhide HWZ8).below hbq) (i := k) (by rw [unhide HJL]; exact hkN)
            subst e4
            have hp64 := getD_lt (unhide HRG).w64 k
            have hq64 := getD_lt (unhide HRJ).w64 k
            have hor : (bits .or .u64 ((H.getD k 0 : Nat) : Int) ((G.getD k 0 : Nat) : Int) != ((H.getD k 0 : Nat) : Int)) = false := by
              rw [u64_or_nat _ _ hq64 hp64, unhide HJO k]; simp
            generalize H.getD k 0 = q at *
            generalize G.getD k 0 = p at *
            have n1 : ((p : Int) != (p : Int)) = false := by simp
            have n2 : ((q : Int) != (q : Int)) = false := by simp
            have HQB := hide hbq
            clear hp64 hq64 hbq
            go_wp2
            go_quiet (fail)
            go_wp2
            go_roundw
            case rel => exact ⟨k + 1, by omega, by go_num, Below.drewN1 (unhide HQB) _⟩
            case measure => simp [intOf]; omega
          · have hyO := own_below (unhide HO8) hbq
            obtain ⟨hb, ho, e3, q3h⟩ := words_cell ((Seq.of_own hyO)) (i := A) (by rw [unhide HJL]; exact hA)
            subst e3
            have hoff := own_off hyO
            simp only at hoff
            subst hoff
            obtain ⟨⟨u77, d77⟩, f77, _, _⟩ := own_setW hyO (by rw [unhide HJL]) (i := A) hA 77
            have hhb := (unhide HYL) hb rfl
            have gr := grown_setG wq hb A (.int .u64 77)
            have hkp : Keeps (fun b => b = hb) wq (wq.setCell ⟨hb, A, none⟩ (.int .u64 77)) := Keeps.grown gr (fun b e => by injection e with e; exact e.symm)
            have hwG9 : Words (wq.setCell ⟨hb, A, none⟩ (.int .u64 77)) (.slice ax N cx) G := hkp.seq ((unhide HWG8).below hbq) (fun _ b h1 h2 => by have := unhide HXL b h1; have h2 : b = hb := h2; omega)
            have hwA9 : Words (wq.setCell ⟨hb, A, none⟩ (.int .u64 77)) (.slice a4 N c4) G := hkp.seq ((unhide HWA8).below hbq) (fun _ b h1 h2 => by have := (unhide HLA b h1).2; have h2 : b = hb := h2; omega)
            obtain ⟨gb, go, e1, q1⟩ := words_cell hwG9 (i := A) (by rw [unhide HGL]; exact hA)
            subst e1
            obtain ⟨ab, ao, e2, q2⟩ := words_cell hwA9 (i := A) (by rw [unhide HGL]; exact hA)
            subst e2
            have hb11 : BoxG (wq.setCell ⟨hb, A, none⟩ (.int .u64 77)) w2.heap.size (.slice (some ⟨gb, go, none⟩) N cx) := ((unhide HX38).below hbq (unhide HX38).lt).setO (by omega) _
            have c11 := hb11.cell
            have hfin : Below w.heap.size w (wq.setCell ⟨hb, A, none⟩ (.int .u64 77)) := Below.setCell (p := ⟨hb, A, none⟩) ((unhide HBE).trans (((unhide HB8).trans (hbq.mono hsz8)).mono hszw)) (by show w.heap.size ≤ hb; omega) _
            have HF := hide hfin
            generalize G.getD A 0 = p at *
            have n1 : ((p : Int) == (p : Int)) = true := by simp
            clear gr hkp hwG9 hwA9 hb11 hfin hbq hyO q3h b17
            go_wp2
            generalize wq.setCell ⟨hb, A, none⟩ (.int .u64 77) = w9 at *
            go_quiet (fail)
            go_wp2
            go_ret
            exact ⟨rfl, Below.drewN1 (unhide HF) _⟩

set_option maxRecDepth 100000 in
theorem lifted (os : Os) (started : os.Started) (H : Type) (enc : TypeId × Value → H) :
    ReturnsInHanded {} Tryd.checked os 9 .any (fun w args => (Rows.graphKeepsSpec.pre enc Tryd.prog Tryd.f9 [] false w args ∧ laidMetH Tryd.prog laidIn w) ∧ sizedMet enc Tryd.prog Tryd.f9 (OpenSpec.ofChange Rows.graphKeepsSpec) false w args)
      (Rows.graphKeepsSpec.post enc Tryd.prog Tryd.f9 false true false false) := by
  refine returnsInHanded_of_change_and (C := Tryd.checked) (X := fun w _ => laidMetH Tryd.prog laidIn w) (fun _ _ _ hh h => h.of_heap hh) own started (by kernel_rfl) Tryd.func9
    (ChangeSpec.witness_shaped (enc := enc) (C := Tryd.checked) (os := os) (X := fun w _ => laidMetH Tryd.prog laidIn w) false (World.doorLaid Tryd.prog doorN os) #[.int .i64 0, .slice none 0 0, .int .i64 0, .int .i64 0] 8 rfl (World.shaped_of_RefB (by kernel_rfl) (by kernel_rfl)) (by kernel_rfl) (by kernel_rfl) (by kernel_rfl) (door_met os _)) ?_
  intro W base args ds gs before hval0 hW _ _ hL _
  have hval : ∀ (j : Nat) t v, Tryd.f9.params[j]? = some t → args[j]? = some v → Value.okWide Tryd.prog W .any base t v := hval0
  have hW' := hW
  obtain ⟨p, q, hA0, hV, rfl, hfz, hnd⟩ := hW
  have hA : DataW.TrodAll enc Tryd.prog W 0 (fun _ => true) true Tryd.f9.params.toList args.toList ds p := hA0
  rw [Tryd.params9] at hA hval
  obtain ⟨v0, vs0, d0, ds0, p0, q0, hargs, rfl, rfl, h0, r0⟩ := trodAll_cons hA
  obtain ⟨v1, vs1, d1, ds1, p1, q1, rfl, rfl, rfl, h1, r1⟩ := trodAll_cons r0
  obtain ⟨v2, vs2, d2, ds2, p2, q2, rfl, rfl, rfl, h2, r2⟩ := trodAll_cons r1
  obtain ⟨v3, vs3, d3, ds3, p3, q3, rfl, rfl, rfl, h3, r3⟩ := trodAll_cons r2
  obtain ⟨rfl, rfl, rfl⟩ := trodAll_nil r3
  obtain rfl : args = #[v0, v1, v2, v3] := by cases args; simp_all
  obtain ⟨rfl, rfl⟩ := trodVars_none hV
  obtain ⟨l0, i0, m0⟩ := read_int h0 (hval 0 3 v0 rfl rfl)
  have lt0 : ∀ x ∈ p0, x.block < W.heap.size := by obtain ⟨m, hm⟩ := h0; exact DataW.trod_lt m _ _ _ hm
  obtain ⟨l1, i1, m1⟩ := read_tups h1 (okWide_slice Tryd.underlying33 (hval 1 33 v1 rfl rfl))
  have lt1 : ∀ x ∈ p1, x.block < W.heap.size := by obtain ⟨m, hm⟩ := h1; exact DataW.trod_lt m _ _ _ hm
  obtain ⟨l2, i2, m2⟩ := read_int h2 (hval 2 3 v2 rfl rfl)
  have lt2 : ∀ x ∈ p2, x.block < W.heap.size := by obtain ⟨m, hm⟩ := h2; exact DataW.trod_lt m _ _ _ hm
  obtain ⟨l3, i3, m3⟩ := read_int h3 (hval 3 3 v3 rfl rfl)
  have lt3 : ∀ x ∈ p3, x.block < W.heap.size := by obtain ⟨m, hm⟩ := h3; exact DataW.trod_lt m _ _ _ hm
  clear hA0 hval0
  refine (walk (tabs_of hL) i0 m0 i1 m1 i2 m2 i3 m3).mono fun e W' ⟨he, bel⟩ => ?_
  subst he
  exact ⟨_, rfl, _, _, _, [], _, [], hW', trodAll_mk1 (shut_bool Tryd.underlying4 _), (trodAll_cons_mk (Below.trod laidOut (by kernel_rfl) (of_decide_eq_true (by kernel_rfl)) h0 bel lt0) (trodAll_cons_mk (Below.trod laidOut (by kernel_rfl) (of_decide_eq_true (by kernel_rfl)) h1 bel lt1) (trodAll_cons_mk (Below.trod laidOut (by kernel_rfl) (of_decide_eq_true (by kernel_rfl)) h2 bel lt2) (trodAll_cons_mk (Below.trod laidOut (by kernel_rfl) (of_decide_eq_true (by kernel_rfl)) h3 bel lt3) trodAll_mk0)))), rfl, bel.frame _, fun h => by cases h⟩

theorem over : Rows.graphKeepsRow.holds Tryd.pinned (OpenSpec.ofChange Rows.graphKeepsSpec) :=
  OpenClaim.holds_of_wide 9 Tryd.f9 rfl rfl rfl rfl rfl rfl rfl ⟨rfl, rfl, rfl, rfl, rfl⟩ rfl rfl rfl rfl rfl (by kernel_rfl) Tryd.func9 (by kernel_rfl)
    (of_decide_eq_true (by kernel_rfl)) (by unfold Func.isWrapper; first | (rw [if_pos (by decide +kernel)]; kernel_rfl) | (rw [if_neg (by decide +kernel)]; exact ⟨rfl, rfl⟩))
    (fun os started H enc _ => lifted os started H enc)

/-- The statement: the tied card. -/
theorem proved : Rows.GraphKeepsCardSaid :=
  Claim7.holds_tied_plain_at .later [] [.data] true (true, "157dde362406d82824f5618f866d1cc9b7096a3b3657dcbd1ee63959cb86c8c6") false
    over (fun _ h => by cases h) (by kernel_rfl) (fun _ h => by cases h) graphKeeps_row_tie rfl ⟨rfl, rfl⟩ (by kernel_rfl) rfl
    (fun f fn hf hfn => by
      obtain rfl : f = 9 := Option.some.inj ((show Tryd.prog.funcNamed "arborist/arboristlaw08.GraphKeeps" = some 9 by kernel_rfl).symm.trans hf) |>.symm
      obtain rfl : fn = Tryd.f9 := (Option.some.inj (Tryd.func9.symm.trans hfn)).symm
      exact ⟨by kernel_rfl, fun j t ht => by
        rw [Tryd.params9] at ht
        have hm : t ∈ [3, 33, 3, 3] := by simpa using Array.mem_of_getElem? ht
        have hall : ([3, 33, 3, 3].all fun u => !Tryd.prog.wantsStandIn u) = true := by kernel_rfl
        exact (show Tryd.prog.wantsStandIn t = false by simpa using List.all_eq_true.1 hall t hm)⟩)
    (by kernel_rfl)

end Go.Proofs.YtmhaaogjldnceaaDoor.graphKeeps
