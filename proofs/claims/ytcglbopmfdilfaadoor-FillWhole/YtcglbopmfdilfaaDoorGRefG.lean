/-
  The contract of the document's Graph: truths as a graph.
-/
import Derived.Test.YtcglbopmfdilfaaDoorGMade
namespace Go.Proofs.YtcglbopmfdilfaaDoor
open Go.RowKit
set_option linter.unusedVariables false
set_option linter.unusedSimpArgs false
set_option maxRecDepth 20000

/-- A row's first k truths, as a number. -/
def wordUp (r : List Bool) : Nat → Nat
  | 0 => 0
  | k + 1 => wordUp r k + if r.getD k false = true then 2 ^ k else 0

theorem wordUp_lt (r : List Bool) : ∀ k, wordUp r k < 2 ^ k
  | 0 => by simp [wordUp]
  | k + 1 => by
    have := wordUp_lt r k
    unfold wordUp
    rw [Nat.pow_succ]
    split <;> omega

theorem wordUp_test (r : List Bool) : ∀ k i, (wordUp r k).testBit i = (decide (i < k) && r.getD i false)
  | 0, i => by simp [wordUp]
  | k + 1, i => by
    have ih := wordUp_test r k i
    have hlt := wordUp_lt r k
    unfold wordUp
    split
    · rename_i h
      have e : wordUp r k + 2 ^ k = 2 ^ k ||| wordUp r k := by
        rw [Nat.or_comm, Nat.or_comm]
        have := nat_join k (2 ^ k) (wordUp r k) (by simp) hlt
        omega
      rw [e, Nat.testBit_or, Nat.testBit_two_pow, ih]
      rcases Nat.lt_trichotomy i k with h1 | h1 | h1
      · have : ¬ k = i := by omega
        have h2 : i < k + 1 := by omega
        simp [this, h1, h2]
      · subst h1
        rw [h]
        simp
      · have : ¬ k = i := by omega
        have h2 : ¬ i < k + 1 := by omega
        have h3 : ¬ i < k := by omega
        simp [this, h2, h3]
    · rename_i h
      rw [Nat.add_zero, ih]
      rcases Nat.lt_trichotomy i k with h1 | h1 | h1
      · have h2 : i < k + 1 := by omega
        simp [h1, h2]
      · subst h1
        simp at h
        simp [h]
      · have h2 : ¬ i < k + 1 := by omega
        have h3 : ¬ i < k := by omega
        simp [h2, h3]

def graphR (M : List (List Bool)) : List Nat := M.map fun r => wordUp r M.length
theorem graphR_len (M : List (List Bool)) : (graphR M).length = M.length := by simp [graphR]

theorem graphR_bes {M : List (List Bool)} (a b : Nat) : besB (graphR M) a b = (decide (b < M.length) && atM M a b) := by
  unfold besB graphR atM
  rw [List.getD_eq_getElem?_getD, List.getElem?_map]
  have e1 : M.getD a [] = (M[a]?).getD [] := List.getD_eq_getElem?_getD
  rw [e1]
  cases h : M[a]? with
  | none => simp
  | some r => simp only [Option.map_some, Option.getD_some]; exact wordUp_test r _ b

theorem atM_lt {M : List (List Bool)} (hw : ∀ r ∈ M, r.length = M.length) {a b : Nat} (h : atM M a b = true) : a < M.length ∧ b < M.length := by
  unfold atM at h
  have e1 : M.getD a [] = (M[a]?).getD [] := List.getD_eq_getElem?_getD
  rw [e1] at h
  rcases Nat.lt_or_ge a M.length with h1 | h1
  · refine ⟨h1, ?_⟩
    rw [List.getElem?_eq_getElem h1, Option.getD_some] at h
    rcases Nat.lt_or_ge b M[a].length with h2 | h2
    · rw [hw _ (List.getElem_mem _)] at h2; exact h2
    · rw [List.getD_eq_getElem?_getD, List.getElem?_eq_none h2] at h; cases h
  · rw [List.getElem?_eq_none h1] at h
    simp at h

theorem graphR_at {M : List (List Bool)} (hw : ∀ r ∈ M, r.length = M.length) (a b : Nat) : besB (graphR M) a b = atM M a b := by
  rw [graphR_bes]
  cases h : atM M a b with
  | false => simp
  | true => simp [(atM_lt hw h).2]

theorem graphR_right {M : List (List Bool)} (hm : MatOk M) (hl : M.length ≤ 40) : RightG (graphR M) := by
  refine ⟨by rw [graphR_len]; exact hl, fun x hx => ?_, fun a b h => ?_, fun a => ?_, fun a b h => ?_⟩
  · obtain ⟨r, _, rfl⟩ := List.mem_map.1 hx
    have h1 := wordUp_lt r M.length
    have h2 : 2 ^ M.length ≤ 2 ^ 40 := Nat.pow_le_pow_right (by decide) hl
    have h3 : (2 : Nat) ^ 40 < 18446744073709551616 := by decide
    omega
  · rw [graphR_at hm.wide] at h
    rw [graphR_len]
    exact (atM_lt hm.wide h).2
  · rw [graphR_at hm.wide]; exact hm.irr a
  · rw [graphR_at hm.wide] at h ⊢; exact hm.sym _ _ h

theorem wp_app_word {w : World} {ops : Array Oper} {rest : List Oper} {o : Oper} {a : Act} {Q : Exit → Act → World → Prop} (hgd : o.guard = none) (s x : Operand)
    (ho : o.op = .call { callee := .builtin .append, args := #[s, x], argTypes := #[27, 27] }) {B : Nat} {v : Value} {l : List Nat} {y : Nat} (hown : OwnW B w v l) (hs : a.eval s = v) (hB : B ≤ w.heap.size)
    (hx : a.eval x = .slice (some ⟨w.heap.size, 0, none⟩) 1 1) (hlen : l.length < 100000000000)
    (h : ∀ v' w', OwnW B w' v' (l ++ [y]) → Grew B w w' v v' → wpList Tryd.prog ops Q rest (a.put o.dst v') w') :
    wpList Tryd.prog ops Q (o :: rest) a (w.alloc (.cells #[.int .u64 (y : Int)] 61)) :=
  wpList_plain hgd fun _ hK => op_app_one (enc := u64C) Tryd.underlying27 Tryd.infoWord rfl (by decide) s x ho hown hs hB hx rfl hlen fun v' w' h1 h2 => hK _ _ (h v' w' h1 h2)

theorem shl_nat {k : Nat} (hk : k < 64) : IntKind.u64.wrap (2 ^ k) = ((2 ^ k : Nat) : Int) := by
  rw [IntKind.wrap_u64]
  have h3 : 2 ^ k < 2 ^ 64 := Nat.pow_lt_pow_right (by decide) hk
  have h4 : 2 ^ k < 18446744073709551616 := by simpa using h3
  have e2 : ((2 : Int) ^ k) = ((2 ^ k : Nat) : Int) := by simp
  rw [e2]
  generalize 2 ^ k = z at *
  omega

set_option maxHeartbeats 4000000 in
theorem refGraph_any {B0 : Nat} {M : List (List Bool)} {v : Value} {bs : List Nat} {w : World} (hM : OwnMat B0 w v M.length M bs) (hl : M.length ≤ 40) :
    Calls Tryd.prog 12 #[v] w fun e w' => ∃ x, e = .returned (.agg #[x]) ∧ OwnW w.heap.size w' x (graphR M) ∧ Below w.heap.size w w' := by
  have HM := hide (fun W (hb : Below w.heap.size w W) => hM.below hb)
  obtain ⟨a0, c0, rfl, hl0, hc0⟩ := hM.form
  unfold maxLen at hc0
  obtain ⟨W1, hW1⟩ : ∃ W, W = (w.alloc (.cells #[.slice none 0 0] 29)).alloc (.cells #[.slice none 0 0] 29) := ⟨_, rfl⟩
  have hb1 : Below w.heap.size w W1 := by rw [hW1]; exact ((Below.refl _ _).alloc (Nat.le_refl _) _).alloc (by simp) _
  have hz1 : W1.heap.size = w.heap.size + 2 := by rw [hW1]; simp
  have hx2 : BoxG W1 w.heap.size (.slice none 0 0) := by rw [hW1]; exact (BoxG.new w _).below ((Below.refl _ _).alloc (Nat.le_refl _) _) (by simp)
  have hx3 : BoxG W1 (w.heap.size + 1) (.slice none 0 0) := by rw [hW1]; have := BoxG.new (w.alloc (.cells #[.slice none 0 0] 29)) (.slice none 0 0); simpa using this
  have HX3 := hide hx3
  have HX2 := hide hx2
  have HB1 := hide hb1
  have HW1 := hide hW1
  have hwid := hM.wide
  have HWI := hide hwid
  clear hM hb1 hx2 hx3 hW1 hwid
  obtain ⟨G, hG⟩ : ∃ G, G = graphR M := ⟨_, rfl⟩
  rw [← hG]
  have hGl : G.length = M.length := by rw [hG, graphR_len]
  have HG := hide (fun (k : Nat) (h : k < G.length) => show G[k] = wordUp (M.getD k []) M.length by
    subst hG
    have h2 : k < M.length := by rw [graphR_len] at h; exact h
    rw [List.getD_eq_getElem?_getD, List.getElem?_eq_getElem h2]
    simp [graphR])
  clear hG
  go_enter Tryd.func12, Tryd.ntmps12
  go_wp2
  rw [← unhide HW1]
  go_loopw [4] (fun i wr => ∃ (k : Nat) (x : Value), i = .int .i64 k ∧ k ≤ M.length ∧ BoxG wr w.heap.size (.slice none 0 0) ∧ BoxG wr (w.heap.size + 1) x ∧ OwnW W1.heap.size wr x (G.take k) ∧ Below w.heap.size w wr ∧ W1.heap.size ≤ wr.heap.size) (fun i _ => M.length - (intOf i).toNat)
  case atStart => exact ⟨0, .slice none 0 0, rfl, by omega, unhide HX2, unhide HX3, own_nilW _ _, unhide HB1, Nat.le_refl _⟩
  case round =>
    clear HX3 HX2
    obtain ⟨k, x, rfl, hk, hx2, hx3, hown, hbel, hszr⟩ := hrel
    rename World => wr
    obtain ⟨ax, cx, rfl, hlx, hcx⟩ := (Seq.of_own hown).form
    unfold maxLen at hcx
    have hkG : (G.take k).length = k := by rw [List.length_take]; omega
    rw [hkG] at hown hlx hx3
    have q3 := hx3.cell
    have f3 := hx3.frozen
    by_cases hkl : k < M.length
    · obtain ⟨L, hL⟩ : ∃ L, L = M.length := ⟨_, rfl⟩
      have HO := hide hown
      have HX2 := hide hx2
      have HX3 := hide hx3
      have HBE := hide hbel
      have hMw := unhide HM wr hbel
      have HMW := hide hMw
      clear hown hx2 hx3 hbel hMw
      go_wp2
      go_loop [5, 6] (fun x j => ∃ m : Nat, m ≤ M.length ∧ j = .int .i64 m ∧ x = .int .u64 (wordUp (M.getD k []) m : Nat)) (fun _ j => M.length - (intOf j).toNat)
      case atStart => exact ⟨0, by omega, rfl, rfl⟩
      case round =>
        obtain ⟨m, hm, rfl, rfl⟩ := hrel
        by_cases hml : m < M.length
        · obtain ⟨b, o, r, e, c1, c2, _⟩ := (unhide HMW).at hkl hml
          subst e
          have hwl := wordUp_lt (M.getD k []) m
          have h40 : 2 ^ m ≤ 2 ^ 40 := Nat.pow_le_pow_right (by decide) (by omega)
          have h64 : (2 : Nat) ^ 40 = 1099511627776 := by decide
          have hsh := shl_nat (k := m) (by omega)
          have hstep : wordUp (M.getD k []) (m + 1) = wordUp (M.getD k []) m + if (M.getD k []).getD m false = true then 2 ^ m else 0 := rfl
          cases hb : (M.getD k []).getD m false with
          | true =>
            rw [hb] at c2 hstep
            rw [if_pos rfl] at hstep
            have HS := hide hstep
            have HSH := hide hsh
            have HH := hide (And.intro hwl (And.intro h40 h64))
            generalize wordUp (M.getD k []) m = y at *
            clear hwl h40 h64 hstep hb hsh
            go_wp2
            go_round
            case rel =>
              refine ⟨m + 1, by omega, by go_num, ?_⟩
              rw [unhide HS, unhide HSH, IntKind.wrap_u64]
              obtain ⟨h1, h2, h3⟩ := unhide HH
              rw [h3] at h2
              generalize 2 ^ m = z at *
              congr 1
              omega
            case measure => simp [intOf]; omega
          | false =>
            rw [hb] at c2 hstep
            have hstep : wordUp (M.getD k []) (m + 1) = wordUp (M.getD k []) m := by rw [hstep]; simp
            have HS := hide hstep
            clear hwl h40 h64 hstep hb hsh
            go_wp2
            go_round
            case rel => exact ⟨m + 1, by omega, by go_num, by rw [unhide HS]⟩
            case measure => simp [intOf]; omega
        · have hmM : m = M.length := by omega
          subst hmM
          have hG := unhide HG k (by omega)
          have htk : G.take (k + 1) = G.take k ++ [G[k]'(by omega)] := List.take_succ_eq_append_getElem (by omega)
          rw [hG] at htk
          have HTK := hide htk
          generalize wordUp (M.getD k []) M.length = y at *
          clear hG htk
          go_wp2_with (at_builtin; refine wp_app_word rfl (.tmp 33) (.tmp 35) rfl (B := W1.heap.size) (l := G.take k) (unhide HO) rfl (by omega) rfl (by omega) ?_; intro v6 w6 hown6 hg6; have hx6 : BoxG w6 (w.heap.size + 1) (.slice ax k cx) := (hg6.by_.block _ (unhide HX3).lt (fun e => by have := (unhide HO).lt _ e.symm; omega)).trans (unhide HX3); have k6 := hx6.cell; have f6 := hx6.frozen; have HX6 := hide hx6; have HX26 := hide ((hg6.by_.block _ (unhide HX2).lt (fun e => by have := (unhide HO).lt _ e.symm; omega)).trans (unhide HX2) : BoxG w6 w.heap.size (.slice none 0 0)); have HB6 := hide ((unhide HBE).trans (hg6.below.mono (by omega))); have hs6 := hg6.below.size; have HW6 := hide hown6; obtain ⟨a6, c6, rfl, _, _⟩ := (Seq.of_own hown6).form; clear hown6 hg6 hx6)
          go_roundw
          case rel =>
            have e9 : (G.take k ++ [y]).length = k + 1 := by simp; omega
            have h9 : OwnW W1.heap.size (w6.setCell ⟨w.heap.size + 1, 0, none⟩ (.slice a6 (k + 1) c6)) (.slice a6 (k + 1) c6) (G.take k ++ [y]) := by
              have h10 := ownsRow_setCell_below (unhide HW6) (a := ⟨w.heap.size + 1, 0, none⟩) (by show w.heap.size + 1 < W1.heap.size; omega) (.slice a6 (k + 1) c6)
              rw [e9] at h10
              rw [OwnW, e9]
              exact h10
            exact ⟨k + 1, _, by go_num, by omega, BoxG.setO (unhide HX26) (by omega) _, BoxG.set (unhide HX6) _, by rw [unhide HTK]; exact h9, (unhide HB6).setCell (Nat.le_succ _) _, by simp; omega⟩
          case measure => simp [intOf]; omega
    · have hkM : k = M.length := by omega
      subst hkM
      have hGk : G.take M.length = G := List.take_of_length_le (by omega)
      rw [hGk] at hown
      have q2 := hx2.cell
      have f2 := hx2.frozen
      have HO := hide hown
      have HBE := hide hbel
      clear hown hbel hx2 hx3 hGk hkG
      go_wp2
      refine bodyPost_ret (v := .agg #[.slice ax M.length cx]) (by simp [results, Tryd.results12, go_sem, q2]) rfl ⟨_, rfl, ?_, (unhide HBE).setCell (Nat.le_refl _) _⟩
      exact own_mono (by exact ownsRow_setCell_below (unhide HO) (by show w.heap.size < W1.heap.size; omega) _) (by omega)

end Go.Proofs.YtcglbopmfdilfaaDoor
