/-
  The contracts of the document's Missing, and Copy.
-/
import Derived.Test.YtcglbopmfdilfaaDoorOMatC
namespace Go.Proofs.YtcglbopmfdilfaaDoor
open Go.RowKit
set_option linter.unusedVariables false
set_option linter.unusedSimpArgs false
set_option maxRecDepth 20000

theorem besI_nat {g : List Nat} {x y : Nat} (hx : x < g.length) (hy : y < g.length) : besI g (x : Int) (y : Int) = besB g x y := by
  rw [besI_eq, ptB_nat, ptB_nat]; simp [hx, hy]

/-- How many pairs beside a are not beside each other. -/
def missN (g : List Nat) (a : Int) : Nat := (apUp g (nbL g a) (nbL g a).length).length

set_option maxHeartbeats 4000000 in
theorem refMissing_any {B : Nat} {M : List (List Bool)} {bs : List (Nat × Nat)} {v : Value} {a : Int} {w : World} (hM : MatC B w v M.length M bs) (hm : MatOk M) (hl : M.length ≤ 40) :
    Calls Tryd.prog 35 #[v, .int .i64 a] w fun e w' => e = .returned (.int .i64 (missN (graphR M) a : Nat)) ∧ Below w.heap.size w w' := by
  have HN := hide (refNbC_any (a := a) hM hl)
  have hGl := graphR_len M
  have HNM := hide (fun (i : Nat) (hi : i < (nbL (graphR M) a).length) => (show ∃ j : Nat, j < M.length ∧ (nbL (graphR M) a)[i] = (j : Int) from by
    obtain ⟨_, j, h1, _, h2⟩ := mem_nbL.1 (List.getElem_mem hi)
    rw [graphR_len] at h1
    exact ⟨j, h1, h2⟩))
  have HLN := nbL_len (graphR M) a
  have HBES := hide (fun (x y : Nat) (hx : x < M.length) (hy : y < M.length) => (show besI (graphR M) (x : Int) (y : Int) = atM M x y from by
    rw [besI_nat (by rw [graphR_len]; exact hx) (by rw [graphR_len]; exact hy), graphR_at hm.wide]))
  obtain ⟨av, cv, rfl, hvl, hvm⟩ := hM.form
  unfold maxLen at hvm
  have HMM := hide (fun W (hb : Below w.heap.size w W) => hM.below hb)
  unfold missN
  rw [hGl] at HLN
  generalize nbL (graphR M) a = L at *
  generalize graphR M = G at *
  clear hM hm hGl
  go_enter Tryd.func35, Tryd.ntmps35
  go_wp2_with fail
  refine (unhide HN).mono ?_
  rintro e w1 ⟨u, rfl, hu, hb1⟩
  obtain ⟨al, cl, rfl, hll, hlm⟩ := (Seq.of_own hu).form
  unfold maxLen at hlm
  have hU := Seq.of_own hu
  have HM1 := hide (unhide HMM w1 hb1)
  have HB1 := hide hb1
  clear hb1 hu HN HMM
  go_wp2
  go_loopw [6, 7] (fun t i wr => ∃ k n : Nat, k ≤ L.length ∧ i = .int .i64 k ∧ t = .int .i64 ((apUp G L k).length : Nat) ∧ wr = w1.drewN n) (fun _ i _ => L.length - (intOf i).toNat)
  case atStart => exact ⟨0, 0, by omega, rfl, rfl, rfl⟩
  case round =>
    obtain ⟨k, n, hk, rfl, rfl, rfl⟩ := hrel
    by_cases hkl : k < L.length
    · have hsu := apUp_succ G L k
      have HSU := hide hsu
      have hr0 := apRow_zero G L k
      have HR0 := hide hr0
      have hul := apUp_len G L k
      have hkk : k * k ≤ 40 * 40 := Nat.mul_le_mul (by omega) (by omega)
      clear hsu hr0
      go_wp2
      go_loopw [6, 8] (fun t i wr => ∃ m n : Nat, m ≤ k ∧ i = .int .i64 m ∧ t = .int .i64 ((apUp G L k ++ apRow G L k m).length : Nat) ∧ wr = w1.drewN n) (fun _ i _ => k - (intOf i).toNat)
      case atStart => exact ⟨0, n, by omega, rfl, by rw [unhide HR0, List.append_nil], rfl⟩
      case round =>
        obtain ⟨m, n2, hm, rfl, rfl, rfl⟩ := hrel
        by_cases hmk : m < k
        · have hmL : m < L.length := by omega
          obtain ⟨x, hx, hLx⟩ := unhide HNM k hkl
          obtain ⟨y, hy, hLy⟩ := unhide HNM m hmL
          obtain ⟨bl, ol, e1, q1⟩ := hU.at hkl
          subst e1
          obtain ⟨_, _, e1, q2⟩ := hU.at hmL
          cases e1
          rw [hLx] at q1
          rw [hLy] at q2
          obtain ⟨bv, ov, r, e2, c1, c2, c3⟩ := (unhide HM1).at (i := x) (k := y) hx hy
          subst e2
          have hrs := apRow_succ G L k m hmL
          have e5 : L.getD k 0 = (x : Int) := by rw [List.getD_eq_getElem?_getD, List.getElem?_eq_getElem hkl]; exact hLx
          have e6 := unhide HBES x y hx hy
          rw [e5, hLy, e6] at hrs
          have hxI : (x : Int) < (M.length : Int) := by omega
          have hyI : (y : Int) < (M.length : Int) := by omega
          have hrl := apRow_len G L k m
          obtain ⟨P, hP⟩ : ∃ P, P = apUp G L k := ⟨_, rfl⟩
          obtain ⟨F, hF⟩ : ∃ F, F = apRow G L k m := ⟨_, rfl⟩
          obtain ⟨F', hF'⟩ : ∃ F, F = apRow G L k (m + 1) := ⟨_, rfl⟩
          rw [← hF, ← hF'] at hrs
          rw [← hP] at hul
          rw [← hF] at hrl
          rw [← hP, ← hF] at ⊢
          have HP := hide hP
          have HF' := hide hF'
          have hc : (M.getD x []).getD y false = atM M x y := rfl
          rw [hc] at c2
          have hQl : (P ++ F).length < 100000 := by rw [List.length_append]; omega
          clear hP hF hF' hc hLx hLy e5 e6 c3
          cases hb : atM M x y with
          | true =>
            rw [hb] at c2
            rw [if_pos hb] at hrs
            have HRS := hide hrs
            clear hrs hb
            obtain ⟨Q, hQ⟩ : ∃ Q, Q = P ++ F := ⟨_, rfl⟩
            rw [← hQ] at hQl ⊢
            have HQ := hide hQ
            clear hQ
            go_wp2
            go_quiet (fail)
            go_wp2
            go_roundw
            case rel => exact ⟨m + 1, _, by omega, by go_num, by rw [← unhide HF', unhide HRS, ← unhide HQ], rfl⟩
            case measure => simp [intOf]; omega
          | false =>
            rw [hb] at c2
            rw [if_neg (by rw [hb]; decide)] at hrs
            have HRS := hide hrs
            clear hrs hb
            obtain ⟨Q, hQ⟩ : ∃ Q, Q = P ++ F := ⟨_, rfl⟩
            rw [← hQ] at hQl ⊢
            have HQ := hide hQ
            clear hQ
            have HQ1 := hide (show (P ++ (F ++ [((x : Int), (y : Int))])).length = Q.length + 1 by rw [← List.append_assoc, ← unhide HQ, List.length_append]; rfl)
            go_wp2
            go_quiet (fail)
            go_wp2
            go_roundw
            case rel => exact ⟨m + 1, _, by omega, by go_num, by rw [← unhide HF', unhide HRS, unhide HQ1]; go_num, rfl⟩
            case measure => simp [intOf]; omega
        · obtain rfl : m = k := by omega
          go_wp2
          go_roundw
          case rel => exact ⟨m + 1, _, by omega, by go_num, by rw [unhide HSU], rfl⟩
          case measure => simp [intOf]; omega
    · obtain rfl : k = L.length := by omega
      go_wp2
      go_ret
      exact ⟨rfl, Below.drewN1 (unhide HB1) n⟩

/-- The whole of a slice of truths is appended. -/
theorem wp_app_bools {w : World} {ops : Array Oper} {rest : List Oper} {o : Oper} {a : Act} {Q : Exit → Act → World → Prop} (hgd : o.guard = none) (s x : Operand)
    (ho : o.op = .call { callee := .builtin .append, args := #[s, x], argTypes := #[55, 55] }) {B : Nat} {v : Value} {l : List Bool} (hown : OwnB B w v l) (hs : a.eval s = v) (hB : B ≤ w.heap.size)
    {u : Value} {m : List Bool} (hu : Seq Value.bool w u m) (hx : a.eval x = u) (hlen : l.length + m.length < 100000000000)
    (h : ∀ v' w', OwnB B w' v' (l ++ m) → Grew B w w' v v' → wpList Tryd.prog ops Q rest (a.put o.dst v') w') :
    wpList Tryd.prog ops Q (o :: rest) a w :=
  wpList_plain hgd fun _ hK => op_app_all Tryd.underlying55 Tryd.infoBool rfl (by decide) s x ho hown hs hB hu hx (fun y _ => rfl) hlen fun v' w' h1 h2 => hK _ _ (h v' w' h1 h2)

theorem own_litB {B : Nat} {w : World} (hB : B ≤ w.heap.size) : OwnB B (w.alloc (.cells #[] 4)) (.slice (some ⟨w.heap.size, 0, none⟩) 0 0) [] := World.ownsRow_made w #[] 0 hB (by simp [maxLen]) (by simp)

set_option maxHeartbeats 4000000 in
theorem copy_any {B : Nat} {M : List (List Bool)} {bs : List (Nat × Nat)} {v : Value} {w : World} (hM : MatC B w v M.length M bs) (hl : M.length ≤ 40) :
    Calls Tryd.prog 34 #[v] w fun e w' => ∃ u cs, e = .returned u ∧ MatC w.heap.size w' u M.length M cs ∧ Below w.heap.size w w' := by
  have hb0 := (Below.refl w.heap.size w).alloc (Nat.le_refl _) (.cells #[] 55)
  have ho0 : (w.alloc (.cells #[] 55)).ownsRow w.heap.size 55 1 (.slice (some ⟨w.heap.size, 0, none⟩) 0 0) 0 [] := World.ownsRow_made w #[] 0 (Nat.le_refl _) (by simp [maxLen]) (by simp)
  have HO0 := hide (MatC.nil (n := M.length) ho0)
  have HB0 := hide hb0
  have HM := hide (fun W (hb : Below w.heap.size w W) => hM.below hb)
  obtain ⟨av, cv, rfl, hvl, hvm⟩ := hM.form
  unfold maxLen at hvm
  clear hb0 ho0 hM
  go_enter Tryd.func34, Tryd.ntmps34
  go_wp2
  go_loopw [3, 4] (fun u i wr => ∃ (k : Nat) (cs : List (Nat × Nat)), k ≤ M.length ∧ i = .int .i64 k ∧ MatC w.heap.size wr u M.length (M.take k) cs ∧ Below w.heap.size w wr) (fun _ i _ => M.length - (intOf i).toNat)
  case atStart => exact ⟨0, [], by omega, rfl, unhide HO0, unhide HB0⟩
  case round =>
    clear HO0 HB0
    obtain ⟨k, cs, hk, rfl, hown, hbel⟩ := hrel
    rename World => wr
    have hzr := hbel.size
    by_cases hkn : k < M.length
    · have hn0 : 0 < M.length := by omega
      have hMr := unhide HM wr hbel
      obtain ⟨bv, ov, r, e2, c1, _, c3⟩ := hMr.at (i := k) (k := 0) hkn hn0
      subst e2
      have hrk : r ∈ bs := List.mem_of_getElem? c3
      obtain ⟨au, cu, rfl, hul, hum⟩ := hown.form
      have htl : (M.take k).length = k := by rw [List.length_take]; omega
      have hwd := hMr.wide _ (List.getElem_mem hkn)
      have hib : k < bs.length := by rw [hMr.len]; exact hkn
      have er : bs[k] = r := by rw [List.getElem?_eq_getElem hib] at c3; simpa using c3
      have hrow := Seq.of_own (hMr.rows k hib hkn)
      rw [er] at hrow
      have hba := (Below.refl wr.heap.size wr).alloc (Nat.le_refl _) (.cells #[] 4)
      have hob := own_litB (B := wr.heap.size) (w := wr) (Nat.le_refl _)
      have HROW := hide (hrow.below hba)
      have c1a := Below.cell_of hba c1
      have HOB := hide hob
      have HTK := hide (show M.take k ++ [M[k]] = M.take (k + 1) from (List.take_succ_eq_append_getElem hkn).symm)
      obtain ⟨R, hR⟩ : ∃ R, R = M[k] := ⟨_, rfl⟩
      rw [← hR] at HROW HTK hwd
      rw [htl] at hul
      have HO := hide hown
      have HBA := hide hba
      have HBE := hide hbel
      have HWD := hide hwd
      have hcsl := hown.len
      rw [htl] at hcsl
      have HLT := hide (fun p (hp : p ∈ cs) => (hown.lt hp).2)
      have HVL := hide (fun g (hg : (Value.slice au k cu).ownBlock = some g) => (hown.outer.lt g (by rw [htl]; exact hg)).2)
      rw [htl] at HO ⊢
      clear c1 hR hrow hob hba hown hbel hMr er c3 hib hwd htl
      go_wp2_with (first
        | (at_builtin; refine wp_app_bools rfl (.tmp 13) (.tmp 17) rfl (B := wr.heap.size) (unhide HOB) rfl (by simp) (unhide HROW) rfl (by rw [unhide HWD]; simp; omega) ?_; intro v5 w5 ho5 hg5; rw [List.nil_append] at ho5; obtain ⟨gb, gc, rfl, hgc, hgm, hgB, hgl⟩ := own_someB ho5 (by rw [unhide HWD]; exact hn0); rw [unhide HWD] at ho5 hgc ⊢)
        | (at_builtin; refine wp_app_crow (r := (gb, gc)) rfl (.tmp 12) (.tmp 19) rfl ((unhide HO).below ((unhide HBA).trans hg5.below)) (own_mono ho5 hzr) (unhide HWD) (fun hm => by
            obtain ⟨p, hp, e⟩ := List.mem_map.1 hm
            have := unhide HLT p hp
            omega) (fun e => by
            have := unhide HVL gb e
            omega) rfl (by have := hg5.by_.size; simp at this; omega) rfl (by rw [List.length_take]; omega) ?_; intro v6 w6 ho6 hg6))
      have HF := hide (show MatC w.heap.size w6 v6 M.length (M.take (k + 1)) (cs ++ [(gb, gc)]) ∧ Below w.heap.size w w6 from ⟨by rw [← unhide HTK]; exact ho6, ((unhide HBE).trans (((unhide HBA).trans hg5.below).mono hzr)).trans hg6.below⟩)
      clear ho6 hg6 ho5 hg5 HO HROW HOB
      go_wp2
      go_roundw
      case rel => exact ⟨k + 1, _, by omega, by go_num, (unhide HF).1, (unhide HF).2⟩
      case measure => simp [intOf]; omega
    · obtain rfl : k = M.length := by omega
      rw [List.take_length] at hown
      obtain ⟨au, cu, rfl, hul, hum⟩ := hown.form
      go_wp2
      go_ret
      exact ⟨_, cs, rfl, hown, hbel⟩

end Go.Proofs.YtcglbopmfdilfaaDoor
