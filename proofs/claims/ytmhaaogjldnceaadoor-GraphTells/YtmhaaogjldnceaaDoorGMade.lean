/-
  The contracts of the document's Empty, of made, and of the document's Graph.
-/
import Derived.Test.YtmhaaogjldnceaaDoorGMat
import Derived.Test.YtmhaaogjldnceaaDoorGBox
namespace Go.Proofs.YtmhaaogjldnceaaDoor
open Go.RowKit
set_option linter.unusedVariables false
set_option linter.unusedSimpArgs false
set_option maxRecDepth 20000

theorem Tryd.infoBools : (Tryd.prog.info? 37).map (fun i => (i.zero, i.size, i.bytes)) = some (some (.slice none 0 0), 1, 24) := by kernel_rfl

theorem wp_app_mrow {w : World} {ops : Array Oper} {rest : List Oper} {o : Oper} {a : Act} {Q : Exit → Act → World → Prop} (hgd : o.guard = none) (s x : Operand)
    (ho : o.op = .call { callee := .builtin .append, args := #[s, x], argTypes := #[26, 26] }) {B n r : Nat} {v : Value} {M : List (List Bool)} {bs : List Nat} {R : List Bool} (hown : OwnMat B w v n M bs)
    (hR : OwnB B w (rowV n r) R) (hRl : R.length = n) (hr : r ∉ bs) (hrv : v.ownBlock ≠ some r) (hs : a.eval s = v) (hB : B ≤ w.heap.size)
    (hx : a.eval x = .slice (some ⟨w.heap.size, 0, none⟩) 1 1) (hlen : M.length < 100000000000)
    (h : ∀ v' w', OwnMat B w' v' n (M ++ [R]) (bs ++ [r]) → Grew B w w' v v' → wpList Tryd.prog ops Q rest (a.put o.dst v') w') :
    wpList Tryd.prog ops Q (o :: rest) a (w.alloc (.cells #[rowV n r] 37)) := by
  refine wpList_plain hgd fun _ hK => op_app_one (enc := rowV n) Tryd.underlying26 Tryd.infoBools rfl (by decide) s x ho hown.outer hs hB hx rfl (by rw [hown.len]; exact hlen) fun v' w' h1 h2 => hK _ _ (h v' w' ⟨?_, h1, ?_, ?_, ?_, ?_⟩ h2)
  · simp [hown.len]
  · intro i hi hi'
    by_cases hil : i < bs.length
    · have him : i < M.length := by rw [← hown.len]; exact hil
      rw [List.getElem_append_left hil, List.getElem_append_left him]
      exact own_same (hown.rows i hil him) (fun b hb => h2.by_.block b ((hown.rows i hil him).lt b hb).2 (fun e => hown.apart bs[i] (List.getElem_mem _) (by rw [← e]; simpa [Value.ownBlock] using hb.symm)))
    · have e : i = bs.length := by simp at hi; omega
      subst e
      rw [List.getElem_append_right (by omega), List.getElem_append_right (by rw [hown.len]; omega)]
      simp only [hown.len, Nat.sub_self, List.getElem_cons_zero]
      exact own_same hR (fun b hb => h2.by_.block b (hR.lt b hb).2 (fun e => hrv (by rw [← e]; simpa [Value.ownBlock] using hb.symm)))
  · intro q hq
    rcases List.mem_append.1 hq with hq | hq
    · exact hown.wide q hq
    · rw [List.mem_singleton] at hq; subst hq; exact hRl
  · rw [List.nodup_append]
    exact ⟨hown.nod, by simp, fun p hp q hq => by rw [List.mem_singleton] at hq; subst hq; exact fun e => hr (e ▸ hp)⟩
  · intro b hb
    have hlt : b < w.heap.size ∧ v.ownBlock ≠ some b := by
      rcases List.mem_append.1 hb with hb | hb
      · exact ⟨(hown.lt hb).2, hown.apart b hb⟩
      · rw [List.mem_singleton] at hb; subst hb; exact ⟨(hR.lt b rfl).2, hrv⟩
    rcases h2.at_ with e | ⟨g, e, hg⟩
    · rw [e]; exact hlt.2
    · rw [e]; intro e2; injection e2 with e2; omega

theorem falses_snoc (n k : Nat) : falses n k ++ [List.replicate n false] = falses n (k + 1) := by simp [falses, List.replicate_succ']

set_option maxHeartbeats 2000000 in
theorem empty_any (n : Nat) (hn : n ≤ 1000) (w : World) :
    Calls Tryd.prog 34 #[.int .i64 (n : Int)] w fun e w' => ∃ v bs, e = .returned v ∧ OwnMat w.heap.size w' v n (falses n n) bs ∧ Below w.heap.size w w' := by
  have hb0 := (Below.refl w.heap.size w).alloc (Nat.le_refl _) (.cells #[] 37)
  have ho0 : (w.alloc (.cells #[] 37)).ownsRow w.heap.size 37 1 (.slice (some ⟨w.heap.size, 0, none⟩) 0 0) 0 [] := World.ownsRow_made w #[] 0 (Nat.le_refl _) (by simp [maxLen]) (by simp)
  have HO0 := hide (OwnMat.nil (n := n) ho0)
  have HB0 := hide hb0
  clear hb0 ho0
  go_enter Tryd.func34, Tryd.ntmps34
  go_wp2
  go_loopw [3, 4] (fun v i wr => ∃ (k : Nat) (bs : List Nat), i = .int .i64 k ∧ k ≤ n ∧ OwnMat w.heap.size wr v n (falses n k) bs ∧ Below w.heap.size w wr) (fun _ i _ => n - (intOf i).toNat)
  case atStart => exact ⟨0, [], rfl, by omega, unhide HO0, unhide HB0⟩
  case round =>
    clear HO0 HB0
    obtain ⟨k, bs, rfl, hk, hown, hbel⟩ := hrel
    rename World => wr
    have hzr := hbel.size
    by_cases hkn : k < n
    · obtain ⟨av, cv, rfl, hvl, hvm⟩ := hown.form
      unfold maxLen at hvm
      have hfl : (falses n k).length = k := by simp [falses]
      rw [hfl] at hown hvl
      have HO := hide hown
      have HBE := hide hbel
      have HFS := hide (falses_snoc n k)
      clear hown hbel
      go_wp2_with (first
        | (at_make; refine wp_make_bools rfl _ _ rfl (B := w.heap.size) (by omega) rfl rfl (by omega) ?_; intro w1 hown1 hb1)
        | (at_builtin; refine wp_app_mrow rfl (.tmp 11) (.tmp 14) rfl ((unhide HO).below hb1) hown1 (by simp) (fun hm => by have := ((unhide HO).lt hm).2; omega) (fun e => by have := ((unhide HO).outer.lt _ e).2; omega) rfl (by have := hb1.size; omega) rfl (by omega) ?_; intro v2 w2 hown2 hg2))
      go_roundw
      case rel => exact ⟨k + 1, _, by go_num, by omega, by rw [← unhide HFS]; exact hown2, (unhide HBE).trans ((hb1.mono (by omega)).trans hg2.below)⟩
      case measure => simp [intOf]; omega
    · have e : k = n := by omega
      subst e
      obtain ⟨av, cv, rfl, _, _⟩ := hown.form
      go_wp2
      go_ret
      exact ⟨_, bs, rfl, hown, hbel⟩

theorem and16_eq (n : Int) : bits .and .i64 n 65535 = n % 65536 := by
  have h1 : (BitVec.ofInt 64 65535).toNat = 2 ^ 16 - 1 := by decide
  have key : (BitVec.ofInt 64 n &&& BitVec.ofInt 64 65535).toNat = (n % ((2 ^ 64 : Nat) : Int)).toNat % 2 ^ 16 := by
    rw [BitVec.toNat_and, BitVec.toNat_ofInt, h1, Nat.and_two_pow_sub_one_eq_mod]
  show IntKind.i64.wrap ((BitVec.ofInt 64 n &&& BitVec.ofInt 64 65535).toNat : Nat) = n % 65536
  rw [key, IntKind.wrap_i64]
  omega

/-- A number, counted round. -/
def rndN (x : Int) (n : Nat) : Nat := (x % 65536 % (n : Int)).toNat
theorem rndN_lt {x : Int} {n : Nat} (hn : 0 < n) : rndN x n < n := by
  unfold rndN
  have := Int.emod_lt_of_pos (x % 65536) (show (0 : Int) < n by omega)
  have := Int.emod_nonneg (x % 65536) (show (n : Int) ≠ 0 by omega)
  omega
theorem rndN_eq {x : Int} {n : Nat} (hn : 0 < n) : (bits .and .i64 x 65535).tmod (n : Int) = (rndN x n : Int) := by
  rw [and16_eq]
  unfold rndN
  have h1 : (0 : Int) ≤ x % 65536 := by omega
  rw [Int.tmod_eq_emod_of_nonneg h1]
  have := Int.emod_nonneg (x % 65536) (show (n : Int) ≠ 0 by omega)
  omega

set_option maxHeartbeats 4000000 in
theorem made_any {n : Int} {edges : List (List Int)} {v : Value} {w : World} (hi : Tups w v edges) :
    Calls Tryd.prog 15 #[.int .i64 n, v] w fun e w' => ∃ u M bs, e = .returned u ∧ OwnMat w.heap.size w' u M.length M bs ∧ MatOk M ∧ M.length = rndN n 13 ∧ Below w.heap.size w w' := by
  have HI := hide (fun W (hb : Below w.heap.size w W) => hi.below hb)
  obtain ⟨a0, c0, rfl, hl0, hc0⟩ := hi.form
  unfold maxLen at hc0
  have hN := rndN_eq (x := n) (n := 13) (by decide)
  have hlt := rndN_lt (x := n) (n := 13) (by decide)
  generalize rndN n 13 = N at *
  have hq : (bits .and .i64 n 65535).tmod 13 = (N : Int) := hN
  have HE := hide (empty_any N (by omega) w)
  clear hi hN
  go_enter Tryd.func15, Tryd.ntmps15
  go_wp2_with fail
  refine (unhide HE).mono ?_
  rintro e w1 ⟨u, bs, rfl, hown1, hb1⟩
  obtain ⟨au, cu, rfl, hul, hum⟩ := hown1.form
  have hfl : (falses N N).length = N := by simp [falses]
  rw [hfl] at hown1 hul ⊢
  unfold maxLen at hum
  clear HE
  go_wp2
  go_loopw [6] (fun i wr => ∃ (k : Nat) (M : List (List Bool)), i = .int .i64 k ∧ k ≤ edges.length ∧ OwnMat w.heap.size wr (.slice au N cu) N M bs ∧ Hid (MatOk M ∧ M.length = N) ∧ Below w.heap.size w wr) (fun i _ => edges.length - (intOf i).toNat)
  case atStart => exact ⟨0, falses N N, rfl, by omega, hown1, hide ⟨MatOk.falses N, hfl⟩, hb1⟩
  case round =>
    clear hown1 hb1
    obtain ⟨k, M, rfl, hk, hown, HM, hbel⟩ := hrel
    rename World => wr
    have hMl := (unhide HM).2
    by_cases hc : k < edges.length ∧ k < 60 ∧ 0 < N
    · obtain ⟨hke, hk60, hN0⟩ := hc
      have hN0' : (0 : Int) < (N : Int) := by omega
      obtain ⟨b0, o0, ur, e0, qr, hr⟩ := (unhide HI wr hbel).at hke
      subst e0
      obtain ⟨ar, cr, rfl, hlr, hcr⟩ := hr.form
      unfold maxLen at hcr
      generalize edges[k] = R at *
      by_cases hl : R.length < 2
      · have HO := hide hown
        have HB := hide hbel
        clear hr hown hbel
        go_wp2
        go_roundw
        case rel => exact ⟨k + 1, M, by go_num, by omega, unhide HO, HM, unhide HB⟩
        case measure => simp [intOf]; omega
      · have hl0 : 0 < R.length := by omega
        have hl1 : 1 < R.length := by omega
        obtain ⟨bp, op, e1, q0⟩ := hr.at hl0
        subst e1
        obtain ⟨bp', op', e1, q1⟩ := hr.at hl1
        cases e1
        rw [Nat.add_zero] at q0
        generalize R[0] = p at *
        generalize R[1] = q at *
        have hpA := rndN_eq (x := p) hN0
        have hqB := rndN_eq (x := q) hN0
        have hA := rndN_lt (x := p) hN0
        have hB := rndN_lt (x := q) hN0
        generalize rndN p N = A at *
        generalize rndN q N = B at *
        by_cases hAB : A = B
        · subst hAB
          have HO := hide hown
          have HB := hide hbel
          have hne : ((A : Int) != (A : Int)) = false := by simp
          clear hr hown hbel
          go_wp2
          go_roundw
          case rel => exact ⟨k + 1, M, by go_num, by omega, unhide HO, HM, unhide HB⟩
          case measure => simp [intOf]; omega
        · have hne : ((A : Int) != (B : Int)) = true := by simp; omega
          obtain ⟨bu, ou, ra, e2, c1, c2, c3⟩ := hown.at (i := A) (k := B) (by omega) hB
          subst e2
          obtain ⟨⟨u1, d1⟩, f1, hown2, hb2⟩ := hown.set (i := A) (k := B) (by omega) hB c3
          have hl2 : (setM M A B).length = N := by simp [setM, hMl]
          obtain ⟨bu', ou', rb, e3, c4, c5, c6⟩ := hown2.at (i := B) (k := A) (by omega) hA
          cases e3
          obtain ⟨⟨u2, d2⟩, f2, hown3, hb3⟩ := hown2.set (i := B) (k := A) (by omega) hA c6
          have HF := hide (And.intro hown3 (hbel.trans (hb2.trans hb3)))
          have HM2 := hide (show MatOk (setM (setM M A B) B A) ∧ (setM (setM M A B) B A).length = N from ⟨(unhide HM).1.join (by omega) (by omega) hAB, by simp [setM, hMl]⟩)
          clear hr hown hown2 hown3 hb2 hb3 hbel c2 c5 c3 c6 hl2
          go_wp2
          go_roundw
          case rel => exact ⟨k + 1, _, by go_num, by omega, (unhide HF).1, HM2, (unhide HF).2⟩
          case measure => simp [intOf]; omega
    · have HO := hide hown
      have HB := hide hbel
      clear hown hbel
      have hcc : Hid (¬ k < edges.length ∨ (k < edges.length ∧ ¬ k < 60) ∨ (k < edges.length ∧ k < 60 ∧ ¬ 0 < N)) := hide (by omega)
      clear hc
      rcases unhide hcc with h1 | ⟨h1, h2⟩ | ⟨h1, h2, h3⟩
      all_goals
        clear hcc
        go_wp2
        go_ret
        have HO2 : OwnMat w.heap.size wr (.slice au N cu) M.length M bs := by rw [hMl]; exact unhide HO
        first
          | exact ⟨_, M, bs, rfl, HO2, (unhide HM).1, hMl, unhide HB⟩
          | exact ⟨_, rfl, M, bs, HO2, (unhide HM).1, hMl, unhide HB⟩
          | exact ⟨_, rfl, M, ⟨bs, HO2⟩, (unhide HM).1, hMl, unhide HB⟩

end Go.Proofs.YtmhaaogjldnceaaDoor
