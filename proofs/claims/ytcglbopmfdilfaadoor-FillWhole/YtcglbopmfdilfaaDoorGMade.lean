/-
  The contracts of the document's Empty, of made, and of the document's Graph.
-/
import Derived.Test.YtcglbopmfdilfaaDoorGMat
import Derived.Test.YtcglbopmfdilfaaDoorGBox
namespace Go.Proofs.YtcglbopmfdilfaaDoor
open Go.RowKit
set_option linter.unusedVariables false
set_option linter.unusedSimpArgs false
set_option maxRecDepth 20000

theorem Tryd.infoBools : (Tryd.prog.info? 55).map (fun i => (i.zero, i.size, i.bytes)) = some (some (.slice none 0 0), 1, 24) := by kernel_rfl

theorem wp_app_mrow {w : World} {ops : Array Oper} {rest : List Oper} {o : Oper} {a : Act} {Q : Exit → Act → World → Prop} (hgd : o.guard = none) (s x : Operand)
    (ho : o.op = .call { callee := .builtin .append, args := #[s, x], argTypes := #[25, 25] }) {B n r : Nat} {v : Value} {M : List (List Bool)} {bs : List Nat} {R : List Bool} (hown : OwnMat B w v n M bs)
    (hR : OwnB B w (rowV n r) R) (hRl : R.length = n) (hr : r ∉ bs) (hrv : v.ownBlock ≠ some r) (hs : a.eval s = v) (hB : B ≤ w.heap.size)
    (hx : a.eval x = .slice (some ⟨w.heap.size, 0, none⟩) 1 1) (hlen : M.length < 100000000000)
    (h : ∀ v' w', OwnMat B w' v' n (M ++ [R]) (bs ++ [r]) → Grew B w w' v v' → wpList Tryd.prog ops Q rest (a.put o.dst v') w') :
    wpList Tryd.prog ops Q (o :: rest) a (w.alloc (.cells #[rowV n r] 55)) := by
  refine wpList_plain hgd fun _ hK => op_app_one (enc := rowV n) Tryd.underlying25 Tryd.infoBools rfl (by decide) s x ho hown.outer hs hB hx rfl (by rw [hown.len]; exact hlen) fun v' w' h1 h2 => hK _ _ (h v' w' ⟨?_, h1, ?_, ?_, ?_, ?_⟩ h2)
  · simp [hown.len]
  · intro i hi hi'
    by_cases hil : i < bs.length
    · have him : i < M.length := by rw [← hown.len]; exact hil
      rw [List.getElem_append_left hil, List.getElem_append_left him]
      exact own_same (hown.rows i hil him) (fun b hb => h2.by_.block b ((hown.rows i hil him).lt b hb).2 (fun e => hown.apart bs[i] (List.getElem_mem _) (by rw [← e]; simpa [Value.ownBlock] using hb.symm)))
    · have e : i = bs.length := by simp at hi; omega
      subst e
      rw [List.getElem_append_right (by omega), List.getElem_append_right (by rw [hown.len]; omega)]
      simp only [hown.len, Nat.sub_self, List.getElem_cons_zero]
      exact own_same hR (fun b hb => h2.by_.block b (hR.lt b hb).2 (fun e => hrv (by rw [← e]; simpa [Value.ownBlock] using hb.symm)))
  · intro q hq
    rcases List.mem_append.1 hq with hq | hq
    · exact hown.wide q hq
    · rw [List.mem_singleton] at hq; subst hq; exact hRl
  · rw [List.nodup_append]
    exact ⟨hown.nod, by simp, fun p hp q hq => by rw [List.mem_singleton] at hq; subst hq; exact fun e => hr (e ▸ hp)⟩
  · intro b hb
    have hlt : b < w.heap.size ∧ v.ownBlock ≠ some b := by
      rcases List.mem_append.1 hb with hb | hb
      · exact ⟨(hown.lt hb).2, hown.apart b hb⟩
      · rw [List.mem_singleton] at hb; subst hb; exact ⟨(hR.lt b rfl).2, hrv⟩
    rcases h2.at_ with e | ⟨g, e, hg⟩
    · rw [e]; exact hlt.2
    · rw [e]; intro e2; injection e2 with e2; omega

theorem falses_snoc (n k : Nat) : falses n k ++ [List.replicate n false] = falses n (k + 1) := by simp [falses, List.replicate_succ']

set_option maxHeartbeats 2000000 in
theorem empty_any (n : Nat) (hn : n ≤ 1000) (w : World) :
    Calls Tryd.prog 31 #[.int .i64 (n : Int)] w fun e w' => ∃ v bs, e = .returned v ∧ OwnMat w.heap.size w' v n (falses n n) bs ∧ Below w.heap.size w w' := by
  have hb0 := (Below.refl w.heap.size w).alloc (Nat.le_refl _) (.cells #[] 55)
  have ho0 : (w.alloc (.cells #[] 55)).ownsRow w.heap.size 55 1 (.slice (some ⟨w.heap.size, 0, none⟩) 0 0) 0 [] := World.ownsRow_made w #[] 0 (Nat.le_refl _) (by simp [maxLen]) (by simp)
  have HO0 := hide (OwnMat.nil (n := n) ho0)
  have HB0 := hide hb0
  clear hb0 ho0
  go_enter Tryd.func31, Tryd.ntmps31
  go_wp2
  go_loopw [3, 4] (fun v i wr => ∃ (k : Nat) (bs : List Nat), i = .int .i64 k ∧ k ≤ n ∧ OwnMat w.heap.size wr v n (falses n k) bs ∧ Below w.heap.size w wr) (fun _ i _ => n - (intOf i).toNat)
  case atStart => exact ⟨0, [], rfl, by omega, unhide HO0, unhide HB0⟩
  case round =>
    clear HO0 HB0
    obtain ⟨k, bs, rfl, hk, hown, hbel⟩ := hrel
    rename World => wr
    have hzr := hbel.size
    by_cases hkn : k < n
    · obtain ⟨av, cv, rfl, hvl, hvm⟩ := hown.form
      unfold maxLen at hvm
      have hfl : (falses n k).length = k := by simp [falses]
      rw [hfl] at hown hvl
      have HO := hide hown
      have HBE := hide hbel
      have HFS := hide (falses_snoc n k)
      clear hown hbel
      go_wp2_with (first
        | (at_make; refine wp_make_bools rfl _ _ rfl (B := w.heap.size) (by omega) rfl rfl (by omega) ?_; intro w1 hown1 hb1)
        | (at_builtin; refine wp_app_mrow rfl (.tmp 11) (.tmp 14) rfl ((unhide HO).below hb1) hown1 (by simp) (fun hm => by have := ((unhide HO).lt hm).2; omega) (fun e => by have := ((unhide HO).outer.lt _ e).2; omega) rfl (by have := hb1.size; omega) rfl (by omega) ?_; intro v2 w2 hown2 hg2))
      go_roundw
      case rel => exact ⟨k + 1, _, by go_num, by omega, by rw [← unhide HFS]; exact hown2, (unhide HBE).trans ((hb1.mono (by omega)).trans hg2.below)⟩
      case measure => simp [intOf]; omega
    · have e : k = n := by omega
      subst e
      obtain ⟨av, cv, rfl, _, _⟩ := hown.form
      go_wp2
      go_ret
      exact ⟨_, bs, rfl, hown, hbel⟩

theorem and16_eq (n : Int) : bits .and .i64 n 65535 = n % 65536 := by
  have h1 : (BitVec.ofInt 64 65535).toNat = 2 ^ 16 - 1 := by decide
  have key : (BitVec.ofInt 64 n &&& BitVec.ofInt 64 65535).toNat = (n % ((2 ^ 64 : Nat) : Int)).toNat % 2 ^ 16 := by
    rw [BitVec.toNat_and, BitVec.toNat_ofInt, h1, Nat.and_two_pow_sub_one_eq_mod]
  show IntKind.i64.wrap ((BitVec.ofInt 64 n &&& BitVec.ofInt 64 65535).toNat : Nat) = n % 65536
  rw [key, IntKind.wrap_i64]
  omega

/-- A number, counted round. -/
def rndN (x : Int) (n : Nat) : Nat := (x % 65536 % (n : Int)).toNat
theorem rndN_lt {x : Int} {n : Nat} (hn : 0 < n) : rndN x n < n := by
  unfold rndN
  have := Int.emod_lt_of_pos (x % 65536) (show (0 : Int) < n by omega)
  have := Int.emod_nonneg (x % 65536) (show (n : Int) ≠ 0 by omega)
  omega
theorem rndN_eq {x : Int} {n : Nat} (hn : 0 < n) : (bits .and .i64 x 65535).tmod (n : Int) = (rndN x n : Int) := by
  rw [and16_eq]
  unfold rndN
  have h1 : (0 : Int) ≤ x % 65536 := by omega
  rw [Int.tmod_eq_emod_of_nonneg h1]
  have := Int.emod_nonneg (x % 65536) (show (n : Int) ≠ 0 by omega)
  omega

end Go.Proofs.YtcglbopmfdilfaaDoor
