/-
  The text by which rows are told apart: its mathematics; the contracts of strconv.AppendInt at one digit, and of keyOf.
-/
import Derived.Test.YtoiokplgkanepaaGreatDoorTupPick
import Derived.Test.YtoiokplgkanepaaGreatDoorApp2
import Derived.Lib.AppendStr
import Derived.Laws.IdiomStrings
namespace Go.Proofs.YtoiokplgkanepaaGreatDoor
set_option linter.unusedVariables false
set_option linter.unusedSimpArgs false

theorem pick_dig {t ps : List Int} (h : ∀ x ∈ t, 0 ≤ x ∧ x < 10) : ∀ x ∈ pickL t ps, 0 ≤ x ∧ x < 10 := by
  intro x hx
  unfold pickL at hx
  obtain ⟨p, _, hp⟩ := List.mem_filterMap.1 hx
  split at hp
  · rename_i hb
    cases hp
    have hk : p.toNat < t.length := by omega
    rw [List.getD_eq_getElem?_getD, List.getElem?_eq_getElem hk]
    exact h _ (List.getElem_mem hk)
  · cases hp

/-- The text of a row of numbers of one digit. -/
def keyB : List Int → List UInt8
  | [] => []
  | n :: r => UInt8.ofNat (48 + n.toNat) :: 32 :: keyB r

theorem keyB_snoc (n : Int) : ∀ l : List Int, keyB (l ++ [n]) = keyB l ++ [UInt8.ofNat (48 + n.toNat)] ++ [32]
  | [] => rfl
  | x :: r => by
    have ih := keyB_snoc n r
    simp only [List.cons_append, keyB, ih]
theorem keyB_len : ∀ l : List Int, (keyB l).length = 2 * l.length
  | [] => rfl
  | x :: r => by simp only [keyB, List.length_cons, keyB_len r]; omega

theorem digit_inj {a b : Int} (ha : 0 ≤ a ∧ a < 10) (hb : 0 ≤ b ∧ b < 10) (h : UInt8.ofNat (48 + a.toNat) = UInt8.ofNat (48 + b.toNat)) : a = b := by
  have h1 := congrArg UInt8.toNat h
  simp only [UInt8.toNat_ofNat'] at h1
  have e1 : (48 + a.toNat) % 2 ^ 8 = 48 + a.toNat := Nat.mod_eq_of_lt (by omega)
  have e2 : (48 + b.toNat) % 2 ^ 8 = 48 + b.toNat := Nat.mod_eq_of_lt (by omega)
  rw [e1, e2] at h1
  omega

theorem keyB_inj : ∀ {a b : List Int}, (∀ x ∈ a, 0 ≤ x ∧ x < 10) → (∀ x ∈ b, 0 ≤ x ∧ x < 10) → keyB a = keyB b → a = b
  | [], [], _, _, _ => rfl
  | [], y :: b, _, _, h => by simp [keyB] at h
  | x :: a, [], _, _, h => by simp [keyB] at h
  | x :: a, y :: b, ha, hb, h => by
    simp only [keyB, List.cons.injEq, true_and] at h
    rw [digit_inj (ha x (by simp)) (hb y (by simp)) h.1, keyB_inj (fun z hz => ha z (by simp [hz])) (fun z hz => hb z (by simp [hz])) h.2]

/-- The rows, of these, that have p at the places ps. -/
def likeL (ps : List Int) (p : List Int) (lb : List (List Int)) : List (List Int) := lb.filter fun v => decide (pickL v ps = p)

end Go.Proofs.YtoiokplgkanepaaGreatDoor

namespace Go.Proofs.YtoiokplgkanepaaGreatDoor
open Go.RowKit
set_option linter.unusedVariables false
set_option linter.unusedSimpArgs false
set_option maxRecDepth 20000

def encB (b : UInt8) : Value := .int .u8 (b.toNat : Int)
/-- The call's own slice of bytes. -/
abbrev OwnB (B : Nat) (w : World) (v : Value) (l : List UInt8) : Prop := w.ownsRow B 5 1 v l.length (l.map encB)

theorem Tryz.infoByte : (Tryz.prog.info? 5).map (fun i => (i.zero, i.size, i.bytes)) = some (some (.int .u8 0), 1, 1) := by kernel_rfl

/-- string(b). -/
theorem own_string {B : Nat} {w : World} {v : Value} {l : List UInt8} (h : OwnB B w v l) : ∃ a c, v = .slice a l.length c ∧ (convert 79 9 (.slice a l.length c)).run Tryz.prog w = .ok (.string ⟨l.toArray⟩) w := by
  have hs := Seq.of_own (enc := encB) h
  obtain ⟨a, cap, rfl, h2, h3, h4, h5, h6⟩ := hs
  refine ⟨a, cap, rfl, ?_⟩
  cases a with
  | none =>
    have hc := h4 rfl
    subst hc
    have hl : l = [] := List.length_eq_zero_iff.1 (by omega)
    subst hl
    rw [run_convert_bytes_string w 79 9 5 _ _ _ Tryz.underlying79 Tryz.underlying5 Tryz.underlying9]
    simp [Conv.bytesToString]
    rfl
  | some x =>
    by_cases hl : l = []
    · subst hl
      exact run_convert_bytes_back (P := Tryz.prog) w 79 9 5 x cap [] Tryz.underlying79 Tryz.underlying5 Tryz.underlying9 (fun j hj => by simp at hj)
    · refine run_convert_bytes_back (P := Tryz.prog) w 79 9 5 x cap l Tryz.underlying79 Tryz.underlying5 Tryz.underlying9 (fun j hj => ?_)
      obtain ⟨x', hx, hc⟩ := h6 j l[j] (by simp [hj])
      cases hx
      have hsp := h5 x rfl hl
      obtain ⟨b, o, s⟩ := x
      simp at hsp
      subst hsp
      have e : (⟨b, o, none⟩ : Addr).add j = ⟨b, o + j, none⟩ := by cases j <;> simp [Addr.add]
      rw [e]; exact hc

set_option maxHeartbeats 4000000 in
theorem digit_any (n : Nat) (h : n < 10) (w : World) : Calls Tryz.prog 110 #[.int .i64 n] w fun e w' => e = .returned (.string ⟨#[UInt8.ofNat (48 + n)]⟩) ∧ w' = w := by
  have hc : n = 0 ∨ n = 1 ∨ n = 2 ∨ n = 3 ∨ n = 4 ∨ n = 5 ∨ n = 6 ∨ n = 7 ∨ n = 8 ∨ n = 9 := by omega
  rcases hc with rfl | rfl | rfl | rfl | rfl | rfl | rfl | rfl | rfl | rfl
  all_goals
    go_enter Tryz.func110, Tryz.ntmps110
    go_wp2
    go_ret
    exact ⟨rfl, rfl⟩

/-- Where a slice of bytes lies behind an append of a byte's string. -/
theorem app_str_at {B : Nat} {v v' : Value} {l : List UInt8} {w w' : World} {ty : TypeId} (hown : OwnB B w v l) (s : ByteArray) (h1 : s.size = 1) (hl : l.length < 100000000)
    (hr : (Builtin.append_ #[79, 9] ty #[v, .string s]).run Tryz.prog w = .ok v' w') : v'.ownBlock = v.ownBlock ∨ ∃ g, v'.ownBlock = some g ∧ w.heap.size ≤ g := by
  obtain ⟨i0, hi, hz0, hz1, hz2⟩ := info_parts Tryz.infoByte
  have hx : (l.map encB).length = l.length * i0.size := by rw [hz1]; simp
  rcases hown.2 with ⟨rfl, h0⟩ | ⟨g, cap, cur, rfl, hbg, hg, hnc, hcm, hcs, htake⟩
  · have e := run_append_nil_string (P := Tryz.prog) w 79 9 ty 5 i0 (.int .u8 0) Tryz.underlying79 Tryz.underlying9 hi hz0 s (by omega) (by omega) (by rw [hz2]; omega)
    rw [e] at hr
    cases hr
    exact .inr ⟨_, rfl, Nat.le_refl _⟩
  · by_cases hroom : l.length + s.size ≤ cap
    · have e := Lib.run_append_room_string (P := Tryz.prog) w 79 9 ty 5 i0 Tryz.underlying79 Tryz.underlying9 hi hz1 g l.length cap cur hg s hroom (by omega)
      rw [e] at hr
      cases hr
      exact .inl rfl
    · have holds : ∀ j u, (l.map encB)[j]? = some u → w.cell? ((⟨g, 0, none⟩ : Addr).add j) = some u := hown.cells (g := g) rfl
      have e := Lib.run_append_grow_string (P := Tryz.prog) w 79 9 ty 5 i0 (.int .u8 0) Tryz.underlying79 Tryz.underlying9 hi hz0 ⟨g, 0, none⟩ l.length cap (l.map encB) hx holds s (by omega) (by omega) (by rw [hz2]; exact growslice_fits (by omega) (by omega))
      rw [e] at hr
      cases hr
      exact .inr ⟨_, rfl, Nat.le_refl _⟩

theorem wp_app_str {w : World} {ops : Array Oper} {rest : List Oper} {o : Oper} {a : Act} {Q : Exit → Act → World → Prop} (hgd : o.guard = none) (sl x : Operand)
    (ho : o.op = .call { callee := .builtin .append, args := #[sl, x], argTypes := #[79, 9] }) {B : Nat} {v : Value} {l : List UInt8} (hown : OwnB B w v l) (hs : a.eval sl = v) (hB : B ≤ w.heap.size) (y : UInt8)
    (hx : a.eval x = .string ⟨#[y]⟩) (hl : l.length < 100000000)
    (h : ∀ v' w', OwnB B w' v' (l ++ [y]) → Grew B w w' v v' → wpList Tryz.prog ops Q rest (a.put o.dst v') w') : wpList Tryz.prog ops Q (o :: rest) a w := by
  obtain ⟨i0, hi, hz0, hz1, hz2⟩ := info_parts Tryz.infoByte
  refine wpList_plain hgd fun K hK => ?_
  have hsz : (⟨#[y]⟩ : ByteArray).size = 1 := rfl
  obtain ⟨v', w', hr, h2, h3, h4⟩ := Lib.run_append_own_string (P := Tryz.prog) w B 79 9 o.type 5 i0 Tryz.underlying79 Tryz.underlying9 hi hz0 hz1 hz2 v l.length (l.map encB) hown ⟨#[y]⟩ (by rw [hsz]; unfold maxLen; omega) (by rw [hsz]; omega) hB
  have hat := app_str_at hown ⟨#[y]⟩ hsz hl hr
  unfold Oper.wp execOp
  simp only [ho, resolve, invoke, builtin, Sem.run_bind, Sem.run_pure, Result.andThen_ok, List.map_toArray, List.map_cons, List.map_nil, hs, hx, hr]
  refine hK _ _ (h v' w' ?_ ⟨(Below.refl B w).grown h3 hB (fun k hk => (hown.lt k hk).1), h3, hat⟩)
  have e : (Lib.strCells ⟨#[y]⟩) = [y].map encB := rfl
  rw [e, hsz] at h2
  simpa [OwnB] using h2

set_option maxHeartbeats 4000000 in
theorem appUint_any {B : Nat} {v : Value} {l : List UInt8} {w : World} (n : Nat) (h : n < 10) (hown : OwnB B w v l) (hB : B ≤ w.heap.size) (hl : l.length < 100000000) :
    Calls Tryz.prog 93 #[v, .int .u64 n, .int .i64 10] w fun e w' => ∃ v', e = .returned v' ∧ OwnB B w' v' (l ++ [UInt8.ofNat (48 + n)]) ∧ Grew B w w' v v' := by
  have h1 : (n : Int) < 100 := by omega
  have HD := hide (digit_any n h w)
  generalize UInt8.ofNat (48 + n) = d at HD ⊢
  go_enter Tryz.func93, Tryz.ntmps93
  go_wp2_with (first
    | (go_at_call 110; refine (unhide HD).mono ?_; rintro e w' ⟨rfl, rfl⟩)
    | (at_builtin; refine wp_app_str rfl _ _ rfl hown rfl hB _ rfl hl ?_; intro v' w1 hown' hgrew))
  go_ret
  exact ⟨v', rfl, hown', hgrew⟩

set_option maxHeartbeats 4000000 in
theorem appInt2_any {B : Nat} {v : Value} {l : List UInt8} {w : World} (n : Nat) (h : n < 10) (hown : OwnB B w v l) (hB : B ≤ w.heap.size) (hl : l.length < 100000000) :
    Calls Tryz.prog 73 #[v, .int .i64 n, .int .i64 10] w fun e w' => ∃ v', e = .returned v' ∧ OwnB B w' v' (l ++ [UInt8.ofNat (48 + n)]) ∧ Grew B w w' v v' := by
  have HD := hide (appUint_any n h hown hB hl)
  generalize UInt8.ofNat (48 + n) = d at HD ⊢
  have hwr : IntKind.u64.wrap (n : Int) = n := by simp [IntKind.wrap, IntKind.bits, IntKind.signed]; omega
  have hn0 : ¬ (n : Int) < 0 := by omega
  clear hown
  go_enter Tryz.func73, Tryz.ntmps73
  go_wp2_with (go_at_call 93; refine (unhide HD).mono ?_; rintro e w' ⟨v', rfl, hown', hgrew⟩)
  go_ret
  exact ⟨v', rfl, hown', hgrew⟩

set_option maxHeartbeats 4000000 in
theorem appInt_any {B : Nat} {v : Value} {l : List UInt8} {w : World} {n : Int} (h : 0 ≤ n ∧ n < 10) (hown : OwnB B w v l) (hB : B ≤ w.heap.size) (hl : l.length < 100000000) :
    Calls Tryz.prog 64 #[v, .int .i64 n, .int .i64 10] w fun e w' => ∃ v', e = .returned v' ∧ OwnB B w' v' (l ++ [UInt8.ofNat (48 + n.toNat)]) ∧ Grew B w w' v v' := by
  obtain ⟨k, rfl⟩ := Int.eq_ofNat_of_zero_le h.1
  have HD := hide (appInt2_any k (by omega) hown hB hl)
  rw [show (((k : Nat) : Int)).toNat = k from Int.toNat_natCast k]
  generalize UInt8.ofNat (48 + k) = d at HD ⊢
  clear hown
  go_enter Tryz.func64, Tryz.ntmps64
  go_wp2_with (go_at_call 73; refine (unhide HD).mono ?_; rintro e w' ⟨v', rfl, hown', hgrew⟩)
  go_ret
  exact ⟨v', rfl, hown', hgrew⟩

/-- One more byte. -/
theorem wp_app_byte {w : World} {ops : Array Oper} {rest : List Oper} {o : Oper} {a : Act} {Q : Exit → Act → World → Prop} (hgd : o.guard = none) (s x : Operand)
    (ho : o.op = .call { callee := .builtin .append, args := #[s, x], argTypes := #[79, 79] }) {B : Nat} {v : Value} {l : List UInt8} (y : UInt8) (hown : OwnB B w v l) (hs : a.eval s = v) (hB : B ≤ w.heap.size)
    (hx : a.eval x = .slice (some ⟨w.heap.size, 0, none⟩) 1 1) (hlen : l.length < 100000000000)
    (h : ∀ v' w', OwnB B w' v' (l ++ [y]) → Grew B w w' v v' → wpList Tryz.prog ops Q rest (a.put o.dst v') w') :
    wpList Tryz.prog ops Q (o :: rest) a (w.alloc (.cells #[encB y] 5)) :=
  wpList_plain hgd fun _ hK => op_app_one Tryz.underlying79 Tryz.infoByte rfl (by decide) s x ho hown hs hB hx rfl hlen fun v' w' h1 h2 => hK _ _ (h v' w' h1 h2)

theorem own_litB {B : Nat} {w : World} (hB : B ≤ w.heap.size) : OwnB B (w.alloc (.cells #[] 5)) (.slice (some ⟨w.heap.size, 0, none⟩) 0 0) [] := World.ownsRow_made w #[] 0 hB (by simp [maxLen]) (by simp)

theorem ret_key {l : List UInt8} {p : List Int} (h : l = keyB p) : Ending.returned (.string ⟨l.toArray⟩) = .returned (.string ⟨(keyB p).toArray⟩) := by rw [h]

set_option maxHeartbeats 8000000 in
theorem key_any {t ps : List Int} {vt vp : Value} {w : World} (ht : Ints w vt t) (hp : Ints w vp ps) (hd : ∀ x ∈ t, 0 ≤ x ∧ x < 10) (hlen : ps.length < 100000) :
    Calls Tryz.prog 46 #[vt, vp] w fun e w' => e = .returned (.string ⟨(keyB (pickL t ps)).toArray⟩) ∧ Below w.heap.size w w' := by
  have hb0 := (Below.refl w.heap.size w).alloc (Nat.le_refl _) (.cells #[] 5)
  have hz0 : w.heap.size ≤ (w.alloc (.cells #[] 5)).heap.size := by simp
  have HP := hide (pick_any (ht.below hb0) (hp.below hb0) (by omega))
  have hown0 := own_litB (w := w) (Nat.le_refl _)
  have HD := hide (pick_dig (ps := ps) hd)
  have hpl : (pickL t ps).length ≤ ps.length := by unfold pickL; exact List.length_filterMap_le _ _
  generalize pickL t ps = P at *
  obtain ⟨a, ca, rfl, k1, k2⟩ := ht.form
  obtain ⟨b, cb, rfl, k3, k4⟩ := hp.form
  clear ht hp hd k1 k2 k3 k4
  go_enter Tryz.func46, Tryz.ntmps46
  go_wp2_with fail
  refine (unhide HP).mono ?_
  rintro e w1 ⟨u, rfl, hu, hun, hb1⟩
  have hb1' := hb0.trans (hb1.mono hz0)
  have hown1 := own_below hown0 hb1
  have hap1 : Apart u P (.slice (some ⟨w.heap.size, 0, none⟩) 0 0) := fun _ g h1 h2 => by
    have := hun g h1
    have e2 : w.heap.size = g := by simpa [Value.ownBlock] using h2
    simp at this
    omega
  obtain ⟨ua, uc, rfl, k5, k6⟩ := hu.form
  unfold maxLen at k6
  clear HP hb1 hown0 hun hb0 hz0
  go_wp2
  go_loopw [5, 7, 13] (fun v _ i wr => ∃ k : Nat, k ≤ P.length ∧ i = .int .i64 k ∧ OwnB w.heap.size wr v (keyB (P.take k)) ∧ Below w.heap.size w wr ∧ Ints wr (.slice ua P.length uc) P ∧ Apart (.slice ua P.length uc) P v) (fun _ _ i _ => P.length - (intOf i).toNat)
  case atStart => exact ⟨0, by omega, rfl, hown1, hb1', hu, hap1⟩
  case round =>
    clear hown1 hb1' hu hap1
    obtain ⟨k, hk, rfl, hown, hbel, hui, hap⟩ := hrel
    have hz := hbel.size
    have hkl2 : (keyB (P.take k)).length ≤ 2 * k := by rw [keyB_len]; have := List.length_take_le k P; omega
    by_cases hkl : k < P.length
    · obtain ⟨bl, ol, rfl, hcl⟩ := hui.at hkl
      have HN := hide (show keyB (P.take (k + 1)) = keyB (P.take k) ++ [UInt8.ofNat (48 + P[k].toNat)] ++ [32] by rw [List.take_succ_eq_append_getElem hkl]; exact keyB_snoc _ _)
      have HA := hide (appInt_any (n := P[k]) (unhide HD _ (List.getElem_mem hkl)) hown hz (by omega))
      have HUI := hide hui
      have HAP := hide hap
      generalize keyB (P.take k) = L at *
      generalize UInt8.ofNat (48 + P[k].toNat) = d at *
      clear hown hui hap
      go_wp2_with fail
      refine (unhide HA).mono ?_
      rintro e w2 ⟨v2, rfl, hown2, hg2⟩
      have hz2 := hg2.by_.size
      have hui2 := hide ((unhide HUI).grew hg2 (unhide HAP))
      have hap2 := hide ((unhide HAP).grew (unhide HUI) hg2)
      clear HA
      go_wp2_with (at_builtin; refine wp_app_byte rfl (.tmp 20) (.tmp 21) rfl 32 hown2 rfl (by omega) rfl (by simp; omega) ?_; intro v3 w3 hown3 hg3)
      go_roundw
      case rel => exact ⟨k + 1, by omega, by go_num, by rw [unhide HN]; exact hown3, (hbel.trans hg2.below).trans hg3.below, (unhide hui2).grew hg3 (unhide hap2), (unhide hap2).grew (unhide hui2) hg3⟩
      case measure => simp [intOf]; omega
    · have hkk : k = P.length := by omega
      subst hkk
      rw [List.take_length] at hown
      obtain ⟨va, vc, hve, hcv⟩ := own_string hown
      rw [hve]
      clear hown hve hui hap
      go_wp2
      go_ret
      exact ⟨rfl, hbel⟩

end Go.Proofs.YtoiokplgkanepaaGreatDoor
