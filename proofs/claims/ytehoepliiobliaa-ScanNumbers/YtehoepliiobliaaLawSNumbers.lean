/-
  Proved: ScanNumbers answers true for every number, and leaves what was handed in as it was. No condition.
-/
import Derived.Test.YtehoepliiobliaaScanShown
import Derived.Test.YtehoepliiobliaaScanLaws
import Derived.Test.YtehoepliiobliaaSFrame
import Derived.Test.YtehoepliiobliaaSBytes
namespace Go.Proofs.Ytehoepliiobliaa.scanNumbers
open Go.RowKit Go.ChangeShapes Go.WideShapes Go.ChangeAt
set_option linter.unusedVariables false
set_option linter.unusedSimpArgs false
set_option maxRecDepth 20000

theorem val_from : ∀ (d : Bytes) (a : Nat), valFrom a d = a * 10 ^ d.length + valN d
  | [], a => by simp [valN, valFrom]
  | c :: r, a => by
    have h1 := val_from r (10 * a + (c.toNat - 48))
    have h2 := val_from r (10 * 0 + (c.toNat - 48))
    have e1 : valFrom a (c :: r) = valFrom (10 * a + (c.toNat - 48)) r := val_cons a c r
    have e2 : valN (c :: r) = valFrom (10 * 0 + (c.toNat - 48)) r := val_cons 0 c r
    rw [e1, e2, h1, h2, List.length_cons, Nat.pow_succ]
    have : a * (10 ^ r.length * 10) = 10 * a * 10 ^ r.length := by rw [← Nat.mul_assoc, Nat.mul_comm _ 10, ← Nat.mul_assoc]
    rw [this, Nat.add_mul, Nat.add_mul]
    omega

/-- What holds while the digits of A are written from the right: m is left. -/
structure Dig (A m : Nat) (D : Bytes) : Prop where
  all : ∀ c ∈ D, digitB c = true
  val : m * 10 ^ D.length + valN D = A
  len : D.length ≤ 19
  big : m < 10 ^ (19 - D.length)
  fst : m = 0 → D ≠ [] → (A = 0 ∧ D = [48]) ∨ (∃ c r, D = c :: r ∧ c.toNat ≠ 48)

def chr (m : Nat) : UInt8 := UInt8.ofNat (48 + m % 10)
theorem chr_nat (m : Nat) : (chr m).toNat = 48 + m % 10 := by
  unfold chr
  rw [UInt8.toNat_ofNat']
  exact Nat.mod_eq_of_lt (by omega)
theorem chr_int (m : Nat) : ((chr m).toNat : Int) = 48 + (m : Int) % 10 := by rw [chr_nat]; omega

theorem Dig.start {A : Nat} (h : A < 10 ^ 19) : Dig A A [] := ⟨by simp, by simp [valN, valFrom], by simp, by simpa using h, fun _ h => absurd rfl h⟩

theorem Dig.step {A m : Nat} {D : Bytes} (h : Dig A m D) (hm : 0 < m ∨ D = []) : Dig A (m / 10) (chr m :: D) := by
  have hb := h.big
  have hl : D.length < 19 := by
    have h1 := h.len
    rcases Nat.lt_or_ge D.length 19 with h' | h'
    · exact h'
    · have e : 19 - D.length = 0 := by omega
      rw [e, Nat.pow_zero] at hb
      rcases hm with hm | hm
      · omega
      · subst hm; simp at h'
  refine ⟨?_, ?_, by simp; omega, ?_, ?_⟩
  · intro c hc
    rcases List.mem_cons.1 hc with rfl | hc
    · unfold digitB; rw [chr_nat]; simp; omega
    · exact h.all c hc
  · have e : valN (chr m :: D) = (m % 10) * 10 ^ D.length + valN D := by
      have := val_from D (10 * 0 + ((chr m).toNat - 48))
      rw [chr_nat] at this
      have e2 : valN (chr m :: D) = valFrom (10 * 0 + ((chr m).toNat - 48)) D := val_cons 0 (chr m) D
      rw [e2, chr_nat, this]
      congr 2
      omega
    rw [e, List.length_cons, Nat.pow_succ, ← h.val, ← Nat.add_assoc, Nat.mul_comm (10 ^ D.length) 10, ← Nat.mul_assoc, ← Nat.add_mul]
    congr 2
    omega
  · have e : 19 - D.length = (19 - (D.length + 1)) + 1 := by omega
    rw [e, Nat.pow_succ] at hb
    rw [List.length_cons]
    omega
  · intro h0 _
    have hm10 : m < 10 := by omega
    by_cases hz : m = 0
    · subst hz
      rcases hm with hm | hm
      · omega
      · subst hm
        have := h.val
        simp [valN, valFrom] at this
        exact .inl ⟨this.symm, rfl⟩
    · exact .inr ⟨chr m, D, rfl, by rw [chr_nat]; omega⟩

theorem takeAll {p : UInt8 → Bool} : ∀ {l : Bytes}, (∀ c ∈ l, p c = true) → l.takeWhile p = l
  | [], _ => rfl
  | c :: r, h => by rw [List.takeWhile_cons, if_pos (h c (by simp)), takeAll (fun x hx => h x (by simp [hx]))]

theorem Dig.written {A : Nat} {D : Bytes} (h : Dig A 0 D) (hD : D ≠ []) (below : Bool) (hb : below = true → A ≠ 0) : writtenB D below = true := by
  rcases h.fst rfl hD with ⟨h0, rfl⟩ | ⟨c, r, rfl, hc⟩
  · cases below with
    | true => exact absurd h0 (hb rfl)
    | false => rfl
  · unfold writtenB; simp [hc]

theorem Dig.valD {A : Nat} {D : Bytes} (h : Dig A 0 D) : valN D = A := by have := h.val; simpa using this

/-- A word, a space, and a token. -/
theorem ab_then (r : Bytes) (hr : skipN false r = 0) : scanA 0 (97 :: 98 :: 32 :: r) = (scanA 3 r).pre [⟨1, [97, 98], 0, 0⟩] := by
  have h1 : skipN false (97 :: 98 :: 32 :: r) = 0 := by simp only [skipN]; rw [if_neg (by decide), if_neg (by decide), if_pos (by decide)]
  have h2 : tokG (97 :: 98 :: 32 :: r) = .tok 1 [97, 98] 0 2 := by
    rw [tokG_cons, if_pos (by decide)]
    unfold runN
    have e : ((97 : UInt8) :: 98 :: 32 :: r).takeWhile letterB = [97, 98] := by
      rw [List.takeWhile_cons, if_pos (by decide), List.takeWhile_cons, if_pos (by decide), List.takeWhile_cons, if_neg (by decide)]
    rw [e]; rfl
  have h3 : scanA 2 (32 :: r) = scanA 3 r := scan_skip 2 1 _ (by
    show skipN false (32 :: r) = 1 + skipN false r
    rw [skipN, if_neg (by decide), if_neg (by decide), if_neg (by decide)]; omega)
  rw [scan_eq, h1, List.drop_zero, h2]
  simp only [List.drop_succ_cons, List.drop_zero]
  rw [if_neg (by decide)]
  rw [show 0 + 0 + 2 = 2 from rfl, h3]

theorem end_at (p : Nat) : scanA p [] = .good [⟨4, [], 0, p⟩] := by
  rw [scan_eq]; rfl

theorem num_at {r D : Bytes} {below : Bool} (p : Nat) (hs : skipN false r = 0) (ht : tokG r = numG D below) (hr : r.length = D.length + if below then 1 else 0) (hw : writtenB D below = true) :
    scanA p r = if valN D ≤ 1000000000000 then .good [⟨2, [], if below then -(valN D : Int) else (valN D : Int), p⟩, ⟨4, [], 0, p + r.length⟩] else .bad p 4 := by
  rw [scan_eq, hs, List.drop_zero, ht]
  by_cases hv : valN D ≤ 1000000000000
  · rw [if_pos hv]
    unfold numG
    rw [if_pos hw, if_pos hv]
    simp only []
    rw [if_neg (by decide), List.drop_eq_nil_of_le (by rw [hr]; omega), end_at]
    simp only [Scan.pre, List.cons_append, List.nil_append]
    rw [hr]
    simp
  · rw [if_neg hv]
    unfold numG
    rw [if_pos hw, if_neg hv]
    rfl

theorem digit_skip {c : UInt8} {r : Bytes} (h : digitB c = true) : skipN false (c :: r) = 0 := by
  unfold digitB at h
  simp at h
  simp only [skipN]
  rw [if_neg (by omega), if_neg (by omega), if_pos (by simp; omega)]

theorem plain_at {A : Nat} {D : Bytes} (h : Dig A 0 D) (hD : D ≠ []) : scanA 0 (97 :: 98 :: 32 :: D) = if A ≤ 1000000000000 then .good [⟨1, [97, 98], 0, 0⟩, ⟨2, [], (A : Int), 3⟩, ⟨4, [], 0, 3 + D.length⟩] else .bad 3 4 := by
  obtain ⟨c, r, rfl⟩ := List.exists_cons_of_ne_nil hD
  have hc := h.all c (by simp)
  have hs : skipN false (c :: r) = 0 := digit_skip hc
  have ht : tokG (c :: r) = numG (c :: r) false := by
    have h1 : letterB c = false ∧ signB c = false := by unfold digitB at hc; simp at hc; unfold letterB signB; simp; omega
    rw [tokG_cons, if_neg (by simp [h1.1]), if_neg (by simp [h1.2]), if_pos hc, takeAll h.all]
  rw [ab_then _ hs, num_at 3 hs ht (by simp) (h.written hD false (by simp)), h.valD]
  split <;> simp [Scan.pre]

theorem minus_at {A : Nat} {D : Bytes} (h : Dig A 0 D) (hD : D ≠ []) (hA : A ≠ 0) : scanA 0 (97 :: 98 :: 32 :: 45 :: D) = if A ≤ 1000000000000 then .good [⟨1, [97, 98], 0, 0⟩, ⟨2, [], -(A : Int), 3⟩, ⟨4, [], 0, 4 + D.length⟩] else .bad 3 4 := by
  have hs : skipN false (45 :: D) = 0 := by simp only [skipN]; rw [if_neg (by decide), if_neg (by decide), if_pos (by decide)]
  have ht : tokG (45 :: D) = numG D true := by
    rw [tokG_cons, if_neg (by decide), if_neg (by decide), if_neg (by decide), if_pos (by decide), takeAll h.all]
  rw [ab_then _ hs, num_at 3 hs ht (by simp) (h.written hD true (fun _ => hA)), h.valD]
  split
  · simp [Scan.pre]; omega
  · simp [Scan.pre]

theorem one_byte (m : Nat) (W : World) : (convert 35 9 (.slice (some ⟨W.heap.size, 0, none⟩) 1 1)).run Try.prog (W.alloc (.cells #[.int .u8 (48 + (m : Int) % 10)] 5)) = .ok (.string ⟨#[chr m]⟩) (W.alloc (.cells #[.int .u8 (48 + (m : Int) % 10)] 5)) := by
  refine BytesAt.string (l := [chr m]) ?_ rfl 1
  intro j hj
  have hj0 : j = 0 := by simp at hj; omega
  subst hj0
  refine ⟨?_, ?_⟩
  · simp only [List.getElem_cons_zero, byV, chr_int]; simp
  · exact frozen_of_row _ _ 0 _ _ (heap_alloc_new W _)

theorem add_byte (m : Nat) (D : Bytes) (hD : D.length ≤ 19) (W : World) : (Op.stringOp .add ⟨#[chr m]⟩ ⟨D.toArray⟩).run Try.prog W = .ok (.string ⟨(chr m :: D).toArray⟩) W :=
  run_string_add_lists (P := Try.prog) W [chr m] D (by simp) (by omega)

def emptyN : Value → Nat
  | .string s => if s.size = 0 then 1 else 0
  | _ => 0

set_option maxHeartbeats 4000000 in
theorem walk {n : Int} {v0 : Value} {w : World} (i0 : v0 = .int .i64 n) (m0 : InI64 n) :
    Calls Try.prog 6 #[v0] w fun e w' => e = .returned (.bool true) ∧ Below w.heap.size w w' := by
  subst i0
  unfold InI64 at m0
  by_cases hneg : n / 2 < 0
  · have hA : wrap64 (-(n / 2)) = ((n / 2).natAbs : Int) := by unfold wrap64; omega
    go_enter Try.func6, Try.ntmps6
    go_wp2_with fail
    refine (shown_any _).mono ?_
    rintro e w1 ⟨rfl, hb1⟩
    obtain ⟨A, hAe⟩ : ∃ A : Nat, A = (n / 2).natAbs := ⟨_, rfl⟩
    have hA19 : A ≤ 4611686018427387904 := by omega
    rw [← hAe] at hA
    have hMA : n / 2 = -(A : Int) := by omega
    have hA0 : 0 < A := by omega
    have HMA := hide hMA
    clear hMA hAe
    go_wp2
    have HAE := hide hA
    clear hA
    go_loopw [5, 6] (fun mv dv wr => ∃ (m : Nat) (D : Bytes), mv = .int .i64 m ∧ dv = .string ⟨D.toArray⟩ ∧ m ≤ A ∧ Hid (Dig A m D) ∧ Below w1.heap.size w1 wr) (fun mv dv _ => 2 * (intOf mv).toNat + emptyN dv)
    case atStart => exact ⟨A, [], by first | rfl | rw [unhide HMA, Int.neg_neg], rfl, Nat.le_refl _, hide (Dig.start (by omega)), Below.refl _ _⟩
    case round =>
      obtain ⟨m, D, rfl, rfl, hmA, HD, hb2⟩ := hrel
      have hDl := HD.out.len
      by_cases hgo : 0 < m ∨ D = []
      · have HD2 := hide (HD.out.step hgo)
        have hcv := one_byte m
        have hadd := add_byte m D hDl
        have HB2 := hide hb2
        have hr1 : 0 ≤ (m : Int) % 10 := Int.emod_nonneg _ (by decide)
        have hr2 : (m : Int) % 10 < 10 := Int.emod_lt_of_pos _ (by decide)
        have hlt : Hid (0 < m ∨ m = 0 ∧ D = []) := hide (by rcases hgo with h | h; exact .inl h; rcases Nat.eq_zero_or_pos m with h0 | h0; exact .inr ⟨h0, h⟩; exact .inl h0)
        clear hb2 HD
        rename World => wr
        have HZ := hide (unhide HB2).size
        rcases hlt.out with hm | ⟨rfl, rfl⟩
        · have hm' : (0 : Int) < (m : Int) := by omega
          clear hgo hlt
          go_wp2
          go_roundw
          case rel => exact ⟨m / 10, chr m :: D, by first | rfl | go_num, rfl, by omega, HD2, (unhide HB2).alloc (unhide HZ) _⟩
          case measure => simp [intOf, emptyN, ByteArray.size]; omega
        · clear hgo hlt
          replace hcv : ∀ W : World, (convert 35 9 (.slice (some ⟨W.heap.size, 0, none⟩) 1 1)).run Try.prog (W.alloc (.cells #[.int .u8 48] 5)) = .ok (.string ⟨#[48]⟩) (W.alloc (.cells #[.int .u8 48] 5)) := hcv
          replace hadd : ∀ W : World, (Op.stringOp .add ⟨#[48]⟩ ⟨#[]⟩).run Try.prog W = .ok (.string ⟨#[48]⟩) W := hadd
          clear hr1 hr2
          go_wp2
          go_roundw
          case rel => exact ⟨0 / 10, chr 0 :: [], by first | rfl | go_num, by first | rfl | simp, by omega, HD2, (unhide HB2).alloc (unhide HZ) _⟩
          case measure => simp [intOf, emptyN, ByteArray.size]
      · have hm0 : m = 0 := by omega
        subst hm0
        obtain ⟨c, r, rfl⟩ := List.exists_cons_of_ne_nil (fun e => hgo (.inr e))
        rename World => wr
        have hz1 : (⟨#[97, 98, 32, 45]⟩ : ByteArray).size + (⟨(c :: r).toArray⟩ : ByteArray).size ≤ 9223372036854775807 := by simp [ByteArray.size] at *; omega
        have hp1 := fun W => run_string_add_sum (P := Try.prog) W ⟨#[97, 98, 32, 45]⟩ ⟨(c :: r).toArray⟩ hz1
        have hsz : (⟨#[97, 98, 32, 45]⟩ ++ ⟨(c :: r).toArray⟩ : ByteArray).size = 4 + (c :: r).length := by rw [ByteArray.size_append]; rfl
        have hsz2 : (⟨#[97, 98, 32, 45]⟩ ++ ⟨(c :: r).toArray⟩ : ByteArray).size ≤ 100000 := by rw [hsz]; omega
        have hlb : lb (⟨#[97, 98, 32, 45]⟩ ++ ⟨(c :: r).toArray⟩) = [97, 98, 32, 45] ++ (c :: r) := lb_append _ _
        have hscan := minus_at HD.out (by simp) (by omega)
        have HSZ := hide hsz
        clear hz1
        by_cases hbig : A ≤ 1000000000000
        · rw [if_pos hbig] at hscan
          have HA := hide (fun W => all_good (⟨#[97, 98, 32, 45]⟩ ++ ⟨(c :: r).toArray⟩) _ (by rw [hlb]; exact hscan) hsz2 W)
          rw [← hsz] at HA
          have hb3 : n / 2 ≤ 1000000000000 := by have := unhide HMA; omega
          have hb4 : -1000000000000 ≤ n / 2 := by have := unhide HMA; omega
          clear hscan hlb hgo HD hsz hsz2 hDl
          generalize (⟨#[97, 98, 32, 45]⟩ ++ ⟨(c :: r).toArray⟩ : ByteArray) = Z at *
          rw [← unhide HMA] at HA
          go_wp2_with fail
          refine (unhide HA _).mono ?_
          rintro e w3 ⟨a, ca, rfl, ht, hc1, hc2, hb5⟩
          obtain ⟨b, off, rfl, _, _, c12, c13⟩ := ht.at (i := 1) (by simp)
          obtain ⟨b2, off2, e1, _, _, _, c23⟩ := ht.at (i := 2) (by simp)
          cases e1
          simp at c12 c13 c23
          clear ht
          go_wp2
          go_ret
          exact ⟨rfl, (hb1.trans (hb2.mono hb1.size)).trans (hb5.mono (Nat.le_trans hb1.size hb2.size))⟩
        · rw [if_neg hbig] at hscan
          have HA := hide (fun W => all_bad (⟨#[97, 98, 32, 45]⟩ ++ ⟨(c :: r).toArray⟩) _ _ (by rw [hlb]; exact hscan) hsz2 W)
          have hb3 : n / 2 < -1000000000000 := by have := unhide HMA; omega
          have hb4 : n / 2 ≤ 1000000000000 := by omega
          clear hscan hlb hgo HD hsz hsz2 hDl
          generalize (⟨#[97, 98, 32, 45]⟩ ++ ⟨(c :: r).toArray⟩ : ByteArray) = Z at *
          go_wp2_with fail
          refine (unhide HA _).mono ?_
          rintro e w3 ⟨rfl, hb5⟩
          go_wp2
          go_ret
          exact ⟨rfl, (hb1.trans (hb2.mono hb1.size)).trans (hb5.mono (Nat.le_trans hb1.size hb2.size))⟩
  · go_enter Try.func6, Try.ntmps6
    go_wp2_with fail
    refine (shown_any _).mono ?_
    rintro e w1 ⟨rfl, hb1⟩
    obtain ⟨A, hAe⟩ : ∃ A : Nat, A = (n / 2).natAbs := ⟨_, rfl⟩
    have hA19 : A ≤ 4611686018427387904 := by omega
    have hMA : n / 2 = (A : Int) := by omega
    clear hAe hneg m0
    go_wp2
    go_loopw [5, 6] (fun mv dv wr => ∃ (m : Nat) (D : Bytes), mv = .int .i64 m ∧ dv = .string ⟨D.toArray⟩ ∧ m ≤ A ∧ Hid (Dig A m D) ∧ Below w1.heap.size w1 wr) (fun mv dv _ => 2 * (intOf mv).toNat + emptyN dv)
    case atStart => exact ⟨A, [], by rfl, rfl, Nat.le_refl _, hide (Dig.start (by omega)), Below.refl _ _⟩
    case round =>
      obtain ⟨m, D, rfl, rfl, hmA, HD, hb2⟩ := hrel
      have hDl := HD.out.len
      by_cases hgo : 0 < m ∨ D = []
      · have HD2 := hide (HD.out.step hgo)
        have hcv := one_byte m
        have hadd := add_byte m D hDl
        have HB2 := hide hb2
        have hr1 : 0 ≤ (m : Int) % 10 := Int.emod_nonneg _ (by decide)
        have hr2 : (m : Int) % 10 < 10 := Int.emod_lt_of_pos _ (by decide)
        have hlt : Hid (0 < m ∨ m = 0 ∧ D = []) := hide (by rcases hgo with h | h; exact .inl h; rcases Nat.eq_zero_or_pos m with h0 | h0; exact .inr ⟨h0, h⟩; exact .inl h0)
        clear hb2 HD
        rename World => wr
        have HZ := hide (unhide HB2).size
        rcases hlt.out with hm | ⟨rfl, rfl⟩
        · have hm' : (0 : Int) < (m : Int) := by omega
          clear hgo hlt
          go_wp2
          go_roundw
          case rel => exact ⟨m / 10, chr m :: D, by first | rfl | go_num, rfl, by omega, HD2, (unhide HB2).alloc (unhide HZ) _⟩
          case measure => simp [intOf, emptyN, ByteArray.size]; omega
        · clear hgo hlt
          replace hcv : ∀ W : World, (convert 35 9 (.slice (some ⟨W.heap.size, 0, none⟩) 1 1)).run Try.prog (W.alloc (.cells #[.int .u8 48] 5)) = .ok (.string ⟨#[48]⟩) (W.alloc (.cells #[.int .u8 48] 5)) := hcv
          replace hadd : ∀ W : World, (Op.stringOp .add ⟨#[48]⟩ ⟨#[]⟩).run Try.prog W = .ok (.string ⟨#[48]⟩) W := hadd
          clear hr1 hr2
          go_wp2
          go_roundw
          case rel => exact ⟨0 / 10, chr 0 :: [], by first | rfl | go_num, by first | rfl | simp, by omega, HD2, (unhide HB2).alloc (unhide HZ) _⟩
          case measure => simp [intOf, emptyN, ByteArray.size]
      · have hm0 : m = 0 := by omega
        subst hm0
        obtain ⟨c, r, rfl⟩ := List.exists_cons_of_ne_nil (fun e => hgo (.inr e))
        rename World => wr
        have hz1 : (⟨#[97, 98, 32]⟩ : ByteArray).size + (⟨(c :: r).toArray⟩ : ByteArray).size ≤ 9223372036854775807 := by simp [ByteArray.size] at *; omega
        have hp1 := fun W => run_string_add_sum (P := Try.prog) W ⟨#[97, 98, 32]⟩ ⟨(c :: r).toArray⟩ hz1
        have hsz : (⟨#[97, 98, 32]⟩ ++ ⟨(c :: r).toArray⟩ : ByteArray).size = 3 + (c :: r).length := by rw [ByteArray.size_append]; rfl
        have hsz2 : (⟨#[97, 98, 32]⟩ ++ ⟨(c :: r).toArray⟩ : ByteArray).size ≤ 100000 := by rw [hsz]; omega
        have hlb : lb (⟨#[97, 98, 32]⟩ ++ ⟨(c :: r).toArray⟩) = [97, 98, 32] ++ (c :: r) := lb_append _ _
        have hscan := plain_at HD.out (by simp)
        have HSZ := hide hsz
        clear hz1
        by_cases hbig : A ≤ 1000000000000
        · rw [if_pos hbig] at hscan
          have HA := hide (fun W => all_good (⟨#[97, 98, 32]⟩ ++ ⟨(c :: r).toArray⟩) _ (by rw [hlb]; exact hscan) hsz2 W)
          rw [← hsz] at HA
          have hb3 : n / 2 ≤ 1000000000000 := by omega
          have hb4 : -1000000000000 ≤ n / 2 := by omega
          clear hscan hlb hgo HD hsz hsz2 hDl
          generalize (⟨#[97, 98, 32]⟩ ++ ⟨(c :: r).toArray⟩ : ByteArray) = Z at *
          rw [← hMA] at HA
          go_wp2_with fail
          refine (unhide HA _).mono ?_
          rintro e w3 ⟨a, ca, rfl, ht, hc1, hc2, hb5⟩
          obtain ⟨b, off, rfl, _, _, c12, c13⟩ := ht.at (i := 1) (by simp)
          obtain ⟨b2, off2, e1, _, _, _, c23⟩ := ht.at (i := 2) (by simp)
          cases e1
          simp at c12 c13 c23
          clear ht
          go_wp2
          go_ret
          exact ⟨rfl, (hb1.trans (hb2.mono hb1.size)).trans (hb5.mono (Nat.le_trans hb1.size hb2.size))⟩
        · rw [if_neg hbig] at hscan
          have HA := hide (fun W => all_bad (⟨#[97, 98, 32]⟩ ++ ⟨(c :: r).toArray⟩) _ _ (by rw [hlb]; exact hscan) hsz2 W)
          have hb3 : 1000000000000 < n / 2 := by omega
          clear hscan hlb hgo HD hsz hsz2 hDl
          generalize (⟨#[97, 98, 32]⟩ ++ ⟨(c :: r).toArray⟩ : ByteArray) = Z at *
          go_wp2_with fail
          refine (unhide HA _).mono ?_
          rintro e w3 ⟨rfl, hb5⟩
          go_wp2
          go_ret
          exact ⟨rfl, (hb1.trans (hb2.mono hb1.size)).trans (hb5.mono (Nat.le_trans hb1.size hb2.size))⟩

set_option maxRecDepth 100000 in
theorem lifted (os : Os) (started : os.Started) (H : Type) (enc : TypeId × Value → H) :
    ReturnsInHanded {} Try.checked os 6 .any (Rows.scanNumbersSpec.pre6 enc Try.prog Try.f6 Rows.scanNumbersRow.domain false) (Rows.scanNumbersSpec.post enc Try.prog Try.f6 false true false false) := by
  refine returnsInHanded_of_change (C := Try.checked) own started (by kernel_rfl) Try.func6
    (ChangeSpec.witness6 (enc := enc) (C := Try.checked) false ⟨#[], #[.int .i64 0], []⟩ 8 (by kernel_rfl) (by kernel_rfl) (by kernel_rfl) (by kernel_rfl)) ?_
  intro W base args ds gs before hval0 hW hcnd _
  have hval : ∀ (j : Nat) t v, Try.f6.params[j]? = some t → args[j]? = some v → Value.okWide Try.prog W .any base t v := hval0
  have hW' := hW
  obtain ⟨p, q, hA0, hV, rfl, hfz, hnd⟩ := hW
  have hA : DataW.TrodAll enc Try.prog W 0 (fun _ => true) true Try.f6.params.toList args.toList ds p := hA0
  rw [Try.params6] at hA hval
  obtain ⟨v0, vs0, d0, ds0, p0, q0, hargs, rfl, rfl, h0, r0⟩ := trodAll_cons hA
  obtain ⟨rfl, rfl, rfl⟩ := trodAll_nil r0
  obtain rfl : args = #[v0] := by cases args; simp_all
  obtain ⟨rfl, rfl⟩ := trodVars_none hV
  obtain ⟨l0, i0, m0⟩ := read_int h0 (hval 0 3 v0 rfl rfl)
  have lt0 : ∀ x ∈ p0, x.block < W.heap.size := by obtain ⟨m, hm⟩ := h0; exact DataW.trod_lt m _ _ _ hm
  clear hA0 hval0
  refine (walk i0 m0).mono fun e W' ⟨he, bel⟩ => ?_
  subst he
  exact ⟨_, rfl, _, _, _, [], _, [], hW', trodAll_mk1 (shut_bool Try.underlying4 _), (trodAll_cons_mk (Below.trod laidOut (by kernel_rfl) (of_decide_eq_true (by kernel_rfl)) h0 bel lt0) trodAll_mk0), rfl, bel.frame _, fun h => by cases h⟩

theorem over : Rows.scanNumbersRow.holds Try.pinned (OpenSpec.ofChange Rows.scanNumbersSpec) :=
  OpenClaim.holds_of_wide 6 Try.f6 rfl rfl rfl rfl rfl rfl rfl ⟨rfl, rfl, rfl, rfl, rfl⟩ rfl rfl rfl rfl rfl (by kernel_rfl) Try.func6 (by kernel_rfl)
    (of_decide_eq_true (by kernel_rfl)) (by unfold Func.isWrapper; first | (rw [if_pos (by decide +kernel)]; kernel_rfl) | (rw [if_neg (by decide +kernel)]; exact ⟨rfl, rfl⟩))
    (fun os started H enc _ => lifted os started H enc)

/-- The statement. -/
theorem proved : Rows.ScanNumbersSaid := over

#print axioms proved
end Go.Proofs.Ytehoepliiobliaa.scanNumbers
