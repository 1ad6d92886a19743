/-
  Proved: InstEmpty answers true for every row of bytes, and leaves what was handed in as it was. No condition.
-/
import Derived.Test.YtoiokplgkanepaaDoorPrintB
import Derived.Deep.RegionHeld3
import Derived.Test.YtoiokplgkanepaaDoorTie
import Derived.Test.YtoiokplgkanepaaDoorCards
import Derived.ProofKit
import Derived.OpenShut
import Derived.ShutString
import Derived.ChangeOld
import Derived.LaidMore
import Derived.Stop.Joined
import Derived.SevenTiedAt
namespace Go.Proofs.YtoiokplgkanepaaDoor
open Go.RowKit
set_option linter.unusedVariables false
set_option linter.unusedSimpArgs false
set_option maxRecDepth 20000

/-- Itoa tells n as dec n, whenever the words lie where they lie. -/
def Tells10 (dec : Int → Bytes) (n : Int) : Prop := ∀ W : World, Tabs W → Calls Tryd.prog 71 #[.int .i64 n] W fun e w' => e = .returned (.string ⟨(dec n).toArray⟩) ∧ Below W.heap.size W w'

def numsL (dec : Int → Bytes) (l : List Int) : Bytes := l.flatMap fun n => 32 :: dec n
theorem numsL_cons (dec : Int → Bytes) (n : Int) (l : List Int) : numsL dec (n :: l) = (32 :: dec n) ++ numsL dec l := by simp [numsL]

set_option maxHeartbeats 1000000 in
theorem numbers_any {dec : Int → Bytes} {l : List Int} {v : Value} {b : Nat} {t : Bytes} {w : World} (T : Tabs w) (hb0 : 0 < b) (h : Pr b t w) (hI : ∀ w', Below b w w' → Ints w' v l) (hd : ∀ n ∈ l, Tells10 dec n ∧ (dec n).length ≤ 20) (hl : t.length + l.length * 30 ≤ 10000000) :
    Calls Tryd.prog 41 #[.pointer (some ⟨b, 0, none⟩), v] w fun e w' => e = .returned (.tuple #[]) ∧ Pr b (t ++ numsL dec l) w' ∧ Below b w w' := by
  obtain ⟨a, ca, rfl, hla, hca⟩ := (hI w (Below.refl _ _)).form
  unfold maxLen at hca
  obtain ⟨X, hX⟩ : ∃ X, X = t ++ numsL dec l := ⟨_, rfl⟩
  rw [← hX]
  have HX : Hid (X = t ++ numsL dec (l.drop 0)) := hide hX
  have HP := hide h
  have HI := hide hI
  have HD := hide hd
  have HT := hide T
  clear hX h hI hd T
  go_enter Tryd.func41, Tryd.ntmps41
  go_wp2
  go_loopw [8] (fun i wr => ∃ (k : Nat) (u : Bytes), k ≤ l.length ∧ i = .int .i64 k ∧ Pr b u wr ∧ Below b w wr ∧ u.length + (l.length - k) * 30 ≤ 10000000 ∧ Hid (X = u ++ numsL dec (l.drop k))) (fun i _ => l.length - (intOf i).toNat)
  case atStart => exact ⟨0, t, Nat.zero_le _, rfl, unhide HP, Below.refl _ _, by simpa using hl, HX⟩
  case round =>
    clear HX HP
    obtain ⟨k, u, hk, rfl, hp, hb, hul, HX⟩ := hrel
    rename World => wr
    by_cases hlt : k < l.length
    · have hX := HX.out
      rw [List.drop_eq_getElem_cons hlt, numsL_cons] at hX
      obtain ⟨bb, oo, rfl, hc⟩ := (unhide HI wr hb).at hlt
      obtain ⟨hd1, hd2⟩ := unhide HD _ (List.getElem_mem hlt)
      generalize l[k] = n at *
      have HW := hide (writeByte_any 32 hp (by omega))
      have HB := hide hb
      have HX1 : Hid (X = (u ++ [32] ++ dec n) ++ numsL dec (l.drop (k + 1))) := hide (by rw [hX]; simp)
      have HIT := hide hd1
      have hbl := hp.lt
      clear hX HX hp hb hd1
      go_wp2_with fail
      refine (unhide HW).mono ?_
      rintro e w1 ⟨rfl, hp1, hb1⟩
      have hp2 := hp1.kept (Below.drewN w1 1)
      have hB1 := (unhide HB).trans hb1
      have HT1 : Hid (Tabs w1.drew) := hide (fun i hi => by
        have h0 := unhide HT i hi
        have : w1.cell? ⟨0, i, none⟩ = some (.string ⟨wordsL[i].toArray⟩) := by rw [hB1.cell (by exact hb0)]; exact h0
        exact this)
      have HIT1 := hide (unhide HIT _ (unhide HT1))
      have HP2 := hide hp2
      have HB1 := hide hB1
      clear hp1 hb1 hp2 hB1 HW
      go_wp2
      refine wp_region_held (S := fun _ => True ∧ True) (by kernel_rfl) ?_
      have hS0 : True ∧ True := ⟨trivial, trivial⟩
      refine wpAnyH_take (i := 0) (v := ?_) rfl (by kernel_rfl) (by kernel_rfl) (by kernel_rfl) (fun _ _ _ h => h) (Or.inl ⟨by kernel_rfl, ?_⟩) (by assumption) ?_
      rotate_left
      · intro W hSW; obtain ⟨_, _⟩ := hSW; go_simp; first | done | rfl
      simp only [Act.put, List.setIfInBounds_toArray, List.set_cons_zero, List.set_cons_succ]
      refine wpAnyH_take (i := 1) (v := ?_) rfl (by kernel_rfl) (by kernel_rfl) (by kernel_rfl) (fun _ _ _ h => h) (Or.inl ⟨by kernel_rfl, ?_⟩) (by assumption) ?_
      rotate_left
      · intro W hSW; obtain ⟨_, _⟩ := hSW; go_simp; first | done | rfl
      simp only [Act.put, List.setIfInBounds_toArray, List.set_cons_zero, List.set_cons_succ]
      refine wpAnyH_take (i := 2) (v := ?_) rfl (by kernel_rfl) (by kernel_rfl) (by kernel_rfl) (fun _ _ _ h => h) (Or.inl ⟨by kernel_rfl, ?_⟩) (by assumption) ?_
      rotate_left
      · intro W hSW; obtain ⟨_, _⟩ := hSW; go_simp; first | done | rfl
      simp only [Act.put, List.setIfInBounds_toArray, List.set_cons_zero, List.set_cons_succ]
      refine wpAnyH_take (i := 3) (v := ?_) rfl (by kernel_rfl) (by kernel_rfl) (by kernel_rfl) (fun _ _ _ h => h) (Or.inl ⟨by kernel_rfl, ?_⟩) (by assumption) ?_
      rotate_left
      · intro W hSW; obtain ⟨_, _⟩ := hSW; go_simp; first | done | rfl
      simp only [Act.put, List.setIfInBounds_toArray, List.set_cons_zero, List.set_cons_succ]
      refine held_one (i := 4) (by kernel_rfl) rfl (by kernel_rfl) (fun K hK => ?_)
      go_simp
      refine (unhide HIT1).mono ?_
      rintro e w2 ⟨rfl, hb2⟩
      have hp3 := (unhide HP2).kept hb2
      have HWS := hide (writeString_any ⟨(dec n).toArray⟩ hp3 (by
        show (u ++ [32]).length + (⟨(dec n).toArray⟩ : ByteArray).size ≤ 100000000
        have : (⟨(dec n).toArray⟩ : ByteArray).size = (dec n).length := by simp [ByteArray.size]
        rw [this]
        simp
        omega))
      have hB2 : Below b w w2 := ((unhide HB1).trans ((Below.drewN w1 1).mono (Nat.le_of_lt (unhide HP2).lt))).trans (hb2.mono (Nat.le_of_lt (unhide HP2).lt))
      have HB2 := hide hB2
      refine hK.out _ _ ⟨trivial, trivial⟩ ?_
      clear hK K hp3 hb2 hB2
      try simp only [Act.put, List.setIfInBounds_toArray, List.set_cons_zero, List.set_cons_succ]
      refine held_one (i := 5) (by kernel_rfl) rfl (by kernel_rfl) (fun K hK => ?_)
      go_simp
      refine (unhide HWS).mono ?_
      rintro e w3 ⟨⟨m, rfl⟩, hp4, hb4⟩
      refine hK.out _ _ ⟨trivial, trivial⟩ (wpAnyH_done (by kernel_rfl) ?_ _)
      have HP4 : Hid (Pr b (u ++ [32] ++ dec n) w3) := hide (by simpa [lb] using hp4)
      have HB4 := hide ((unhide HB2).trans hb4)
      clear hK K hp4 hb4 HWS hS0
      try simp only [Act.put, List.setIfInBounds_toArray, List.set_cons_zero, List.set_cons_succ]
      go_wp2
      go_roundw
      case rel => exact ⟨k + 1, u ++ [32] ++ dec n, by omega, by go_num, unhide HP4, unhide HB4, by simp; omega, HX1⟩
      case measure => simp [intOf]; omega
    · have hX := HX.out
      rw [List.drop_eq_nil_of_le (by omega)] at hX
      have HX2 : Hid (X = u) := hide (by rw [hX]; simp [numsL])
      have HP := hide hp
      have HB := hide hb
      clear hX HX hp hb
      go_wp2
      first | go_end0 | skip
      exact ⟨rfl, by rw [unhide HX2]; exact unhide HP, unhide HB⟩

set_option maxHeartbeats 1000000 in
theorem prEnd_any {b : Nat} {t : Bytes} {w : World} (h : Pr b t w) (hl : t.length ≤ 10000000) :
    Calls Tryd.prog 19 #[.pointer (some ⟨b, 0, none⟩)] w fun e w' => e = .returned (.tuple #[]) ∧ Pr b (t ++ [59, 10]) w' ∧ Below b w w' := by
  have HW := hide (writeString_any ⟨#[59, 10]⟩ h (by show t.length + 2 ≤ 100000000; omega))
  clear h
  go_enter Tryd.func19, Tryd.ntmps19
  go_wp2_with fail
  refine (unhide HW).mono ?_
  rintro e w1 ⟨⟨n, rfl⟩, hp, hb⟩
  go_wp2
  first | go_end0 | skip
  exact ⟨rfl, hp, hb⟩

end Go.Proofs.YtoiokplgkanepaaDoor

namespace Go.Proofs.YtoiokplgkanepaaDoor
open Go.RowKit
set_option linter.unusedVariables false
set_option linter.unusedSimpArgs false
set_option maxRecDepth 20000

theorem words_le : ∀ i (h : i < wordsL.length), wordsL[i].length ≤ 6 := by decide

theorem below_draw {b : Nat} {w w1 : World} (hbl : b < w.heap.size) (hb : Below b (w.drewN 1) w1) : Below b w w1 := ((Below.drewN w 1).mono (Nat.le_of_lt hbl)).trans hb

set_option maxHeartbeats 400000 in
theorem begin_any {dec : Int → Bytes} {l : List Int} {v : Value} {b : Nat} {t : Bytes} {w : World} (j : Nat) (hj : j < wordsL.length) (T : Tabs w) (hb0 : 0 < b) (h : Pr b t w) (hI : ∀ w', Below b w w' → Ints w' v l) (hd : ∀ n ∈ l, Tells10 dec n ∧ (dec n).length ≤ 20) (hl : t.length + 6 + l.length * 30 ≤ 10000000) :
    Calls Tryd.prog 18 #[.pointer (some ⟨b, 0, none⟩), .int .i64 (j : Int), v] w fun e w' => e = .returned (.tuple #[]) ∧ Pr b (t ++ wordsL[j] ++ numsL dec l) w' ∧ Below b w w' := by
  have hj11 : j < 11 := hj
  have hj0 : (0 : Int) ≤ (j : Int) := by omega
  have hj1 : (j : Int) < 11 := by omega
  have hj2 : (j : Int) ≤ 10 := by omega
  have hj3 : ¬ (11 : Int) ≤ (j : Int) := by omega
  have hj4 : ¬ 11 ≤ j := by omega
  have hw := words_le j hj
  have hcw := T j hj
  have hp1 := h.kept (Below.drewN w 1)
  have HW := hide (writeString_any ⟨wordsL[j].toArray⟩ hp1 (by
    have : (⟨wordsL[j].toArray⟩ : ByteArray).size = wordsL[j].length := by simp [ByteArray.size]
    rw [this]; omega))
  have HI := hide hI
  have HD := hide hd
  have HT := hide T
  have hS0 : w.drew.cell? ⟨0, j, none⟩ = some (.string ⟨wordsL[j].toArray⟩) ∧ True := ⟨hcw, trivial⟩
  have hbl := h.lt
  have hform := (hI w (Below.refl _ _)).form
  obtain ⟨a, ca, rfl, hla, hca⟩ := hform
  generalize wordsL[j] = wd at *
  clear h hI hd T hp1 hcw
  go_enter Tryd.func18, Tryd.ntmps18
  go_wp2
  have hc0 := hS0.1
  clear hS0
  go_region_held3 (fun U => U.cell? ⟨0, j, none⟩ = some (.string ⟨wd.toArray⟩))
    (first | exact hq1 | exact hc0)
    (first
      | (go_at_call 40; refine (unhide HW).mono ?_; rintro e w1 ⟨⟨n, rfl⟩, hp, hb⟩; have hB1 := below_draw hbl hb; have hq1 := (hB1.cell (p := ⟨0, j, none⟩) hb0).trans hc0))
  have hT1 : Tabs w1 := fun i hi => by rw [hB1.cell (by exact hb0)]; exact unhide HT i hi
  have hp2 : Pr b (t ++ wd) w1 := by simpa [lb] using hp
  have HN := hide (numbers_any hT1 hb0 hp2 (fun w' hb' => unhide HI w' (hB1.trans hb')) (unhide HD) (by simp; omega))
  have HB1 := hide hB1
  clear hp hb hp2 hT1 hB1 HW hq1 hc0
  go_wp2_with fail
  refine (unhide HN).mono ?_
  rintro e w2 ⟨rfl, hp3, hb3⟩
  go_wp2
  first | go_end0 | skip
  exact ⟨rfl, hp3, (unhide HB1).trans hb3⟩

set_option maxHeartbeats 1000000 in
theorem prHard_plain {dec : Int → Bytes} {k : Nat} (h3 : 3 ≤ k) (h5 : k ≤ 5) {l : List Int} {sv : Value} {b : Nat} {t : Bytes} {w : World} {ra aa : Option Addr} {rn an rc ac : Nat} (hk : k < wordsL.length) (T : Tabs w) (hb0 : 0 < b) (h : Pr b t w) (hI : ∀ w', Below b w w' → Ints w' sv l) (hd : ∀ n ∈ l, Tells10 dec n ∧ (dec n).length ≤ 20) (hl : t.length + 6 + l.length * 30 ≤ 1000000) :
    Calls Tryd.prog 20 #[.pointer (some ⟨b, 0, none⟩), .agg #[.int .i64 (k : Int), sv, .slice ra rn rc, .slice aa an ac]] w fun e w' => e = .returned (.tuple #[]) ∧ Pr b (t ++ wordsL[k] ++ numsL dec l ++ [59, 10]) w' ∧ Below b w w' := by
  obtain ⟨a, ca, rfl, hla, hca⟩ := (hI w (Below.refl _ _)).form
  have hbl := h.lt
  have hb1 := (Below.refl w.heap.size w).alloc (Nat.le_refl _) (.cells #[.int .i64 (k : Int), .slice a l.length ca, .slice ra rn rc, .slice aa an ac] 42)
  have hB1 : Below b w (w.alloc (.cells #[.int .i64 (k : Int), .slice a l.length ca, .slice ra rn rc, .slice aa an ac] 42)) := hb1.mono (Nat.le_of_lt hbl)
  have hw := words_le k hk
  have HBG := hide (begin_any k hk (T.below hb1) hb0 (h.kept hb1) (fun w' hb' => hI w' (hB1.trans hb')) hd (by omega))
  have HHR := hide (fun W => hasRows_any k W)
  rw [show decide (k = 1 ∨ k = 2) = false by simp; omega] at HHR
  have k6 : ((k : Int) == 6) = false := by rw [beq_eq_false_iff_ne]; omega
  have hnl : (numsL dec l).length ≤ l.length * 30 := by
    have : ∀ m : List Int, (∀ n ∈ m, (dec n).length ≤ 20) → (numsL dec m).length ≤ m.length * 30 := by
      intro m
      induction m with
      | nil => simp [numsL]
      | cons n m ih =>
        intro hm
        rw [numsL_cons]
        have h1 := hm n (by simp)
        have h2 := ih (fun x hx => hm x (by simp [hx]))
        simp
        omega
    exact this l (fun n hn => (hd n hn).2)
  have HB1 := hide hB1
  generalize wordsL[k] = wd at *
  generalize numsL dec l = nl at *
  clear h hI hd T hb1 hB1 h3 h5 hk
  go_enter Tryd.func20, Tryd.ntmps20
  go_wp2_with fail
  refine (unhide HHR _).mono ?_
  rintro e w2 ⟨rfl, rfl⟩
  go_wp2_with fail
  refine (unhide HBG).mono ?_
  rintro e w3 ⟨rfl, hp3, hb3⟩
  have HE := hide (prEnd_any hp3 (by simp; omega))
  have HB3 := hide ((unhide HB1).trans hb3)
  clear hp3 hb3
  go_wp2_with fail
  refine (unhide HE).mono ?_
  rintro e w4 ⟨rfl, hp4, hb4⟩
  go_wp2
  first | go_end0 | skip
  exact ⟨rfl, hp4, (unhide HB3).trans hb4⟩

end Go.Proofs.YtoiokplgkanepaaDoor

namespace Go.Proofs.YtoiokplgkanepaaDoor
open Go.RowKit
set_option linter.unusedVariables false
set_option linter.unusedSimpArgs false
set_option maxRecDepth 20000

def domT (dec : Int → Bytes) (d : List Int) : Bytes := [118, 97, 114] ++ numsL dec d ++ [59, 10]
def conT (dec : Int → Bytes) (c : Con) : Bytes := wordsL.getD c.kind.toNat [] ++ numsL dec c.scope ++ [59, 10]
def domsT (dec : Int → Bytes) (l : List (List Int)) : Bytes := l.flatMap (domT dec)
def consT (dec : Int → Bytes) (l : List Con) : Bytes := l.flatMap (conT dec)
/-- The text of a plain instance. -/
def textP (dec : Int → Bytes) (x : Ins) : Bytes := domsT dec x.doms ++ consT dec x.hard
theorem domsT_cons (dec : Int → Bytes) (d : List Int) (l : List (List Int)) : domsT dec (d :: l) = domT dec d ++ domsT dec l := by simp [domsT]
theorem consT_cons (dec : Int → Bytes) (c : Con) (l : List Con) : consT dec (c :: l) = conT dec c ++ consT dec l := by simp [consT]

theorem numsL_len {dec : Int → Bytes} (m : List Int) (h : ∀ n ∈ m, (dec n).length ≤ 20) : (numsL dec m).length ≤ m.length * 30 := by
  induction m with
  | nil => simp [numsL]
  | cons n m ih =>
    rw [numsL_cons]
    have h1 := h n (by simp)
    have h2 := ih (fun x hx => h x (by simp [hx]))
    simp
    omega

set_option maxHeartbeats 1000000 in
theorem print_plain {dec : Int → Bytes} {x : Ins} {v : Value} {w : World} (h : InsV w v x) (hx : PlainI x) (T : Tabs w) (h0 : x.doms ≠ [])
    (hd : ∀ d ∈ x.doms, d.length ≤ 16 ∧ ∀ n ∈ d, Tells10 dec n ∧ (dec n).length ≤ 20) (hc : ∀ c ∈ x.hard, c.scope.length ≤ 6 ∧ ∀ n ∈ c.scope, Tells10 dec n ∧ (dec n).length ≤ 20) :
    Calls Tryd.prog 10 #[v] w fun e w' => e = .returned (.string ⟨(textP dec x).toArray⟩) ∧ Below w.heap.size w w' := by
  have HR0 := hide (fun W (hb : Below w.heap.size w W) => right_plain (h.below hb) hx)
  obtain ⟨dv, hv, sv, rfl, hdo, ⟨qs, q1, q2, q3, q4⟩, us, s1, s2, s3, s4⟩ := h
  have hs0 := hx.s1
  obtain ⟨da, dc, rfl, hdl, hdc⟩ := hdo.form
  obtain ⟨ha, hcc, rfl, hhl, hhc⟩ := q1.form
  obtain ⟨sa, sc, rfl, hsl, hsc⟩ := s1.form
  unfold maxLen at hdc hhc hsc
  have hu0 : us.length = 0 := by rw [s3, hs0]; rfl
  rw [hu0] at HR0 ⊢
  have hb0 := (Below.refl w.heap.size w).alloc (Nat.le_refl _) (.cells #[.slice da x.doms.length dc, .slice ha qs.length hcc, .slice sa 0 sc] 27)
  have x0 := Box3.new 27 w (.slice da x.doms.length dc) (.slice ha qs.length hcc) (.slice sa 0 sc)
  have HR1 := hide (unhide HR0 _ hb0)
  have HDO := hide (fun W (hb : Below w.heap.size w W) => hdo.tups.below hb)
  have HHQ := hide (fun W (hb : Below w.heap.size w W) => (q1.keptO q2 (grown_below hb none) (fun b e => by cases e) : SeqQ W (.slice ha qs.length hcc) qs))
  have HHC := hide (fun W (hb : Below w.heap.size w W) i hi hi' => (q4 i hi hi').kept (grown_below hb none) (fun b e => by cases e))
  have HQ3 := hide q3
  have HPL := hide hx
  have HD := hide hd
  have HC := hide hc
  have HT := hide T
  have X0 := hide x0
  have HB0 := hide hb0
  have H0 := hide h0
  have n1 : x.doms.length ≤ 40 := hx.d1
  have n2 : x.hard.length ≤ 200 := hx.h1
  clear HR0 hdo q1 q2 q3 q4 s1 s2 s3 s4 hx hs0 hu0 hb0 x0 hd hc T h0
  obtain ⟨X, hX⟩ : ∃ X, X = textP dec x := ⟨_, rfl⟩
  rw [← hX]
  have HXT := hide hX
  clear hX
  go_enter Tryd.func10, Tryd.ntmps10
  go_wp2_with fail
  refine (unhide HR1).mono ?_
  rintro e w1 ⟨rfl, hb1⟩
  have x1 := (unhide X0).keep (grown_below hb1 none) (by simp)
  have hB1 := below_then (unhide HB0) hb1
  have hp := Pr.new w1
  have hb2 := (Below.refl w1.heap.size w1).alloc (Nat.le_refl _) (.cells #[.pointer none, .slice none 0 0] 63)
  have x2 := x1.keep (grown_below hb2 none) (by simp)
  have c0 := x2.cell0; have c1 := x2.cell1; have c2 := x2.cell2
  have X2 := hide x2
  have HP := hide hp
  have HB2 := hide (below_then hB1 hb2)
  have hw1 : w.heap.size < w1.heap.size := x1.lt
  clear x1 x2 hp hb2 hB1 hb1 X0 HB0 HR1
  have hxl := (unhide X2).lt
  go_wp2
  clear c0 c1 c2
  generalize w1.alloc (.cells #[.pointer none, .slice none 0 0] 63) = W at *
  generalize w1.heap.size = b at *
  have hb0 : 0 < b := by omega
  have HTb : Hid (∀ U, Below b W U → Tabs U) := hide (fun U hb i hi => by
    have h0 := ((unhide HT).below (unhide HB2)) i hi
    rw [hb.cell (by exact hb0)]; exact h0)
  have HBw : Hid (∀ U, Below b W U → Below w.heap.size w U) := hide (fun U hb => (unhide HB2).trans (hb.mono (by omega)))
  have HXb : Hid (∀ U, Below b W U → Box3 27 U w.heap.size (.slice da x.doms.length dc) (.slice ha qs.length hcc) (.slice sa 0 sc)) := hide (fun U hb => by
    have h := unhide X2
    unfold Box3 at h ⊢
    rw [hb.block _ hw1]; exact h)
  have HX : Hid (X = [] ++ domsT dec (x.doms.drop 0) ++ consT dec x.hard) := hide (by rw [unhide HXT]; rfl)
  have HNE : Hid (X ≠ [] ∧ True) := hide ⟨by
    rw [unhide HXT]
    unfold textP
    cases hd : x.doms with
    | nil => exact absurd hd (unhide H0)
    | cons d l => rw [domsT_cons, domT]; simp, trivial⟩
  clear HXT
  go_loopw [18] (fun i wr => ∃ (k : Nat) (u : Bytes), k ≤ x.doms.length ∧ i = .int .i64 k ∧ Pr b u wr ∧ Below b W wr ∧ u.length ≤ k * 600 ∧ Hid (X = u ++ domsT dec (x.doms.drop k) ++ consT dec x.hard)) (fun i _ => x.doms.length - (intOf i).toNat)
  case atStart => exact ⟨0, [], Nat.zero_le _, rfl, unhide HP, Below.refl _ _, by simp, HX⟩
  case round =>
    clear HX HP
    obtain ⟨k, u, hk, rfl, hp, hb, hul, HX⟩ := hrel
    rename World => wr
    have hbl := hp.lt
    by_cases hlt : k < x.doms.length
    · have hX := HX.out
      rw [List.drop_eq_getElem_cons hlt, domsT_cons] at hX
      obtain ⟨bb, oo, dvv, hda, hcell, hints⟩ := (unhide HDO w (Below.refl _ _)).at hlt
      have hc1 := Below.cell_of (unhide HBw wr hb) hcell
      obtain ⟨hd1, hd2⟩ := unhide HD _ (List.getElem_mem hlt)
      have hnl := numsL_len (dec := dec) x.doms[k] (fun n hn => (hd2 n hn).2)
      have HBG := hide (begin_any 0 (by decide) (unhide HTb wr hb) hb0 hp (fun w' hb' => hints.below (unhide HBw w' (hb.trans hb'))) hd2 (by omega))
      obtain ⟨ea, ec, rfl, _, _⟩ := hints.form
      subst hda
      have HX1 : Hid (X = (u ++ domT dec x.doms[k]) ++ domsT dec (x.doms.drop (k + 1)) ++ consT dec x.hard) := hide (by rw [hX]; simp)
      have e0 : wordsL[0] = [118, 97, 114] := rfl
      rw [e0] at HBG
      have HDT : Hid (u ++ [118, 97, 114] ++ numsL dec x.doms[k] ++ [59, 10] = u ++ domT dec x.doms[k] ∧ (u ++ domT dec x.doms[k]).length ≤ (k + 1) * 600) := hide ⟨by simp [domT], by simp [domT]; omega⟩
      generalize domT dec x.doms[k] = dt at *
      generalize numsL dec x.doms[k] = nl at *
      generalize x.doms[k].length = dn at *
      have HB := hide hb
      clear hX HX hp hb hcell hints hd2
      go_wp2_with fail
      refine (unhide HBG).mono ?_
      rintro e w3 ⟨rfl, hp3, hb3⟩
      have HE := hide (prEnd_any hp3 (by simp; omega))
      have HB3 := hide ((unhide HB).trans hb3)
      clear hp3 hb3
      go_wp2_with fail
      refine (unhide HE).mono ?_
      rintro e w4 ⟨rfl, hp4, hb4⟩
      rw [(unhide HDT).1] at hp4
      have HP4 := hide hp4
      have HB4 := hide ((unhide HB3).trans hb4)
      clear hp4 hb4 HE HBG
      go_wp2
      go_roundw
      case rel => exact ⟨k + 1, u ++ dt, by omega, by go_num, unhide HP4, unhide HB4, (unhide HDT).2, HX1⟩
      case measure => simp [intOf]; omega
    · have hX := HX.out
      rw [List.drop_eq_nil_of_le (by omega)] at hX
      have HX2 : Hid (X = u ++ consT dec (x.hard.drop 0)) := hide (by rw [hX]; simp [domsT])
      have x3 := unhide HXb wr hb
      have c1 := x3.cell1
      have HP := hide hp
      have HB := hide hb
      have hul2 : u.length ≤ 24000 := by have : k * 600 ≤ 40 * 600 := Nat.mul_le_mul_right _ (by omega); omega
      clear hX HX hp hb x3 hul hbl
      go_wp2
      clear c1
      go_loopw [31] (fun i wr2 => ∃ (k : Nat) (u : Bytes), k ≤ qs.length ∧ i = .int .i64 k ∧ Pr b u wr2 ∧ Below b W wr2 ∧ u.length ≤ 24000 + k * 300 ∧ Hid (X = u ++ consT dec (x.hard.drop k))) (fun i _ => qs.length - (intOf i).toNat)
      case atStart => exact ⟨0, u, Nat.zero_le _, rfl, unhide HP, unhide HB, by omega, HX2⟩
      case round =>
        clear HX2 HP HB hul2
        obtain ⟨k2, u2, hk2, rfl, hp, hb, hul, HX⟩ := hrel
        rename World => wr2
        have hbl := hp.lt
        by_cases hlt2 : k2 < qs.length
        · have hkx : k2 < x.hard.length := by rw [← unhide HQ3]; exact hlt2
          have hX := HX.out
          rw [List.drop_eq_getElem_cons hkx, consT_cons] at hX
          obtain ⟨bb, oo, hha, k0, k1, k3, k4⟩ := (unhide HHQ wr2 (unhide HBw wr2 hb)).at hlt2
          have co := unhide HHC w (Below.refl _ _) k2 hlt2 hkx
          obtain ⟨kk, hkk, h3, h5, hr, har⟩ := ((unhide HPL).h2 _ (List.getElem_mem hkx)).1
          obtain ⟨hc1, hc2⟩ := unhide HC _ (List.getElem_mem hkx)
          have hnl := numsL_len (dec := dec) x.hard[k2].scope (fun n hn => (hc2 n hn).2)
          obtain ⟨q0, qb, qc, qd⟩ := co
          obtain ⟨e1, f1, g1, _, _⟩ := qb.1.form
          obtain ⟨e2, f2, g2, _, _⟩ := qc.form
          obtain ⟨e3, f3, g3, _, _⟩ := qd.1.form
          rw [q0, hkk] at k0
          rw [g1] at k1 qb
          rw [g2] at k3
          rw [g3] at k4
          have hkw : kk < wordsL.length := by show kk < 11; omega
          have hw6 := words_le kk hkw
          have HX1 : Hid (X = (u2 ++ conT dec x.hard[k2]) ++ consT dec (x.hard.drop (k2 + 1))) := hide (by rw [hX]; simp)
          have hwd : wordsL.getD x.hard[k2].kind.toNat [] = wordsL[kk] := by rw [hkk, Int.toNat_natCast, List.getD_eq_getElem?_getD, List.getElem?_eq_getElem hkw]; rfl
          have hdt : u2 ++ wordsL[kk] ++ numsL dec x.hard[k2].scope ++ [59, 10] = u2 ++ conT dec x.hard[k2] := by unfold conT; rw [hwd]; simp
          have hdl : (u2 ++ conT dec x.hard[k2]).length ≤ 24000 + (k2 + 1) * 300 := by rw [← hdt]; simp; omega
          have hbA := (Below.refl wr2.heap.size wr2).alloc (Nat.le_refl _) (.cells #[.int .i64 (kk : Int), .slice e1 x.hard[k2].scope.length f1, .slice e2 x.hard[k2].rows.length f2, .slice e3 x.hard[k2].args.length f3] 42)
          have hB2 := hb.trans (hbA.mono (Nat.le_of_lt hbl))
          have HPH := hide (prHard_plain (dec := dec) h3 h5 (ra := e2) (aa := e3) (rn := x.hard[k2].rows.length) (an := x.hard[k2].args.length) (rc := f2) (ac := f3) hkw (unhide HTb _ hB2) hb0 (hp.kept hbA) (fun w' hb' => qb.1.below (unhide HBw w' (hB2.trans hb'))) hc2 (by omega))
          rw [hdt] at HPH
          have HDL := hide hdl
          have HB := hide hB2
          subst hha
          generalize conT dec x.hard[k2] = ct at *
          generalize x.hard[k2].scope.length = n1' at *
          generalize x.hard[k2].rows.length = n2' at *
          generalize x.hard[k2].args.length = n3' at *
          clear hX HX hp hb q0 qb qc qd hbA hB2 hdt hdl hwd hc2 hkk hr har g1 g2 g3
          go_wp2_with fail
          refine (unhide HPH).mono ?_
          rintro e w4 ⟨rfl, hp4, hb4⟩
          have HP4 := hide hp4
          have HB4 := hide ((unhide HB).trans hb4)
          clear hp4 hb4 HPH
          go_wp2
          go_roundw
          case rel => exact ⟨k2 + 1, u2 ++ ct, by omega, by go_num, unhide HP4, unhide HB4, unhide HDL, HX1⟩
          case measure => simp [intOf]; omega
        · have hX := HX.out
          rw [List.drop_eq_nil_of_le (by have := unhide HQ3; omega)] at hX
          have hXu : X = u2 := by rw [hX]; simp [consT]
          have x3 := unhide HXb wr2 hb
          have c2 := x3.cell2
          have hne : u2 ≠ [] := by rw [← hXu]; exact (unhide HNE).1
          have hu3 : u2.length ≤ 100000 := by have : k2 * 300 ≤ qs.length * 300 := Nat.mul_le_mul_right _ hk2; have := unhide HQ3; omega
          have HST := hide (string_any hp hne (by omega))
          have HB := hide (unhide HBw wr2 hb)
          have HXU := hide hXu
          clear hX HX hp hb x3 hXu hne
          go_wp2
          go_loop [42] (fun i => i = .int .i64 0) (fun _ => 0)
          case atStart => rfl
          case round =>
            subst hrel
            go_wp2_with fail
            refine (unhide HST).mono ?_
            rintro e w5 ⟨rfl, hb5⟩
            go_wp2
            go_ret
            exact ⟨by rw [unhide HXU]; rfl, (unhide HB).trans (hb5.mono (by omega))⟩

theorem plain_nil : PlainI ⟨[], [], []⟩ := ⟨by simp, by simp, by simp, by simp, rfl⟩

set_option maxHeartbeats 1000000 in
theorem print_nil {v : Value} {w : World} (h : InsV w v ⟨[], [], []⟩) :
    Calls Tryd.prog 10 #[v] w fun e w' => e = .returned (.string ⟨#[]⟩) ∧ Below w.heap.size w w' := by
  have HR0 := hide (fun W (hb : Below w.heap.size w W) => right_plain (h.below hb) plain_nil)
  obtain ⟨dv, hv, sv, rfl, hdo, ⟨qs, q1, q2, q3, q4⟩, us, s1, s2, s3, s4⟩ := h
  obtain ⟨da, dc, rfl, hdl, hdc⟩ := hdo.form
  obtain ⟨ha, hcc, rfl, hhl, hhc⟩ := q1.form
  obtain ⟨sa, sc, rfl, hsl, hsc⟩ := s1.form
  simp only [List.length_nil] at *
  rw [q3, s3] at HR0 ⊢
  have hb0 := (Below.refl w.heap.size w).alloc (Nat.le_refl _) (.cells #[.slice da 0 dc, .slice ha 0 hcc, .slice sa 0 sc] 27)
  have x0 := Box3.new 27 w (.slice da 0 dc) (.slice ha 0 hcc) (.slice sa 0 sc)
  have HR1 := hide (unhide HR0 _ hb0)
  have X0 := hide x0
  have HB0 := hide hb0
  clear HR0 hdo q1 q2 q3 q4 s1 s2 s3 s4 hb0 x0
  go_enter Tryd.func10, Tryd.ntmps10
  go_wp2_with fail
  refine (unhide HR1).mono ?_
  rintro e w1 ⟨rfl, hb1⟩
  have x1 := (unhide X0).keep (grown_below hb1 none) (by simp)
  have hb2 := (Below.refl w1.heap.size w1).alloc (Nat.le_refl _) (.cells #[.pointer none, .slice none 0 0] 63)
  have x2 := x1.keep (grown_below hb2 none) (by simp)
  have c0 := x2.cell0; have c1 := x2.cell1; have c2 := x2.cell2
  have HST := hide (string_new (heap_alloc_new w1 (.cells #[.pointer none, .slice none 0 0] 63)))
  have HB2 := hide (below_then (below_then (unhide HB0) hb1) hb2)
  clear x1 x2 hb2 hb1 X0 HB0 HR1
  go_wp2
  generalize w1.alloc (.cells #[.pointer none, .slice none 0 0] 63) = W at *
  go_loop [18] (fun i => i = .int .i64 0) (fun _ => 0)
  case atStart => rfl
  case round =>
    subst hrel
    go_wp2
    go_loop [31] (fun i => i = .int .i64 0) (fun _ => 0)
    case atStart => rfl
    case round =>
      subst hrel
      go_wp2
      go_loop [42] (fun i => i = .int .i64 0) (fun _ => 0)
      case atStart => rfl
      case round =>
        subst hrel
        go_wp2_with fail
        refine (unhide HST).mono ?_
        rintro e w5 ⟨rfl, hb5⟩
        go_wp2
        go_ret
        exact ⟨rfl, below_then (unhide HB2) hb5⟩

end Go.Proofs.YtoiokplgkanepaaDoor

namespace Go.Proofs.YtoiokplgkanepaaDoor
open Go.RowKit
set_option linter.unusedVariables false
set_option linter.unusedSimpArgs false
set_option maxRecDepth 20000

abbrev txt1 : Bytes := [118, 97, 114, 32, 48, 32, 49, 59, 32, 100, 105, 102, 102, 32, 48, 59]
abbrev txt2 : Bytes := [118, 97, 114, 32, 48, 32, 49, 59, 32, 100, 105, 102, 102, 32, 49, 59]
abbrev txt3 : Bytes := [118, 97, 114, 32, 49, 32, 48, 59]
abbrev tks1 : List Tok := [⟨1, [118, 97, 114], 0, 0⟩, ⟨2, [], 0, 4⟩, ⟨2, [], 1, 6⟩, ⟨3, [59], 0, 7⟩, ⟨1, [100, 105, 102, 102], 0, 9⟩, ⟨2, [], 0, 14⟩, ⟨3, [59], 0, 15⟩, ⟨4, [], 0, 16⟩]
abbrev tks2 : List Tok := [⟨1, [118, 97, 114], 0, 0⟩, ⟨2, [], 0, 4⟩, ⟨2, [], 1, 6⟩, ⟨3, [59], 0, 7⟩, ⟨1, [100, 105, 102, 102], 0, 9⟩, ⟨2, [], 1, 14⟩, ⟨3, [59], 0, 15⟩, ⟨4, [], 0, 16⟩]
abbrev tks3 : List Tok := [⟨1, [118, 97, 114], 0, 0⟩, ⟨2, [], 1, 4⟩, ⟨2, [], 0, 6⟩, ⟨3, [59], 0, 7⟩, ⟨4, [], 0, 8⟩]
abbrev ins1 : Ins := ⟨[[0, 1]], [⟨3, [0], [], []⟩], []⟩
theorem sc1 : scanA 0 txt1 = .good tks1 := by decide
theorem sc2 : scanA 0 txt2 = .good tks2 := by decide
theorem sc3 : scanA 0 txt3 = .good tks3 := by decide
theorem ps1 : parseR tks1 = .ok ins1 [⟨4, [], 0, 16⟩] := by decide
theorem ps2 : parseR tks2 = .fault 14 5 := by decide
theorem ps3 : parseR tks3 = .fault 6 6 := by decide

theorem plain1 : PlainI ins1 := ⟨by decide, by
  intro d hd
  simp at hd
  subst hd
  exact ⟨by decide, by intro n hn; simp at hn; omega⟩, by decide, by
  intro c hc
  simp at hc
  subst hc
  exact ⟨⟨3, rfl, by omega, by omega, rfl, rfl⟩, by decide⟩, rfl⟩

def dec1 (n : Int) : Bytes := if n = 0 then [48] else [49]
theorem tells0 : Tells10 dec1 0 := fun W _ => itoa0 W
theorem tells1 : Tells10 dec1 1 := fun W _ => itoa1 W
theorem text1 : textP dec1 ins1 = [118, 97, 114, 32, 48, 32, 49, 59, 10, 100, 105, 102, 102, 32, 48, 59, 10] := by decide

set_option maxHeartbeats 2000000 in
theorem shown6_any (w : World) (T : Tabs w) : Calls Tryd.prog 7 #[] w fun e w' => e = .returned (.bool true) ∧ Below w.heap.size w w' := by
  have H1 := hide (parse_good ⟨txt1.toArray⟩ w T (by decide) sc1)
  have H2 := hide (fun W (hb : Below w.heap.size w W) => parse_good ⟨txt2.toArray⟩ W (T.below hb) (by decide) sc2)
  have H3 := hide (fun W (hb : Below w.heap.size w W) => parse_good ⟨txt3.toArray⟩ W (T.below hb) (by decide) sc3)
  rw [ps1] at H1
  rw [ps2] at H2
  rw [ps3] at H3
  have HT := hide T
  clear T
  go_enter Tryd.func7, Tryd.ntmps7
  go_wp2_with fail
  refine (unhide H1).mono ?_
  rintro e w1 ⟨⟨v, rfl, hv⟩, hb1⟩
  have HV := hide hv
  have hv0 := hv
  obtain ⟨dv, hh, sv, rfl, hdo, ⟨qs, q1, q2, q3, q4⟩, us, s1, s2, s3, s4⟩ := hv0
  obtain ⟨da, dc, rfl, _, _⟩ := hdo.form
  obtain ⟨ha, hc, rfl, _, _⟩ := q1.form
  obtain ⟨sa, sc, rfl, _, _⟩ := s1.form
  have hq1 : qs.length = 1 := q3
  have hu0 : us.length = 0 := s3
  obtain ⟨bb, oo, rfl, k0, kr⟩ := q1.at (i := 0) (by omega)
  clear kr
  have ka := (q4 0 (by omega) (by decide)).1
  rw [ka] at k0
  simp only [Nat.zero_mul, Nat.add_zero, List.getElem_cons_zero, List.length_cons, List.length_nil, Nat.zero_add] at k0 HV
  rw [hq1, hu0] at HV
  simp only [List.length_cons, List.length_nil, Nat.zero_add]
  rw [hq1, hu0]
  have hbA := (Below.refl w1.heap.size w1).alloc (Nat.le_refl _) (.cells #[.slice da 1 dc, .slice (some ⟨bb, oo, none⟩) 1 hc, .slice sa 0 sc] 27)
  have x1 := Box3.new 27 w1 (.slice da 1 dc) (.slice (some ⟨bb, oo, none⟩) 1 hc) (.slice sa 0 sc)
  have hB1 := below_then hb1 hbA
  have HP2 := hide (unhide H2 _ hB1)
  have HBA := hide hbA
  have HB1 := hide hB1
  have X1 := hide x1
  have K0 := hide k0
  clear hv hdo q1 q2 q3 q4 s1 s2 s3 s4 ka hq1 hu0 hbA hB1 x1 hb1 k0 H1 H2
  go_wp2_with fail
  refine (unhide HP2).mono ?_
  rintro e w2 ⟨rfl, hb2⟩
  have hbB := (Below.refl w2.heap.size w2).alloc (Nat.le_refl _) (.cells #[.slice none 0 0, .slice none 0 0, .slice none 0 0] 27)
  have hB2 := below_then (below_then (unhide HB1) hb2) hbB
  have HP3 := hide (unhide H3 _ hB2)
  have HB2 := hide hB2
  have HBB := hide (below_then hb2 hbB)
  clear hbB hB2 hb2 HP2
  go_wp2_with fail
  refine (unhide HP3).mono ?_
  rintro e w3 ⟨rfl, hb3⟩
  have hbC := (Below.refl w3.heap.size w3).alloc (Nat.le_refl _) (.cells #[.slice none 0 0, .slice none 0 0, .slice none 0 0] 27)
  have hB3 := below_then (below_then (unhide HB2) hb3) hbC
  have hBx := below_then (below_then (unhide HBB) hb3) hbC
  have x3 := (unhide X1).keep (grown_below hBx none) (by simp)
  have c0 := x3.cell0; have c1 := x3.cell1; have c2 := x3.cell2
  have c5 := Below.cell_of hBx (Below.cell_of (unhide HBA) (unhide K0))
  have hv3 := ((unhide HV).below (unhide HBA)).below hBx
  have HRT := hide (right_plain hv3 plain1)
  have HPT := hide (fun W hb => print_plain (dec := dec1) (w := W) (hv3.below hb) plain1 ((unhide HT).below (below_then hB3 hb)) (by simp) (by
    intro d hd
    simp at hd
    subst hd
    exact ⟨by simp, by intro n hn; simp at hn; rcases hn with rfl | rfl; exact ⟨tells0, by decide⟩; exact ⟨tells1, by decide⟩⟩) (by
    intro c hc
    simp at hc
    subst hc
    exact ⟨by simp, by intro n hn; simp at hn; subst hn; exact ⟨tells0, by decide⟩⟩))
  rw [text1] at HPT
  have HB3 := hide hB3
  have X3 := hide x3
  clear hbC hB3 hBx x3 hv3 HP3 hb3 HB1 HB2 HBA HBB X1 K0 HV
  go_wp2_with fail
  refine (unhide HRT).mono ?_
  rintro e w4 ⟨rfl, hb4⟩
  have x4 := (unhide X3).keep (grown_below hb4 none) (by simp)
  have d0 := x4.cell0; have d1 := x4.cell1; have d2 := x4.cell2
  clear c0 c1 c2 x4
  go_wp2_with fail
  refine (unhide HPT _ hb4).mono ?_
  rintro e w5 ⟨rfl, hb5⟩
  go_wp2
  go_ret
  exact ⟨rfl, below_then (below_then (unhide HB3) hb4) hb5⟩

set_option maxHeartbeats 1000000 in
theorem tuples_nil {a b : Option Addr} {c d : Nat} {w : World} : Calls Tryd.prog 16 #[.slice a 0 c, .slice b 0 d] w fun e w' => e = .returned (.bool true) ∧ w' = w := by
  go_enter Tryd.func16, Tryd.ntmps16
  go_wp2
  go_loop [5] (fun i => i = .int .i64 0) (fun _ => 0)
  case atStart => rfl
  case round =>
    subst hrel
    go_wp2
    go_ret
    exact ⟨rfl, rfl⟩

set_option maxHeartbeats 1000000 in
theorem same_nil {a1 a2 a3 b1 b2 b3 : Option Addr} {c1 c2 c3 d1 d2 d3 : Nat} {w : World} :
    Calls Tryd.prog 9 #[.agg #[.slice a1 0 c1, .slice a2 0 c2, .slice a3 0 c3], .agg #[.slice b1 0 d1, .slice b2 0 d2, .slice b3 0 d3]] w fun e w' => e = .returned (.bool true) ∧ Below w.heap.size w w' := by
  have HTU := hide (fun W => tuples_nil (a := a1) (b := b1) (c := c1) (d := d1) (w := W))
  have hbA := ((Below.refl w.heap.size w).alloc (Nat.le_refl _) (.cells #[.slice a1 0 c1, .slice a2 0 c2, .slice a3 0 c3] 27)).alloc (by simp) (.cells #[.slice b1 0 d1, .slice b2 0 d2, .slice b3 0 d3] 27)
  have HB := hide hbA
  clear hbA
  go_enter Tryd.func9, Tryd.ntmps9
  go_wp2_with fail
  refine (unhide HTU _).mono ?_
  rintro e w1 ⟨rfl, rfl⟩
  go_wp2
  go_loop [5] (fun i => i = .int .i64 0) (fun _ => 0)
  case atStart => rfl
  case round =>
    subst hrel
    go_wp2
    go_loop [8] (fun i => i = .int .i64 0) (fun _ => 0)
    case atStart => rfl
    case round =>
      subst hrel
      go_wp2
      go_ret
      exact ⟨rfl, unhide HB⟩

end Go.Proofs.YtoiokplgkanepaaDoor

namespace Go.Proofs.YtoiokplgkanepaaDoor
open Go.RowKit Go.ChangeShapes Go.WideShapes Go.ChangeAt Go.WideElems
set_option linter.unusedVariables false
set_option linter.unusedSimpArgs false
set_option maxRecDepth 100000

theorem own : ownKnob Tryd.prog.godebug = none := by kernel_rfl
theorem laidOut : laidOutB Tryd.prog = true := by kernel_rfl

/-- The listed variables. -/
abbrev laidIn : List (String × DataW Unit) := [("math/bits.deBruijn32tab", Rows.laid_math_bits_deBruijn32tab), ("math/bits.deBruijn64tab", Rows.laid_math_bits_deBruijn64tab), ("internal/strconv.uint64pow10", Rows.laid_internal_strconv_uint64pow10), ("arborist/inst.words", Rows.laid_arborist_inst_words)]
abbrev doorN : Nat := 2000

theorem door_met (os : Os) (args : Array Value) : laidMetH Tryd.prog laidIn ((World.doorLaid Tryd.prog doorN os).forCall (fun _ _ => 0) ⟨#[], args, []⟩).memory :=
  laidMetH_of_parts3 (fuel := 80) (laidMet_of_run' 80 (by kernel_rfl) (by kernel_rfl)) (by kernel_rfl) (by kernel_rfl)

theorem gWords : Tryd.prog.globalNamed "arborist/inst.words" = some 0 := by kernel_rfl
theorem tWords : (Tryd.prog.globals[0]?).map (·.type) = some 90 := by kernel_rfl
theorem uWords : Tryd.prog.underlying 90 = some (.array 11 9) := by kernel_rfl

/-- The words lie where the program has them. -/
theorem tabs_of {W : World} (h : laidMetH Tryd.prog laidIn W) : Tabs W := by
  rw [MakeChecks.laidMetH_plain _ _ _ (by kernel_rfl)] at h
  obtain ⟨ps, ⟨g0, t0, cs0, f0, p0, q0, hg0, ht0, hv0, hd0, ⟨g1, t1, cs1, f1, p1, q1, hg1, ht1, hv1, hd1, ⟨g2, t2, cs2, f2, p2, q2, hg2, ht2, hv2, hd2, ⟨g3, t3, cs3, f3, p3, q3, hg3, ht3, hv3, hd3, _, _⟩, _⟩, _⟩, _⟩, _, _⟩ := h
  obtain rfl := Option.some.inj (gWords.symm.trans hg3)
  obtain rfl := Option.some.inj (tWords.symm.trans ht3)
  obtain ⟨xs, m, rfl, hx, hlen, hn, hel⟩ := DataW.trod_array uWords hd3
  have c1 : Tryd.prog.cellsOf 9 = 1 := by kernel_rfl
  simp only [Prod.mk.injEq] at hx
  have hx1 := hx.1
  have e0 : Rows.laid_arborist_inst_words (H := Unit) = .agg (wordsL.map fun b => .lit (.string b)) := rfl
  rw [e0, DataW.agg.injEq] at hx1
  intro i hi
  have hi11 : i < 11 := hi
  have hxi : (xs.map (·.1))[i]? = some (.lit (.string wordsL[i])) := by rw [← hx1, List.getElem?_map, List.getElem?_eq_getElem hi]; rfl
  rw [List.getElem?_map] at hxi
  cases hxs : xs[i]? with
  | none => rw [hxs] at hxi; cases hxi
  | some y =>
    have h3 := hel i hi11
    rw [hxs] at h3 hxi
    obtain ⟨s, hs1, hs2, _⟩ := DataW.trod_string Tryd.underlying9 h3
    rw [c1, Nat.mul_one] at hs1
    simp only [Option.map_some, Option.some.injEq] at hxi
    rw [hs2] at hxi
    simp only [DataW.lit.injEq, Lit.string.injEq] at hxi
    have hc := World.var?_cell hg3 hv3 i
    have hci : cs3[i]? = some (.string s) := by
      have h5 : (cs3.toList.drop i).take 1 = [.string s] := hs1
      have h6 : (cs3.toList.drop i)[0]? = some (.string s) := by
        cases hl : cs3.toList.drop i with
        | nil => rw [hl] at h5; cases h5
        | cons a b => rw [hl] at h5; simp at h5; subst h5; rfl
      rw [List.getElem?_drop] at h6
      simpa using h6
    rw [hci] at hc
    rw [hc]
    exact congrArg (fun z => some (Value.string z)) (ba_of _ _ hxi)

theorem bytes_cells {w : World} {x : Addr} {len cap : Nat} {zs : List Int} (hl : len ≤ cap) (hm : cap ≤ maxLen) (hz : zs.length = cap) (hcell : ∀ i, i < zs.length → w.cell? (x.add i) = some (.int .u8 (zs.getD i 0))) (hwz : ∀ z ∈ zs, 0 ≤ z ∧ z ≤ 255) :
    Seq byC w (.slice (some x) len cap) ((zs.take len).map fun z => UInt8.ofNat z.toNat) := by
  have hspot : 0 < zs.length → x.spot = none := by
    intro h
    have := hcell 0 h
    simp only [Addr.add, if_true, World.cell?] at this
    split at this
    · split at this
      · cases this
      · rename_i hs; cases hx : x.spot with
        | none => rfl
        | some y => rw [hx] at hs; simp at hs
    · cases this
  refine ⟨some x, cap, by rw [List.length_map, List.length_take, Nat.min_eq_left (by omega)], by simp; omega, hm, by simp, ?_, fun i y hi => ⟨x, rfl, ?_⟩⟩
  · intro x' hx' hne
    cases hx'
    refine hspot ?_
    cases zs with
    | nil => simp at hne
    | cons _ _ => simp
  · have hil : i < len := by
      rcases Nat.lt_or_ge i len with h | h
      · exact h
      · rw [List.getElem?_eq_none (by simp; omega)] at hi; cases hi
    have := hcell i (by omega)
    rw [addr_add (hspot (by omega))] at this
    rw [List.getElem?_map, List.getElem?_take, if_pos hil] at hi
    cases hzi : zs[i]? with
    | none => rw [hzi] at hi; cases hi
    | some z =>
      rw [hzi] at hi
      simp only [Option.map_some, Option.some.injEq] at hi
      subst hi
      obtain ⟨h1, h2⟩ := hwz z (List.mem_of_getElem? hzi)
      rw [this, List.getD_eq_getElem?_getD, hzi]
      have h3 : ((UInt8.ofNat z.toNat).toNat : Int) = z := by rw [UInt8.toNat_ofNat']; omega
      show some (Value.int .u8 z) = some (byC (UInt8.ofNat z.toNat))
      unfold byC
      rw [h3]

theorem wf_byte {n : Int} (h : (Lit.int .u8 n).wf = true) : 0 ≤ n ∧ n ≤ 255 := by simpa [Lit.wf, IntKind.min, IntKind.max, IntKind.signed, IntKind.bits] using h

theorem read_bytes {H : Type} {enc : TypeId × Value → H} {W : World} {v : Value} {d : DataW H} {ps : List MemPlace} {base : Nat} {held : Bool} (h : DataW.Trod enc Tryd.prog W base (fun _ => true) held 38 v d ps) (hv : ∃ a n c, v = .slice a n c) :
    ∃ l : Bytes, Seq byC W v l := by
  obtain ⟨a, n, c, rfl⟩ := hv
  obtain ⟨fuel, hf⟩ := h
  rcases open_ints Tryd.underlying38 Tryd.underlying5 (by kernel_rfl) hf with ⟨hcs, _⟩ | ⟨x, l, c', zs, hcs, _, hl, hm, hz, _, hcell, hwz⟩
  · simp [Value.cells] at hcs
    obtain ⟨rfl, rfl, rfl⟩ := hcs
    exact ⟨[], Seq.nil _ _⟩
  · simp [Value.cells] at hcs
    obtain ⟨rfl, rfl, rfl⟩ := hcs
    exact ⟨_, bytes_cells hl hm (by simpa using hz) hcell (fun k hk => wf_byte (hwz k hk))⟩

theorem read_string {H : Type} {enc : TypeId × Value → H} {W : World} {v : Value} {d : DataW H} {ps : List MemPlace} {base b0 : Nat} {held : Bool} {r : Reach} (h : DataW.Trod enc Tryd.prog W base (fun _ => true) held 9 v d ps) (hv : Value.okWide Tryd.prog W r b0 9 v) :
    ∃ s : ByteArray, v = .string s ∧ s.size ≤ maxLen := by
  obtain ⟨s, hv, _, _, hs⟩ := Go.ChangeMaps.open_string Tryd.underlying9 hv h
  exact ⟨s, hv, hs⟩

def InI64 (n : Int) : Prop := -9223372036854775808 ≤ n ∧ n ≤ 9223372036854775807
theorem wf_in {n : Int} (h : (Lit.int .i64 n).wf = true) : InI64 n := by unfold InI64; simpa [Lit.wf, IntKind.min, IntKind.max, IntKind.signed, IntKind.bits] using h

theorem read_int {H : Type} {enc : TypeId × Value → H} {W : World} {v : Value} {d : DataW H} {ps : List MemPlace} {base b0 : Nat} {held : Bool} {r : Reach} (h : DataW.Trod enc Tryd.prog W base (fun _ => true) held 3 v d ps) (hv : Value.okWide Tryd.prog W r b0 3 v) :
    ∃ n, v = .int .i64 n ∧ InI64 n := by
  obtain ⟨n, hv, _, _, hw⟩ := open_int Tryd.underlying3 hv h
  exact ⟨n, hv, wf_in hw⟩

end Go.Proofs.YtoiokplgkanepaaDoor

namespace Go.Proofs.YtoiokplgkanepaaDoor.instEmpty
open Go.RowKit Go.ChangeShapes Go.WideShapes Go.ChangeAt
set_option linter.unusedVariables false
set_option linter.unusedSimpArgs false
set_option maxRecDepth 20000

/-- A text that is left out, whatever comes behind it. -/
def Blank (u : Bytes) : Prop := ∀ rest, skipN false (u ++ rest) = u.length + skipN false rest
theorem blank_nil : Blank [] := fun rest => by simp
theorem Blank.app {u v : Bytes} (h : Blank u) (k : Blank v) : Blank (u ++ v) := fun rest => by
  rw [List.append_assoc, h, k, List.length_append]; omega
theorem skip_cons (note : Bool) (c : UInt8) (r : Bytes) : skipN note (c :: r) = if c.toNat = 10 then skipN false r + 1 else if c.toNat = 35 then skipN true r + 1 else if c.toNat ≠ 32 ∧ c.toNat ≠ 9 ∧ note = false then 0 else skipN note r + 1 := rfl
theorem blank_space : Blank [32] := fun rest => by
  show skipN false (32 :: rest) = _
  rw [skip_cons]; simp; omega
theorem blank_line : Blank [10] := fun rest => by
  show skipN false (10 :: rest) = _
  rw [skip_cons]; simp; omega
theorem blank_tab : Blank [9] := fun rest => by
  show skipN false (9 :: rest) = _
  rw [skip_cons]; simp; omega
theorem blank_note : Blank [35, 118, 97, 114, 32, 48, 59, 10] := fun rest => by
  show skipN false (35 :: 118 :: 97 :: 114 :: 32 :: 48 :: 59 :: 10 :: rest) = _
  rw [skip_cons, if_neg (by decide), if_pos (by decide)]
  iterate 6 rw [skip_cons, if_neg (by decide), if_neg (by decide), if_neg (by decide)]
  rw [skip_cons, if_pos (by decide)]
  simp only [List.length_cons, List.length_nil]
  omega
theorem lbA (a b : ByteArray) : lb (a ++ b) = lb a ++ lb b := by
  unfold lb
  simp [ByteArray.data_append]
theorem Blank.scan {u : Bytes} (h : Blank u) : scanA 0 u = .good [⟨4, [], 0, u.length⟩] := by
  have h1 : skipN false u = u.length := by have := h []; simpa [skipN] using this
  rw [scan_eq, h1, List.drop_eq_nil_of_le (Nat.le_refl _)]
  simp [tokG]
theorem parse_end (p : Nat) : parseR [⟨4, [], 0, p⟩] = .ok ⟨[], [], []⟩ [⟨4, [], 0, p⟩] := rfl

theorem szA {S x : ByteArray} {k : Nat} (h : S.size ≤ k * 8) (hx : x.size ≤ 8) : (S ++ x).size ≤ (k + 1) * 8 := by
  rw [ByteArray.size_append]; omega

set_option maxHeartbeats 2000000 in
theorem walk {L : Bytes} {v : Value} {w : World} (T : Tabs w) (h : Seq byC w v L) :
    Calls Tryd.prog 6 #[v] w fun e w' => e = .returned (.bool true) ∧ Below w.heap.size w w' := by
  obtain ⟨a, ca, rfl, hla, hca⟩ := h.form
  unfold maxLen at hca
  have HS := hide (fun W (hb : Below w.heap.size w W) => h.below hb)
  have HT := hide T
  clear T h
  go_enter Tryd.func6, Tryd.ntmps6
  go_wp2_with fail
  refine (shown6_any w (unhide HT)).mono ?_
  rintro e w1 ⟨rfl, hb1⟩
  have HB1 := hide hb1
  clear hb1
  go_wp2
  go_loop [4, 5] (fun s i => ∃ (k : Nat) (S : ByteArray), k ≤ L.length ∧ k ≤ 60 ∧ i = .int .i64 k ∧ s = .string S ∧ S.size ≤ k * 8 ∧ Hid (Blank (lb S))) (fun _ i => 60 - (intOf i).toNat)
  case atStart => exact ⟨0, ⟨#[]⟩, Nat.zero_le _, Nat.zero_le _, rfl, rfl, by simp [ByteArray.size], hide blank_nil⟩
  case round =>
    obtain ⟨k, S, hk1, hk2, rfl, rfl, hsz, HE⟩ := hrel
    by_cases hlt : k < L.length ∧ k < 60
    · obtain ⟨hl1, hl2⟩ := hlt
      obtain ⟨bb, oo, rfl, hc⟩ := (unhide HS w1 (unhide HB1)).at hl1
      unfold byC at hc
      generalize hcv : L[k] = c at *
      clear hcv
      have hc256 : c.toNat < 256 := c.toNat_lt
      have q0 : (0 : Int) ≤ (c.toNat : Int) := by omega
      have q1 : (c.toNat : Int) ≤ 255 := by omega
      go_wp2
      all_goals
        refine ⟨⟨k + 1, _, by omega, by omega, by go_num, rfl, ?_, ?_⟩, by simp [intOf]; omega⟩
        · first
            | exact szA hsz (by decide)
            | omega
        · first
            | exact hide (by rw [lbA]; exact (unhide HE).app blank_space)
            | exact hide (by rw [lbA]; exact (unhide HE).app blank_line)
            | exact hide (by rw [lbA]; exact (unhide HE).app blank_tab)
            | exact hide (by rw [lbA]; exact (unhide HE).app blank_note)
            | exact HE
    · have hcond : (¬ (k : Int) < (L.length : Int)) ∧ L.length ≤ k ∨ ((k : Int) < (L.length : Int) ∧ k < L.length) ∧ ¬ (k : Int) < 60 ∧ 60 ≤ k := by omega
      have hS : S.size ≤ 100000 := by omega
      have HPA := hide (parse_good S w1 ((unhide HT).below (unhide HB1)) hS (unhide HE).scan)
      rw [parse_end] at HPA
      clear hlt HE
      rcases hcond with ⟨h1, h1'⟩ | ⟨⟨h1, h1'⟩, h2, h2'⟩
      all_goals
        go_wp2_with fail
        refine (unhide HPA).mono ?_
        rintro e w2 ⟨⟨v, rfl, hv⟩, hb2⟩
        have hv0 := hv
        obtain ⟨dv, hh, sv, rfl, hdo, ⟨qs, q1, q2, q3, q4⟩, us, s1, s2, s3, s4⟩ := hv0
        obtain ⟨da, dc, rfl, _, _⟩ := hdo.form
        obtain ⟨ha, hc, rfl, _, _⟩ := q1.form
        obtain ⟨sa, sc, rfl, _, _⟩ := s1.form
        have hq1 : qs.length = 0 := q3
        have hu0 : us.length = 0 := s3
        rw [hq1, hu0] at hv ⊢
        simp only [List.length_nil] at hv ⊢
        have hbA := (Below.refl w2.heap.size w2).alloc (Nat.le_refl _) (.cells #[.slice da 0 dc, .slice ha 0 hc, .slice sa 0 sc] 27)
        have x1 := Box3.new 27 w2 (.slice da 0 dc) (.slice ha 0 hc) (.slice sa 0 sc)
        have HV := hide (hv.below hbA)
        have HSM := hide (same_nil (a1 := da) (a2 := ha) (a3 := sa) (b1 := none) (b2 := none) (b3 := none) (c1 := dc) (c2 := hc) (c3 := sc) (d1 := 0) (d2 := 0) (d3 := 0) (w := w2.alloc (.cells #[.slice da 0 dc, .slice ha 0 hc, .slice sa 0 sc] 27)))
        have HB2 := hide (below_then (below_then (unhide HB1) hb2) hbA)
        have X1 := hide x1
        clear hv hdo q1 q2 q3 q4 s1 s2 s3 s4 hq1 hu0 hbA x1 hb2 HPA
        go_wp2_with fail
        refine (unhide HSM).mono ?_
        rintro e w3 ⟨rfl, hb3⟩
        have x3 := (unhide X1).keep (grown_below hb3 none) (by simp)
        have c0 := x3.cell0; have c1 := x3.cell1; have c2 := x3.cell2
        have HR := hide (right_plain ((unhide HV).below hb3) plain_nil)
        have X3 := hide x3
        clear x3 HSM
        go_wp2_with fail
        refine (unhide HR).mono ?_
        rintro e w4 ⟨rfl, hb4⟩
        have x4 := (unhide X3).keep (grown_below hb4 none) (by simp)
        have d0 := x4.cell0; have d1 := x4.cell1; have d2 := x4.cell2
        have HPN := hide (print_nil (((unhide HV).below hb3).below hb4))
        clear x4 c0 c1 c2 HR
        go_wp2_with fail
        refine (unhide HPN).mono ?_
        rintro e w5 ⟨rfl, hb5⟩
        go_wp2
        go_ret
        exact ⟨rfl, below_then (below_then (below_then (unhide HB2) hb3) hb4) hb5⟩

set_option maxRecDepth 100000 in
theorem lifted (os : Os) (started : os.Started) (H : Type) (enc : TypeId × Value → H) :
    ReturnsInHanded {} Tryd.checked os 6 .any (fun w args => (Rows.instEmptySpec.pre enc Tryd.prog Tryd.f6 [] false w args ∧ laidMetH Tryd.prog laidIn w) ∧ sizedMet enc Tryd.prog Tryd.f6 (OpenSpec.ofChange Rows.instEmptySpec) false w args)
      (Rows.instEmptySpec.post enc Tryd.prog Tryd.f6 false true false false) := by
  refine returnsInHanded_of_change_and (C := Tryd.checked) (X := fun w _ => laidMetH Tryd.prog laidIn w) (fun _ _ _ hh h => h.of_heap hh) own started (by kernel_rfl) Tryd.func6
    (ChangeSpec.witness_shaped (enc := enc) (C := Tryd.checked) (os := os) (X := fun w _ => laidMetH Tryd.prog laidIn w) false (World.doorLaid Tryd.prog doorN os) #[.slice none 0 0] 8 rfl (World.shaped_of_RefB (by kernel_rfl) (by kernel_rfl)) (by kernel_rfl) (by kernel_rfl) (by kernel_rfl) (door_met os _)) ?_
  intro W base args ds gs before hval0 hW _ _ hL _
  have hval : ∀ (j : Nat) t v, Tryd.f6.params[j]? = some t → args[j]? = some v → Value.okWide Tryd.prog W .any base t v := hval0
  have hW' := hW
  obtain ⟨p, q, hA0, hV, rfl, hfz, hnd⟩ := hW
  have hA : DataW.TrodAll enc Tryd.prog W 0 (fun _ => true) true Tryd.f6.params.toList args.toList ds p := hA0
  rw [Tryd.params6] at hA hval
  obtain ⟨v0, vs0, d0, ds0, p0, q0, hargs, rfl, rfl, h0, r0⟩ := trodAll_cons hA
  obtain ⟨rfl, rfl, rfl⟩ := trodAll_nil r0
  obtain rfl : args = #[v0] := by cases args; simp_all
  obtain ⟨rfl, rfl⟩ := trodVars_none hV
  obtain ⟨l0, i0⟩ := read_bytes h0 (okWide_slice Tryd.underlying38 (hval 0 38 v0 rfl rfl))
  have lt0 : ∀ x ∈ p0, x.block < W.heap.size := by obtain ⟨m, hm⟩ := h0; exact DataW.trod_lt m _ _ _ hm
  clear hA0 hval0
  refine (walk (tabs_of hL) i0).mono fun e W' ⟨he, bel⟩ => ?_
  subst he
  exact ⟨_, rfl, _, _, _, [], _, [], hW', trodAll_mk1 (shut_bool Tryd.underlying4 _), (trodAll_cons_mk (Below.trod laidOut (by kernel_rfl) (of_decide_eq_true (by kernel_rfl)) h0 bel lt0) trodAll_mk0), rfl, bel.frame _, fun h => by cases h⟩

theorem over : Rows.instEmptyRow.holds Tryd.pinned (OpenSpec.ofChange Rows.instEmptySpec) :=
  OpenClaim.holds_of_wide 6 Tryd.f6 rfl rfl rfl rfl rfl rfl rfl ⟨rfl, rfl, rfl, rfl, rfl⟩ rfl rfl rfl rfl rfl (by kernel_rfl) Tryd.func6 (by kernel_rfl)
    (of_decide_eq_true (by kernel_rfl)) (by unfold Func.isWrapper; first | (rw [if_pos (by decide +kernel)]; kernel_rfl) | (rw [if_neg (by decide +kernel)]; exact ⟨rfl, rfl⟩))
    (fun os started H enc _ => lifted os started H enc)

/-- The statement: the tied card. -/
theorem proved : Rows.InstEmptyCardSaid :=
  Claim7.holds_tied_plain_at .later [] [.data, .data, .data, .data] true (true, "4a5c26e7eb7ef004d4ddb8f89d87f74099466696b1fd2b825a21b575a33a8ba8") true
    over (fun _ h => by cases h) (by kernel_rfl) (fun _ h => by cases h) instEmpty_row_tie rfl ⟨rfl, rfl⟩ (by kernel_rfl) rfl
    (fun f fn hf hfn => by
      obtain rfl : f = 6 := Option.some.inj ((show Tryd.prog.funcNamed "arborist/arboristlaw06.InstEmpty" = some 6 by kernel_rfl).symm.trans hf) |>.symm
      obtain rfl : fn = Tryd.f6 := (Option.some.inj (Tryd.func6.symm.trans hfn)).symm
      exact ⟨by kernel_rfl, fun j t ht => by
        rw [Tryd.params6] at ht
        have hm : t ∈ [38] := by simpa using Array.mem_of_getElem? ht
        have hall : ([38].all fun u => !Tryd.prog.wantsStandIn u) = true := by kernel_rfl
        exact (show Tryd.prog.wantsStandIn t = false by simpa using List.all_eq_true.1 hall t hm)⟩)
    (by kernel_rfl)

#print axioms proved

end Go.Proofs.YtoiokplgkanepaaDoor.instEmpty
