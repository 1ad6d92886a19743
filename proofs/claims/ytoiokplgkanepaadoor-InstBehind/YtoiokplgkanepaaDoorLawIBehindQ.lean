/-
  Proved: InstBehind answers true for every two texts, and leaves what was handed in as it was. No condition.
-/
import Derived.Test.YtoiokplgkanepaaDoorPrintB
import Derived.Deep.RegionHeld3
import Derived.Test.YtoiokplgkanepaaDoorTie
import Derived.Test.YtoiokplgkanepaaDoorCards
import Derived.ProofKit
import Derived.OpenShut
import Derived.ShutString
import Derived.ChangeOld
import Derived.LaidMore
import Derived.Stop.Joined
import Derived.SevenTiedAt
import Derived.Test.YtoiokplgkanepaaDoorScanMath
import Derived.Test.YtoiokplgkanepaaDoorInstMath2
namespace Go.Proofs.YtoiokplgkanepaaDoor
open Go.RowKit
set_option linter.unusedVariables false
set_option linter.unusedSimpArgs false
set_option maxRecDepth 20000

/-- Itoa tells n as dec n, whenever the words lie where they lie. -/
def Tells10 (dec : Int → Bytes) (n : Int) : Prop := ∀ W : World, Tabs W → Calls Tryd.prog 71 #[.int .i64 n] W fun e w' => e = .returned (.string ⟨(dec n).toArray⟩) ∧ Below W.heap.size W w'

def numsL (dec : Int → Bytes) (l : List Int) : Bytes := l.flatMap fun n => 32 :: dec n
theorem numsL_cons (dec : Int → Bytes) (n : Int) (l : List Int) : numsL dec (n :: l) = (32 :: dec n) ++ numsL dec l := by simp [numsL]

set_option maxHeartbeats 1000000 in
theorem numbers_any {dec : Int → Bytes} {l : List Int} {v : Value} {b : Nat} {t : Bytes} {w : World} (T : Tabs w) (hb0 : 0 < b) (h : Pr b t w) (hI : ∀ w', Below b w w' → Ints w' v l) (hd : ∀ n ∈ l, Tells10 dec n ∧ (dec n).length ≤ 20) (hl : t.length + l.length * 30 ≤ 10000000) :
    Calls Tryd.prog 41 #[.pointer (some ⟨b, 0, none⟩), v] w fun e w' => e = .returned (.tuple #[]) ∧ Pr b (t ++ numsL dec l) w' ∧ Below b w w' := by
  obtain ⟨a, ca, rfl, hla, hca⟩ := (hI w (Below.refl _ _)).form
  unfold maxLen at hca
  obtain ⟨X, hX⟩ : ∃ X, X = t ++ numsL dec l := ⟨_, rfl⟩
  rw [← hX]
  have HX : Hid (X = t ++ numsL dec (l.drop 0)) := hide hX
  have HP := hide h
  have HI := hide hI
  have HD := hide hd
  have HT := hide T
  clear hX h hI hd T
  go_enter Tryd.func41, Tryd.ntmps41
  go_wp2
  go_loopw [8] (fun i wr => ∃ (k : Nat) (u : Bytes), k ≤ l.length ∧ i = .int .i64 k ∧ Pr b u wr ∧ Below b w wr ∧ u.length + (l.length - k) * 30 ≤ 10000000 ∧ Hid (X = u ++ numsL dec (l.drop k))) (fun i _ => l.length - (intOf i).toNat)
  case atStart => exact ⟨0, t, Nat.zero_le _, rfl, unhide HP, Below.refl _ _, by simpa using hl, HX⟩
  case round =>
    clear HX HP
    obtain ⟨k, u, hk, rfl, hp, hb, hul, HX⟩ := hrel
    rename World => wr
    by_cases hlt : k < l.length
    · have hX := HX.out
      rw [List.drop_eq_getElem_cons hlt, numsL_cons] at hX
      obtain ⟨bb, oo, rfl, hc⟩ := (unhide HI wr hb).at hlt
      obtain ⟨hd1, hd2⟩ := unhide HD _ (List.getElem_mem hlt)
      generalize l[k] = n at *
      have HW := hide (writeByte_any 32 hp (by omega))
      have HB := hide hb
      have HX1 : Hid (X = (u ++ [32] ++ dec n) ++ numsL dec (l.drop (k + 1))) := hide (by rw [hX]; simp)
      have HIT := hide hd1
      have hbl := hp.lt
      clear hX HX hp hb hd1
      go_wp2_with fail
      refine (unhide HW).mono ?_
      rintro e w1 ⟨rfl, hp1, hb1⟩
      have hp2 := hp1.kept (Below.drewN w1 1)
      have hB1 := (unhide HB).trans hb1
      have HT1 : Hid (Tabs w1.drew) := hide (fun i hi => by
        have h0 := unhide HT i hi
        have : w1.cell? ⟨0, i, none⟩ = some (.string ⟨wordsL[i].toArray⟩) := by rw [hB1.cell (by exact hb0)]; exact h0
        exact this)
      have HIT1 := hide (unhide HIT _ (unhide HT1))
      have HP2 := hide hp2
      have HB1 := hide hB1
      clear hp1 hb1 hp2 hB1 HW
      go_wp2
      refine wp_region_held (S := fun _ => True ∧ True) (by kernel_rfl) ?_
      have hS0 : True ∧ True := ⟨trivial, trivial⟩
      refine wpAnyH_take (i := 0) (v := ?_) rfl (by kernel_rfl) (by kernel_rfl) (by kernel_rfl) (fun _ _ _ h => h) (Or.inl ⟨by kernel_rfl, ?_⟩) (by assumption) ?_
      rotate_left
      · intro W hSW; obtain ⟨_, _⟩ := hSW; go_simp; first | done | rfl
      simp only [Act.put, List.setIfInBounds_toArray, List.set_cons_zero, List.set_cons_succ]
      refine wpAnyH_take (i := 1) (v := ?_) rfl (by kernel_rfl) (by kernel_rfl) (by kernel_rfl) (fun _ _ _ h => h) (Or.inl ⟨by kernel_rfl, ?_⟩) (by assumption) ?_
      rotate_left
      · intro W hSW; obtain ⟨_, _⟩ := hSW; go_simp; first | done | rfl
      simp only [Act.put, List.setIfInBounds_toArray, List.set_cons_zero, List.set_cons_succ]
      refine wpAnyH_take (i := 2) (v := ?_) rfl (by kernel_rfl) (by kernel_rfl) (by kernel_rfl) (fun _ _ _ h => h) (Or.inl ⟨by kernel_rfl, ?_⟩) (by assumption) ?_
      rotate_left
      · intro W hSW; obtain ⟨_, _⟩ := hSW; go_simp; first | done | rfl
      simp only [Act.put, List.setIfInBounds_toArray, List.set_cons_zero, List.set_cons_succ]
      refine wpAnyH_take (i := 3) (v := ?_) rfl (by kernel_rfl) (by kernel_rfl) (by kernel_rfl) (fun _ _ _ h => h) (Or.inl ⟨by kernel_rfl, ?_⟩) (by assumption) ?_
      rotate_left
      · intro W hSW; obtain ⟨_, _⟩ := hSW; go_simp; first | done | rfl
      simp only [Act.put, List.setIfInBounds_toArray, List.set_cons_zero, List.set_cons_succ]
      refine held_one (i := 4) (by kernel_rfl) rfl (by kernel_rfl) (fun K hK => ?_)
      go_simp
      refine (unhide HIT1).mono ?_
      rintro e w2 ⟨rfl, hb2⟩
      have hp3 := (unhide HP2).kept hb2
      have HWS := hide (writeString_any ⟨(dec n).toArray⟩ hp3 (by
        show (u ++ [32]).length + (⟨(dec n).toArray⟩ : ByteArray).size ≤ 100000000
        have : (⟨(dec n).toArray⟩ : ByteArray).size = (dec n).length := by simp [ByteArray.size]
        rw [this]
        simp
        omega))
      have hB2 : Below b w w2 := ((unhide HB1).trans ((Below.drewN w1 1).mono (Nat.le_of_lt (unhide HP2).lt))).trans (hb2.mono (Nat.le_of_lt (unhide HP2).lt))
      have HB2 := hide hB2
      refine hK.out _ _ ⟨trivial, trivial⟩ ?_
      clear hK K hp3 hb2 hB2
      try simp only [Act.put, List.setIfInBounds_toArray, List.set_cons_zero, List.set_cons_succ]
      refine held_one (i := 5) (by kernel_rfl) rfl (by kernel_rfl) (fun K hK => ?_)
      go_simp
      refine (unhide HWS).mono ?_
      rintro e w3 ⟨⟨m, rfl⟩, hp4, hb4⟩
      refine hK.out _ _ ⟨trivial, trivial⟩ (wpAnyH_done (by kernel_rfl) ?_ _)
      have HP4 : Hid (Pr b (u ++ [32] ++ dec n) w3) := hide (by simpa [lb] using hp4)
      have HB4 := hide ((unhide HB2).trans hb4)
      clear hK K hp4 hb4 HWS hS0
      try simp only [Act.put, List.setIfInBounds_toArray, List.set_cons_zero, List.set_cons_succ]
      go_wp2
      go_roundw
      case rel => exact ⟨k + 1, u ++ [32] ++ dec n, by omega, by go_num, unhide HP4, unhide HB4, by simp; omega, HX1⟩
      case measure => simp [intOf]; omega
    · have hX := HX.out
      rw [List.drop_eq_nil_of_le (by omega)] at hX
      have HX2 : Hid (X = u) := hide (by rw [hX]; simp [numsL])
      have HP := hide hp
      have HB := hide hb
      clear hX HX hp hb
      go_wp2
      first | go_end0 | skip
      exact ⟨rfl, by rw [unhide HX2]; exact unhide HP, unhide HB⟩

set_option maxHeartbeats 1000000 in
theorem prEnd_any {b : Nat} {t : Bytes} {w : World} (h : Pr b t w) (hl : t.length ≤ 10000000) :
    Calls Tryd.prog 19 #[.pointer (some ⟨b, 0, none⟩)] w fun e w' => e = .returned (.tuple #[]) ∧ Pr b (t ++ [59, 10]) w' ∧ Below b w w' := by
  have HW := hide (writeString_any ⟨#[59, 10]⟩ h (by show t.length + 2 ≤ 100000000; omega))
  clear h
  go_enter Tryd.func19, Tryd.ntmps19
  go_wp2_with fail
  refine (unhide HW).mono ?_
  rintro e w1 ⟨⟨n, rfl⟩, hp, hb⟩
  go_wp2
  first | go_end0 | skip
  exact ⟨rfl, hp, hb⟩

end Go.Proofs.YtoiokplgkanepaaDoor

namespace Go.Proofs.YtoiokplgkanepaaDoor
open Go.RowKit
set_option linter.unusedVariables false
set_option linter.unusedSimpArgs false
set_option maxRecDepth 20000

theorem words_le : ∀ i (h : i < wordsL.length), wordsL[i].length ≤ 6 := by decide

theorem below_draw {b : Nat} {w w1 : World} (hbl : b < w.heap.size) (hb : Below b (w.drewN 1) w1) : Below b w w1 := ((Below.drewN w 1).mono (Nat.le_of_lt hbl)).trans hb

set_option maxHeartbeats 400000 in
theorem begin_any {dec : Int → Bytes} {l : List Int} {v : Value} {b : Nat} {t : Bytes} {w : World} (j : Nat) (hj : j < wordsL.length) (T : Tabs w) (hb0 : 0 < b) (h : Pr b t w) (hI : ∀ w', Below b w w' → Ints w' v l) (hd : ∀ n ∈ l, Tells10 dec n ∧ (dec n).length ≤ 20) (hl : t.length + 6 + l.length * 30 ≤ 10000000) :
    Calls Tryd.prog 18 #[.pointer (some ⟨b, 0, none⟩), .int .i64 (j : Int), v] w fun e w' => e = .returned (.tuple #[]) ∧ Pr b (t ++ wordsL[j] ++ numsL dec l) w' ∧ Below b w w' := by
  have hj11 : j < 11 := hj
  have hj0 : (0 : Int) ≤ (j : Int) := by omega
  have hj1 : (j : Int) < 11 := by omega
  have hj2 : (j : Int) ≤ 10 := by omega
  have hj3 : ¬ (11 : Int) ≤ (j : Int) := by omega
  have hj4 : ¬ 11 ≤ j := by omega
  have hw := words_le j hj
  have hcw := T j hj
  have hp1 := h.kept (Below.drewN w 1)
  have HW := hide (writeString_any ⟨wordsL[j].toArray⟩ hp1 (by
    have : (⟨wordsL[j].toArray⟩ : ByteArray).size = wordsL[j].length := by simp [ByteArray.size]
    rw [this]; omega))
  have HI := hide hI
  have HD := hide hd
  have HT := hide T
  have hS0 : w.drew.cell? ⟨0, j, none⟩ = some (.string ⟨wordsL[j].toArray⟩) ∧ True := ⟨hcw, trivial⟩
  have hbl := h.lt
  have hform := (hI w (Below.refl _ _)).form
  obtain ⟨a, ca, rfl, hla, hca⟩ := hform
  generalize wordsL[j] = wd at *
  clear h hI hd T hp1 hcw
  go_enter Tryd.func18, Tryd.ntmps18
  go_wp2
  have hc0 := hS0.1
  clear hS0
  go_region_held3 (fun U => U.cell? ⟨0, j, none⟩ = some (.string ⟨wd.toArray⟩))
    (first | exact hq1 | exact hc0)
    (first
      | (go_at_call 40; refine (unhide HW).mono ?_; rintro e w1 ⟨⟨n, rfl⟩, hp, hb⟩; have hB1 := below_draw hbl hb; have hq1 := (hB1.cell (p := ⟨0, j, none⟩) hb0).trans hc0))
  have hT1 : Tabs w1 := fun i hi => by rw [hB1.cell (by exact hb0)]; exact unhide HT i hi
  have hp2 : Pr b (t ++ wd) w1 := by simpa [lb] using hp
  have HN := hide (numbers_any hT1 hb0 hp2 (fun w' hb' => unhide HI w' (hB1.trans hb')) (unhide HD) (by simp; omega))
  have HB1 := hide hB1
  clear hp hb hp2 hT1 hB1 HW hq1 hc0
  go_wp2_with fail
  refine (unhide HN).mono ?_
  rintro e w2 ⟨rfl, hp3, hb3⟩
  go_wp2
  first | go_end0 | skip
  exact ⟨rfl, hp3, (unhide HB1).trans hb3⟩

set_option maxHeartbeats 1000000 in
theorem prHard_plain {dec : Int → Bytes} {k : Nat} (h3 : 3 ≤ k) (h5 : k ≤ 5) {l : List Int} {sv : Value} {b : Nat} {t : Bytes} {w : World} {ra aa : Option Addr} {rn an rc ac : Nat} (hk : k < wordsL.length) (T : Tabs w) (hb0 : 0 < b) (h : Pr b t w) (hI : ∀ w', Below b w w' → Ints w' sv l) (hd : ∀ n ∈ l, Tells10 dec n ∧ (dec n).length ≤ 20) (hl : t.length + 6 + l.length * 30 ≤ 1000000) :
    Calls Tryd.prog 20 #[.pointer (some ⟨b, 0, none⟩), .agg #[.int .i64 (k : Int), sv, .slice ra rn rc, .slice aa an ac]] w fun e w' => e = .returned (.tuple #[]) ∧ Pr b (t ++ wordsL[k] ++ numsL dec l ++ [59, 10]) w' ∧ Below b w w' := by
  obtain ⟨a, ca, rfl, hla, hca⟩ := (hI w (Below.refl _ _)).form
  have hbl := h.lt
  have hb1 := (Below.refl w.heap.size w).alloc (Nat.le_refl _) (.cells #[.int .i64 (k : Int), .slice a l.length ca, .slice ra rn rc, .slice aa an ac] 42)
  have hB1 : Below b w (w.alloc (.cells #[.int .i64 (k : Int), .slice a l.length ca, .slice ra rn rc, .slice aa an ac] 42)) := hb1.mono (Nat.le_of_lt hbl)
  have hw := words_le k hk
  have HBG := hide (begin_any k hk (T.below hb1) hb0 (h.kept hb1) (fun w' hb' => hI w' (hB1.trans hb')) hd (by omega))
  have HHR := hide (fun W => hasRows_any k W)
  rw [show decide (k = 1 ∨ k = 2) = false by simp; omega] at HHR
  have k6 : ((k : Int) == 6) = false := by rw [beq_eq_false_iff_ne]; omega
  have hnl : (numsL dec l).length ≤ l.length * 30 := by
    have : ∀ m : List Int, (∀ n ∈ m, (dec n).length ≤ 20) → (numsL dec m).length ≤ m.length * 30 := by
      intro m
      induction m with
      | nil => simp [numsL]
      | cons n m ih =>
        intro hm
        rw [numsL_cons]
        have h1 := hm n (by simp)
        have h2 := ih (fun x hx => hm x (by simp [hx]))
        simp
        omega
    exact this l (fun n hn => (hd n hn).2)
  have HB1 := hide hB1
  generalize wordsL[k] = wd at *
  generalize numsL dec l = nl at *
  clear h hI hd T hb1 hB1 h3 h5 hk
  go_enter Tryd.func20, Tryd.ntmps20
  go_wp2_with fail
  refine (unhide HHR _).mono ?_
  rintro e w2 ⟨rfl, rfl⟩
  go_wp2_with fail
  refine (unhide HBG).mono ?_
  rintro e w3 ⟨rfl, hp3, hb3⟩
  have HE := hide (prEnd_any hp3 (by simp; omega))
  have HB3 := hide ((unhide HB1).trans hb3)
  clear hp3 hb3
  go_wp2_with fail
  refine (unhide HE).mono ?_
  rintro e w4 ⟨rfl, hp4, hb4⟩
  go_wp2
  first | go_end0 | skip
  exact ⟨rfl, hp4, (unhide HB3).trans hb4⟩

end Go.Proofs.YtoiokplgkanepaaDoor

namespace Go.Proofs.YtoiokplgkanepaaDoor
open Go.RowKit
set_option linter.unusedVariables false
set_option linter.unusedSimpArgs false
set_option maxRecDepth 20000

def domT (dec : Int → Bytes) (d : List Int) : Bytes := [118, 97, 114] ++ numsL dec d ++ [59, 10]
def conT (dec : Int → Bytes) (c : Con) : Bytes := wordsL.getD c.kind.toNat [] ++ numsL dec c.scope ++ [59, 10]
def domsT (dec : Int → Bytes) (l : List (List Int)) : Bytes := l.flatMap (domT dec)
def consT (dec : Int → Bytes) (l : List Con) : Bytes := l.flatMap (conT dec)
/-- The text of a plain instance. -/
def textP (dec : Int → Bytes) (x : Ins) : Bytes := domsT dec x.doms ++ consT dec x.hard
theorem domsT_cons (dec : Int → Bytes) (d : List Int) (l : List (List Int)) : domsT dec (d :: l) = domT dec d ++ domsT dec l := by simp [domsT]
theorem consT_cons (dec : Int → Bytes) (c : Con) (l : List Con) : consT dec (c :: l) = conT dec c ++ consT dec l := by simp [consT]

theorem numsL_len {dec : Int → Bytes} (m : List Int) (h : ∀ n ∈ m, (dec n).length ≤ 20) : (numsL dec m).length ≤ m.length * 30 := by
  induction m with
  | nil => simp [numsL]
  | cons n m ih =>
    rw [numsL_cons]
    have h1 := h n (by simp)
    have h2 := ih (fun x hx => h x (by simp [hx]))
    simp
    omega

set_option maxHeartbeats 1000000 in
theorem print_plain {dec : Int → Bytes} {x : Ins} {v : Value} {w : World} (h : InsV w v x) (hx : PlainI x) (T : Tabs w) (h0 : x.doms ≠ [])
    (hd : ∀ d ∈ x.doms, d.length ≤ 16 ∧ ∀ n ∈ d, Tells10 dec n ∧ (dec n).length ≤ 20) (hc : ∀ c ∈ x.hard, c.scope.length ≤ 6 ∧ ∀ n ∈ c.scope, Tells10 dec n ∧ (dec n).length ≤ 20) :
    Calls Tryd.prog 10 #[v] w fun e w' => e = .returned (.string ⟨(textP dec x).toArray⟩) ∧ Below w.heap.size w w' := by
  have HR0 := hide (fun W (hb : Below w.heap.size w W) => right_plain (h.below hb) hx)
  obtain ⟨dv, hv, sv, rfl, hdo, ⟨qs, q1, q2, q3, q4⟩, us, s1, s2, s3, s4⟩ := h
  have hs0 := hx.s1
  obtain ⟨da, dc, rfl, hdl, hdc⟩ := hdo.form
  obtain ⟨ha, hcc, rfl, hhl, hhc⟩ := q1.form
  obtain ⟨sa, sc, rfl, hsl, hsc⟩ := s1.form
  unfold maxLen at hdc hhc hsc
  have hu0 : us.length = 0 := by rw [s3, hs0]; rfl
  rw [hu0] at HR0 ⊢
  have hb0 := (Below.refl w.heap.size w).alloc (Nat.le_refl _) (.cells #[.slice da x.doms.length dc, .slice ha qs.length hcc, .slice sa 0 sc] 27)
  have x0 := Box3.new 27 w (.slice da x.doms.length dc) (.slice ha qs.length hcc) (.slice sa 0 sc)
  have HR1 := hide (unhide HR0 _ hb0)
  have HDO := hide (fun W (hb : Below w.heap.size w W) => hdo.tups.below hb)
  have HHQ := hide (fun W (hb : Below w.heap.size w W) => (q1.keptO q2 (grown_below hb none) (fun b e => by cases e) : SeqQ W (.slice ha qs.length hcc) qs))
  have HHC := hide (fun W (hb : Below w.heap.size w W) i hi hi' => (q4 i hi hi').kept (grown_below hb none) (fun b e => by cases e))
  have HQ3 := hide q3
  have HPL := hide hx
  have HD := hide hd
  have HC := hide hc
  have HT := hide T
  have X0 := hide x0
  have HB0 := hide hb0
  have H0 := hide h0
  have n1 : x.doms.length ≤ 40 := hx.d1
  have n2 : x.hard.length ≤ 200 := hx.h1
  clear HR0 hdo q1 q2 q3 q4 s1 s2 s3 s4 hx hs0 hu0 hb0 x0 hd hc T h0
  obtain ⟨X, hX⟩ : ∃ X, X = textP dec x := ⟨_, rfl⟩
  rw [← hX]
  have HXT := hide hX
  clear hX
  go_enter Tryd.func10, Tryd.ntmps10
  go_wp2_with fail
  refine (unhide HR1).mono ?_
  rintro e w1 ⟨rfl, hb1⟩
  have x1 := (unhide X0).keep (grown_below hb1 none) (by simp)
  have hB1 := below_then (unhide HB0) hb1
  have hp := Pr.new w1
  have hb2 := (Below.refl w1.heap.size w1).alloc (Nat.le_refl _) (.cells #[.pointer none, .slice none 0 0] 63)
  have x2 := x1.keep (grown_below hb2 none) (by simp)
  have c0 := x2.cell0; have c1 := x2.cell1; have c2 := x2.cell2
  have X2 := hide x2
  have HP := hide hp
  have HB2 := hide (below_then hB1 hb2)
  have hw1 : w.heap.size < w1.heap.size := x1.lt
  clear x1 x2 hp hb2 hB1 hb1 X0 HB0 HR1
  have hxl := (unhide X2).lt
  go_wp2
  clear c0 c1 c2
  generalize w1.alloc (.cells #[.pointer none, .slice none 0 0] 63) = W at *
  generalize w1.heap.size = b at *
  have hb0 : 0 < b := by omega
  have HTb : Hid (∀ U, Below b W U → Tabs U) := hide (fun U hb i hi => by
    have h0 := ((unhide HT).below (unhide HB2)) i hi
    rw [hb.cell (by exact hb0)]; exact h0)
  have HBw : Hid (∀ U, Below b W U → Below w.heap.size w U) := hide (fun U hb => (unhide HB2).trans (hb.mono (by omega)))
  have HXb : Hid (∀ U, Below b W U → Box3 27 U w.heap.size (.slice da x.doms.length dc) (.slice ha qs.length hcc) (.slice sa 0 sc)) := hide (fun U hb => by
    have h := unhide X2
    unfold Box3 at h ⊢
    rw [hb.block _ hw1]; exact h)
  have HX : Hid (X = [] ++ domsT dec (x.doms.drop 0) ++ consT dec x.hard) := hide (by rw [unhide HXT]; rfl)
  have HNE : Hid (X ≠ [] ∧ True) := hide ⟨by
    rw [unhide HXT]
    unfold textP
    cases hd : x.doms with
    | nil => exact absurd hd (unhide H0)
    | cons d l => rw [domsT_cons, domT]; simp, trivial⟩
  clear HXT
  go_loopw [18] (fun i wr => ∃ (k : Nat) (u : Bytes), k ≤ x.doms.length ∧ i = .int .i64 k ∧ Pr b u wr ∧ Below b W wr ∧ u.length ≤ k * 600 ∧ Hid (X = u ++ domsT dec (x.doms.drop k) ++ consT dec x.hard)) (fun i _ => x.doms.length - (intOf i).toNat)
  case atStart => exact ⟨0, [], Nat.zero_le _, rfl, unhide HP, Below.refl _ _, by simp, HX⟩
  case round =>
    clear HX HP
    obtain ⟨k, u, hk, rfl, hp, hb, hul, HX⟩ := hrel
    rename World => wr
    have hbl := hp.lt
    by_cases hlt : k < x.doms.length
    · have hX := HX.out
      rw [List.drop_eq_getElem_cons hlt, domsT_cons] at hX
      obtain ⟨bb, oo, dvv, hda, hcell, hints⟩ := (unhide HDO w (Below.refl _ _)).at hlt
      have hc1 := Below.cell_of (unhide HBw wr hb) hcell
      obtain ⟨hd1, hd2⟩ := unhide HD _ (List.getElem_mem hlt)
      have hnl := numsL_len (dec := dec) x.doms[k] (fun n hn => (hd2 n hn).2)
      have HBG := hide (begin_any 0 (by decide) (unhide HTb wr hb) hb0 hp (fun w' hb' => hints.below (unhide HBw w' (hb.trans hb'))) hd2 (by omega))
      obtain ⟨ea, ec, rfl, _, _⟩ := hints.form
      subst hda
      have HX1 : Hid (X = (u ++ domT dec x.doms[k]) ++ domsT dec (x.doms.drop (k + 1)) ++ consT dec x.hard) := hide (by rw [hX]; simp)
      have e0 : wordsL[0] = [118, 97, 114] := rfl
      rw [e0] at HBG
      have HDT : Hid (u ++ [118, 97, 114] ++ numsL dec x.doms[k] ++ [59, 10] = u ++ domT dec x.doms[k] ∧ (u ++ domT dec x.doms[k]).length ≤ (k + 1) * 600) := hide ⟨by simp [domT], by simp [domT]; omega⟩
      generalize domT dec x.doms[k] = dt at *
      generalize numsL dec x.doms[k] = nl at *
      generalize x.doms[k].length = dn at *
      have HB := hide hb
      clear hX HX hp hb hcell hints hd2
      go_wp2_with fail
      refine (unhide HBG).mono ?_
      rintro e w3 ⟨rfl, hp3, hb3⟩
      have HE := hide (prEnd_any hp3 (by simp; omega))
      have HB3 := hide ((unhide HB).trans hb3)
      clear hp3 hb3
      go_wp2_with fail
      refine (unhide HE).mono ?_
      rintro e w4 ⟨rfl, hp4, hb4⟩
      rw [(unhide HDT).1] at hp4
      have HP4 := hide hp4
      have HB4 := hide ((unhide HB3).trans hb4)
      clear hp4 hb4 HE HBG
      go_wp2
      go_roundw
      case rel => exact ⟨k + 1, u ++ dt, by omega, by go_num, unhide HP4, unhide HB4, (unhide HDT).2, HX1⟩
      case measure => simp [intOf]; omega
    · have hX := HX.out
      rw [List.drop_eq_nil_of_le (by omega)] at hX
      have HX2 : Hid (X = u ++ consT dec (x.hard.drop 0)) := hide (by rw [hX]; simp [domsT])
      have x3 := unhide HXb wr hb
      have c1 := x3.cell1
      have HP := hide hp
      have HB := hide hb
      have hul2 : u.length ≤ 24000 := by have : k * 600 ≤ 40 * 600 := Nat.mul_le_mul_right _ (by omega); omega
      clear hX HX hp hb x3 hul hbl
      go_wp2
      clear c1
      go_loopw [31] (fun i wr2 => ∃ (k : Nat) (u : Bytes), k ≤ qs.length ∧ i = .int .i64 k ∧ Pr b u wr2 ∧ Below b W wr2 ∧ u.length ≤ 24000 + k * 300 ∧ Hid (X = u ++ consT dec (x.hard.drop k))) (fun i _ => qs.length - (intOf i).toNat)
      case atStart => exact ⟨0, u, Nat.zero_le _, rfl, unhide HP, unhide HB, by omega, HX2⟩
      case round =>
        clear HX2 HP HB hul2
        obtain ⟨k2, u2, hk2, rfl, hp, hb, hul, HX⟩ := hrel
        rename World => wr2
        have hbl := hp.lt
        by_cases hlt2 : k2 < qs.length
        · have hkx : k2 < x.hard.length := by rw [← unhide HQ3]; exact hlt2
          have hX := HX.out
          rw [List.drop_eq_getElem_cons hkx, consT_cons] at hX
          obtain ⟨bb, oo, hha, k0, k1, k3, k4⟩ := (unhide HHQ wr2 (unhide HBw wr2 hb)).at hlt2
          have co := unhide HHC w (Below.refl _ _) k2 hlt2 hkx
          obtain ⟨kk, hkk, h3, h5, hr, har⟩ := ((unhide HPL).h2 _ (List.getElem_mem hkx)).1
          obtain ⟨hc1, hc2⟩ := unhide HC _ (List.getElem_mem hkx)
          have hnl := numsL_len (dec := dec) x.hard[k2].scope (fun n hn => (hc2 n hn).2)
          obtain ⟨q0, qb, qc, qd⟩ := co
          obtain ⟨e1, f1, g1, _, _⟩ := qb.1.form
          obtain ⟨e2, f2, g2, _, _⟩ := qc.form
          obtain ⟨e3, f3, g3, _, _⟩ := qd.1.form
          rw [q0, hkk] at k0
          rw [g1] at k1 qb
          rw [g2] at k3
          rw [g3] at k4
          have hkw : kk < wordsL.length := by show kk < 11; omega
          have hw6 := words_le kk hkw
          have HX1 : Hid (X = (u2 ++ conT dec x.hard[k2]) ++ consT dec (x.hard.drop (k2 + 1))) := hide (by rw [hX]; simp)
          have hwd : wordsL.getD x.hard[k2].kind.toNat [] = wordsL[kk] := by rw [hkk, Int.toNat_natCast, List.getD_eq_getElem?_getD, List.getElem?_eq_getElem hkw]; rfl
          have hdt : u2 ++ wordsL[kk] ++ numsL dec x.hard[k2].scope ++ [59, 10] = u2 ++ conT dec x.hard[k2] := by unfold conT; rw [hwd]; simp
          have hdl : (u2 ++ conT dec x.hard[k2]).length ≤ 24000 + (k2 + 1) * 300 := by rw [← hdt]; simp; omega
          have hbA := (Below.refl wr2.heap.size wr2).alloc (Nat.le_refl _) (.cells #[.int .i64 (kk : Int), .slice e1 x.hard[k2].scope.length f1, .slice e2 x.hard[k2].rows.length f2, .slice e3 x.hard[k2].args.length f3] 42)
          have hB2 := hb.trans (hbA.mono (Nat.le_of_lt hbl))
          have HPH := hide (prHard_plain (dec := dec) h3 h5 (ra := e2) (aa := e3) (rn := x.hard[k2].rows.length) (an := x.hard[k2].args.length) (rc := f2) (ac := f3) hkw (unhide HTb _ hB2) hb0 (hp.kept hbA) (fun w' hb' => qb.1.below (unhide HBw w' (hB2.trans hb'))) hc2 (by omega))
          rw [hdt] at HPH
          have HDL := hide hdl
          have HB := hide hB2
          subst hha
          generalize conT dec x.hard[k2] = ct at *
          generalize x.hard[k2].scope.length = n1' at *
          generalize x.hard[k2].rows.length = n2' at *
          generalize x.hard[k2].args.length = n3' at *
          clear hX HX hp hb q0 qb qc qd hbA hB2 hdt hdl hwd hc2 hkk hr har g1 g2 g3
          go_wp2_with fail
          refine (unhide HPH).mono ?_
          rintro e w4 ⟨rfl, hp4, hb4⟩
          have HP4 := hide hp4
          have HB4 := hide ((unhide HB).trans hb4)
          clear hp4 hb4 HPH
          go_wp2
          go_roundw
          case rel => exact ⟨k2 + 1, u2 ++ ct, by omega, by go_num, unhide HP4, unhide HB4, unhide HDL, HX1⟩
          case measure => simp [intOf]; omega
        · have hX := HX.out
          rw [List.drop_eq_nil_of_le (by have := unhide HQ3; omega)] at hX
          have hXu : X = u2 := by rw [hX]; simp [consT]
          have x3 := unhide HXb wr2 hb
          have c2 := x3.cell2
          have hne : u2 ≠ [] := by rw [← hXu]; exact (unhide HNE).1
          have hu3 : u2.length ≤ 100000 := by have : k2 * 300 ≤ qs.length * 300 := Nat.mul_le_mul_right _ hk2; have := unhide HQ3; omega
          have HST := hide (string_any hp hne (by omega))
          have HB := hide (unhide HBw wr2 hb)
          have HXU := hide hXu
          clear hX HX hp hb x3 hXu hne
          go_wp2
          go_loop [42] (fun i => i = .int .i64 0) (fun _ => 0)
          case atStart => rfl
          case round =>
            subst hrel
            go_wp2_with fail
            refine (unhide HST).mono ?_
            rintro e w5 ⟨rfl, hb5⟩
            go_wp2
            go_ret
            exact ⟨by rw [unhide HXU]; rfl, (unhide HB).trans (hb5.mono (by omega))⟩

theorem plain_nil : PlainI ⟨[], [], []⟩ := ⟨by simp, by simp, by simp, by simp, rfl⟩

set_option maxHeartbeats 1000000 in
theorem print_nil {v : Value} {w : World} (h : InsV w v ⟨[], [], []⟩) :
    Calls Tryd.prog 10 #[v] w fun e w' => e = .returned (.string ⟨#[]⟩) ∧ Below w.heap.size w w' := by
  have HR0 := hide (fun W (hb : Below w.heap.size w W) => right_plain (h.below hb) plain_nil)
  obtain ⟨dv, hv, sv, rfl, hdo, ⟨qs, q1, q2, q3, q4⟩, us, s1, s2, s3, s4⟩ := h
  obtain ⟨da, dc, rfl, hdl, hdc⟩ := hdo.form
  obtain ⟨ha, hcc, rfl, hhl, hhc⟩ := q1.form
  obtain ⟨sa, sc, rfl, hsl, hsc⟩ := s1.form
  simp only [List.length_nil] at *
  rw [q3, s3] at HR0 ⊢
  have hb0 := (Below.refl w.heap.size w).alloc (Nat.le_refl _) (.cells #[.slice da 0 dc, .slice ha 0 hcc, .slice sa 0 sc] 27)
  have x0 := Box3.new 27 w (.slice da 0 dc) (.slice ha 0 hcc) (.slice sa 0 sc)
  have HR1 := hide (unhide HR0 _ hb0)
  have X0 := hide x0
  have HB0 := hide hb0
  clear HR0 hdo q1 q2 q3 q4 s1 s2 s3 s4 hb0 x0
  go_enter Tryd.func10, Tryd.ntmps10
  go_wp2_with fail
  refine (unhide HR1).mono ?_
  rintro e w1 ⟨rfl, hb1⟩
  have x1 := (unhide X0).keep (grown_below hb1 none) (by simp)
  have hb2 := (Below.refl w1.heap.size w1).alloc (Nat.le_refl _) (.cells #[.pointer none, .slice none 0 0] 63)
  have x2 := x1.keep (grown_below hb2 none) (by simp)
  have c0 := x2.cell0; have c1 := x2.cell1; have c2 := x2.cell2
  have HST := hide (string_new (heap_alloc_new w1 (.cells #[.pointer none, .slice none 0 0] 63)))
  have HB2 := hide (below_then (below_then (unhide HB0) hb1) hb2)
  clear x1 x2 hb2 hb1 X0 HB0 HR1
  go_wp2
  generalize w1.alloc (.cells #[.pointer none, .slice none 0 0] 63) = W at *
  go_loop [18] (fun i => i = .int .i64 0) (fun _ => 0)
  case atStart => rfl
  case round =>
    subst hrel
    go_wp2
    go_loop [31] (fun i => i = .int .i64 0) (fun _ => 0)
    case atStart => rfl
    case round =>
      subst hrel
      go_wp2
      go_loop [42] (fun i => i = .int .i64 0) (fun _ => 0)
      case atStart => rfl
      case round =>
        subst hrel
        go_wp2_with fail
        refine (unhide HST).mono ?_
        rintro e w5 ⟨rfl, hb5⟩
        go_wp2
        go_ret
        exact ⟨rfl, below_then (unhide HB2) hb5⟩

end Go.Proofs.YtoiokplgkanepaaDoor

namespace Go.Proofs.YtoiokplgkanepaaDoor
open Go.RowKit
set_option linter.unusedVariables false
set_option linter.unusedSimpArgs false
set_option maxRecDepth 20000

abbrev txt1 : Bytes := [118, 97, 114, 32, 48, 32, 49, 59, 32, 100, 105, 102, 102, 32, 48, 59]
abbrev txt2 : Bytes := [118, 97, 114, 32, 48, 32, 49, 59, 32, 100, 105, 102, 102, 32, 49, 59]
abbrev txt3 : Bytes := [118, 97, 114, 32, 49, 32, 48, 59]
abbrev tks1 : List Tok := [⟨1, [118, 97, 114], 0, 0⟩, ⟨2, [], 0, 4⟩, ⟨2, [], 1, 6⟩, ⟨3, [59], 0, 7⟩, ⟨1, [100, 105, 102, 102], 0, 9⟩, ⟨2, [], 0, 14⟩, ⟨3, [59], 0, 15⟩, ⟨4, [], 0, 16⟩]
abbrev tks2 : List Tok := [⟨1, [118, 97, 114], 0, 0⟩, ⟨2, [], 0, 4⟩, ⟨2, [], 1, 6⟩, ⟨3, [59], 0, 7⟩, ⟨1, [100, 105, 102, 102], 0, 9⟩, ⟨2, [], 1, 14⟩, ⟨3, [59], 0, 15⟩, ⟨4, [], 0, 16⟩]
abbrev tks3 : List Tok := [⟨1, [118, 97, 114], 0, 0⟩, ⟨2, [], 1, 4⟩, ⟨2, [], 0, 6⟩, ⟨3, [59], 0, 7⟩, ⟨4, [], 0, 8⟩]
abbrev ins1 : Ins := ⟨[[0, 1]], [⟨3, [0], [], []⟩], []⟩
theorem sc1 : scanA 0 txt1 = .good tks1 := by decide
theorem sc2 : scanA 0 txt2 = .good tks2 := by decide
theorem sc3 : scanA 0 txt3 = .good tks3 := by decide
theorem ps1 : parseR tks1 = .ok ins1 [⟨4, [], 0, 16⟩] := by decide
theorem ps2 : parseR tks2 = .fault 14 5 := by decide
theorem ps3 : parseR tks3 = .fault 6 6 := by decide

theorem plain1 : PlainI ins1 := ⟨by decide, by
  intro d hd
  simp at hd
  subst hd
  exact ⟨by decide, by intro n hn; simp at hn; omega⟩, by decide, by
  intro c hc
  simp at hc
  subst hc
  exact ⟨⟨3, rfl, by omega, by omega, rfl, rfl⟩, by decide⟩, rfl⟩

def dec1 (n : Int) : Bytes := if n = 0 then [48] else [49]
theorem tells0 : Tells10 dec1 0 := fun W _ => itoa0 W
theorem tells1 : Tells10 dec1 1 := fun W _ => itoa1 W
theorem text1 : textP dec1 ins1 = [118, 97, 114, 32, 48, 32, 49, 59, 10, 100, 105, 102, 102, 32, 48, 59, 10] := by decide

set_option maxHeartbeats 2000000 in
theorem shown6_any (w : World) (T : Tabs w) : Calls Tryd.prog 7 #[] w fun e w' => e = .returned (.bool true) ∧ Below w.heap.size w w' := by
  have H1 := hide (parse_good ⟨txt1.toArray⟩ w T (by decide) sc1)
  have H2 := hide (fun W (hb : Below w.heap.size w W) => parse_good ⟨txt2.toArray⟩ W (T.below hb) (by decide) sc2)
  have H3 := hide (fun W (hb : Below w.heap.size w W) => parse_good ⟨txt3.toArray⟩ W (T.below hb) (by decide) sc3)
  rw [ps1] at H1
  rw [ps2] at H2
  rw [ps3] at H3
  have HT := hide T
  clear T
  go_enter Tryd.func7, Tryd.ntmps7
  go_wp2_with fail
  refine (unhide H1).mono ?_
  rintro e w1 ⟨⟨v, rfl, hv⟩, hb1⟩
  have HV := hide hv
  have hv0 := hv
  obtain ⟨dv, hh, sv, rfl, hdo, ⟨qs, q1, q2, q3, q4⟩, us, s1, s2, s3, s4⟩ := hv0
  obtain ⟨da, dc, rfl, _, _⟩ := hdo.form
  obtain ⟨ha, hc, rfl, _, _⟩ := q1.form
  obtain ⟨sa, sc, rfl, _, _⟩ := s1.form
  have hq1 : qs.length = 1 := q3
  have hu0 : us.length = 0 := s3
  obtain ⟨bb, oo, rfl, k0, kr⟩ := q1.at (i := 0) (by omega)
  clear kr
  have ka := (q4 0 (by omega) (by decide)).1
  rw [ka] at k0
  simp only [Nat.zero_mul, Nat.add_zero, List.getElem_cons_zero, List.length_cons, List.length_nil, Nat.zero_add] at k0 HV
  rw [hq1, hu0] at HV
  simp only [List.length_cons, List.length_nil, Nat.zero_add]
  rw [hq1, hu0]
  have hbA := (Below.refl w1.heap.size w1).alloc (Nat.le_refl _) (.cells #[.slice da 1 dc, .slice (some ⟨bb, oo, none⟩) 1 hc, .slice sa 0 sc] 27)
  have x1 := Box3.new 27 w1 (.slice da 1 dc) (.slice (some ⟨bb, oo, none⟩) 1 hc) (.slice sa 0 sc)
  have hB1 := below_then hb1 hbA
  have HP2 := hide (unhide H2 _ hB1)
  have HBA := hide hbA
  have HB1 := hide hB1
  have X1 := hide x1
  have K0 := hide k0
  clear hv hdo q1 q2 q3 q4 s1 s2 s3 s4 ka hq1 hu0 hbA hB1 x1 hb1 k0 H1 H2
  go_wp2_with fail
  refine (unhide HP2).mono ?_
  rintro e w2 ⟨rfl, hb2⟩
  have hbB := (Below.refl w2.heap.size w2).alloc (Nat.le_refl _) (.cells #[.slice none 0 0, .slice none 0 0, .slice none 0 0] 27)
  have hB2 := below_then (below_then (unhide HB1) hb2) hbB
  have HP3 := hide (unhide H3 _ hB2)
  have HB2 := hide hB2
  have HBB := hide (below_then hb2 hbB)
  clear hbB hB2 hb2 HP2
  go_wp2_with fail
  refine (unhide HP3).mono ?_
  rintro e w3 ⟨rfl, hb3⟩
  have hbC := (Below.refl w3.heap.size w3).alloc (Nat.le_refl _) (.cells #[.slice none 0 0, .slice none 0 0, .slice none 0 0] 27)
  have hB3 := below_then (below_then (unhide HB2) hb3) hbC
  have hBx := below_then (below_then (unhide HBB) hb3) hbC
  have x3 := (unhide X1).keep (grown_below hBx none) (by simp)
  have c0 := x3.cell0; have c1 := x3.cell1; have c2 := x3.cell2
  have c5 := Below.cell_of hBx (Below.cell_of (unhide HBA) (unhide K0))
  have hv3 := ((unhide HV).below (unhide HBA)).below hBx
  have HRT := hide (right_plain hv3 plain1)
  have HPT := hide (fun W hb => print_plain (dec := dec1) (w := W) (hv3.below hb) plain1 ((unhide HT).below (below_then hB3 hb)) (by simp) (by
    intro d hd
    simp at hd
    subst hd
    exact ⟨by simp, by intro n hn; simp at hn; rcases hn with rfl | rfl; exact ⟨tells0, by decide⟩; exact ⟨tells1, by decide⟩⟩) (by
    intro c hc
    simp at hc
    subst hc
    exact ⟨by simp, by intro n hn; simp at hn; subst hn; exact ⟨tells0, by decide⟩⟩))
  rw [text1] at HPT
  have HB3 := hide hB3
  have X3 := hide x3
  clear hbC hB3 hBx x3 hv3 HP3 hb3 HB1 HB2 HBA HBB X1 K0 HV
  go_wp2_with fail
  refine (unhide HRT).mono ?_
  rintro e w4 ⟨rfl, hb4⟩
  have x4 := (unhide X3).keep (grown_below hb4 none) (by simp)
  have d0 := x4.cell0; have d1 := x4.cell1; have d2 := x4.cell2
  clear c0 c1 c2 x4
  go_wp2_with fail
  refine (unhide HPT _ hb4).mono ?_
  rintro e w5 ⟨rfl, hb5⟩
  go_wp2
  go_ret
  exact ⟨rfl, below_then (below_then (unhide HB3) hb4) hb5⟩

set_option maxHeartbeats 1000000 in
theorem tuples_nil {a b : Option Addr} {c d : Nat} {w : World} : Calls Tryd.prog 16 #[.slice a 0 c, .slice b 0 d] w fun e w' => e = .returned (.bool true) ∧ w' = w := by
  go_enter Tryd.func16, Tryd.ntmps16
  go_wp2
  go_loop [5] (fun i => i = .int .i64 0) (fun _ => 0)
  case atStart => rfl
  case round =>
    subst hrel
    go_wp2
    go_ret
    exact ⟨rfl, rfl⟩

set_option maxHeartbeats 1000000 in
theorem same_nil {a1 a2 a3 b1 b2 b3 : Option Addr} {c1 c2 c3 d1 d2 d3 : Nat} {w : World} :
    Calls Tryd.prog 9 #[.agg #[.slice a1 0 c1, .slice a2 0 c2, .slice a3 0 c3], .agg #[.slice b1 0 d1, .slice b2 0 d2, .slice b3 0 d3]] w fun e w' => e = .returned (.bool true) ∧ Below w.heap.size w w' := by
  have HTU := hide (fun W => tuples_nil (a := a1) (b := b1) (c := c1) (d := d1) (w := W))
  have hbA := ((Below.refl w.heap.size w).alloc (Nat.le_refl _) (.cells #[.slice a1 0 c1, .slice a2 0 c2, .slice a3 0 c3] 27)).alloc (by simp) (.cells #[.slice b1 0 d1, .slice b2 0 d2, .slice b3 0 d3] 27)
  have HB := hide hbA
  clear hbA
  go_enter Tryd.func9, Tryd.ntmps9
  go_wp2_with fail
  refine (unhide HTU _).mono ?_
  rintro e w1 ⟨rfl, rfl⟩
  go_wp2
  go_loop [5] (fun i => i = .int .i64 0) (fun _ => 0)
  case atStart => rfl
  case round =>
    subst hrel
    go_wp2
    go_loop [8] (fun i => i = .int .i64 0) (fun _ => 0)
    case atStart => rfl
    case round =>
      subst hrel
      go_wp2
      go_ret
      exact ⟨rfl, unhide HB⟩

end Go.Proofs.YtoiokplgkanepaaDoor

namespace Go.Proofs.YtoiokplgkanepaaDoor
open Go.RowKit Go.ChangeShapes Go.WideShapes Go.ChangeAt Go.WideElems
set_option linter.unusedVariables false
set_option linter.unusedSimpArgs false
set_option maxRecDepth 100000

theorem own : ownKnob Tryd.prog.godebug = none := by kernel_rfl
theorem laidOut : laidOutB Tryd.prog = true := by kernel_rfl

/-- The listed variables. -/
abbrev laidIn : List (String × DataW Unit) := [("math/bits.deBruijn32tab", Rows.laid_math_bits_deBruijn32tab), ("math/bits.deBruijn64tab", Rows.laid_math_bits_deBruijn64tab), ("internal/strconv.uint64pow10", Rows.laid_internal_strconv_uint64pow10), ("arborist/inst.words", Rows.laid_arborist_inst_words)]
abbrev doorN : Nat := 2000

theorem door_met (os : Os) (args : Array Value) : laidMetH Tryd.prog laidIn ((World.doorLaid Tryd.prog doorN os).forCall (fun _ _ => 0) ⟨#[], args, []⟩).memory :=
  laidMetH_of_parts3 (fuel := 80) (laidMet_of_run' 80 (by kernel_rfl) (by kernel_rfl)) (by kernel_rfl) (by kernel_rfl)

theorem gWords : Tryd.prog.globalNamed "arborist/inst.words" = some 0 := by kernel_rfl
theorem tWords : (Tryd.prog.globals[0]?).map (·.type) = some 90 := by kernel_rfl
theorem uWords : Tryd.prog.underlying 90 = some (.array 11 9) := by kernel_rfl

/-- The words lie where the program has them. -/
theorem tabs_of {W : World} (h : laidMetH Tryd.prog laidIn W) : Tabs W := by
  rw [MakeChecks.laidMetH_plain _ _ _ (by kernel_rfl)] at h
  obtain ⟨ps, ⟨g0, t0, cs0, f0, p0, q0, hg0, ht0, hv0, hd0, ⟨g1, t1, cs1, f1, p1, q1, hg1, ht1, hv1, hd1, ⟨g2, t2, cs2, f2, p2, q2, hg2, ht2, hv2, hd2, ⟨g3, t3, cs3, f3, p3, q3, hg3, ht3, hv3, hd3, _, _⟩, _⟩, _⟩, _⟩, _, _⟩ := h
  obtain rfl := Option.some.inj (gWords.symm.trans hg3)
  obtain rfl := Option.some.inj (tWords.symm.trans ht3)
  obtain ⟨xs, m, rfl, hx, hlen, hn, hel⟩ := DataW.trod_array uWords hd3
  have c1 : Tryd.prog.cellsOf 9 = 1 := by kernel_rfl
  simp only [Prod.mk.injEq] at hx
  have hx1 := hx.1
  have e0 : Rows.laid_arborist_inst_words (H := Unit) = .agg (wordsL.map fun b => .lit (.string b)) := rfl
  rw [e0, DataW.agg.injEq] at hx1
  intro i hi
  have hi11 : i < 11 := hi
  have hxi : (xs.map (·.1))[i]? = some (.lit (.string wordsL[i])) := by rw [← hx1, List.getElem?_map, List.getElem?_eq_getElem hi]; rfl
  rw [List.getElem?_map] at hxi
  cases hxs : xs[i]? with
  | none => rw [hxs] at hxi; cases hxi
  | some y =>
    have h3 := hel i hi11
    rw [hxs] at h3 hxi
    obtain ⟨s, hs1, hs2, _⟩ := DataW.trod_string Tryd.underlying9 h3
    rw [c1, Nat.mul_one] at hs1
    simp only [Option.map_some, Option.some.injEq] at hxi
    rw [hs2] at hxi
    simp only [DataW.lit.injEq, Lit.string.injEq] at hxi
    have hc := World.var?_cell hg3 hv3 i
    have hci : cs3[i]? = some (.string s) := by
      have h5 : (cs3.toList.drop i).take 1 = [.string s] := hs1
      have h6 : (cs3.toList.drop i)[0]? = some (.string s) := by
        cases hl : cs3.toList.drop i with
        | nil => rw [hl] at h5; cases h5
        | cons a b => rw [hl] at h5; simp at h5; subst h5; rfl
      rw [List.getElem?_drop] at h6
      simpa using h6
    rw [hci] at hc
    rw [hc]
    exact congrArg (fun z => some (Value.string z)) (ba_of _ _ hxi)

theorem bytes_cells {w : World} {x : Addr} {len cap : Nat} {zs : List Int} (hl : len ≤ cap) (hm : cap ≤ maxLen) (hz : zs.length = cap) (hcell : ∀ i, i < zs.length → w.cell? (x.add i) = some (.int .u8 (zs.getD i 0))) (hwz : ∀ z ∈ zs, 0 ≤ z ∧ z ≤ 255) :
    Seq byC w (.slice (some x) len cap) ((zs.take len).map fun z => UInt8.ofNat z.toNat) := by
  have hspot : 0 < zs.length → x.spot = none := by
    intro h
    have := hcell 0 h
    simp only [Addr.add, if_true, World.cell?] at this
    split at this
    · split at this
      · cases this
      · rename_i hs; cases hx : x.spot with
        | none => rfl
        | some y => rw [hx] at hs; simp at hs
    · cases this
  refine ⟨some x, cap, by rw [List.length_map, List.length_take, Nat.min_eq_left (by omega)], by simp; omega, hm, by simp, ?_, fun i y hi => ⟨x, rfl, ?_⟩⟩
  · intro x' hx' hne
    cases hx'
    refine hspot ?_
    cases zs with
    | nil => simp at hne
    | cons _ _ => simp
  · have hil : i < len := by
      rcases Nat.lt_or_ge i len with h | h
      · exact h
      · rw [List.getElem?_eq_none (by simp; omega)] at hi; cases hi
    have := hcell i (by omega)
    rw [addr_add (hspot (by omega))] at this
    rw [List.getElem?_map, List.getElem?_take, if_pos hil] at hi
    cases hzi : zs[i]? with
    | none => rw [hzi] at hi; cases hi
    | some z =>
      rw [hzi] at hi
      simp only [Option.map_some, Option.some.injEq] at hi
      subst hi
      obtain ⟨h1, h2⟩ := hwz z (List.mem_of_getElem? hzi)
      rw [this, List.getD_eq_getElem?_getD, hzi]
      have h3 : ((UInt8.ofNat z.toNat).toNat : Int) = z := by rw [UInt8.toNat_ofNat']; omega
      show some (Value.int .u8 z) = some (byC (UInt8.ofNat z.toNat))
      unfold byC
      rw [h3]

theorem wf_byte {n : Int} (h : (Lit.int .u8 n).wf = true) : 0 ≤ n ∧ n ≤ 255 := by simpa [Lit.wf, IntKind.min, IntKind.max, IntKind.signed, IntKind.bits] using h

theorem read_bytes {H : Type} {enc : TypeId × Value → H} {W : World} {v : Value} {d : DataW H} {ps : List MemPlace} {base : Nat} {held : Bool} (h : DataW.Trod enc Tryd.prog W base (fun _ => true) held 38 v d ps) (hv : ∃ a n c, v = .slice a n c) :
    ∃ l : Bytes, Seq byC W v l := by
  obtain ⟨a, n, c, rfl⟩ := hv
  obtain ⟨fuel, hf⟩ := h
  rcases open_ints Tryd.underlying38 Tryd.underlying5 (by kernel_rfl) hf with ⟨hcs, _⟩ | ⟨x, l, c', zs, hcs, _, hl, hm, hz, _, hcell, hwz⟩
  · simp [Value.cells] at hcs
    obtain ⟨rfl, rfl, rfl⟩ := hcs
    exact ⟨[], Seq.nil _ _⟩
  · simp [Value.cells] at hcs
    obtain ⟨rfl, rfl, rfl⟩ := hcs
    exact ⟨_, bytes_cells hl hm (by simpa using hz) hcell (fun k hk => wf_byte (hwz k hk))⟩

theorem read_string {H : Type} {enc : TypeId × Value → H} {W : World} {v : Value} {d : DataW H} {ps : List MemPlace} {base b0 : Nat} {held : Bool} {r : Reach} (h : DataW.Trod enc Tryd.prog W base (fun _ => true) held 9 v d ps) (hv : Value.okWide Tryd.prog W r b0 9 v) :
    ∃ s : ByteArray, v = .string s ∧ s.size ≤ maxLen := by
  obtain ⟨s, hv, _, _, hs⟩ := Go.ChangeMaps.open_string Tryd.underlying9 hv h
  exact ⟨s, hv, hs⟩

def InI64 (n : Int) : Prop := -9223372036854775808 ≤ n ∧ n ≤ 9223372036854775807
theorem wf_in {n : Int} (h : (Lit.int .i64 n).wf = true) : InI64 n := by unfold InI64; simpa [Lit.wf, IntKind.min, IntKind.max, IntKind.signed, IntKind.bits] using h

theorem read_int {H : Type} {enc : TypeId × Value → H} {W : World} {v : Value} {d : DataW H} {ps : List MemPlace} {base b0 : Nat} {held : Bool} {r : Reach} (h : DataW.Trod enc Tryd.prog W base (fun _ => true) held 3 v d ps) (hv : Value.okWide Tryd.prog W r b0 3 v) :
    ∃ n, v = .int .i64 n ∧ InI64 n := by
  obtain ⟨n, hv, _, _, hw⟩ := open_int Tryd.underlying3 hv h
  exact ⟨n, hv, wf_in hw⟩

end Go.Proofs.YtoiokplgkanepaaDoor

namespace Go.Proofs.YtoiokplgkanepaaDoor
set_option linter.unusedVariables false
set_option linter.unusedSimpArgs false

def Tok.up (d : Nat) (t : Tok) : Tok := { t with at_ := t.at_ + d }
def Scan.up (d : Nat) : Scan → Scan
  | .bad p e => .bad (p + d) e
  | .good l => .good (l.map (Tok.up d))
theorem up_pre (d : Nat) (ts : List Tok) (s : Scan) : (s.pre ts).up d = (s.up d).pre (ts.map (Tok.up d)) := by cases s <;> simp [Scan.pre, Scan.up]

theorem rest_lt {l : Bytes} {k : Int} {t : Bytes} {n : Int} {len : Nat} (h : tokG (l.drop (skipN false l)) = .tok k t n len) (h4 : k ≠ 4) : ((l.drop (skipN false l)).drop len).length < l.length := by
  obtain ⟨h1, h2, h3, _⟩ := tok_len h
  have := h2 h4
  simp only [List.length_drop] at h1 ⊢
  omega

theorem scan_up (d : Nat) : ∀ (N : Nat) (l : Bytes) (p : Nat), l.length < N → scanA (p + d) l = (scanA p l).up d
  | 0, _, _, h => by omega
  | N + 1, l, p, h => by
    rw [scan_eq (p + d), scan_eq p]
    cases ht : tokG (l.drop (skipN false l)) with
    | bad e => simp only [Scan.up]; congr 1; omega
    | tok k t n len =>
      simp only []
      split
      · simp only [Scan.up, List.map_cons, List.map_nil, Tok.up]; congr 3; omega
      · rename_i h4
        have hl := rest_lt ht h4
        rw [up_pre, ← scan_up d N _ _ (by omega)]
        simp only [List.map_cons, List.map_nil, Tok.up]
        have e1 : p + d + skipN false l + len = p + skipN false l + len + d := by omega
        have e2 : p + d + skipN false l = p + skipN false l + d := by omega
        rw [e1, e2]

/-- What is left out ahead may be left out. -/
theorem scan_skip (p k : Nat) (l : Bytes) (hs : skipN false l = k + skipN false (l.drop k)) : scanA p l = scanA (p + k) (l.drop k) := by
  rw [scan_eq p l, scan_eq (p + k) (l.drop k), hs, List.drop_drop, ← Nat.add_assoc]

theorem takeWhile_app {p : UInt8 → Bool} (h : p 10 = false) : ∀ (x b : Bytes), (x ++ 10 :: b).takeWhile p = x.takeWhile p
  | [], b => by simp [List.takeWhile_cons, h]
  | c :: r, b => by simp only [List.cons_append, List.takeWhile_cons]; rw [takeWhile_app h r b]

theorem tok_app {x : Bytes} (hx : x ≠ []) (b : Bytes) : tokG (x ++ 10 :: b) = tokG x := by
  cases x with
  | nil => exact absurd rfl hx
  | cons c r =>
    rw [List.cons_append, tokG_cons, tokG_cons]
    have h1 := takeWhile_app (p := letterB) rfl (c :: r) b
    have h2 := takeWhile_app (p := digitB) rfl (c :: r) b
    have h3 := takeWhile_app (p := digitB) rfl r b
    rw [List.cons_append] at h1 h2
    unfold runN
    rw [h1, h2, h3]

theorem skip_app : ∀ (note : Bool) (a b : Bytes), (skipN note a = a.length → skipN note (a ++ 10 :: b) = a.length + 1 + skipN false b) ∧ (skipN note a < a.length → skipN note (a ++ 10 :: b) = skipN note a)
  | note, [], b => by simp [skipN]; omega
  | note, c :: r, b => by
    have i1 := skip_app false r b
    have i2 := skip_app true r b
    have i3 := skip_app note r b
    simp only [List.cons_append, skipN, List.length_cons]
    split
    · exact ⟨fun h => by have := i1.1 (by omega); omega, fun h => by have := i1.2 (by omega); omega⟩
    · split
      · exact ⟨fun h => by have := i2.1 (by omega); omega, fun h => by have := i2.2 (by omega); omega⟩
      · split
        · exact ⟨fun h => by omega, fun h => rfl⟩
        · exact ⟨fun h => by have := i3.1 (by omega); omega, fun h => by have := i3.2 (by omega); omega⟩

def Scan.join (rest : Scan) : Scan → Scan
  | .bad q e => .bad q e
  | .good ts => rest.pre ts.dropLast

theorem scan_ne (N : Nat) : ∀ (l : Bytes) (p : Nat) (ts : List Tok), l.length < N → scanA p l = .good ts → ts ≠ [] := by
  intro l p ts hN h
  rw [scan_eq] at h
  cases ht : tokG (l.drop (skipN false l)) with
  | bad e => rw [ht] at h; cases h
  | tok k t n len =>
    rw [ht] at h
    simp only [] at h
    split at h
    · cases h; simp
    · rename_i h4
      cases hs : scanA (p + skipN false l + len) ((l.drop (skipN false l)).drop len) with
      | bad q e => rw [hs] at h; cases h
      | good l' => rw [hs] at h; cases h; simp

theorem join_pre (rest : Scan) (t : Tok) (s : Scan) (h : ∀ ts, s = .good ts → ts ≠ []) : Scan.join rest (s.pre [t]) = (Scan.join rest s).pre [t] := by
  cases s with
  | bad q e => rfl
  | good ts =>
    have := h ts rfl
    simp only [Scan.pre, Scan.join, List.cons_append, List.nil_append]
    rw [List.dropLast_cons_of_ne_nil this]
    cases rest <;> simp [Scan.pre]

/-- Two texts, with a line end between. -/
theorem scan_join : ∀ (N : Nat) (a b : Bytes) (p : Nat), a.length < N → scanA p (a ++ 10 :: b) = Scan.join (scanA (p + a.length + 1) b) (scanA p a)
  | 0, _, _, _, h => by omega
  | N + 1, a, b, p, h => by
    have hle := skip_le false a
    obtain ⟨s1, s2⟩ := skip_app false a b
    by_cases hk : skipN false a = a.length
    · have h1 := s1 hk
      have hd : (a ++ 10 :: b).drop (a.length + 1) = b := by simp [List.drop_append]
      have e1 := scan_skip p (a.length + 1) (a ++ 10 :: b) (by rw [hd]; exact h1)
      rw [e1, hd, scan_eq p a, hk, List.drop_eq_nil_of_le (Nat.le_refl _)]
      simp only [tokG, if_true, Scan.join, List.dropLast_singleton]
      cases scanA (p + (a.length + 1)) b <;> simp [Scan.pre, Nat.add_assoc] <;> rfl
    · have h2 := s2 (by omega)
      have hx : a.drop (skipN false a) ≠ [] := by intro e; have := congrArg List.length e; simp at this; omega
      have hd : (a ++ 10 :: b).drop (skipN false a) = a.drop (skipN false a) ++ 10 :: b := by rw [List.drop_append_of_le_length (by omega)]
      rw [scan_eq p (a ++ 10 :: b), scan_eq p a, h2, hd, tok_app hx]
      cases ht : tokG (a.drop (skipN false a)) with
      | bad e => rfl
      | tok k t n len =>
        obtain ⟨l1, l2, l3, _⟩ := tok_len ht
        simp only []
        split
        · rename_i h4; exact absurd (l3 h4).1 hx
        · rename_i h4
          have hl := rest_lt ht h4
          rw [List.drop_append_of_le_length l1, scan_join N _ _ _ (by omega), join_pre _ _ _ (fun ts hts => scan_ne (a.length) _ _ ts hl hts)]
          have e : p + skipN false a + len + ((a.drop (skipN false a)).drop len).length + 1 = p + a.length + 1 := by simp only [List.length_drop] at l1 ⊢; omega
          rw [e]

/-- The last token, and only it, is the end. -/
theorem scan_last : ∀ (N : Nat) (l : Bytes) (p : Nat) (ts : List Tok), l.length < N → scanA p l = .good ts → ∃ i, ts = i ++ [⟨4, [], 0, p + l.length⟩] ∧ ∀ t ∈ i, t.kind ≠ 4
  | 0, _, _, _, h, _ => by omega
  | N + 1, l, p, ts, hN, h => by
    have hle := skip_le false l
    rw [scan_eq] at h
    cases ht : tokG (l.drop (skipN false l)) with
    | bad e => rw [ht] at h; cases h
    | tok k t n len =>
      obtain ⟨l1, l2, l3, _⟩ := tok_len ht
      rw [ht] at h
      simp only [] at h
      split at h
      · rename_i h4
        have := congrArg List.length (l3 h4).1
        simp at this
        cases h
        refine ⟨[], ?_, by simp⟩
        simp; omega
      · rename_i h4
        have hl := rest_lt ht h4
        cases hs : scanA (p + skipN false l + len) ((l.drop (skipN false l)).drop len) with
        | bad q e => rw [hs] at h; cases h
        | good l' =>
          rw [hs] at h
          simp only [Scan.pre, Scan.good.injEq] at h
          obtain ⟨i, e1, e2⟩ := scan_last N _ _ l' (by omega) hs
          refine ⟨⟨k, t, n, p + skipN false l⟩ :: i, ?_, ?_⟩
          · rw [← h, e1]
            have e : p + skipN false l + len + ((l.drop (skipN false l)).drop len).length = p + l.length := by simp only [List.length_drop] at l1 ⊢; omega
            rw [e]; rfl
          · intro x hx
            rcases List.mem_cons.1 hx with rfl | hx
            · exact h4
            · exact e2 x hx

theorem scan_end {l : Bytes} {p : Nat} {ts : List Tok} (h : scanA p l = .good ts) : ∃ i, ts = i ++ [⟨4, [], 0, p + l.length⟩] ∧ ∀ t ∈ i, t.kind ≠ 4 := scan_last (l.length + 1) l p ts (Nat.lt_succ_self _) h

/-- No more tokens than bytes, and the end. -/
theorem scan_count : ∀ (N : Nat) (l : Bytes) (p : Nat) (ts : List Tok), l.length < N → scanA p l = .good ts → ts.length ≤ l.length + 1
  | 0, _, _, _, h, _ => by omega
  | N + 1, l, p, ts, hN, h => by
    rw [scan_eq] at h
    cases ht : tokG (l.drop (skipN false l)) with
    | bad e => rw [ht] at h; cases h
    | tok k t n len =>
      rw [ht] at h
      simp only [] at h
      split at h
      · cases h; simp
      · rename_i h4
        have hl := rest_lt ht h4
        cases hs : scanA (p + skipN false l + len) ((l.drop (skipN false l)).drop len) with
        | bad q e => rw [hs] at h; cases h
        | good l' =>
          rw [hs] at h
          simp only [Scan.pre, Scan.good.injEq] at h
          have := scan_count N _ _ l' (by omega) hs
          rw [← h]
          simp only [List.length_append, List.length_cons, List.length_nil]
          omega

theorem scan_le {l : Bytes} {p : Nat} {ts : List Tok} (h : scanA p l = .good ts) : ts.length ≤ l.length + 1 := scan_count (l.length + 1) l p ts (Nat.lt_succ_self _) h

/-- Places are within the text. -/
theorem scan_ats : ∀ (N : Nat) (l : Bytes) (p : Nat) (ts : List Tok), l.length < N → scanA p l = .good ts → ∀ t ∈ ts, p ≤ t.at_ ∧ t.at_ ≤ p + l.length
  | 0, _, _, _, h, _ => by omega
  | N + 1, l, p, ts, hN, h => by
    have hle := skip_le false l
    rw [scan_eq] at h
    cases ht : tokG (l.drop (skipN false l)) with
    | bad e => rw [ht] at h; cases h
    | tok k t n len =>
      obtain ⟨l1, l2, l3, _⟩ := tok_len ht
      rw [ht] at h
      simp only [] at h
      split at h
      · cases h
        intro x hx
        simp at hx
        subst hx
        exact ⟨by simp only []; omega, by simp only []; omega⟩
      · rename_i h4
        have hl := rest_lt ht h4
        cases hs : scanA (p + skipN false l + len) ((l.drop (skipN false l)).drop len) with
        | bad q e => rw [hs] at h; cases h
        | good l' =>
          rw [hs] at h
          simp only [Scan.pre, Scan.good.injEq] at h
          have ih := scan_ats N _ _ l' (by omega) hs
          rw [← h]
          intro x hx
          rcases List.mem_append.1 hx with hx | hx
          · simp at hx
            subst hx
            exact ⟨by simp only []; omega, by simp only []; omega⟩
          · have := ih x hx
            simp only [List.length_drop] at this l1
            omega

theorem scan_at {l : Bytes} {ts : List Tok} (h : scanA 0 l = .good ts) {t : Tok} (ht : t ∈ ts) : t.at_ ≤ l.length := by
  have := (scan_ats (l.length + 1) l 0 ts (Nat.lt_succ_self _) h t ht).2; omega

/-- What is wrong is at a byte that there is. -/
theorem scan_place : ∀ (N : Nat) (l : Bytes) (p q : Nat) (e : Int), l.length < N → scanA p l = .bad q e → p ≤ q ∧ q < p + l.length ∧ e ≠ 0
  | 0, _, _, _, _, h, _ => by omega
  | N + 1, l, p, q, e, hN, h => by
    have hle := skip_le false l
    rw [scan_eq] at h
    cases ht : tokG (l.drop (skipN false l)) with
    | bad e' =>
      rw [ht] at h
      simp only [Scan.bad.injEq] at h
      have hne : l.drop (skipN false l) ≠ [] := by intro e0; rw [e0] at ht; cases ht
      have : skipN false l < l.length := by
        rcases Nat.lt_or_ge (skipN false l) l.length with h' | h'
        · exact h'
        · exact absurd (List.drop_eq_nil_of_le h') hne
      refine ⟨by omega, by omega, ?_⟩
      rw [← h.2]
      have num : ∀ (d : Bytes) (b : Bool), numG d b = .bad e' → e' ≠ 0 := by
        intro d b h
        unfold numG at h
        split at h
        · split at h
          · cases h
          · cases h; decide
        · cases h; decide
      cases hx : l.drop (skipN false l) with
      | nil => exact absurd hx hne
      | cons c r =>
        rw [hx, tokG_cons] at ht
        split at ht
        · cases ht
        · split at ht
          · cases ht
          · split at ht
            · exact num _ _ ht
            · split at ht
              · exact num _ _ ht
              · cases ht; decide
    | tok k t n len =>
      obtain ⟨l1, l2, l3, _⟩ := tok_len ht
      rw [ht] at h
      simp only [] at h
      split at h
      · cases h
      · rename_i h4
        have hl := rest_lt ht h4
        cases hs : scanA (p + skipN false l + len) ((l.drop (skipN false l)).drop len) with
        | good l' => rw [hs] at h; cases h
        | bad q' e' =>
          rw [hs] at h
          simp only [Scan.pre, Scan.bad.injEq] at h
          obtain ⟨i1, i2, i3⟩ := scan_place N _ _ q' e' (by omega) hs
          simp only [List.length_drop] at i2 l1
          refine ⟨by omega, by omega, by rw [← h.2]; exact i3⟩

end Go.Proofs.YtoiokplgkanepaaDoor

namespace Go.Proofs.YtoiokplgkanepaaDoor
set_option linter.unusedVariables false
set_option linter.unusedSimpArgs false

/-- How reading goes where the tokens u are followed by the end E, and, d places on, by m. U: where the tokens are. -/
def Rl {α : Type} (E : Tok) (d : Nat) (m U : List Tok) (P : α → α → Prop) (c : Nat) (u : List Tok) (X Y : Res α) : Prop :=
  (∃ e, e ≠ 0 ∧ X = .fault E.at_ e) ∨ (∃ t ∈ U, ∃ e, e ≠ 0 ∧ X = .fault t.at_ e ∧ Y = .fault (t.at_ + d) e) ∨
  (∃ x y r, P x y ∧ r <:+ u ∧ r.length + c ≤ u.length ∧ X = .ok x (r ++ [E]) ∧ Y = .ok y (r.map (Tok.up d) ++ m))
/-- The same, where it may have stopped at the end. -/
def Rw {α : Type} (E : Tok) (d : Nat) (m U : List Tok) (P : α → α → Prop) (c : Nat) (u : List Tok) (X Y : Res α) : Prop :=
  Rl E d m U P c u X Y ∨ ∃ x, X = .ok x [E]

section
variable {E : Tok} {d : Nat} {m U : List Tok}

theorem Rl.early {α : Type} {P : α → α → Prop} {c : Nat} {u : List Tok} {Y : Res α} {e : Int} (he : e ≠ 0) : Rl E d m U P c u (.fault E.at_ e) Y := .inl ⟨e, he, rfl⟩
theorem Rl.fault {α : Type} {P : α → α → Prop} {c : Nat} {u : List Tok} {t : Tok} {e : Int} (ht : t ∈ U) (he : e ≠ 0) : Rl E d m U P c u (.fault t.at_ e) (.fault (t.up d).at_ e) := .inr (.inl ⟨t, ht, e, he, rfl, rfl⟩)
theorem Rl.ok {α : Type} {P : α → α → Prop} {u : List Tok} {x y : α} (h : P x y) : Rl E d m U P 0 u (.ok x (u ++ [E])) (.ok y (u.map (Tok.up d) ++ m)) := .inr (.inr ⟨x, y, u, h, List.suffix_refl u, by simp, rfl, rfl⟩)
theorem Rl.less {α : Type} {P : α → α → Prop} {c c' : Nat} {u : List Tok} {X Y : Res α} (h : Rl E d m U P c u X Y) (hc : c' ≤ c) : Rl E d m U P c' u X Y := by
  rcases h with h | h | ⟨x, y, r, h1, h2, h3, h4, h5⟩
  · exact .inl h
  · exact .inr (.inl h)
  · exact .inr (.inr ⟨x, y, r, h1, h2, by omega, h4, h5⟩)
theorem Rl.bind {α β : Type} {P : α → α → Prop} {Q : β → β → Prop} {c c' : Nat} {u : List Tok} {X Y : Res α} {f g : α → List Tok → Res β} (h : Rl E d m U P c u X Y)
    (k : ∀ x y r, P x y → r <:+ u → r.length + c ≤ u.length → Rl E d m U Q c' r (f x (r ++ [E])) (g y (r.map (Tok.up d) ++ m))) : Rl E d m U Q (c + c') u (X.bind f) (Y.bind g) := by
  rcases h with ⟨e, he, rfl⟩ | ⟨t, ht, e, he, rfl, rfl⟩ | ⟨x, y, r, h1, h2, h3, rfl, rfl⟩
  · exact .inl ⟨e, he, rfl⟩
  · exact .inr (.inl ⟨t, ht, e, he, rfl, rfl⟩)
  · rcases k x y r h1 h2 h3 with h | h | ⟨x', y', r', k1, k2, k3, k4, k5⟩
    · exact .inl h
    · exact .inr (.inl h)
    · exact .inr (.inr ⟨x', y', r', k1, k2.trans h2, by omega, k4, k5⟩)
theorem Rw.bind {α β : Type} {P : α → α → Prop} {Q : β → β → Prop} {c c' : Nat} {u : List Tok} {X Y : Res α} {f g : α → List Tok → Res β} (h : Rw E d m U P c u X Y)
    (k : ∀ x y r, P x y → r <:+ u → r.length + c ≤ u.length → Rl E d m U Q c' r (f x (r ++ [E])) (g y (r.map (Tok.up d) ++ m))) (ke : ∀ x, ∃ e, e ≠ 0 ∧ f x [E] = .fault E.at_ e) : Rl E d m U Q (c + c') u (X.bind f) (Y.bind g) := by
  rcases h with h | ⟨x, rfl⟩
  · exact h.bind k
  · obtain ⟨e, he, h⟩ := ke x
    exact .inl ⟨e, he, h⟩
theorem Rl.bindW {α β : Type} {P : α → α → Prop} {Q : β → β → Prop} {c c' : Nat} {u : List Tok} {X Y : Res α} {f g : α → List Tok → Res β} (h : Rl E d m U P c u X Y)
    (k : ∀ x y r, P x y → r <:+ u → r.length + c ≤ u.length → Rw E d m U Q c' r (f x (r ++ [E])) (g y (r.map (Tok.up d) ++ m))) : Rw E d m U Q (c + c') u (X.bind f) (Y.bind g) := by
  rcases h with ⟨e, he, rfl⟩ | ⟨t, ht, e, he, rfl, rfl⟩ | ⟨x, y, r, h1, h2, h3, rfl, rfl⟩
  · exact .inl (.inl ⟨e, he, rfl⟩)
  · exact .inl (.inr (.inl ⟨t, ht, e, he, rfl, rfl⟩))
  · rcases k x y r h1 h2 h3 with (h | h | ⟨x', y', r', k1, k2, k3, k4, k5⟩) | h
    · exact .inl (.inl h)
    · exact .inl (.inr (.inl h))
    · exact .inl (.inr (.inr ⟨x', y', r', k1, k2.trans h2, by omega, k4, k5⟩))
    · exact .inr h

/-- A token, and the same d places on. -/
def PT (d : Nat) (U : List Tok) (x y : Tok) : Prop := y = x.up d ∧ x ∈ U

theorem number_rl (hE : E.kind = 4) {u : List Tok} (hu : ∀ t ∈ u, t ∈ U) : Rl E d m U (PT d U) 1 u (numberR (u ++ [E])) (numberR (u.map (Tok.up d) ++ m)) := by
  cases u with
  | nil =>
    show Rl E d m U (PT d U) 1 [] (if E.kind = 2 then _ else _) _
    rw [if_neg (by rw [hE]; decide)]
    exact Rl.early (by decide)
  | cons t r =>
    show Rl E d m U (PT d U) 1 (t :: r) (if t.kind = 2 then .ok t (r ++ [E]) else .fault t.at_ 3) (if t.kind = 2 then .ok (t.up d) (r.map (Tok.up d) ++ m) else .fault (t.up d).at_ 3)
    split
    · exact .inr (.inr ⟨t, t.up d, r, ⟨rfl, hu t (by simp)⟩, List.suffix_cons t r, by simp, rfl, rfl⟩)
    · exact Rl.fault (hu t (by simp)) (by decide)

theorem value_rl (hE : E.kind = 4) {u : List Tok} (hu : ∀ t ∈ u, t ∈ U) : Rl E d m U (PT d U) 1 u (valueR (u ++ [E])) (valueR (u.map (Tok.up d) ++ m)) := by
  unfold valueR
  refine (number_rl hE hu).bind (c' := 0) ?_
  rintro x y r ⟨rfl, hx⟩ hr hl
  show Rl E d m U (PT d U) 0 r (if smallB x.n = true then .ok x (r ++ [E]) else .fault x.at_ 4) (if smallB x.n = true then .ok (x.up d) (r.map (Tok.up d) ++ m) else .fault (x.up d).at_ 4)
  split
  · exact Rl.ok ⟨rfl, hx⟩
  · exact Rl.fault hx (by decide)

theorem sign_rl (may : List Bytes) (hE : E.kind = 4) {u : List Tok} (hu : ∀ t ∈ u, t ∈ U) : Rl E d m U Eq 1 u (signR may (u ++ [E])) (signR may (u.map (Tok.up d) ++ m)) := by
  cases u with
  | nil =>
    show Rl E d m U Eq 1 [] (if E.kind = 3 ∧ E.text ∈ may then _ else _) _
    rw [if_neg (by rw [hE]; simp)]
    exact Rl.early (by decide)
  | cons t r =>
    show Rl E d m U Eq 1 (t :: r) (if t.kind = 3 ∧ t.text ∈ may then .ok t.text (r ++ [E]) else .fault t.at_ 3) (if t.kind = 3 ∧ t.text ∈ may then .ok t.text (r.map (Tok.up d) ++ m) else .fault (t.up d).at_ 3)
    split
    · exact .inr (.inr ⟨t.text, t.text, r, rfl, List.suffix_cons t r, by simp, rfl, rfl⟩)
    · exact Rl.fault (hu t (by simp)) (by decide)
theorem sign_end (may : List Bytes) (hE : E.kind = 4) : signR may [E] = .fault E.at_ 3 := by
  show (if E.kind = 3 ∧ E.text ∈ may then _ else _) = _
  rw [if_neg (by rw [hE]; simp)]

theorem variable_rl (nv : Nat) (ahead : List Int) (hE : E.kind = 4) {u : List Tok} (hu : ∀ t ∈ u, t ∈ U) : Rl E d m U Eq 1 u (variableR nv ahead (u ++ [E])) (variableR nv ahead (u.map (Tok.up d) ++ m)) := by
  unfold variableR
  refine (number_rl hE hu).bind (c' := 0) ?_
  rintro x y r ⟨rfl, hx⟩ hr hl
  show Rl E d m U Eq 0 r (if ahead.length < 6 then (if (0 ≤ x.n ∧ x.n < nv) ∧ aboveB x.n ahead = true then .ok x.n (r ++ [E]) else .fault x.at_ 5) else .fault x.at_ 7) (if ahead.length < 6 then (if (0 ≤ x.n ∧ x.n < nv) ∧ aboveB x.n ahead = true then .ok x.n (r.map (Tok.up d) ++ m) else .fault (x.up d).at_ 5) else .fault (x.up d).at_ 7)
  split
  · split
    · exact Rl.ok rfl
    · exact Rl.fault hx (by decide)
  · exact Rl.fault hx (by decide)

theorem headNum_end (hE : E.kind = 4) : headNum [E] = false := by show (E.kind == 2) = false; rw [hE]; rfl
theorem headNum_up (t : Tok) (r q q' : List Tok) : headNum ((t :: r).map (Tok.up d) ++ q) = headNum (t :: r ++ q') := rfl

theorem scopeF_rw (nv : Nat) (hE : E.kind = 4) : ∀ (f f' : Nat) (acc : List Int) (u : List Tok), (∀ t ∈ u, t ∈ U) → u.length < f → u.length < f' → Rw E d m U Eq 1 u (scopeF nv f acc (u ++ [E])) (scopeF nv f' acc (u.map (Tok.up d) ++ m))
  | 0, _, _, _, _, h, _ => by omega
  | _, 0, _, _, _, _, h => by omega
  | f + 1, f' + 1, acc, u, hu, h1, h2 => by
    rw [scopeF, scopeF]
    refine (variable_rl nv acc hE hu).bindW (c' := 0) ?_
    rintro x y r rfl hr hl
    have hur : ∀ t ∈ r, t ∈ U := fun t ht => hu t (hr.subset ht)
    cases r with
    | nil =>
      simp only [List.nil_append]
      rw [headNum_end hE]
      exact .inr ⟨_, rfl⟩
    | cons t r =>
      rw [headNum_up t r m [E]]
      split
      · have := scopeF_rw nv hE f f' (acc ++ [x]) (t :: r) hur (by omega) (by omega)
        rcases this with h | h
        · exact .inl (h.less (by omega))
        · exact .inr h
      · exact .inl (Rl.ok rfl)
theorem scope_rw (nv : Nat) (hE : E.kind = 4) {u : List Tok} (hu : ∀ t ∈ u, t ∈ U) : Rw E d m U Eq 1 u (scopeR nv (u ++ [E])) (scopeR nv (u.map (Tok.up d) ++ m)) :=
  scopeF_rw nv hE _ _ _ _ hu (by simp; omega) (by simp; omega)

theorem domF_rl (hE : E.kind = 4) : ∀ (f f' : Nat) (acc : List Int) (u : List Tok), (∀ t ∈ u, t ∈ U) → u.length < f → u.length < f' → Rl E d m U Eq 1 u (domF f acc (u ++ [E])) (domF f' acc (u.map (Tok.up d) ++ m))
  | 0, _, _, _, _, h, _ => by omega
  | _, 0, _, _, _, _, h => by omega
  | f + 1, f' + 1, acc, u, hu, h1, h2 => by
    rw [domF, domF]
    refine (value_rl hE hu).bind (c' := 0) ?_
    rintro x y r ⟨rfl, hx⟩ hr hl
    have hur : ∀ t ∈ r, t ∈ U := fun t ht => hu t (hr.subset ht)
    have hn : (x.up d).n = x.n := rfl
    rw [hn]
    split
    · split
      · cases r with
        | nil =>
          simp only [List.nil_append]
          rw [headNum_end hE, if_neg (by decide), sign_end _ hE]
          exact Rl.early (by decide)
        | cons t r =>
          rw [headNum_up t r m [E]]
          split
          · exact (domF_rl hE f f' _ (t :: r) hur (by omega) (by omega)).less (by omega)
          · refine ((sign_rl [semi] hE hur).bind (c' := 0) ?_).less (by omega)
            rintro _ _ r' rfl _ _
            exact Rl.ok rfl
      · exact Rl.fault hx (by decide)
    · exact Rl.fault hx (by decide)
theorem dom_rl (hE : E.kind = 4) {u : List Tok} (hu : ∀ t ∈ u, t ∈ U) : Rl E d m U Eq 1 u (domR (u ++ [E])) (domR (u.map (Tok.up d) ++ m)) :=
  domF_rl hE _ _ _ _ hu (by simp; omega) (by simp; omega)

theorem rowF_rl (D : List (List Int)) (hE : E.kind = 4) : ∀ (vs acc : List Int) (u : List Tok), (∀ t ∈ u, t ∈ U) → Rl E d m U Eq 0 u (rowF D vs acc (u ++ [E])) (rowF D vs acc (u.map (Tok.up d) ++ m))
  | [], acc, u, hu => Rl.ok rfl
  | v :: vs, acc, u, hu => by
    rw [rowF, rowF]
    refine ((value_rl hE hu).bind (c' := 0) ?_).less (by omega)
    rintro x y r ⟨rfl, hx⟩ hr hl
    have hur : ∀ t ∈ r, t ∈ U := fun t ht => hu t (hr.subset ht)
    have hn : (x.up d).n = x.n := rfl
    rw [hn]
    split
    · exact rowF_rl D hE vs _ r hur
    · exact Rl.fault hx (by decide)

theorem row_rl (D : List (List Int)) (scope : List Int) (ahead : List (List Int)) (hE : E.kind = 4) {u : List Tok} (hu : ∀ t ∈ u, t ∈ U) : Rl E d m U Eq 0 u (rowR D scope ahead (u ++ [E])) (rowR D scope ahead (u.map (Tok.up d) ++ m)) := by
  unfold rowR
  refine ((rowF_rl D hE scope [] u hu).bind (c' := 0) ?_).less (by omega)
  rintro x y r rfl hr hl
  split
  · exact Rl.ok rfl
  · cases u with
    | nil => exact Rl.early (by decide)
    | cons t q => exact Rl.fault (t := t) (hu t (by simp)) (by decide)

theorem rowsF_rl (D : List (List Int)) (scope : List Int) (hE : E.kind = 4) : ∀ (f f' : Nat) (acc : List (List Int)) (u : List Tok), (∀ t ∈ u, t ∈ U) → u.length < f → u.length < f' → Rl E d m U Eq 1 u (rowsF D scope f acc (u ++ [E])) (rowsF D scope f' acc (u.map (Tok.up d) ++ m))
  | 0, _, _, _, _, h, _ => by omega
  | _, 0, _, _, _, _, h => by omega
  | f + 1, f' + 1, acc, u, hu, h1, h2 => by
    rw [rowsF, rowsF]
    refine ((row_rl D scope acc hE hu).bind (c' := 1) ?_).less (by omega)
    rintro x y r rfl hr hl
    have hur : ∀ t ∈ r, t ∈ U := fun t ht => hu t (hr.subset ht)
    refine ((sign_rl [comma, semi] hE hur).bind (c' := 0) ?_).less (by omega)
    rintro s _ q rfl hq hl2
    have huq : ∀ t ∈ q, t ∈ U := fun t ht => hur t (hq.subset ht)
    split
    · exact (rowsF_rl D scope hE f f' _ q huq (by omega) (by omega)).less (by omega)
    · exact Rl.ok rfl
theorem rows_rl (D : List (List Int)) (scope : List Int) (hE : E.kind = 4) {u : List Tok} (hu : ∀ t ∈ u, t ∈ U) : Rl E d m U Eq 1 u (rowsR D scope (u ++ [E])) (rowsR D scope (u.map (Tok.up d) ++ m)) := by
  unfold rowsR
  cases u with
  | nil =>
    simp only [List.nil_append]
    rw [headNum_end hE, if_neg (by decide), sign_end _ hE]
    exact Rl.early (by decide)
  | cons t r =>
    rw [headNum_up t r m [E]]
    split
    · exact rowsF_rl D scope hE _ _ _ _ hu (by simp <;> omega) (by simp <;> omega)
    · refine ((sign_rl [semi] hE hu).bind (c' := 0) ?_)
      rintro _ _ r' rfl _ _
      exact Rl.ok rfl

theorem linF_rl (nv : Nat) (hE : E.kind = 4) : ∀ (f f' : Nat) (args scope : List Int) (u : List Tok), (∀ t ∈ u, t ∈ U) → u.length < f → u.length < f' → Rl E d m U Eq 1 u (linF nv f args scope (u ++ [E])) (linF nv f' args scope (u.map (Tok.up d) ++ m))
  | 0, _, _, _, _, _, h, _ => by omega
  | _, 0, _, _, _, _, _, h => by omega
  | f + 1, f' + 1, args, scope, u, hu, h1, h2 => by
    rw [linF, linF]
    refine (value_rl hE hu).bind (c' := 0) ?_
    rintro x y r ⟨rfl, hx⟩ hr hl
    have hur : ∀ t ∈ r, t ∈ U := fun t ht => hu t (hr.subset ht)
    have hn : (x.up d).n = x.n := rfl
    rw [hn]
    split
    · refine ((variable_rl nv scope hE hur).bind (c' := 0) ?_).less (by omega)
      rintro v _ q rfl hq hl2
      have huq : ∀ t ∈ q, t ∈ U := fun t ht => hur t (hq.subset ht)
      refine ((sign_rl [comma, colon] hE huq).bind (c' := 0) ?_).less (by omega)
      rintro s _ p rfl hp hl3
      have hup : ∀ t ∈ p, t ∈ U := fun t ht => huq t (hp.subset ht)
      split
      · exact (linF_rl nv hE f f' _ _ p hup (by omega) (by omega)).less (by omega)
      · exact Rl.ok rfl
    · exact Rl.fault hx (by decide)

theorem wordF_up (t : Tok) : ∀ n k : Nat, wordF (t.up d) n k = wordF t n k
  | 0, _ => rfl
  | n + 1, k => by rw [wordF, wordF, wordF_up t n]; rfl
theorem wordF_end (hE : E.kind = 4) : ∀ n k : Nat, wordF E n k = none
  | 0, _ => rfl
  | n + 1, k => by rw [wordF, wordF_end hE n, if_neg (by rw [hE]; simp)]
theorem wordT_rl (n k : Nat) {t : Tok} (ht : t ∈ U) (r : List Tok) : Rl E d m U Eq 0 r (wordT t n k (r ++ [E])) (wordT (t.up d) n k (r.map (Tok.up d) ++ m)) := by
  unfold wordT
  rw [wordF_up]
  cases wordF t n k with
  | some j => exact Rl.ok rfl
  | none => exact Rl.fault ht (by decide)
theorem word_rl (n k : Nat) (hE : E.kind = 4) {u : List Tok} (hu : ∀ t ∈ u, t ∈ U) : Rl E d m U Eq 0 u (wordR n k (u ++ [E])) (wordR n k (u.map (Tok.up d) ++ m)) := by
  cases u with
  | nil =>
    show Rl E d m U Eq 0 [] (wordT E n k []) _
    unfold wordT
    rw [wordF_end hE]
    exact Rl.early (by decide)
  | cons t r =>
    rcases wordT_rl (E := E) (d := d) (m := m) n k (hu t (by simp)) r with h | h | ⟨x, y, q, h1, h2, h3, h4, h5⟩
    · exact .inl h
    · exact .inr (.inl h)
    · exact .inr (.inr ⟨x, y, q, h1, h2.trans (List.suffix_cons t r), by simp; omega, h4, h5⟩)

theorem linear_rl (nv : Nat) (hE : E.kind = 4) {u : List Tok} (hu : ∀ t ∈ u, t ∈ U) : Rl E d m U Eq 1 u (linearR nv (u ++ [E])) (linearR nv (u.map (Tok.up d) ++ m)) := by
  unfold linearR
  refine ((linF_rl nv hE _ _ [] [] u hu (by simp; omega) (by simp; omega)).bind (c' := 0) ?_)
  rintro ag _ r rfl hr hl
  have hur : ∀ t ∈ r, t ∈ U := fun t ht => hu t (hr.subset ht)
  refine ((word_rl 3 8 hE hur).bind (c' := 0) ?_)
  rintro k _ q rfl hq hl2
  have huq : ∀ t ∈ q, t ∈ U := fun t ht => hur t (hq.subset ht)
  refine ((value_rl hE huq).bind (c' := 0) ?_).less (by omega)
  rintro x _ p ⟨rfl, hx⟩ hp hl3
  have hup : ∀ t ∈ p, t ∈ U := fun t ht => huq t (hp.subset ht)
  refine ((sign_rl [semi] hE hup).bind (c' := 0) ?_).less (by omega)
  rintro _ _ r' rfl _ _
  exact Rl.ok rfl

theorem hard_rl (D : List (List Int)) (kind : Nat) (hE : E.kind = 4) {u : List Tok} (hu : ∀ t ∈ u, t ∈ U) : Rl E d m U Eq 1 u (hardR D kind (u ++ [E])) (hardR D kind (u.map (Tok.up d) ++ m)) := by
  unfold hardR
  split
  · exact linear_rl _ hE hu
  · refine ((scope_rw D.length hE hu).bind (c' := 0) ?_ ?_)
    · rintro scope _ r rfl hr hl
      have hur : ∀ t ∈ r, t ∈ U := fun t ht => hu t (hr.subset ht)
      split
      · refine ((sign_rl [colon] hE hur).bind (c' := 0) ?_).less (by omega)
        rintro _ _ q rfl hq hl2
        have huq : ∀ t ∈ q, t ∈ U := fun t ht => hur t (hq.subset ht)
        refine ((rows_rl D scope hE huq).bind (c' := 0) ?_).less (by omega)
        rintro rows _ p rfl hp hl3
        exact Rl.ok rfl
      · refine ((sign_rl [semi] hE hur).bind (c' := 0) ?_).less (by omega)
        rintro _ _ r' rfl _ _
        exact Rl.ok rfl
    · intro scope
      split
      · rw [sign_end _ hE]; exact ⟨3, by decide, rfl⟩
      · rw [sign_end _ hE]; exact ⟨3, by decide, rfl⟩

theorem softF_rl (D : List (List Int)) (scope : List Int) (hE : E.kind = 4) : ∀ (f f' : Nat) (rows : List (List Int)) (costs : List Int) (u : List Tok), (∀ t ∈ u, t ∈ U) → u.length < f → u.length < f' → Rl E d m U Eq 1 u (softF D scope f rows costs (u ++ [E])) (softF D scope f' rows costs (u.map (Tok.up d) ++ m))
  | 0, _, _, _, _, _, h, _ => by omega
  | _, 0, _, _, _, _, _, h => by omega
  | f + 1, f' + 1, rows, costs, u, hu, h1, h2 => by
    rw [softF, softF]
    refine ((sign_rl [comma, semi] hE hu).bind (c' := 0) ?_)
    rintro s _ q rfl hq hl2
    have huq : ∀ t ∈ q, t ∈ U := fun t ht => hu t (hq.subset ht)
    split
    · refine ((row_rl D scope rows hE huq).bind (c' := 0) ?_).less (by omega)
      rintro x y r rfl hr hl
      have hur : ∀ t ∈ r, t ∈ U := fun t ht => huq t (hr.subset ht)
      refine ((number_rl hE hur).bind (c' := 0) ?_).less (by omega)
      rintro t _ p ⟨rfl, hx⟩ hp hl3
      have hup : ∀ t ∈ p, t ∈ U := fun t ht => hur t (hp.subset ht)
      exact (softF_rl D scope hE f f' _ _ p hup (by omega) (by omega)).less (by omega)
    · exact Rl.ok rfl

theorem soft_rl (D : List (List Int)) (hE : E.kind = 4) {u : List Tok} (hu : ∀ t ∈ u, t ∈ U) : Rl E d m U Eq 1 u (softR D (u ++ [E])) (softR D (u.map (Tok.up d) ++ m)) := by
  unfold softR
  refine ((scope_rw D.length hE hu).bind (c' := 0) ?_ ?_)
  · rintro scope _ r rfl hr hl
    have hur : ∀ t ∈ r, t ∈ U := fun t ht => hu t (hr.subset ht)
    refine ((sign_rl [colon] hE hur).bind (c' := 0) ?_).less (by omega)
    rintro _ _ q rfl hq hl2
    have huq : ∀ t ∈ q, t ∈ U := fun t ht => hur t (hq.subset ht)
    refine ((number_rl hE huq).bind (c' := 0) ?_).less (by omega)
    rintro t _ p ⟨rfl, hx⟩ hp hl3
    have hup : ∀ t ∈ p, t ∈ U := fun t ht => huq t (hp.subset ht)
    refine ((softF_rl D scope hE _ _ [] [] p hup (by simp; omega) (by simp; omega)).bind (c' := 0) ?_).less (by omega)
    rintro rc _ r' rfl _ _
    exact Rl.ok rfl
  · intro scope
    rw [sign_end _ hE]; exact ⟨3, by decide, rfl⟩

theorem stmt_rl (x : Ins) (hE : E.kind = 4) {t : Tok} {u : List Tok} (ht : t ∈ U) (hu : ∀ t ∈ u, t ∈ U) : Rl E d m U Eq 0 u (stmtR x (t :: u ++ [E])) (stmtR x ((t :: u).map (Tok.up d) ++ m)) := by
  show Rl E d m U Eq 0 u (stmtR x (t :: (u ++ [E]))) (stmtR x (t.up d :: (u.map (Tok.up d) ++ m)))
  rw [stmtR, stmtR]
  refine ((wordT_rl 8 0 ht u).bind (c' := 0) ?_)
  rintro k _ q rfl hq hl2
  have huq : ∀ t ∈ q, t ∈ U := fun t ht => hu t (hq.subset ht)
  split
  · split
    · refine ((dom_rl hE huq).bind (c' := 0) ?_).less (by omega)
      rintro _ _ r rfl _ _
      exact Rl.ok rfl
    · exact Rl.fault ht (by decide)
  · split
    · split
      · refine ((soft_rl x.doms hE huq).bind (c' := 0) ?_).less (by omega)
        rintro _ _ r rfl _ _
        exact Rl.ok rfl
      · exact Rl.fault ht (by decide)
    · split
      · refine ((hard_rl x.doms k hE huq).bind (c' := 0) ?_).less (by omega)
        rintro _ _ r rfl _ _
        exact Rl.ok rfl
      · exact Rl.fault ht (by decide)

theorem parseF_rl (hE : E.kind = 4) (hU : ∀ t ∈ U, t.kind ≠ 4) : ∀ (f f' : Nat) (x : Ins) (u : List Tok), (∀ t ∈ u, t ∈ U) → u.length < f → u.length + m.length < f' →
    (∃ e, e ≠ 0 ∧ parseF f x (u ++ [E]) = .fault E.at_ e) ∨ (∃ t ∈ U, ∃ e, e ≠ 0 ∧ parseF f x (u ++ [E]) = .fault t.at_ e ∧ parseF f' x (u.map (Tok.up d) ++ m) = .fault (t.at_ + d) e) ∨
    ∃ y g, parseF f x (u ++ [E]) = .ok y [E] ∧ parseF f' x (u.map (Tok.up d) ++ m) = parseF g y m ∧ m.length < g
  | 0, _, _, _, _, h, _ => by omega
  | _, 0, _, _, _, _, h => by omega
  | f + 1, f' + 1, x, u, hu, h1, h2 => by
    cases u with
    | nil =>
      refine .inr (.inr ⟨x, f' + 1, ?_, rfl, by simpa using h2⟩)
      show parseF (f + 1) x [E] = _
      rw [parseF, if_pos hE]
    | cons t u =>
      have ht := hu t (by simp)
      have e1 : parseF (f + 1) x (t :: u ++ [E]) = (stmtR x (t :: u ++ [E])).bind fun x r => parseF f x r := by
        show parseF (f + 1) x (t :: (u ++ [E])) = _
        rw [parseF, if_neg (hU t ht)]; rfl
      have e2 : parseF (f' + 1) x ((t :: u).map (Tok.up d) ++ m) = (stmtR x ((t :: u).map (Tok.up d) ++ m)).bind fun x r => parseF f' x r := by
        show parseF (f' + 1) x (t.up d :: (u.map (Tok.up d) ++ m)) = _
        rw [parseF, if_neg (show ¬ (t.up d).kind = 4 from hU t ht)]; rfl
      rw [e1, e2]
      simp only [List.length_cons] at h1 h2
      rcases stmt_rl (E := E) (d := d) (m := m) x hE ht (fun s (hs : s ∈ u) => hu s (List.mem_cons_of_mem _ hs)) with ⟨e, he, h⟩ | ⟨s, hs, e, he, h, h'⟩ | ⟨y, _, r, rfl, k1, k2, k3, k4⟩
      · rw [h]; exact .inl ⟨e, he, rfl⟩
      · rw [h, h']; exact .inr (.inl ⟨s, hs, e, he, rfl, rfl⟩)
      · rw [k3, k4]
        simp only [Res.bind]
        exact parseF_rl hE hU f f' y r (fun t ht => hu t (by simp [k1.subset ht])) (by omega) (by omega)

end

/-- What is read grows. -/
def InsLe (x y : Ins) : Prop := x.doms.length ≤ y.doms.length ∧ x.hard.length ≤ y.hard.length ∧ x.soft.length ≤ y.soft.length
theorem stmt_le {x y : Ins} {ts r : List Tok} (h : stmtR x ts = .ok y r) : InsLe x y := by
  cases ts with
  | nil => cases h
  | cons t q =>
    rw [stmtR] at h
    obtain ⟨k, q1, h1, h2⟩ := bind_ok h
    split at h2
    · split at h2
      · obtain ⟨d, q2, h3, h4⟩ := bind_ok h2
        cases h4
        exact ⟨by simp, Nat.le_refl _, Nat.le_refl _⟩
      · cases h2
    · split at h2
      · split at h2
        · obtain ⟨d, q2, h3, h4⟩ := bind_ok h2
          cases h4
          exact ⟨Nat.le_refl _, Nat.le_refl _, by simp⟩
        · cases h2
      · split at h2
        · obtain ⟨d, q2, h3, h4⟩ := bind_ok h2
          cases h4
          exact ⟨Nat.le_refl _, by simp, Nat.le_refl _⟩
        · cases h2
theorem parse_le : ∀ (f : Nat) (x : Ins) (ts : List Tok) {y : Ins} {r : List Tok}, parseF f x ts = .ok y r → InsLe x y
  | 0, _, _, _, _, h => by cases h
  | _ + 1, _, [], _, _, h => by cases h
  | f + 1, x, t :: q, y, r, h => by
    rw [parseF] at h
    split at h
    · cases h; exact ⟨Nat.le_refl _, Nat.le_refl _, Nat.le_refl _⟩
    · obtain ⟨z, q1, h1, h2⟩ := bind_ok h
      obtain ⟨a1, a2, a3⟩ := stmt_le h1
      obtain ⟨b1, b2, b3⟩ := parse_le f z q1 h2
      exact ⟨by omega, by omega, by omega⟩

theorem up_none (l : List Tok) : l.map (Tok.up 0) = l := by
  induction l with
  | nil => rfl
  | cons t r ih => rw [List.map_cons, ih]; rfl

/-- What is wrong is told by a token's place. -/
theorem parse_place {i : List Tok} {E : Tok} (hE : E.kind = 4) (hi : ∀ t ∈ i, t.kind ≠ 4) (f : Nat) (x : Ins) (hf : i.length < f) {p : Nat} {c : Int} (h : parseF f x (i ++ [E]) = .fault p c) : c ≠ 0 ∧ (p = E.at_ ∨ ∃ t ∈ i, p = t.at_) := by
  rcases parseF_rl (E := E) (d := 0) (m := [E]) (U := i) hE hi f (i.length + 2) x i (fun _ h => h) hf (by simp) with ⟨e, he, k⟩ | ⟨t, ht, e, he, k, _⟩ | ⟨y, g, k, _⟩
  · rw [k] at h; cases h; exact ⟨he, .inl rfl⟩
  · rw [k] at h; cases h; exact ⟨he, .inr ⟨t, ht, rfl⟩⟩
  · rw [k] at h; cases h

/-- What Parse answers of a text. -/
def textR (l : Bytes) : Res Ins :=
  match scanA 0 l with
  | .bad p e => .fault p e
  | .good ts => parseR ts

theorem tok_bad24 {l : Bytes} {e : Int} (h : tokG l = .bad e) : e = 2 ∨ e = 4 := by
  have num : ∀ (d : Bytes) (b : Bool), numG d b = .bad e → e = 2 ∨ e = 4 := by
    intro d b hn
    unfold numG at hn
    split at hn
    · split at hn
      · cases hn
      · cases hn; exact .inr rfl
    · cases hn; exact .inl rfl
  cases l with
  | nil => cases h
  | cons c r =>
    rw [tokG_cons] at h
    split at h
    · cases h
    · split at h
      · cases h
      · split at h
        · exact num _ _ h
        · split at h
          · exact num _ _ h
          · cases h; exact .inl rfl
theorem scan_bad : ∀ (N : Nat) (l : Bytes) (p q : Nat) (e : Int), l.length < N → scanA p l = .bad q e → e = 2 ∨ e = 4
  | 0, _, _, _, _, h, _ => by omega
  | N + 1, l, p, q, e, hN, h => by
    rw [scan_eq] at h
    cases ht : tokG (l.drop (skipN false l)) with
    | bad e' =>
      rw [ht] at h
      simp only [Scan.bad.injEq] at h
      obtain ⟨_, rfl⟩ := h
      exact tok_bad24 ht
    | tok k t n len =>
      rw [ht] at h
      simp only [] at h
      by_cases h4 : k = 4
      · rw [if_pos h4] at h; cases h
      · rw [if_neg h4] at h
        cases hs : scanA (p + skipN false l + len) ((l.drop (skipN false l)).drop len) with
        | bad q' e' =>
          rw [hs] at h
          simp only [Scan.pre, Scan.bad.injEq] at h
          obtain ⟨_, rfl⟩ := h
          exact scan_bad N _ _ _ _ (by have := rest_lt ht h4; omega) hs
        | good ts => rw [hs] at h; cases h

theorem join_nil (p : Nat) (ts : List Tok) : Scan.join (scanA p []) (.good ts) = .good (ts.dropLast ++ [⟨4, [], 0, p⟩]) := rfl

/-- A text of whole lines, and what comes behind it, and a line ahead of it. -/
theorem behind (a b : Bytes) :
    (∃ e, e ≠ 0 ∧ textR (a ++ [10]) = .fault (a.length + 1) e) ∨
    (∃ p e, e ≠ 0 ∧ textR (a ++ [10]) = .fault p e ∧ textR (10 :: (a ++ [10])) = .fault (p + 1) e ∧ (textR (a ++ 10 :: b) = .fault p e ∨ ∃ q c, textR (a ++ 10 :: b) = .fault q c ∧ (c = 2 ∨ c = 4)) ∧ p ≤ a.length + 1) ∨
    (∃ x r, textR (a ++ [10]) = .ok x r ∧ ((∃ q c, c ≠ 0 ∧ textR (a ++ 10 :: b) = .fault q c ∧ a.length < q) ∨ ∃ y r', textR (a ++ 10 :: b) = .ok y r' ∧ InsLe x y)) := by
  have j1 := scan_join (a.length + 1) a [] 0 (Nat.lt_succ_self _)
  have j2 := scan_join (a.length + 1) a b 0 (Nat.lt_succ_self _)
  have j3 : scanA 0 (10 :: (a ++ [10])) = (scanA 0 (a ++ [10])).up 1 := by
    have := scan_join 1 [] (a ++ [10]) 0 (by simp)
    simp only [List.nil_append, List.length_nil] at this
    rw [this, ← scan_up 1 _ _ _ (Nat.lt_succ_self _)]
    show (scanA (0 + 0 + 1) (a ++ [10])).pre [] = _
    rw [pre_nil]
  unfold textR
  rw [j3, j1, j2]
  cases hs : scanA 0 a with
  | bad p e =>
    obtain ⟨h1, h2, h3⟩ := scan_place (a.length + 1) a 0 p e (Nat.lt_succ_self _) hs
    exact .inr (.inl ⟨p, e, h3, rfl, rfl, .inl rfl, by omega⟩)
  | good ts =>
    obtain ⟨i, rfl, hi⟩ := scan_end hs
    rw [join_nil]
    simp only [Scan.join, List.dropLast_concat, Scan.up]
    have hat : ∀ t ∈ i, t.at_ ≤ a.length := fun t ht => scan_at hs (by simp [ht])
    generalize hE : (⟨4, [], 0, 0 + a.length + 1⟩ : Tok) = E
    have hk : E.kind = 4 := by rw [← hE]
    have he : E.at_ = a.length + 1 := by rw [← hE]; simp
    have r3 := parseF_rl (E := E) (d := 1) (m := [E.up 1]) (U := i) hk hi ((i ++ [E]).length + 1) ((i.map (Tok.up 1) ++ [E.up 1]).length + 1) ⟨[], [], []⟩ i (fun _ h => h) (by simp; omega) (by simp)
    have m3 : (i ++ [E]).map (Tok.up 1) = i.map (Tok.up 1) ++ [E.up 1] := by simp
    rw [m3]
    cases hb : scanA (0 + a.length + 1) b with
    | bad q c =>
      obtain ⟨b1, b2, b3⟩ := scan_place (b.length + 1) b _ q c (Nat.lt_succ_self _) hb
      have b4 := scan_bad (b.length + 1) b _ q c (Nat.lt_succ_self _) hb
      simp only [Scan.pre]
      unfold parseR
      rcases r3 with ⟨e, h0, h1⟩ | ⟨t, ht, e, h0, h1, h2⟩ | ⟨y, g, h1, h2, h3⟩
      · exact .inl ⟨e, h0, by rw [h1, he]⟩
      · exact .inr (.inl ⟨t.at_, e, h0, h1, h2, .inr ⟨q, c, rfl, b4⟩, by have := hat t ht; omega⟩)
      · exact .inr (.inr ⟨y, _, h1, .inl ⟨q, c, b3, rfl, by omega⟩⟩)
    | good m =>
      simp only [Scan.pre]
      unfold parseR
      have r2 := parseF_rl (E := E) (d := 0) (m := m) (U := i) hk hi ((i ++ [E]).length + 1) ((i ++ m).length + 1) ⟨[], [], []⟩ i (fun _ h => h) (by simp; omega) (by simp)
      rw [up_none] at r2
      rcases r3 with ⟨e, h0, h1⟩ | ⟨t, ht, e, h0, h1, h2⟩ | ⟨y, g, h1, h2, h3⟩
      · exact .inl ⟨e, h0, by rw [h1, he]⟩
      · refine .inr (.inl ⟨t.at_, e, h0, h1, h2, .inl ?_, by have := hat t ht; omega⟩)
        rcases r2 with ⟨e', h0', h1'⟩ | ⟨t', ht', e', h0', h1', h2'⟩ | ⟨y, g, h1', h2', h3'⟩
        · rw [h1] at h1'
          have := hat t ht
          simp only [Res.fault.injEq] at h1'
          omega
        · rw [h1] at h1'
          simp only [Res.fault.injEq] at h1'
          rw [h2', ← h1'.1, ← h1'.2]
          rfl
        · rw [h1] at h1'; cases h1'
      · refine .inr (.inr ⟨y, _, h1, ?_⟩)
        rcases r2 with ⟨e', h0', h1'⟩ | ⟨t', ht', e', h0', h1', h2'⟩ | ⟨y', g', h1', h2', h3'⟩
        · rw [h1] at h1'; cases h1'
        · rw [h1] at h1'; cases h1'
        · rw [h1] at h1'
          cases h1'
          rw [h2']
          cases hp : parseF g' y m with
          | fault q c =>
            obtain ⟨j, rfl, hj⟩ := scan_end hb
            have hats := scan_ats (b.length + 1) b _ _ (Nat.lt_succ_self _) hb
            obtain ⟨hc, hq⟩ := parse_place (E := ⟨4, [], 0, 0 + a.length + 1 + b.length⟩) rfl hj g' y (by simp at h3'; omega) hp
            refine .inl ⟨q, c, hc, rfl, ?_⟩
            rcases hq with rfl | ⟨t, ht, rfl⟩
            · simp; omega
            · have := (hats t (by simp [ht])).1
              omega
          | ok z r' => exact .inr ⟨z, r', rfl, parse_le _ _ _ hp⟩

end Go.Proofs.YtoiokplgkanepaaDoor

namespace Go.Proofs.YtoiokplgkanepaaDoor.instBehind
open Go.RowKit Go.ChangeShapes Go.WideShapes Go.ChangeAt
set_option linter.unusedVariables false
set_option linter.unusedSimpArgs false
set_option maxRecDepth 20000

theorem lbA (a b : ByteArray) : lb (a ++ b) = lb a ++ lb b := by
  unfold lb
  simp [ByteArray.data_append]

/-- What Parse answers, by lengths. -/
def TE (e : Ending) : Res Ins → Prop
  | .fault p c => e = .returned (.tuple #[.agg #[.slice none 0 0, .slice none 0 0, .slice none 0 0], .int .i64 (p : Int), .int .i64 c])
  | .ok x _ => ∃ a1 c1 a2 c2 a3 c3, e = .returned (.tuple #[.agg #[.slice a1 x.doms.length c1, .slice a2 x.hard.length c2, .slice a3 x.soft.length c3], .int .i64 0, .int .i64 0])
theorem parse_text (s : ByteArray) (w : World) (T : Tabs w) (hs : s.size ≤ 100000) {X : Res Ins} (h : textR (lb s) = X) :
    Calls Tryd.prog 8 #[.string s] w fun e w' => TE e X ∧ Below w.heap.size w w' := by
  subst h
  refine (parse_any s w T hs).mono fun e w' ⟨h1, h2⟩ => ⟨?_, h2⟩
  unfold textR
  unfold PEnds at h1
  cases hs : scanA 0 (lb s) with
  | bad p c => rw [hs] at h1; exact h1
  | good l =>
    rw [hs] at h1
    simp only [] at h1 ⊢
    cases hp : parseR l with
    | fault p c => rw [hp] at h1; exact h1
    | ok x r =>
      rw [hp] at h1
      obtain ⟨v, rfl, dv, hh, sv, rfl, hdo, ⟨qs, q1, q2, q3, q4⟩, us, s1, s2, s3, s4⟩ := h1
      obtain ⟨da, dc, rfl, _, _⟩ := hdo.form
      obtain ⟨ha, hc, rfl, _, _⟩ := q1.form
      obtain ⟨sa, sc, rfl, _, _⟩ := s1.form
      rw [q3, s3]
      exact ⟨_, _, _, _, _, _, rfl⟩
theorem parse_some (s : ByteArray) (w : World) (T : Tabs w) (hs : s.size ≤ 100000) :
    Calls Tryd.prog 8 #[.string s] w fun e w' => (∃ a1 n1 c1 a2 n2 c2 a3 n3 c3 p c, e = .returned (.tuple #[.agg #[.slice a1 n1 c1, .slice a2 n2 c2, .slice a3 n3 c3], .int .i64 p, .int .i64 c])) ∧ Below w.heap.size w w' := by
  refine (parse_text s w T hs rfl).mono fun e w' ⟨h1, h2⟩ => ⟨?_, h2⟩
  cases hX : textR (lb s) with
  | fault p c => rw [hX] at h1; exact ⟨_, _, _, _, _, _, _, _, _, _, _, h1⟩
  | ok x r => rw [hX] at h1; obtain ⟨_, _, _, _, _, _, h1⟩ := h1; exact ⟨_, _, _, _, _, _, _, _, _, _, _, h1⟩
theorem parse_fault (s : ByteArray) (w : World) (T : Tabs w) (hs : s.size ≤ 100000) {p : Nat} {c P : Int} (h : textR (lb s) = .fault p c) (hP : (p : Int) = P) :
    Calls Tryd.prog 8 #[.string s] w fun e w' => e = .returned (.tuple #[.agg #[.slice none 0 0, .slice none 0 0, .slice none 0 0], .int .i64 P, .int .i64 c]) ∧ Below w.heap.size w w' := by
  subst hP
  exact parse_text s w T hs h
theorem parse_ok (s : ByteArray) (w : World) (T : Tabs w) (hs : s.size ≤ 100000) {x : Ins} {r : List Tok} (h : textR (lb s) = .ok x r) :
    Calls Tryd.prog 8 #[.string s] w fun e w' => (∃ a1 c1 a2 c2 a3 c3, e = .returned (.tuple #[.agg #[.slice a1 x.doms.length c1, .slice a2 x.hard.length c2, .slice a3 x.soft.length c3], .int .i64 0, .int .i64 0])) ∧ Below w.heap.size w w' :=
  parse_text s w T hs h

set_option maxHeartbeats 4000000 in
theorem walk {s t : ByteArray} {v0 v1 : Value} {w : World} (T : Tabs w) (i0 : v0 = .string s) (m0 : s.size ≤ maxLen) (i1 : v1 = .string t) (m1 : t.size ≤ maxLen) :
    Calls Tryd.prog 4 #[v0, v1] w fun e w' => e = .returned (.bool true) ∧ Below w.heap.size w w' := by
  subst i0 i1
  unfold maxLen at m0 m1
  obtain ⟨a, hae⟩ : ∃ T, T = s.extract 0 (min (s.size : Int) 1000).toNat := ⟨_, rfl⟩
  obtain ⟨b, hbe⟩ : ∃ T, T = t.extract 0 (min (t.size : Int) 1000).toNat := ⟨_, rfl⟩
  have ha : a.size ≤ 1000 := by rw [hae, ByteArray.size_extract]; omega
  have hb : b.size ≤ 1000 := by rw [hbe, ByteArray.size_extract]; omega
  have e1 : (⟨#[10]⟩ : ByteArray).size = 1 := rfl
  have hz1 : a.size + (⟨#[10]⟩ : ByteArray).size ≤ 9223372036854775807 := by rw [e1]; omega
  have hz2 : (a ++ ⟨#[10]⟩ : ByteArray).size + b.size ≤ 9223372036854775807 := by rw [ByteArray.size_append, e1]; omega
  have hz3 : (⟨#[10]⟩ : ByteArray).size + a.size ≤ 9223372036854775807 := by rw [e1]; omega
  have hz4 : (⟨#[10]⟩ ++ a : ByteArray).size + (⟨#[10]⟩ : ByteArray).size ≤ 9223372036854775807 := by rw [ByteArray.size_append, e1]; omega
  have hp1 := fun W => run_string_add_sum (P := Tryd.prog) W a ⟨#[10]⟩ hz1
  have hp2 := fun W => run_string_add_sum (P := Tryd.prog) W (a ++ ⟨#[10]⟩) b hz2
  have hp3 := fun W => run_string_add_sum (P := Tryd.prog) W ⟨#[10]⟩ a hz3
  have hp4 := fun W => run_string_add_sum (P := Tryd.prog) W (⟨#[10]⟩ ++ a) ⟨#[10]⟩ hz4
  have hs1 : (a ++ ⟨#[10]⟩ : ByteArray).size ≤ 100000 := by rw [ByteArray.size_append, e1]; omega
  have hs2 : (a ++ ⟨#[10]⟩ ++ b : ByteArray).size ≤ 100000 := by rw [ByteArray.size_append, ByteArray.size_append, e1]; omega
  have hs3 : (⟨#[10]⟩ ++ a ++ ⟨#[10]⟩ : ByteArray).size ≤ 100000 := by rw [ByteArray.size_append, ByteArray.size_append, e1]; omega
  have l1 : lb (a ++ ⟨#[10]⟩) = lb a ++ [10] := by rw [lbA]
  have l2 : lb (a ++ ⟨#[10]⟩ ++ b) = lb a ++ 10 :: lb b := by rw [lbA, lbA, List.append_assoc]; rfl
  have l3 : lb (⟨#[10]⟩ ++ a ++ ⟨#[10]⟩) = 10 :: (lb a ++ [10]) := by rw [lbA, lbA]; rfl
  have la : (lb a).length = a.size := lb_len a
  have HM := hide (behind (lb a) (lb b))
  rw [← l3, ← l2, ← l1, la] at HM
  have HP1 := hide hp1
  have HP2 := hide hp2
  have HP3 := hide hp3
  have HP4 := hide hp4
  have HAE := hide hae
  have HBE := hide hbe
  have HT := hide T
  clear hz1 hz2 hz3 hz4 hp1 hp2 hp3 hp4 hae hbe e1 l1 l2 l3 la T
  have HS1 := hide hs1
  have HS2 := hide hs2
  have HS3 := hide hs3
  clear hs1 hs2 hs3
  go_enter Tryd.func4, Tryd.ntmps4
  go_wp2_with fail
  refine (shown6_any w (unhide HT)).mono ?_
  rintro e w1 ⟨rfl, hb1⟩
  have HB1 := hide hb1
  have hp1 := unhide HP1
  have HT1 := hide ((unhide HT).below hb1)
  clear hb1 HT HP1
  go_wp2_with fail
  rw [← unhide HAE]
  clear HAE
  rcases unhide HM with ⟨er, he, hX⟩ | ⟨p, er, he, hX, hZ, hY, hle⟩ | ⟨x, rx, hX, hY⟩
  · clear HM HP3 HP4 HS3
    have hne : (er != 0) = true := by simpa using he
    refine (parse_fault _ w1 (unhide HT1) (unhide HS1) hX (P := (a.size : Int) + 1) (by simp)).mono ?_
    rintro e w2 ⟨rfl, hb2⟩
    have hbA := hb2.alloc hb2.size (.cells #[.slice none 0 0, .slice none 0 0, .slice none 0 0] 27)
    have HB2 := hide hbA
    have hp2 := unhide HP2
    clear hb2 hbA hX he
    go_wp2_with fail
    rw [← unhide HBE]
    refine (parse_some _ _ ((unhide HT1).below (unhide HB2)) (unhide HS2)).mono ?_
    rintro e w3 ⟨⟨a1, n1, c1, a2, n2, c2, a3, n3, c3, q, c, rfl⟩, hb3⟩
    have hbB := hb3.alloc hb3.size (.cells #[.slice a1 n1 c1, .slice a2 n2 c2, .slice a3 n3 c3] 27)
    have HB3 := hide (below_then (unhide HB1) (below_then (unhide HB2) hbB))
    clear hb3 hbB HB2 HB1
    go_wp2
    go_ret
    exact ⟨rfl, unhide HB3⟩
  · by_cases hpe : p = a.size + 1
    · subst hpe
      clear HM HP3 HP4 HS3 hZ hY hle
      have hne : (er != 0) = true := by simpa using he
      refine (parse_fault _ w1 (unhide HT1) (unhide HS1) hX (P := (a.size : Int) + 1) (by simp)).mono ?_
      rintro e w2 ⟨rfl, hb2⟩
      have hbA := hb2.alloc hb2.size (.cells #[.slice none 0 0, .slice none 0 0, .slice none 0 0] 27)
      have HB2 := hide hbA
      have hp2 := unhide HP2
      clear hb2 hbA hX he
      go_wp2_with fail
      rw [← unhide HBE]
      refine (parse_some _ _ ((unhide HT1).below (unhide HB2)) (unhide HS2)).mono ?_
      rintro e w3 ⟨⟨a1, n1, c1, a2, n2, c2, a3, n3, c3, q, c, rfl⟩, hb3⟩
      have hbB := hb3.alloc hb3.size (.cells #[.slice a1 n1 c1, .slice a2 n2 c2, .slice a3 n3 c3] 27)
      have HB3 := hide (below_then (unhide HB1) (below_then (unhide HB2) hbB))
      clear hb3 hbB HB2 HB1
      go_wp2
      go_ret
      exact ⟨rfl, unhide HB3⟩
    · have hpf : ((p : Int) == (a.size : Int) + 1) = false := by simpa using (by omega : ¬ (p : Int) = (a.size : Int) + 1)
      have hp1001 : p ≤ 1001 := by omega
      have hne : (er != 0) = true := by simpa using he
      refine (parse_fault _ w1 (unhide HT1) (unhide HS1) hX (P := (p : Int)) rfl).mono ?_
      rintro e w2 ⟨rfl, hb2⟩
      have hbA := hb2.alloc hb2.size (.cells #[.slice none 0 0, .slice none 0 0, .slice none 0 0] 27)
      have HB2 := hide hbA
      have hp2 := unhide HP2
      have HZ := hide hZ
      clear hb2 hbA hX he HM hpe hle hZ
      have HY : Hid (∀ W, Tabs W → Calls Tryd.prog 8 #[.string (a ++ ⟨#[10]⟩ ++ b)] W fun e w' => (∃ q c, (c == er && (q == (p : Int)) || c == 2 || c == 4) = true ∧ e = .returned (.tuple #[.agg #[.slice none 0 0, .slice none 0 0, .slice none 0 0], .int .i64 q, .int .i64 c])) ∧ Below W.heap.size W w') := hide (fun W TW => by
        rcases hY with h | ⟨q, c, h, hc⟩
        · exact (parse_fault _ W TW (unhide HS2) h (P := (p : Int)) rfl).mono fun e w' ⟨k1, k2⟩ => ⟨⟨(p : Int), er, by simp, k1⟩, k2⟩
        · exact (parse_fault _ W TW (unhide HS2) h (P := (q : Int)) rfl).mono fun e w' ⟨k1, k2⟩ => ⟨⟨(q : Int), c, by rcases hc with rfl | rfl <;> simp, k1⟩, k2⟩)
      clear hY
      go_wp2_with fail
      rw [← unhide HBE]
      refine (unhide HY _ ((unhide HT1).below (unhide HB2))).mono ?_
      rintro e w3 ⟨⟨q, c, hqc, rfl⟩, hb3⟩
      have hbB := hb3.alloc hb3.size (.cells #[.slice none 0 0, .slice none 0 0, .slice none 0 0] 27)
      have HB3 := hide (below_then (unhide HB2) hbB)
      have hp3 := unhide HP3
      have hp4 := unhide HP4
      have HQ := hide hqc
      clear hb3 hbB HB2 hqc HY hp1 hp2 HP2 HP3 HP4
      go_wp2_with fail
      refine (parse_fault _ _ ((unhide HT1).below (unhide HB3)) (unhide HS3) (unhide HZ) (P := (p : Int) + 1) (by simp)).mono ?_
      rintro e w4 ⟨rfl, hb4⟩
      have hbC := hb4.alloc hb4.size (.cells #[.slice none 0 0, .slice none 0 0, .slice none 0 0] 27)
      have HB4 := hide (below_then (unhide HB1) (below_then (unhide HB3) hbC))
      clear hb4 hbC HB3 HB1 HZ
      have hqc := unhide HQ
      cases hc1 : (c == er) with
      | true =>
        cases hc2 : (q == (p : Int)) with
        | true =>
          clear HQ hqc
          go_wp2
          go_ret
          exact ⟨rfl, unhide HB4⟩
        | false =>
          rw [hc1, hc2] at hqc
          cases hc3 : (c == 2) with
          | true =>
            clear HQ hqc
            go_wp2
            go_ret
            exact ⟨rfl, unhide HB4⟩
          | false =>
            rw [hc3] at hqc
            have hc4 : (c == 4) = true := by simpa using hqc
            clear HQ hqc
            go_wp2
            go_ret
            exact ⟨rfl, unhide HB4⟩
      | false =>
        rw [hc1] at hqc
        cases hc3 : (c == 2) with
        | true =>
          clear HQ hqc
          go_wp2
          go_ret
          exact ⟨rfl, unhide HB4⟩
        | false =>
          rw [hc3] at hqc
          have hc4 : (c == 4) = true := by simpa using hqc
          clear HQ hqc
          go_wp2
          go_ret
          exact ⟨rfl, unhide HB4⟩
  · clear HM HP3 HP4 HS3
    refine (parse_ok _ w1 (unhide HT1) (unhide HS1) hX).mono ?_
    rintro e w2 ⟨⟨a1, c1, a2, c2, a3, c3, rfl⟩, hb2⟩
    have hbA := hb2.alloc hb2.size (.cells #[.slice a1 x.doms.length c1, .slice a2 x.hard.length c2, .slice a3 x.soft.length c3] 27)
    have x1 := Box3.new 27 w2 (.slice a1 x.doms.length c1) (.slice a2 x.hard.length c2) (.slice a3 x.soft.length c3)
    have HB2 := hide hbA
    have X1 := hide x1
    have hp2 := unhide HP2
    clear hb2 hbA hX x1
    rcases hY with ⟨q, c, hc, hY, hq⟩ | ⟨y, ry, hY, hle⟩
    · have hcn : (c != 0) = true := by simpa using hc
      have hgt : decide (a.size < q) = true := by simpa using hq
      have HY := hide hY
      clear hY hq X1
      go_wp2_with fail
      rw [← unhide HBE]
      refine (parse_fault _ _ ((unhide HT1).below (unhide HB2)) (unhide HS2) (unhide HY) (P := (q : Int)) rfl).mono ?_
      rintro e w3 ⟨rfl, hb3⟩
      have hbB := hb3.alloc hb3.size (.cells #[.slice none 0 0, .slice none 0 0, .slice none 0 0] 27)
      have HB3 := hide (below_then (unhide HB1) (below_then (unhide HB2) hbB))
      clear hb3 hbB HB2 HB1 HY hp1 hp2 HP2
      go_wp2
      go_ret
      exact ⟨rfl, unhide HB3⟩
    · obtain ⟨k1, k2, k3⟩ := hle
      have K1 := hide k1
      have K2 := hide k2
      have K3 := hide k3
      have HY := hide hY
      clear hY k1 k2 k3
      go_wp2_with fail
      rw [← unhide HBE]
      refine (parse_ok _ _ ((unhide HT1).below (unhide HB2)) (unhide HS2) (unhide HY)).mono ?_
      rintro e w3 ⟨⟨b1, d1, b2, d2, b3, d3, rfl⟩, hb3⟩
      have hbB := hb3.alloc hb3.size (.cells #[.slice b1 y.doms.length d1, .slice b2 y.hard.length d2, .slice b3 y.soft.length d3] 27)
      have x3 := (unhide X1).keep (grown_below hbB none) (by simp)
      have y3 := Box3.new 27 w3 (.slice b1 y.doms.length d1) (.slice b2 y.hard.length d2) (.slice b3 y.soft.length d3)
      have HB3 := hide (below_then (unhide HB1) (below_then (unhide HB2) hbB))
      have c0 := x3.cell0; have c1 := x3.cell1; have c2 := x3.cell2
      have g0 := y3.cell0; have g1 := y3.cell1; have g2 := y3.cell2
      have k1 := unhide K1; have k2 := unhide K2; have k3 := unhide K3
      have t1 : decide (x.doms.length ≤ y.doms.length) = true := by simpa using k1
      have t2 : decide (x.hard.length ≤ y.hard.length) = true := by simpa using k2
      have t3 : decide (x.soft.length ≤ y.soft.length) = true := by simpa using k3
      clear hb3 hbB HB2 HB1 HY hp1 hp2 HP2 x3 y3 X1 K1 K2 K3 k1 k2 k3
      go_wp2
      go_ret
      exact ⟨rfl, unhide HB3⟩

set_option maxRecDepth 100000 in
theorem lifted (os : Os) (started : os.Started) (H : Type) (enc : TypeId × Value → H) :
    ReturnsInHanded {} Tryd.checked os 4 .any (fun w args => (Rows.instBehindSpec.pre enc Tryd.prog Tryd.f4 [] false w args ∧ laidMetH Tryd.prog laidIn w) ∧ sizedMet enc Tryd.prog Tryd.f4 (OpenSpec.ofChange Rows.instBehindSpec) false w args)
      (Rows.instBehindSpec.post enc Tryd.prog Tryd.f4 false true false false) := by
  refine returnsInHanded_of_change_and (C := Tryd.checked) (X := fun w _ => laidMetH Tryd.prog laidIn w) (fun _ _ _ hh h => h.of_heap hh) own started (by kernel_rfl) Tryd.func4
    (ChangeSpec.witness_shaped (enc := enc) (C := Tryd.checked) (os := os) (X := fun w _ => laidMetH Tryd.prog laidIn w) false (World.doorLaid Tryd.prog doorN os) #[.string ⟨#[]⟩, .string ⟨#[]⟩] 8 rfl (World.shaped_of_RefB (by kernel_rfl) (by kernel_rfl)) (by kernel_rfl) (by kernel_rfl) (by kernel_rfl) (door_met os _)) ?_
  intro W base args ds gs before hval0 hW _ _ hL _
  have hval : ∀ (j : Nat) t v, Tryd.f4.params[j]? = some t → args[j]? = some v → Value.okWide Tryd.prog W .any base t v := hval0
  have hW' := hW
  obtain ⟨p, q, hA0, hV, rfl, hfz, hnd⟩ := hW
  have hA : DataW.TrodAll enc Tryd.prog W 0 (fun _ => true) true Tryd.f4.params.toList args.toList ds p := hA0
  rw [Tryd.params4] at hA hval
  obtain ⟨v0, vs0, d0, ds0, p0, q0, hargs, rfl, rfl, h0, r0⟩ := trodAll_cons hA
  obtain ⟨v1, vs1, d1, ds1, p1, q1, rfl, rfl, rfl, h1, r1⟩ := trodAll_cons r0
  obtain ⟨rfl, rfl, rfl⟩ := trodAll_nil r1
  obtain rfl : args = #[v0, v1] := by cases args; simp_all
  obtain ⟨rfl, rfl⟩ := trodVars_none hV
  obtain ⟨l0, i0, m0⟩ := read_string h0 (hval 0 9 v0 rfl rfl)
  have lt0 : ∀ x ∈ p0, x.block < W.heap.size := by obtain ⟨m, hm⟩ := h0; exact DataW.trod_lt m _ _ _ hm
  obtain ⟨l1, i1, m1⟩ := read_string h1 (hval 1 9 v1 rfl rfl)
  have lt1 : ∀ x ∈ p1, x.block < W.heap.size := by obtain ⟨m, hm⟩ := h1; exact DataW.trod_lt m _ _ _ hm
  clear hA0 hval0
  refine (walk (tabs_of hL) i0 m0 i1 m1).mono fun e W' ⟨he, bel⟩ => ?_
  subst he
  exact ⟨_, rfl, _, _, _, [], _, [], hW', trodAll_mk1 (shut_bool Tryd.underlying4 _), (trodAll_cons_mk (Below.trod laidOut (by kernel_rfl) (of_decide_eq_true (by kernel_rfl)) h0 bel lt0) (trodAll_cons_mk (Below.trod laidOut (by kernel_rfl) (of_decide_eq_true (by kernel_rfl)) h1 bel lt1) trodAll_mk0)), rfl, bel.frame _, fun h => by cases h⟩

theorem over : Rows.instBehindRow.holds Tryd.pinned (OpenSpec.ofChange Rows.instBehindSpec) :=
  OpenClaim.holds_of_wide 4 Tryd.f4 rfl rfl rfl rfl rfl rfl rfl ⟨rfl, rfl, rfl, rfl, rfl⟩ rfl rfl rfl rfl rfl (by kernel_rfl) Tryd.func4 (by kernel_rfl)
    (of_decide_eq_true (by kernel_rfl)) (by unfold Func.isWrapper; first | (rw [if_pos (by decide +kernel)]; kernel_rfl) | (rw [if_neg (by decide +kernel)]; exact ⟨rfl, rfl⟩))
    (fun os started H enc _ => lifted os started H enc)

/-- The statement: the tied card. -/
theorem proved : Rows.InstBehindCardSaid :=
  Claim7.holds_tied_plain_at .later [] [.data, .data, .data, .data] true (true, "4a5c26e7eb7ef004d4ddb8f89d87f74099466696b1fd2b825a21b575a33a8ba8") true
    over (fun _ h => by cases h) (by kernel_rfl) (fun _ h => by cases h) instBehind_row_tie rfl ⟨rfl, rfl⟩ (by kernel_rfl) rfl
    (fun f fn hf hfn => by
      obtain rfl : f = 4 := Option.some.inj ((show Tryd.prog.funcNamed "arborist/arboristlaw06.InstBehind" = some 4 by kernel_rfl).symm.trans hf) |>.symm
      obtain rfl : fn = Tryd.f4 := (Option.some.inj (Tryd.func4.symm.trans hfn)).symm
      exact ⟨by kernel_rfl, fun j t ht => by
        rw [Tryd.params4] at ht
        have hm : t ∈ [9, 9] := by simpa using Array.mem_of_getElem? ht
        have hall : ([9, 9].all fun u => !Tryd.prog.wantsStandIn u) = true := by kernel_rfl
        exact (show Tryd.prog.wantsStandIn t = false by simpa using List.all_eq_true.1 hall t hm)⟩)
    (by kernel_rfl)

#print axioms proved

end Go.Proofs.YtoiokplgkanepaaDoor.instBehind
