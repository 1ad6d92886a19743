/-
  Words of a text: what they are, as plain functions on lists of bytes; no function of the program is spoken of here.
-/
import Derived.Test.YtoiokplgkanepaaDoorRows
namespace Go.Proofs.YtoiokplgkanepaaDoor
set_option linter.unusedVariables false
set_option linter.unusedSimpArgs false

abbrev Bytes := List UInt8

def blankB (c : UInt8) : Bool := c.toNat == 32 || c.toNat == 9 || c.toNat == 10
def noEndB (c : UInt8) : Bool := c.toNat != 10
def letterB (c : UInt8) : Bool := decide (97 ≤ c.toNat) && decide (c.toNat ≤ 122)
def digitB (c : UInt8) : Bool := decide (48 ≤ c.toNat) && decide (c.toNat ≤ 57)
def signB (c : UInt8) : Bool := c.toNat == 58 || c.toNat == 44 || c.toNat == 59

/-- How many bytes, of one sort, the list begins with. -/
def runN (p : UInt8 → Bool) (l : Bytes) : Nat := (l.takeWhile p).length

/-- How many bytes are left out ahead of a token. -/
def skipN : Bool → Bytes → Nat
  | _, [] => 0
  | note, c :: r => if c.toNat = 10 then skipN false r + 1 else if c.toNat = 35 then skipN true r + 1 else if c.toNat ≠ 32 ∧ c.toNat ≠ 9 ∧ note = false then 0 else skipN note r + 1

structure Tok where
  kind : Int
  text : Bytes
  n : Int
  at_ : Nat
deriving DecidableEq

inductive Got
  | bad (e : Int)
  | tok (kind : Int) (text : Bytes) (n : Int) (len : Nat)
deriving DecidableEq

def valFrom (a : Nat) (d : Bytes) : Nat := d.foldl (fun n c => 10 * n + (c.toNat - 48)) a
def valN (d : Bytes) : Nat := valFrom 0 d

def writtenB : Bytes → Bool → Bool
  | [], _ => false
  | c :: r, below => c.toNat != 48 || (r.isEmpty && !below)

def numG (d : Bytes) (below : Bool) : Got :=
  if writtenB d below = true then
    if valN d ≤ 1000000000000 then .tok 2 [] (if below then -(valN d : Int) else (valN d : Int)) (d.length + if below then 1 else 0) else .bad 4
  else .bad 2

/-- The token that the list begins with. -/
def tokG : Bytes → Got
  | [] => .tok 4 [] 0 0
  | c :: r => if letterB c = true then .tok 1 ((c :: r).takeWhile letterB) 0 (runN letterB (c :: r))
    else if signB c = true then .tok 3 [c] 0 1
    else if digitB c = true then numG ((c :: r).takeWhile digitB) false
    else if c.toNat = 45 then numG (r.takeWhile digitB) true
    else .bad 2

inductive Scan
  | bad (p : Nat) (e : Int)
  | good (l : List Tok)
deriving DecidableEq

def Scan.pre (ts : List Tok) : Scan → Scan
  | .bad p e => .bad p e
  | .good l => .good (ts ++ l)

/-- The tokens of the list, whose first byte's place is 'at_'; as many as f at most. -/
def scanF : Nat → Nat → Bytes → Scan
  | 0, _, _ => .bad 0 0
  | f + 1, p, l =>
    match tokG (l.drop (skipN false l)) with
    | .bad e => .bad (p + skipN false l) e
    | .tok kind text n len => if kind = 4 then .good [⟨4, [], 0, p + skipN false l⟩] else (scanF f (p + skipN false l + len) ((l.drop (skipN false l)).drop len)).pre [⟨kind, text, n, p + skipN false l⟩]

def scanA (p : Nat) (l : Bytes) : Scan := scanF (l.length + 1) p l

theorem skip_le : ∀ (note : Bool) (l : Bytes), skipN note l ≤ l.length
  | _, [] => by simp [skipN]
  | note, c :: r => by
    have h1 := skip_le false r
    have h2 := skip_le true r
    have h3 := skip_le note r
    simp only [skipN, List.length_cons]
    split
    · omega
    · split
      · omega
      · split <;> omega

theorem run_le (p : UInt8 → Bool) (l : Bytes) : runN p l ≤ l.length := (List.takeWhile_sublist p).length_le

theorem run_cons (p : UInt8 → Bool) (c : UInt8) (l : Bytes) : runN p (c :: l) = if p c = true then runN p l + 1 else 0 := by
  unfold runN
  simp only [List.takeWhile_cons]
  split <;> simp

theorem tokG_cons (c : UInt8) (r : Bytes) : tokG (c :: r) = if letterB c = true then .tok 1 ((c :: r).takeWhile letterB) 0 (runN letterB (c :: r))
    else if signB c = true then .tok 3 [c] 0 1
    else if digitB c = true then numG ((c :: r).takeWhile digitB) false
    else if c.toNat = 45 then numG (r.takeWhile digitB) true
    else .bad 2 := rfl

/-- A token is no longer than what is there; and has a byte, if it is not the end. -/
theorem tok_len {l : Bytes} {k : Int} {t : Bytes} {n : Int} {len : Nat} (h : tokG l = .tok k t n len) : len ≤ l.length ∧ (k ≠ 4 → 0 < len) ∧ (k = 4 → l = [] ∧ t = [] ∧ n = 0 ∧ len = 0) ∧ (k = 1 ∨ k = 2 ∨ k = 3 ∨ k = 4) := by
  cases l with
  | nil => simp only [tokG, Got.tok.injEq] at h; obtain ⟨rfl, rfl, rfl, rfl⟩ := h; simp
  | cons c r =>
    have num : ∀ (d : Bytes) (below : Bool) (m : Nat), d.length + (if below then 1 else 0) ≤ m → numG d below = .tok k t n len → len ≤ m ∧ 0 < len ∧ k = 2 := by
      intro d below m hm hn
      unfold numG at hn
      split at hn
      · rename_i hw
        split at hn
        · simp only [Got.tok.injEq] at hn
          obtain ⟨rfl, rfl, rfl, rfl⟩ := hn
          cases d with
          | nil => simp [writtenB] at hw
          | cons x y => exact ⟨hm, by simp only [List.length_cons]; omega, rfl⟩
        · cases hn
      · cases hn
    rw [tokG_cons] at h
    split at h
    · rename_i hl
      simp only [Got.tok.injEq] at h
      obtain ⟨rfl, rfl, rfl, rfl⟩ := h
      have := run_le letterB (c :: r)
      refine ⟨this, fun _ => ?_, by simp, by simp⟩
      rw [run_cons, if_pos hl]; omega
    · split at h
      · simp only [Got.tok.injEq] at h
        obtain ⟨rfl, rfl, rfl, rfl⟩ := h
        simp
      · split at h
        · obtain ⟨h1, h2, rfl⟩ := num _ _ (c :: r).length (by have := run_le digitB (c :: r); simpa [runN] using this) h
          exact ⟨h1, fun _ => h2, by simp, by simp⟩
        · split at h
          · obtain ⟨h1, h2, rfl⟩ := num _ _ (c :: r).length (by have := run_le digitB r; simpa [runN] using this) h
            exact ⟨h1, fun _ => h2, by simp, by simp⟩
          · cases h

theorem scan_fuel : ∀ (f g p : Nat) (l : Bytes), l.length < f → l.length < g → scanF f p l = scanF g p l
  | 0, _, _, _, h, _ => by omega
  | _ + 1, 0, _, _, _, h => by omega
  | f + 1, g + 1, p, l, hf, hg => by
    unfold scanF
    cases ht : tokG (l.drop (skipN false l)) with
    | bad e => rfl
    | tok k t n len =>
      obtain ⟨h1, h2, h3, h4⟩ := tok_len ht
      simp only []
      split
      · rfl
      · rename_i hk
        have := h2 hk
        have hd : ((l.drop (skipN false l)).drop len).length < l.length := by simp only [List.length_drop] at h1 ⊢; omega
        rw [scan_fuel f g _ _ (by omega) (by omega)]

/-- One token, and the rest. -/
theorem scan_eq (p : Nat) (l : Bytes) : scanA p l = match tokG (l.drop (skipN false l)) with
    | .bad e => .bad (p + skipN false l) e
    | .tok kind text n len => if kind = 4 then .good [⟨4, [], 0, p + skipN false l⟩] else (scanA (p + skipN false l + len) ((l.drop (skipN false l)).drop len)).pre [⟨kind, text, n, p + skipN false l⟩] := by
  unfold scanA
  rw [scanF]
  cases ht : tokG (l.drop (skipN false l)) with
  | bad e => rfl
  | tok k t n len =>
    obtain ⟨h1, h2, h3, h4⟩ := tok_len ht
    simp only []
    split
    · rfl
    · rename_i hk
      have := h2 hk
      have hd : ((l.drop (skipN false l)).drop len).length < l.length := by simp only [List.length_drop] at h1 ⊢; omega
      rw [scan_fuel l.length (((l.drop (skipN false l)).drop len).length + 1) _ _ hd (by omega)]

theorem pre_pre (a b : List Tok) (s : Scan) : (s.pre b).pre a = s.pre (a ++ b) := by cases s <;> simp [Scan.pre]
theorem pre_nil (s : Scan) : s.pre [] = s := by cases s <;> simp [Scan.pre]

end Go.Proofs.YtoiokplgkanepaaDoor
