/-
  Instances as texts: what reading answers, as plain functions on lists of tokens; no function of the program is spoken of here.
-/
import Derived.Test.YtoiokplgkanepaaDoorScanMath
import Derived.Test.YtoiokplgkanepaaDoorLists
namespace Go.Proofs.YtoiokplgkanepaaDoor
set_option linter.unusedVariables false
set_option linter.unusedSimpArgs false

structure Con where
  kind : Int
  scope : List Int
  rows : List (List Int)
  args : List Int
deriving DecidableEq

structure Sft where
  scope : List Int
  rows : List (List Int)
  costs : List Int
  dflt : Int
deriving DecidableEq

structure Ins where
  doms : List (List Int)
  hard : List Con
  soft : List Sft
deriving DecidableEq

/-- What reading answers: what is wrong, and where; or what was read, and the tokens behind it. -/
inductive Res (α : Type)
  | fault (p : Nat) (e : Int)
  | ok (x : α) (r : List Tok)
deriving DecidableEq

def Res.bind {α β : Type} : Res α → (α → List Tok → Res β) → Res β
  | .fault p e, _ => .fault p e
  | .ok x r, f => f x r

def numberR : List Tok → Res Tok
  | [] => .fault 0 0
  | t :: r => if t.kind = 2 then .ok t r else .fault t.at_ 3

def smallB (n : Int) : Bool := decide (-1000000 ≤ n) && decide (n ≤ 1000000)

def valueR (ts : List Tok) : Res Tok := (numberR ts).bind fun t r => if smallB t.n = true then .ok t r else .fault t.at_ 4

def signR (may : List Bytes) : List Tok → Res Bytes
  | [] => .fault 0 0
  | t :: r => if t.kind = 3 ∧ t.text ∈ may then .ok t.text r else .fault t.at_ 3

def aboveB (n : Int) (ahead : List Int) : Bool :=
  match ahead.getLast? with
  | none => true
  | some m => decide (m < n)

def variableR (nv : Nat) (ahead : List Int) (ts : List Tok) : Res Int := (numberR ts).bind fun t r =>
  if ahead.length < 6 then (if (0 ≤ t.n ∧ t.n < nv) ∧ aboveB t.n ahead = true then .ok t.n r else .fault t.at_ 5) else .fault t.at_ 7

def headNum : List Tok → Bool
  | [] => false
  | t :: _ => t.kind == 2

def scopeF (nv : Nat) : Nat → List Int → List Tok → Res (List Int)
  | 0, _, _ => .fault 0 0
  | f + 1, acc, ts => (variableR nv acc ts).bind fun n r => if headNum r = true then scopeF nv f (acc ++ [n]) r else .ok (acc ++ [n]) r
def scopeR (nv : Nat) (ts : List Tok) : Res (List Int) := scopeF nv (ts.length + 1) [] ts

abbrev semi : Bytes := [59]
abbrev comma : Bytes := [44]
abbrev colon : Bytes := [58]

def domF : Nat → List Int → List Tok → Res (List Int)
  | 0, _, _ => .fault 0 0
  | f + 1, acc, ts => (valueR ts).bind fun t r =>
    if acc.length < 16 then (if aboveB t.n acc = true then (if headNum r = true then domF f (acc ++ [t.n]) r else (signR [semi] r).bind fun _ r => .ok (acc ++ [t.n]) r) else .fault t.at_ 6) else .fault t.at_ 7
def domR (ts : List Tok) : Res (List Int) := domF (ts.length + 1) [] ts

def rowF (D : List (List Int)) : List Int → List Int → List Tok → Res (List Int)
  | [], acc, ts => .ok acc ts
  | v :: vs, acc, ts => (valueR ts).bind fun t r => if t.n ∈ D.getD v.toNat [] then rowF D vs (acc ++ [t.n]) r else .fault t.at_ 6

def goesB (ahead : List (List Int)) (row : List Int) : Bool :=
  match ahead.getLast? with
  | none => true
  | some l => decide (cmpL l row < 0)

def headAt : List Tok → Nat
  | [] => 0
  | t :: _ => t.at_

def rowR (D : List (List Int)) (scope : List Int) (ahead : List (List Int)) (ts : List Tok) : Res (List Int) :=
  (rowF D scope [] ts).bind fun row r => if goesB ahead row = true then .ok row r else .fault (headAt ts) 6

def rowsF (D : List (List Int)) (scope : List Int) : Nat → List (List Int) → List Tok → Res (List (List Int))
  | 0, _, _ => .fault 0 0
  | f + 1, acc, ts => (rowR D scope acc ts).bind fun row r => (signR [comma, semi] r).bind fun s r => if s = comma then rowsF D scope f (acc ++ [row]) r else .ok (acc ++ [row]) r
def rowsR (D : List (List Int)) (scope : List Int) (ts : List Tok) : Res (List (List Int)) :=
  if headNum ts = true then rowsF D scope (ts.length + 1) [] ts else (signR [semi] ts).bind fun _ r => .ok [] r

def linF (nv : Nat) : Nat → List Int → List Int → List Tok → Res (List Int × List Int)
  | 0, _, _, _ => .fault 0 0
  | f + 1, args, scope, ts => (valueR ts).bind fun t r => if t.n ≠ 0 then
      (variableR nv scope r).bind fun v r => (signR [comma, colon] r).bind fun s r => if s = comma then linF nv f (args ++ [t.n]) (scope ++ [v]) r else .ok (args ++ [t.n], scope ++ [v]) r
    else .fault t.at_ 4

/-- The words, in their order: var, table, forbid, diff, equal, rising, linear, soft, eq, le, ne. -/
def wordsL : List Bytes := [[118, 97, 114], [116, 97, 98, 108, 101], [102, 111, 114, 98, 105, 100], [100, 105, 102, 102], [101, 113, 117, 97, 108], [114, 105, 115, 105, 110, 103], [108, 105, 110, 101, 97, 114], [115, 111, 102, 116], [101, 113], [108, 101], [110, 101]]

/-- Which of the n words from k on the token is. -/
def wordF (t : Tok) : Nat → Nat → Option Nat
  | 0, _ => none
  | n + 1, k => if t.kind = 1 ∧ t.text = wordsL.getD k [] then some k else wordF t n (k + 1)

def wordT (t : Tok) (n k : Nat) (r : List Tok) : Res Nat :=
  match wordF t n k with
  | some j => .ok j r
  | none => .fault t.at_ 3

def wordR (n k : Nat) : List Tok → Res Nat
  | [] => .fault 0 0
  | t :: r => wordT t n k r

def linearR (nv : Nat) (ts : List Tok) : Res Con :=
  (linF nv (ts.length + 1) [] [] ts).bind fun ag r => (wordR 3 8 r).bind fun k r => (valueR r).bind fun t r => (signR [semi] r).bind fun _ r => .ok ⟨6, ag.2, [], ag.1 ++ [(k : Int) - 8, t.n]⟩ r

def hardR (D : List (List Int)) (kind : Nat) (ts : List Tok) : Res Con :=
  if kind = 6 then linearR D.length ts else (scopeR D.length ts).bind fun scope r =>
    if kind = 1 ∨ kind = 2 then (signR [colon] r).bind fun _ r => (rowsR D scope r).bind fun rows r => .ok ⟨kind, scope, rows, []⟩ r
    else (signR [semi] r).bind fun _ r => .ok ⟨kind, scope, [], []⟩ r

def softF (D : List (List Int)) (scope : List Int) : Nat → List (List Int) → List Int → List Tok → Res (List (List Int) × List Int)
  | 0, _, _, _ => .fault 0 0
  | f + 1, rows, costs, ts => (signR [comma, semi] ts).bind fun s r => if s = comma then
      (rowR D scope rows r).bind fun row r => (numberR r).bind fun t r => softF D scope f (rows ++ [row]) (costs ++ [t.n]) r
    else .ok (rows, costs) r

def softR (D : List (List Int)) (ts : List Tok) : Res Sft :=
  (scopeR D.length ts).bind fun scope r => (signR [colon] r).bind fun _ r => (numberR r).bind fun t r => (softF D scope (r.length + 1) [] [] r).bind fun rc r => .ok ⟨scope, rc.1, rc.2, t.n⟩ r

def stmtR (x : Ins) : List Tok → Res Ins
  | [] => .fault 0 0
  | t :: r => (wordT t 8 0 r).bind fun k r =>
    if k = 0 then (if x.doms.length < 40 then (domR r).bind fun d r => .ok { x with doms := x.doms ++ [d] } r else .fault t.at_ 7)
    else if k = 7 then (if x.soft.length < 200 then (softR x.doms r).bind fun s r => .ok { x with soft := x.soft ++ [s] } r else .fault t.at_ 7)
    else (if x.hard.length < 200 then (hardR x.doms k r).bind fun c r => .ok { x with hard := x.hard ++ [c] } r else .fault t.at_ 7)

def parseF : Nat → Ins → List Tok → Res Ins
  | 0, _, _ => .fault 0 0
  | _ + 1, _, [] => .fault 0 0
  | f + 1, x, t :: r => if t.kind = 4 then .ok x (t :: r) else (stmtR x (t :: r)).bind fun x r => parseF f x r
def parseR (ts : List Tok) : Res Ins := parseF (ts.length + 1) ⟨[], [], []⟩ ts

/-- Tokens, of which the last one, and no other, is the end. -/
def Ended : List Tok → Prop
  | [] => False
  | [t] => t.kind = 4
  | t :: r => t.kind ≠ 4 ∧ Ended r

theorem Ended.ne {l : List Tok} (h : Ended l) : l ≠ [] := by rintro rfl; exact h
theorem Ended.tail {t : Tok} {r : List Tok} (h : Ended (t :: r)) (hk : t.kind ≠ 4) : Ended r := by
  cases r with
  | nil => exact absurd h hk
  | cons u r => exact h.2
theorem Ended.cons {l : List Tok} (h : Ended l) : ∃ t r, l = t :: r := by
  cases l with
  | nil => exact absurd h id
  | cons t r => exact ⟨t, r, rfl⟩

theorem number_ok {ts r : List Tok} {t : Tok} (h : numberR ts = .ok t r) : ts = t :: r ∧ t.kind = 2 := by
  cases ts with
  | nil => cases h
  | cons u q =>
    simp only [numberR] at h
    split at h
    · rename_i hk; cases h; exact ⟨rfl, hk⟩
    · cases h
theorem Ended.number {ts r : List Tok} {t : Tok} (he : Ended ts) (h : numberR ts = .ok t r) : Ended r ∧ r.length < ts.length := by
  obtain ⟨rfl, hk⟩ := number_ok h
  exact ⟨he.tail (by rw [hk]; decide), by simp⟩
theorem value_ok {ts r : List Tok} {t : Tok} (h : valueR ts = .ok t r) : numberR ts = .ok t r ∧ smallB t.n = true := by
  unfold valueR at h
  cases hn : numberR ts with
  | fault p e => rw [hn] at h; cases h
  | ok u q =>
    rw [hn] at h
    simp only [Res.bind] at h
    split at h
    · rename_i hs; cases h; exact ⟨rfl, hs⟩
    · cases h
theorem Ended.value {ts r : List Tok} {t : Tok} (he : Ended ts) (h : valueR ts = .ok t r) : Ended r ∧ r.length < ts.length := he.number (value_ok h).1
theorem sign_ok {may : List Bytes} {ts r : List Tok} {s : Bytes} (h : signR may ts = .ok s r) : ∃ t, ts = t :: r ∧ t.kind = 3 ∧ t.text = s ∧ s ∈ may := by
  cases ts with
  | nil => cases h
  | cons u q =>
    simp only [signR] at h
    split at h
    · rename_i hk; cases h; exact ⟨u, rfl, hk.1, rfl, hk.2⟩
    · cases h
theorem Ended.sign {may : List Bytes} {ts r : List Tok} {s : Bytes} (he : Ended ts) (h : signR may ts = .ok s r) : Ended r ∧ r.length < ts.length := by
  obtain ⟨t, rfl, hk, _⟩ := sign_ok h
  exact ⟨he.tail (by rw [hk]; decide), by simp⟩
theorem variable_ok {nv : Nat} {ahead : List Int} {ts r : List Tok} {n : Int} (h : variableR nv ahead ts = .ok n r) : ∃ t, numberR ts = .ok t r ∧ t.n = n ∧ ahead.length < 6 ∧ (0 ≤ n ∧ n < nv) ∧ aboveB n ahead = true := by
  unfold variableR at h
  cases hn : numberR ts with
  | fault p e => rw [hn] at h; cases h
  | ok u q =>
    rw [hn] at h
    simp only [Res.bind] at h
    split at h
    · split at h
      · rename_i h1 h2; cases h; exact ⟨u, rfl, rfl, h1, h2⟩
      · cases h
    · cases h
theorem Ended.variable {nv : Nat} {ahead : List Int} {ts r : List Tok} {n : Int} (he : Ended ts) (h : variableR nv ahead ts = .ok n r) : Ended r ∧ r.length < ts.length := by
  obtain ⟨t, h1, _⟩ := variable_ok h
  exact he.number h1

/-- Tokens as scanning makes them. -/
def Fair (ts : List Tok) : Prop := Ended ts ∧ ∀ t ∈ ts, -1000000000000 ≤ t.n ∧ t.n ≤ 1000000000000
theorem Fair.ne {l : List Tok} (h : Fair l) : l ≠ [] := h.1.ne
theorem Fair.number {ts r : List Tok} {t : Tok} (he : Fair ts) (h : numberR ts = .ok t r) : Fair r ∧ r.length < ts.length ∧ -1000000000000 ≤ t.n ∧ t.n ≤ 1000000000000 := by
  obtain ⟨h1, h2⟩ := he.1.number h
  obtain ⟨rfl, hk⟩ := number_ok h
  exact ⟨⟨h1, fun u hu => he.2 u (by simp [hu])⟩, h2, he.2 t (by simp)⟩
theorem Fair.value {ts r : List Tok} {t : Tok} (he : Fair ts) (h : valueR ts = .ok t r) : Fair r ∧ r.length < ts.length ∧ -1000000000000 ≤ t.n ∧ t.n ≤ 1000000000000 := he.number (value_ok h).1
theorem Fair.sign {may : List Bytes} {ts r : List Tok} {s : Bytes} (he : Fair ts) (h : signR may ts = .ok s r) : Fair r ∧ r.length < ts.length := by
  obtain ⟨h1, h2⟩ := he.1.sign h
  obtain ⟨t, rfl, _⟩ := sign_ok h
  exact ⟨⟨h1, fun u hu => he.2 u (by simp [hu])⟩, h2⟩
theorem Fair.variable {nv : Nat} {ahead : List Int} {ts r : List Tok} {n : Int} (he : Fair ts) (h : variableR nv ahead ts = .ok n r) : Fair r ∧ r.length < ts.length ∧ -1000000000000 ≤ n ∧ n ≤ 1000000000000 := by
  obtain ⟨t, h1, rfl, _⟩ := variable_ok h
  exact he.number h1
theorem Fair.cons {l : List Tok} (h : Fair l) : ∃ t r, l = t :: r := h.1.cons
theorem Fair.head {t : Tok} {r : List Tok} (h : Fair (t :: r)) : -1000000000000 ≤ t.n ∧ t.n ≤ 1000000000000 := h.2 t (by simp)

end Go.Proofs.YtoiokplgkanepaaDoor
