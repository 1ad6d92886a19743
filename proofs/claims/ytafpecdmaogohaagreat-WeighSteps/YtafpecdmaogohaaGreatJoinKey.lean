/-
  The text by which rows are told apart: its mathematics; the contracts of strconv.AppendInt at one digit, and of keyOf.
-/
import Derived.Test.YtafpecdmaogohaaGreatTupPick
import Derived.Test.YtafpecdmaogohaaGreatApp2
import Derived.Lib.AppendStr
import Derived.Laws.IdiomStrings
namespace Go.Proofs.YtafpecdmaogohaaGreat
set_option linter.unusedVariables false
set_option linter.unusedSimpArgs false

theorem pick_dig {t ps : List Int} (h : ∀ x ∈ t, 0 ≤ x ∧ x < 10) : ∀ x ∈ pickL t ps, 0 ≤ x ∧ x < 10 := by
  intro x hx
  unfold pickL at hx
  obtain ⟨p, _, hp⟩ := List.mem_filterMap.1 hx
  split at hp
  · rename_i hb
    cases hp
    have hk : p.toNat < t.length := by omega
    rw [List.getD_eq_getElem?_getD, List.getElem?_eq_getElem hk]
    exact h _ (List.getElem_mem hk)
  · cases hp

/-- The text of a row of numbers of one digit. -/
def keyB : List Int → List UInt8
  | [] => []
  | n :: r => UInt8.ofNat (48 + n.toNat) :: 32 :: keyB r

theorem keyB_snoc (n : Int) : ∀ l : List Int, keyB (l ++ [n]) = keyB l ++ [UInt8.ofNat (48 + n.toNat)] ++ [32]
  | [] => rfl
  | x :: r => by
    have ih := keyB_snoc n r
    simp only [List.cons_append, keyB, ih]
theorem keyB_len : ∀ l : List Int, (keyB l).length = 2 * l.length
  | [] => rfl
  | x :: r => by simp only [keyB, List.length_cons, keyB_len r]; omega

theorem digit_inj {a b : Int} (ha : 0 ≤ a ∧ a < 10) (hb : 0 ≤ b ∧ b < 10) (h : UInt8.ofNat (48 + a.toNat) = UInt8.ofNat (48 + b.toNat)) : a = b := by
  have h1 := congrArg UInt8.toNat h
  simp only [UInt8.toNat_ofNat'] at h1
  have e1 : (48 + a.toNat) % 2 ^ 8 = 48 + a.toNat := Nat.mod_eq_of_lt (by omega)
  have e2 : (48 + b.toNat) % 2 ^ 8 = 48 + b.toNat := Nat.mod_eq_of_lt (by omega)
  rw [e1, e2] at h1
  omega

theorem keyB_inj : ∀ {a b : List Int}, (∀ x ∈ a, 0 ≤ x ∧ x < 10) → (∀ x ∈ b, 0 ≤ x ∧ x < 10) → keyB a = keyB b → a = b
  | [], [], _, _, _ => rfl
  | [], y :: b, _, _, h => by simp [keyB] at h
  | x :: a, [], _, _, h => by simp [keyB] at h
  | x :: a, y :: b, ha, hb, h => by
    simp only [keyB, List.cons.injEq, true_and] at h
    rw [digit_inj (ha x (by simp)) (hb y (by simp)) h.1, keyB_inj (fun z hz => ha z (by simp [hz])) (fun z hz => hb z (by simp [hz])) h.2]

/-- The rows, of these, that have p at the places ps. -/
def likeL (ps : List Int) (p : List Int) (lb : List (List Int)) : List (List Int) := lb.filter fun v => decide (pickL v ps = p)

end Go.Proofs.YtafpecdmaogohaaGreat

namespace Go.Proofs.YtafpecdmaogohaaGreat
open Go.RowKit
set_option linter.unusedVariables false
set_option linter.unusedSimpArgs false
set_option maxRecDepth 20000

def encB (b : UInt8) : Value := .int .u8 (b.toNat : Int)
/-- The call's own slice of bytes. -/
abbrev OwnB (B : Nat) (w : World) (v : Value) (l : List UInt8) : Prop := w.ownsRow B 5 1 v l.length (l.map encB)

theorem Tryz.infoByte : (Tryz.prog.info? 5).map (fun i => (i.zero, i.size, i.bytes)) = some (some (.int .u8 0), 1, 1) := by kernel_rfl

theorem own_litB {B : Nat} {w : World} (hB : B ≤ w.heap.size) : OwnB B (w.alloc (.cells #[] 5)) (.slice (some ⟨w.heap.size, 0, none⟩) 0 0) [] := World.ownsRow_made w #[] 0 hB (by simp [maxLen]) (by simp)

theorem ret_key {l : List UInt8} {p : List Int} (h : l = keyB p) : Ending.returned (.string ⟨l.toArray⟩) = .returned (.string ⟨(keyB p).toArray⟩) := by rw [h]

end Go.Proofs.YtafpecdmaogohaaGreat
