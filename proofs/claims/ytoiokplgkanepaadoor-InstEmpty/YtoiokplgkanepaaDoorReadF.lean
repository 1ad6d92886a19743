/-
  Reading tokens: the contract of scope.
-/
import Derived.Test.YtoiokplgkanepaaDoorReadE
import Derived.Test.YtoiokplgkanepaaDoorReadC
namespace Go.Proofs.YtoiokplgkanepaaDoor
open Go.RowKit
set_option linter.unusedVariables false
set_option linter.unusedSimpArgs false
set_option maxRecDepth 20000

def lenOf : Value → Nat
  | .slice _ n _ => n
  | _ => 0

/-- The first of the tokens that are left, and where it lies. -/
theorem Rd.peek {w0 : World} {R : Nat} {w : World} {t : Tok} {r : List Tok} {dv hv sv : Value} (h : Rd w0 R w (t :: r) dv hv sv) :
    ∃ b off cap, w.cell? ⟨R, 0, none⟩ = some (.slice (some ⟨b, off, none⟩) (r.length + 1) cap) ∧ r.length + 1 ≤ cap ∧ cap ≤ 9223372036854775807 ∧ w.cell? ⟨b, off, none⟩ = some (.int .i64 t.kind) ∧ w.cell? ⟨b, off + 1, none⟩ = some (.string ⟨t.text.toArray⟩) ∧ w.cell? ⟨b, off + 2, none⟩ = some (.int .i64 t.n) ∧ w.cell? ⟨b, off + 3, none⟩ = some (.int .i64 (t.at_ : Int)) := by
  obtain ⟨tv, hb, ht⟩ := h.box
  obtain ⟨a, cap, rfl, hl, hc⟩ := ht.form
  obtain ⟨b, off, rfl, k0, k1, k2, k3⟩ := (ht.below h.old).at (i := 0) (by simp)
  simp only [List.getElem_cons_zero, Nat.zero_mul, Nat.add_zero] at k0 k1 k2 k3
  unfold maxLen at hc
  exact ⟨b, off, cap, by simpa using hb.cell0, by simpa using hl, by omega, k0, k1, k2, k3⟩

theorem own_keptR {B R : Nat} {w w' : World} {v : Value} {l : List Int} (h : OwnI B w v l) (g : w.grownBy w' (some R)) (hR : R < B) : OwnI B w' v l := h.kept g (by
  cases e : v.ownBlock with
  | none => exact .inl rfl
  | some k => exact .inr (fun e2 => by have := (New.of_own h) k e; cases e2; omega))
theorem own_intsO {B R : Nat} {w : World} {v : Value} {l : List Int} (h : OwnI B w v l) (hR : R < B) : IntsO (· = R) w v l := ⟨Seq.of_own h, fun g hg => ⟨fun e => by have := (New.of_own h) g hg; omega, ((New.of_own h) g hg).2⟩⟩
theorem own_fresh {B : Nat} {w : World} {v : Value} {l : List Int} (h : OwnI B w v l) : IntsO (· < B) w v l := ⟨Seq.of_own h, NotIn.of_new (New.of_own h)⟩

def scopeX (nv f : Nat) (acc : List Int) (ts : List Tok) : Res (List Int) := if acc = [] ∨ headNum ts = true then scopeF nv f acc ts else .ok acc ts

set_option maxHeartbeats 4000000 in
theorem scope_any {w0 : World} {R : Nat} {w : World} {ts : List Tok} {hv sv : Value} {da : Option Addr} {nv dc : Nat} (h : Rd w0 R w ts (.slice da nv dc) hv sv) (hf : Fair ts) (hnv : nv ≤ 9223372036854775807) :
    Calls Tryd.prog 65 #[.pointer (some ⟨R, 0, none⟩)] w (REnds (fun l v w' => IntsO (· < w.heap.size) w' v l) w0 R w (.slice da nv dc) hv sv (scopeR nv ts)) := by
  have hlt := h.lt
  obtain ⟨X, hX⟩ : ∃ X, X = scopeR nv ts := ⟨_, rfl⟩
  rw [← hX]
  have HX : Hid (X = scopeX nv (ts.length + 1) [] ts) := hide (by rw [hX, scopeX, if_pos (.inl rfl)]; rfl)
  have HR := hide (h.push (.cells #[] 3))
  have HO := hide (own_litI (w := w) (B := w.heap.size) (Nat.le_refl _))
  have HF := hide hf
  clear hX h hf
  go_enter Tryd.func65, Tryd.ntmps65
  go_wp2
  go_loopw [3] (fun v wr => ∃ (acc : List Int) (ts : List Tok) (f : Nat), OwnI w.heap.size wr v acc ∧ Rd w0 R wr ts (.slice da nv dc) hv sv ∧ w.grownBy wr (some R) ∧ Fair ts ∧ ts.length < f ∧ acc.length ≤ 6 ∧ Hid (X = scopeX nv f acc ts)) (fun v _ => 7 - lenOf v)
  case atStart => exact ⟨[], ts, ts.length + 1, unhide HO, unhide HR, World.grownBy_alloc w _ _, unhide HF, Nat.lt_succ_self _, by simp, HX⟩
  case round =>
    clear HX HR HO HF
    obtain ⟨acc, ts, f, hown, hr, hg, hf, hfu, hal, HX⟩ := hrel
    rename World => wr
    obtain ⟨g, rfl⟩ : ∃ g, f = g + 1 := ⟨f - 1, by omega⟩
    have hz := hg.size
    obtain ⟨a, cap, rfl, hla, hca⟩ := (Seq.of_own hown).form
    unfold maxLen at hca
    by_cases hgo : acc = [] ∨ headNum ts = true
    · have hX := HX.out
      rw [scopeX, if_pos hgo, scopeF] at hX
      have HV := hide (variable_any hr hf (own_intsO hown hlt) hnv)
      have HOW := hide hown
      obtain ⟨t, r, rfl⟩ := hf.cons
      obtain ⟨b, off, c, p0, p1, p2, p3, _⟩ := hr.peek
      have HF := hide hf
      have hcond : ((acc.length : Int) == 0) = true ∨ ((acc.length : Int) == 0) = false ∧ (t.kind == 2) = true := by
        rcases hgo with h | h
        · subst h; exact .inl rfl
        · by_cases h0 : acc.length = 0
          · left; simp [h0]
          · right; exact ⟨by rw [beq_eq_false_iff_ne]; omega, h⟩
      have HG := hide hg
      cases hv' : variableR nv acc (t :: r) with
      | fault p e =>
        rw [hv'] at HV hX
        have HX2 := hide hX
        clear HX hX hr hf hown hgo hv' hg
        rcases hcond with h0 | ⟨h0, h1⟩
        · go_wp2_with fail
          refine (unhide HV).mono ?_
          rintro e w1 ⟨hg1, rfl⟩
          exact ⟨rfl, ends_no (unhide HX2) (grown_then (unhide HG) hg1 (fun b e => .inr e))⟩
        · go_wp2_with fail
          refine (unhide HV).mono ?_
          rintro e w1 ⟨hg1, rfl⟩
          exact ⟨rfl, ends_no (unhide HX2) (grown_then (unhide HG) hg1 (fun b e => .inr e))⟩
      | ok n r2 =>
        rw [hv'] at HV hX
        obtain ⟨hf2, hl2, _⟩ := hf.variable hv'
        obtain ⟨_, _, _, h6, _⟩ := variable_ok hv'
        have HX2 : Hid (X = scopeX nv g (acc ++ [n]) r2) := hide (by rw [hX, scopeX]; simp [Res.bind])
        have hl3 : r2.length < g := by simp at hl2 hfu; omega
        have HF2 := hide hf2
        clear HX hX hr hf hown hgo hv' hg hf2 hl2 hfu HF
        rcases hcond with h0 | ⟨h0, h1⟩
        all_goals
          go_wp2_with fail
          refine (unhide HV).mono ?_
          rintro e w1 ⟨hg1, _, rfl, rfl, hr1⟩
          have hown1 := hide (own_keptR (unhide HOW) hg1 hlt)
          have hz1 := hg1.size
          have HR1 := hide hr1
          have HG1 := hide (grown_then (unhide HG) hg1 (fun b e => .inr e))
          clear hr1 hg1
          go_wp2_with (at_builtin; refine wp_app_int rfl (.tmp 18) (.tmp 22) rfl (unhide hown1) rfl (by omega) rfl (by omega) ?_; intro v' w2 hown2 hgrew)
          have hnew := New.of_own (unhide hown1)
          have hr2 := (unhide HR1).grown hgrew.by_ (fun b e => .inr (by have := hnew b e; omega))
          have hg2 := grown_then (unhide HG1) hgrew.by_ (fun b e => .inl (hnew b e).1)
          obtain ⟨a', c', rfl, _, _⟩ := (Seq.of_own hown2).form
          go_roundw
          case rel => exact ⟨acc ++ [n], r2, g, hown2, hr2, hg2, unhide HF2, hl3, by simp; omega, HX2⟩
          case measure => simp [lenOf]; omega
    · have hX := HX.out
      rw [scopeX, if_neg hgo] at hX
      obtain ⟨t, r, rfl⟩ := hf.cons
      obtain ⟨b, off, c, p0, p1, p2, p3, _⟩ := hr.peek
      have h0 : ((acc.length : Int) == 0) = false := by
        have : acc ≠ [] := fun e => hgo (.inl e)
        have := List.length_pos_iff.2 this
        rw [beq_eq_false_iff_ne]; omega
      have h1 : (t.kind == 2) = false := by
        have : ¬ headNum (t :: r) = true := fun e => hgo (.inr e)
        simpa [headNum] using this
      have HX2 := hide hX
      have HOW := hide hown
      have HR1 := hide hr
      have HG1 := hide hg
      clear HX hX hr hf hown hgo hg
      go_wp2
      go_ret
      exact ends_ok (unhide HX2) (unhide HG1) (own_fresh (unhide HOW)) (unhide HR1)

end Go.Proofs.YtoiokplgkanepaaDoor
