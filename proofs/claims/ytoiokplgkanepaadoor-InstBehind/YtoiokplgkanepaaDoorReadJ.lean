/-
  Reading tokens: the contract of rows.
-/
import Derived.Test.YtoiokplgkanepaaDoorReadI
import Derived.Test.YtoiokplgkanepaaDoorInstMath2
namespace Go.Proofs.YtoiokplgkanepaaDoor
open Go.RowKit
set_option linter.unusedVariables false
set_option linter.unusedSimpArgs false
set_option maxRecDepth 20000

/-- The call's own rows of numbers, all made from B on; no inner one lies in the outer one's block. -/
def OwnTF (B : Nat) (w : World) (v : Value) (ll : List (List Int)) : Prop :=
  ∃ vs : List Value, OwnV B w v vs ∧ vs.length = ll.length ∧ ∀ i (h : i < vs.length) (h' : i < ll.length), IntsO (fun g => g < B ∨ v.ownBlock = some g) w vs[i] ll[i]
theorem OwnTF.new {B : Nat} {w : World} {v : Value} {ll : List (List Int)} (h : OwnTF B w v ll) : New B w v := by
  obtain ⟨vs, h1, _⟩ := h
  exact New.of_own h1
theorem OwnTF.nil (B : Nat) (w : World) : OwnTF B w (.slice none 0 0) [] := ⟨[], own_nilV _ _, rfl, fun i h => by simp at h⟩
theorem OwnTF.lit {B : Nat} {w : World} (hB : B ≤ w.heap.size) : OwnTF B (w.alloc (.cells #[] 40)) (.slice (some ⟨w.heap.size, 0, none⟩) 0 0) [] := ⟨[], own_litV hB, rfl, fun i h => by simp at h⟩
theorem OwnTF.kept {B : Nat} {w w' : World} {v : Value} {ll : List (List Int)} {row : Option Nat} (h : OwnTF B w v ll) (g : w.grownBy w' row) (hr : ∀ b, row = some b → b < B ∨ w.heap.size ≤ b) : OwnTF B w' v ll := by
  obtain ⟨vs, h1, h2, h3⟩ := h
  have hn := New.of_own h1
  refine ⟨vs, h1.kept g (by
    cases e : v.ownBlock with
    | none => exact .inl rfl
    | some k => exact .inr (fun e2 => by have := hn k e; rcases hr k e2.symm with h | h <;> omega)), h2, fun i hi hi' => ?_⟩
  have hk := h3 i hi hi'
  have : IntsO (fun g => (g < B ∨ v.ownBlock = some g) ∨ w.heap.size ≤ g) w vs[i] ll[i] := hk.weaken (fun g hg hy => by
    rcases hy with h | h
    · exact h
    · omega)
  exact (this.kept g (fun b e => by rcases hr b e with h | h; exact .inl (.inl h); exact .inr h)).weaken (fun g _ h => .inl h)
theorem OwnTF.fresh {B : Nat} {w : World} {v : Value} {ll : List (List Int)} (h : OwnTF B w v ll) : TupsO (· < B) w v ll := by
  obtain ⟨vs, h1, h2, h3⟩ := h
  exact ⟨vs, Seq.of_own (enc := id) (by simpa using h1), NotIn.of_new (New.of_own h1), h2, fun i hi hi' => (h3 i hi hi').weaken (fun g _ h => .inl h)⟩
theorem OwnTF.offR {B R : Nat} {w : World} {v : Value} {ll : List (List Int)} (h : OwnTF B w v ll) (hR : R < B) : TupsO (· = R) w v ll := h.fresh.weaken (fun g _ e => by subst e; exact hR)

theorem OwnTF.snoc {B : Nat} {w w' : World} {v v' u : Value} {vs : List Value} {ll : List (List Int)} {l : List Int} (hlen : vs.length = ll.length)
    (h3 : ∀ i (h : i < vs.length) (h' : i < ll.length), IntsO (fun g => g < B ∨ v.ownBlock = some g) w vs[i] ll[i]) (hu : IntsO (fun g => g < B ∨ v.ownBlock = some g) w u l) (hown : OwnV B w' v' (vs ++ [u])) (g : Grew B w w' v v') : OwnTF B w' v' (ll ++ [l]) := by
  have key : ∀ {x : Value} {y : List Int}, IntsO (fun g => g < B ∨ v.ownBlock = some g) w x y → IntsO (fun g => g < B ∨ v'.ownBlock = some g) w' x y := by
    intro x y hx
    have h1 : IntsO (fun g => (g < B ∨ v.ownBlock = some g) ∨ v'.ownBlock = some g) w x y := hx.weaken (fun k hk hy => by
      rcases hy with h | h
      · exact h
      · rcases g.at_ with h' | ⟨m, hm, hle⟩
        · exact .inr (h' ▸ h)
        · rw [hm] at h; cases h; omega)
    exact (h1.kept g.by_ (fun b e => .inl (.inr e))).weaken (fun k _ h => by
      rcases h with h | h
      · exact .inl (.inl h)
      · exact .inr h)
  refine ⟨vs ++ [u], hown, by simp [hlen], fun i hi hi' => ?_⟩
  by_cases hiv : i < vs.length
  · have hil : i < ll.length := by omega
    rw [List.getElem_append_left hiv, List.getElem_append_left hil]
    exact key (h3 i hiv hil)
  · have e : i = vs.length := by simp at hi; omega
    subst e
    rw [List.getElem_append_right (by omega), List.getElem_append_right (by omega)]
    simp only [hlen, Nat.sub_self, List.getElem_cons_zero]
    exact key hu

theorem op_app_fresh {w : World} {o : Oper} {a : Act} {K : Act → World → Prop} {Q : Exit → Act → World → Prop} (s x : Operand)
    (ho : o.op = .call { callee := .builtin .append, args := #[s, x], argTypes := #[23, 23] }) {B : Nat} {v u : Value} {ll : List (List Int)} {l : List Int} (hown : OwnTF B w v ll) (hu : IntsO (fun g => g < B ∨ v.ownBlock = some g) w u l) (hs : a.eval s = v) (hB : B ≤ w.heap.size)
    (hx : a.eval x = .slice (some ⟨w.heap.size, 0, none⟩) 1 1) (hlen : ll.length < 100000000000)
    (h : ∀ v' w', OwnTF B w' v' (ll ++ [l]) → Grew B w w' v v' → K (a.put o.dst v') w') :
    o.wp Tryd.prog a (w.alloc (.cells #[u] 40)) K Q := by
  obtain ⟨vs, h1, h2, h3⟩ := hown
  exact op_app_row s x ho h1 hs hB hx hu.1.one (by omega) fun v' w' k1 k2 => h v' w' (OwnTF.snoc h2 h3 hu k1 k2) k2
theorem wp_app_fresh {w : World} {ops : Array Oper} {rest : List Oper} {o : Oper} {a : Act} {Q : Exit → Act → World → Prop} (hgd : o.guard = none) (s x : Operand)
    (ho : o.op = .call { callee := .builtin .append, args := #[s, x], argTypes := #[23, 23] }) {B : Nat} {v u : Value} {ll : List (List Int)} {l : List Int} (hown : OwnTF B w v ll) (hu : IntsO (fun g => g < B ∨ v.ownBlock = some g) w u l) (hs : a.eval s = v) (hB : B ≤ w.heap.size)
    (hx : a.eval x = .slice (some ⟨w.heap.size, 0, none⟩) 1 1) (hlen : ll.length < 100000000000)
    (h : ∀ v' w', OwnTF B w' v' (ll ++ [l]) → Grew B w w' v v' → wpList Tryd.prog ops Q rest (a.put o.dst v') w') :
    wpList Tryd.prog ops Q (o :: rest) a (w.alloc (.cells #[u] 40)) :=
  wpList_plain hgd fun _ hK => op_app_fresh s x ho hown hu hs hB hx hlen fun v' w' h1 h2 => hK _ _ (h v' w' h1 h2)

def rowsX (D : List (List Int)) (scope : List Int) (more : Bool) (f : Nat) (acc : List (List Int)) (ts : List Tok) : Res (List (List Int)) := if more = true then rowsF D scope f acc ts else .ok acc ts

set_option maxHeartbeats 600000 in
theorem rows_any {w0 : World} {R : Nat} {w : World} {ts : List Tok} {dv hv sv scv : Value} {D : List (List Int)} {scope : List Int} (h : Rd w0 R w ts dv hv sv) (hf : Fair ts)
    (hD : TupsO (· = R) w dv D) (hS : IntsO (· = R) w scv scope) (hsc : ScopeOk D.length scope) (hN : ts.length ≤ 1000000) :
    Calls Tryd.prog 69 #[.pointer (some ⟨R, 0, none⟩), scv] w (REnds (fun l v w' => TupsO (· < w.heap.size) w' v l) w0 R w dv hv sv (rowsR D scope ts)) := by
  have hlt := h.lt
  obtain ⟨t0, r0, rfl⟩ := hf.cons
  obtain ⟨X, hX⟩ : ∃ X, X = rowsR D scope (t0 :: r0) := ⟨_, rfl⟩
  rw [← hX]
  unfold rowsR at hX
  obtain ⟨sa, sc, rfl, hscl, hscc⟩ := hS.1.form
  unfold maxLen at hscc
  have h1 := h.push (.cells #[] 40)
  obtain ⟨pb, poff, pc, p0, p1, p2, p3, _⟩ := h1.peek
  have HR := hide h1
  have HO := hide (OwnTF.lit (w := w) (B := w.heap.size) (Nat.le_refl _))
  have HF := hide hf
  have HD : Hid (∀ w', w.grownBy w' (some R) → TupsO (· = R) w' dv D) := hide (fun w' g => hD.kept g (fun b e => by cases e; rfl))
  have HS : Hid (∀ w', w.grownBy w' (some R) → IntsO (· = R) w' (.slice sa scope.length sc) scope) := hide (fun w' g => hS.kept g (fun b e => by cases e; rfl))
  have HSC := hide hsc
  have hsl := hsc.le
  by_cases hk : headNum (t0 :: r0) = true
  · rw [if_pos hk] at hX
    have hk' : (t0.kind != 2) = false := by simpa [headNum] using hk
    have HX : Hid (X = rowsX D scope true ((t0 :: r0).length + 1) [] (t0 :: r0)) := hide hX
    obtain ⟨N, hNN⟩ : ∃ N, N = (t0 :: r0).length := ⟨_, rfl⟩
    rw [← hNN] at hN HX
    have HNN := hide hNN
    clear hX h hf hD hS hsc h1 hk hNN
    go_enter Tryd.func69, Tryd.ntmps69
    go_wp2
    clear p0 p1 p2 p3
    go_loopw [5, 6] (fun v m wr => ∃ (more : Bool) (acc : List (List Int)) (ts : List Tok) (f : Nat), m = .bool more ∧ OwnTF w.heap.size wr v acc ∧ Rd w0 R wr ts dv hv sv ∧ w.grownBy wr (some R) ∧ Fair ts ∧ ts.length < f ∧ acc.length + ts.length ≤ N ∧ Hid (X = rowsX D scope more f acc ts)) (fun v m _ => (N - lenOf v) * 2 + (match m with | .bool true => 1 | _ => 0))
    case atStart => exact ⟨true, [], _, N + 1, rfl, unhide HO, unhide HR, World.grownBy_alloc w _ _, unhide HF, by rw [unhide HNN]; exact Nat.lt_succ_self _, by rw [unhide HNN]; simp, HX⟩
    case round =>
      clear HX HR HO HF HNN
      obtain ⟨more, acc, ts, f, rfl, hown, hr, hg, hf, hfu, hal2, HX⟩ := hrel
      rename World => wr
      have hz := hg.size
      obtain ⟨a, cap, rfl, hla, hca⟩ := hown.fresh.form
      unfold maxLen at hca
      cases more with
      | false =>
        have hX := HX.out
        rw [rowsX, if_neg (by decide)] at hX
        have HX2 := hide hX
        have HOW := hide hown
        have HR1 := hide hr
        have HG1 := hide hg
        clear HX hX hr hf hown hg
        go_wp2
        go_ret
        exact ends_ok (unhide HX2) (unhide HG1) (unhide HOW).fresh (unhide HR1)
      | true =>
        obtain ⟨g, rfl⟩ : ∃ g, f = g + 1 := ⟨f - 1, by omega⟩
        have hX := HX.out
        rw [rowsX, if_pos rfl, rowsF] at hX
        have HV := hide (row_any hr hf (unhide HD wr hg) (unhide HS wr hg) (hown.offR hlt) (unhide HSC).inr hsl)
        have HOW := hide hown
        have HG := hide hg
        have hnew := hown.new
        cases hv' : rowR D scope acc ts with
        | fault p e =>
          rw [hv'] at HV hX
          have HX2 := hide hX
          clear HX hX hr hf hown hv' hg hnew
          go_wp2_with fail
          refine (unhide HV).mono ?_
          rintro e w1 ⟨hg1, rfl⟩
          exact ⟨rfl, ends_no (unhide HX2) (grown_then (unhide HG) hg1 (fun b e => .inr e))⟩
        | ok row r2 =>
          rw [hv', ok_bind] at hX
          rw [hv'] at HV
          obtain ⟨hf2, hl2⟩ := hf.row hv'
          have HNW := hide hnew
          have HF2 := hide hf2
          have HXX := hide hX
          clear HX hX hr hf hown hv' hg hnew
          go_wp2_with fail
          refine (unhide HV).mono ?_
          rintro e w1 ⟨hg1, u, rfl, hu, hr1⟩
          have hown1 := (unhide HOW).kept hg1 (fun b e => by cases e; exact .inl hlt)
          have hz1 := hg1.size
          have hu' : IntsO (fun g => g < w.heap.size ∨ (Value.slice a acc.length cap).ownBlock = some g) w1 u row := hu.weaken (fun k _ hy => by
            rcases hy with h | h
            · omega
            · exact (unhide HNW k h).2)
          obtain ⟨ua, uc, rfl, _, _⟩ := hu.1.form
          have HR1 := hide hr1
          have HG1 := hide (grown_then (unhide HG) hg1 (fun b e => .inr e))
          have HO1 := hide hown1
          have HU := hide hu'
          clear hr1 hg1 hown1 hu hu'
          go_wp2_with (at_builtin; refine wp_app_fresh rfl (.tmp 25) (.tmp 30) rfl (unhide HO1) (unhide HU) rfl (by omega) rfl (by omega) ?_; intro v' w2 hown2 hgrew; have HO2 := hide hown2; have HGW := hide hgrew; clear hown2 hgrew)
          have hnew1 := (unhide HO1).new
          have hr2 := (unhide HR1).grown (unhide HGW).by_ (fun b e => .inr (by have := hnew1 b e; omega))
          have hg2 := grown_then (unhide HG1) (unhide HGW).by_ (fun b e => .inl (hnew1 b e).1)
          have HSG := hide (sign2_any [44] [59] hr2 (unhide HF2))
          have HG2 := hide hg2
          have hz2 := hg2.size
          clear hr2 hg2 HR1 HG1
          have hX2 := unhide HXX
          cases hs : signR [comma, semi] r2 with
          | fault p e =>
            rw [hs] at HSG hX2
            have HX2 := hide hX2
            clear hX2 hs
            refine (unhide HSG).mono ?_
            rintro e w3 ⟨hg3, rfl⟩
            exact ⟨rfl, ends_no (unhide HX2) (grown_then (unhide HG2) hg3 (fun b e => .inr e))⟩
          | ok s r3 =>
            rw [hs] at HSG
            rw [hs, ok_bind] at hX2
            obtain ⟨hf3, hl3⟩ := (unhide HF2).sign hs
            obtain ⟨q, hq⟩ : ∃ q : Bool, q = (s == [44]) := ⟨_, rfl⟩
            have HX2 : Hid (X = rowsX D scope q g (acc ++ [row]) r3) := hide (by
              rw [hX2, rowsX, hq]
              by_cases hm : s = [44]
              · simp [hm]
              · simp [hm])
            have HF3 := hide hf3
            clear hX2 hs hf3 HXX
            refine (unhide HSG).mono ?_
            rintro e w3 ⟨hg3, _, rfl, rfl, hr3⟩
            have HO3 := hide ((unhide HO2).kept hg3 (fun b e => by cases e; exact .inl hlt))
            have HG3 := hide (grown_then (unhide HG2) hg3 (fun b e => .inr e))
            obtain ⟨a', c', rfl, _, _⟩ := (unhide HO2).fresh.form
            unfold strE
            have hq' : (s == [44]) = q := hq.symm
            clear hq hg3
            have HR3 := hide hr3
            clear hr3
            go_wp2
            go_roundw
            case rel => exact ⟨q, acc ++ [row], r3, g, rfl, by simpa using unhide HO3, unhide HR3, unhide HG3, unhide HF3, by omega, by simp; omega, HX2⟩
            case measure => cases q <;> simp [lenOf] <;> omega
  · rw [if_neg hk] at hX
    have hk' : (t0.kind != 2) = true := by simpa [headNum] using hk
    have HS := hide (sign1_any [59] h1 hf)
    simp only [World.size_alloc] at HS
    cases hs : signR [semi] (t0 :: r0) with
    | fault p e =>
      rw [hs] at HS hX
      have HX2 := hide hX
      clear h hf hD hS hsc h1 hk hX hs
      go_enter Tryd.func69, Tryd.ntmps69
      go_wp2_with fail
      refine (unhide HS).mono ?_
      rintro e w1 ⟨hg1, rfl⟩
      exact ⟨rfl, ends_no (unhide HX2) (grown_then (World.grownBy_alloc w _ _) hg1 (fun b e => .inr e))⟩
    | ok s r2 =>
      rw [hs] at HS hX
      have HX2 := hide hX
      clear h hf hD hS hsc h1 hk hX hs
      go_enter Tryd.func69, Tryd.ntmps69
      go_wp2_with fail
      refine (unhide HS).mono ?_
      rintro e w1 ⟨hg1, _, rfl, rfl, hr1⟩
      have HO2 := hide ((unhide HO).kept hg1 (fun b e => by cases e; exact .inl hlt))
      go_wp2
      go_ret
      exact ends_ok (unhide HX2) (grown_then (World.grownBy_alloc w _ _) hg1 (fun b e => .inr e)) (unhide HO2).fresh hr1

end Go.Proofs.YtoiokplgkanepaaDoor
