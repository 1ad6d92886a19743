/-
  Slices of pairs of numbers; the contracts of apart, fill.
-/
import Derived.Test.YtflibcfecnhjgaaDoorOSrch
namespace Go.Proofs.YtflibcfecnhjgaaDoor
open Go.RowKit
set_option linter.unusedVariables false
set_option linter.unusedSimpArgs false
set_option maxRecDepth 20000

/-- The slice value v reads as these pairs. -/
def Prs (w : World) (v : Value) (l : List (Int × Int)) : Prop :=
  ∃ a cap, v = .slice a l.length cap ∧ l.length ≤ cap ∧ cap ≤ maxLen ∧ ∀ i (h : i < l.length), ∃ b off, a = some ⟨b, off, none⟩ ∧ w.cell? ⟨b, off + i * 2, none⟩ = some (.int .i64 l[i].1) ∧ w.cell? ⟨b, off + i * 2 + 1, none⟩ = some (.int .i64 l[i].2)
theorem Prs.below {w w' : World} {v : Value} {l : List (Int × Int)} (h : Prs w v l) (hb : Below w.heap.size w w') : Prs w' v l := by
  obtain ⟨a, cap, h1, h2, h3, h4⟩ := h
  refine ⟨a, cap, h1, h2, h3, fun i hi => ?_⟩
  obtain ⟨b, off, k1, k2, k3⟩ := h4 i hi
  exact ⟨b, off, k1, Below.cell_of hb k2, Below.cell_of hb k3⟩
theorem Prs.nil (w : World) : Prs w (.slice none 0 0) [] := ⟨none, 0, rfl, by simp, by simp [maxLen], fun i h => by simp at h⟩
theorem Prs.form {w : World} {v : Value} {l : List (Int × Int)} (h : Prs w v l) : ∃ a cap, v = .slice a l.length cap ∧ cap ≤ maxLen := by
  obtain ⟨a, cap, h1, h2, h3, h4⟩ := h
  exact ⟨a, cap, h1, h3⟩
theorem Prs.at {w : World} {a : Option Addr} {n cap : Nat} {l : List (Int × Int)} (h : Prs w (.slice a n cap) l) {k : Nat} (hk : k < l.length) :
    ∃ b off, a = some ⟨b, off, none⟩ ∧ w.cell? ⟨b, off + k * 2, none⟩ = some (.int .i64 l[k].1) ∧ w.cell? ⟨b, off + k * 2 + 1, none⟩ = some (.int .i64 l[k].2) := by
  obtain ⟨a', cap', h1, h2, h3, h4⟩ := h
  cases h1
  exact h4 k hk
def flatP (l : List (Int × Int)) : List Value := l.flatMap fun p => [Value.int .i64 p.1, Value.int .i64 p.2]
theorem flatP_len (l : List (Int × Int)) : (flatP l).length = l.length * 2 := by
  induction l with
  | nil => rfl
  | cons x r ih => simp only [flatP, List.flatMap_cons, List.length_append, List.length_cons, List.length_nil] at *; omega
theorem flatP_at : ∀ (l : List (Int × Int)) (i : Nat) (h : i < l.length), (flatP l)[i * 2]? = some (.int .i64 l[i].1) ∧ (flatP l)[i * 2 + 1]? = some (.int .i64 l[i].2)
  | x :: r, 0, _ => by simp [flatP]
  | x :: r, i + 1, h => by
    have ih := flatP_at r i (by simpa using h)
    have e : flatP (x :: r) = [Value.int .i64 x.1, Value.int .i64 x.2] ++ flatP r := by simp [flatP]
    have e1 : (i + 1) * 2 = i * 2 + 2 := by omega
    rw [e, e1]
    refine ⟨?_, ?_⟩
    · rw [List.getElem?_append_right (by simp)]; simpa using ih.1
    · rw [List.getElem?_append_right (by simp)]; simpa [Nat.add_sub_cancel] using ih.2

/-- The call's own slice of pairs. -/
abbrev Own2 (B : Nat) (w : World) (v : Value) (l : List (Int × Int)) : Prop := w.ownsRow B 97 2 v l.length (flatP l)

theorem Own2.prs {B : Nat} {w : World} {v : Value} {l : List (Int × Int)} (h : Own2 B w v l) : Prs w v l := by
  obtain ⟨h1, h2⟩ := h
  rcases h2 with ⟨rfl, h0⟩ | ⟨g, cap, cur, hv, hg, hh, hn, hm, hs, ht⟩
  · have : l = [] := List.length_eq_zero_iff.1 h0
    subst this
    exact Prs.nil _
  · refine ⟨_, cap, hv, hn, hm, fun i hi => ⟨g, 0, rfl, ?_, ?_⟩⟩
    · have e := (flatP_at l i hi).1
      rw [← ht, List.getElem?_take] at e
      split at e
      · simp only [World.cell?, hh]; simpa using e
      · cases e
    · have e := (flatP_at l i hi).2
      rw [← ht, List.getElem?_take] at e
      split at e
      · simp only [World.cell?, hh]; simpa using e
      · cases e

theorem Tryd.infoPr : (Tryd.prog.info? 97).map (fun i => (i.zero, i.size, i.bytes)) = some (some (.agg #[.int .i64 0, .int .i64 0]), 2, 16) := by kernel_rfl

theorem op_app_pair {w : World} {o : Oper} {a : Act} {K : Act → World → Prop} {Q : Exit → Act → World → Prop} (s x : Operand)
    (ho : o.op = .call { callee := .builtin .append, args := #[s, x], argTypes := #[95, 95] }) {B : Nat} {v : Value} {l : List (Int × Int)} {y : Int × Int} (hown : Own2 B w v l) (hs : a.eval s = v) (hB : B ≤ w.heap.size)
    (hx : a.eval x = .slice (some ⟨w.heap.size, 0, none⟩) 1 1) (hlen : l.length < 100000000)
    (h : ∀ v' w', Own2 B w' v' (l ++ [y]) → Grew B w w' v v' → K (a.put o.dst v') w') :
    o.wp Tryd.prog a (w.alloc (.cells #[.int .i64 y.1, .int .i64 y.2] 97)) K Q := by
  obtain ⟨i, hi, hz0, hz1, hz2⟩ := info_parts Tryd.infoPr
  refine op_append _ s x 95 ho B 97 i (.agg #[.int .i64 0, .int .i64 0]) 2 16 Tryd.underlying95 hi hz0 hz1 hz2 rfl (by decide) v l.length (flatP l) hs (hown.alloc _) ⟨w.heap.size, 0, none⟩ 1 1 [.int .i64 y.1, .int .i64 y.2] hx rfl
    ?_ ?_ ?_ ?_ ?_ ?_
  · intro j u hj
    match j, hj with
    | 0, hj => simp at hj; subst hj; simp [Addr.add]
    | 1, hj => simp at hj; subst hj; simp [Addr.add]
  · intro u hu; simp at hu; rcases hu with rfl | rfl <;> rfl
  · unfold maxLen; omega
  · omega
  · simp; omega
  · intro v' w' hown' hgrow hat
    refine h v' w' (by simpa [Own2, flatP] using hown') ⟨?_, ?_, ?_⟩
    · exact ((Below.refl B w).alloc hB _).grown hgrow (by simp; omega) (fun k hk => (hown.lt k hk).1)
    · exact ⟨hgrow.os, hgrow.tape, hgrow.output, Nat.le_trans (by simp) hgrow.size, fun k hk hne => (hgrow.block k (by simp; omega) hne).trans (Below.heap_alloc _ _ _ hk)⟩
    · rcases hat with hat | hat
      · exact .inl hat
      · exact .inr ⟨_, hat, by simp⟩

theorem wp_app_pair {w : World} {ops : Array Oper} {rest : List Oper} {o : Oper} {a : Act} {Q : Exit → Act → World → Prop} (hgd : o.guard = none) (s x : Operand)
    (ho : o.op = .call { callee := .builtin .append, args := #[s, x], argTypes := #[95, 95] }) {B : Nat} {v : Value} {l : List (Int × Int)} {y : Int × Int} (hown : Own2 B w v l) (hs : a.eval s = v) (hB : B ≤ w.heap.size)
    (hx : a.eval x = .slice (some ⟨w.heap.size, 0, none⟩) 1 1) (hlen : l.length < 100000000)
    (h : ∀ v' w', Own2 B w' v' (l ++ [y]) → Grew B w w' v v' → wpList Tryd.prog ops Q rest (a.put o.dst v') w') :
    wpList Tryd.prog ops Q (o :: rest) a (w.alloc (.cells #[.int .i64 y.1, .int .i64 y.2] 97)) :=
  wpList_plain hgd fun _ hK => op_app_pair s x ho hown hs hB hx hlen fun v' w' h1 h2 => hK _ _ (h v' w' h1 h2)

theorem wp_app_pair2 {w : World} {ops : Array Oper} {rest : List Oper} {o : Oper} {a : Act} {Q : Exit → Act → World → Prop} (hgd : o.guard = none) (s x : Operand)
    (ho : o.op = .call { callee := .builtin .append, args := #[s, x], argTypes := #[95, 95] }) {B n : Nat} {v : Value} {l : List (Int × Int)} {y : Int × Int} (hown : Own2 B w v l) (hs : a.eval s = v) (hB : B ≤ w.heap.size)
    (hx : a.eval x = .slice (some ⟨n, 0, none⟩) 1 1) (hn : n = w.heap.size) (hlen : l.length < 100000000)
    (h : ∀ v' w', Own2 B w' v' (l ++ [y]) → Grew B w w' v v' → wpList Tryd.prog ops Q rest (a.put o.dst v') w') :
    wpList Tryd.prog ops Q (o :: rest) a (w.alloc (.cells #[.int .i64 y.1, .int .i64 y.2] 97)) := by
  subst hn
  exact wp_app_pair hgd s x ho hown hs hB hx hlen h

theorem own_new2 {B : Nat} {e : TypeId} {k : Nat} {w : World} {v : Value} {n : Nat} {xs : List Value} (h : w.ownsRow B e k v n xs) : New B w v := h.lt
theorem own_sl2 {B : Nat} {e : TypeId} {k : Nat} {w : World} {v : Value} {n : Nat} {xs : List Value} (h : w.ownsRow B e k v n xs) : ∃ a m c, v = .slice a m c := by
  obtain ⟨h1, h2⟩ := h
  rcases h2 with ⟨rfl, rfl⟩ | ⟨g, cap, cur, hv, _⟩
  · exact ⟨_, _, _, rfl⟩
  · exact ⟨_, _, _, hv⟩
theorem own_below2 {B : Nat} {e : TypeId} {k : Nat} {w w' : World} {v : Value} {n : Nat} {xs : List Value} (h : w.ownsRow B e k v n xs) (hb : Below w.heap.size w w') : w'.ownsRow B e k v n xs :=
  h.kept (row := none) ⟨hb.os, hb.tape, hb.output, hb.size, fun k hk _ => hb.block k hk⟩ (by cases v.ownBlock <;> simp)


theorem getDI {l : List Int} {k : Nat} (hk : k < l.length) : l[k] = l.getD k 0 := by rw [List.getD_eq_getElem?_getD, List.getElem?_eq_getElem hk]; rfl

set_option maxHeartbeats 4000000 in
theorem apartS_any {w : World} {b : Nat} {s : Srch} {x y z : Value} (h : StV w b s x y z) (hr : RightG s.g) (hl : s.t.length = s.g.length) (hT : TabD w) (a : Int) :
    Calls Tryd.prog 58 #[.pointer (some ⟨b, 0, none⟩), .int .i64 a] w fun e w' => ∃ v, e = .returned v ∧ Own2 w.heap.size w' v (apartL s.g s.t a) ∧ Below w.heap.size w w' := by
  have hn : s.g.length ≤ 64 := by have := hr.few; omega
  have hr40 := hr.few
  have HN := hide (besideS_any h hr hl hT a false)
  have HLN := besT_len s.g s.t a false
  have HBS := hide (fun W (hb : Below w.heap.size w W) (p q : Int) => beside_any (a := p) (b := q) (h.g.below hb) hn hr.w64)
  obtain ⟨ax, cx, rfl, _, _⟩ := h.g.form
  have HS := hide (fun W (hb : Below w.heap.size w W) => (h.box.below hb).cells)
  unfold apartL
  clear h hT hr hl
  generalize besT s.g s.t a false = L at *
  go_enter Tryd.func58, Tryd.ntmps58
  go_wp2_with fail
  refine (unhide HN).mono ?_
  rintro e w1 ⟨vn, rfl, ho1, hb1⟩
  obtain ⟨an, cn, rfl, hnl, hnc⟩ := (Seq.of_own ho1).form
  unfold maxLen at hnc
  have HNV := hide (fun W (hb : Below w1.heap.size w1 W) => (Seq.of_own ho1).below hb)
  have HB1 := hide hb1
  have hz1 := hb1.size
  clear ho1 hb1 HN
  go_wp2
  go_loopw [5, 16] (fun v i wr => ∃ k : Nat, k ≤ L.length ∧ i = .int .i64 k ∧ Own2 w1.heap.size wr v (apUp s.g L k) ∧ Below w1.heap.size w1 wr) (fun _ i _ => L.length - (intOf i).toNat)
  case atStart => exact ⟨0, by omega, rfl, (show Own2 _ _ _ [] from World.ownsRow_nil _ _ _ _), Below.refl _ _⟩
  case round =>
    obtain ⟨k, hk, rfl, hown, hbel⟩ := hrel
    rename World => wr
    have hzr := hbel.size
    by_cases hkl : k < L.length
    · obtain ⟨bn, on, e2, q2⟩ := (unhide HNV wr hbel).at hkl
      subst e2
      rw [getDI hkl] at q2
      have hsu := apUp_succ s.g L k
      have HSU := hide hsu
      have hul := apUp_len s.g L k
      have hkk : k * k ≤ 40 * 40 := Nat.mul_le_mul (by omega) (by omega)
      have hbd : (k : Int) ≤ (cn : Int) := by omega
      have HO := hide hown
      have HBE := hide hbel
      have hrow0 := apRow_zero s.g L k
      have hrs := fun m hm => apRow_succ s.g L k m hm
      generalize L.getD k 0 = p at *
      have HRS := hide hrs
      clear hsu hown hbel hrs
      go_wp2
      go_loopw [5, 25] (fun v i wq => ∃ m : Nat, m ≤ k ∧ i = .int .i64 m ∧ Own2 w1.heap.size wq v (apUp s.g L k ++ apRow s.g L k m) ∧ Below w1.heap.size w1 wq) (fun _ i _ => k - (intOf i).toNat)
      case atStart => exact ⟨0, by omega, rfl, by rw [hrow0, List.append_nil]; exact unhide HO, unhide HBE⟩
      case round =>
        clear HO HBE hrow0 q2
        obtain ⟨m, hm, rfl, hown, hbel⟩ := hrel
        rename World => wq
        have hzq := hbel.size
        by_cases hml : m < k
        · have hmL : m < L.length := by omega
          obtain ⟨bn', on', e3, q3⟩ := (unhide HNV wq hbel).at hmL
          cases e3
          have hbw := (unhide HB1).trans (hbel.mono hz1)
          obtain ⟨y0, y1, y2⟩ := unhide HS wq hbw
          have hrs2 := unhide HRS m hmL
          have HBB := hide (unhide HBS wq hbw p L[m])
          have hrl := apRow_len s.g L k m
          generalize L[m] = q at *
          obtain ⟨A, hA⟩ : ∃ A, A = apUp s.g L k := ⟨_, rfl⟩
          obtain ⟨F, hF⟩ : ∃ F, F = apRow s.g L k m := ⟨_, rfl⟩
          obtain ⟨F', hF'⟩ : ∃ F, F = apRow s.g L k (m + 1) := ⟨_, rfl⟩
          rw [← hF, ← hF'] at hrs2
          rw [← hA, ← hF] at hown
          rw [← hF] at hrl
          rw [← hA] at hul
          have HA := hide hA
          have HF' := hide hF'
          have HO := hide hown
          have HBE := hide hbel
          clear hA hF hF' hown hbel hbw y1 y2
          cases hbs : besI s.g p q with
          | true =>
            rw [hbs] at HBB
            rw [if_pos hbs] at hrs2
            have HR2 := hide hrs2
            clear hrs2 hbs
            go_wp2_with fail
            refine (unhide HBB).mono ?_
            rintro e w3 ⟨rfl, hb3⟩
            have hown3 := (unhide HO)
            have HO3 := hide (own_below2 (unhide HO) hb3)
            have HBE3 := hide ((unhide HBE).trans (hb3.mono hzq))
            clear hb3 hown3 y0 q3
            go_wp2
            go_roundw
            case rel => exact ⟨m + 1, by omega, by go_num, by rw [← unhide HA, ← unhide HF', unhide HR2]; exact unhide HO3, unhide HBE3⟩
            case measure => simp [intOf]; omega
          | false =>
            rw [hbs] at HBB
            rw [if_neg (by rw [hbs]; decide)] at hrs2
            have HR2 := hide hrs2
            clear hrs2 hbs
            go_wp2_with fail
            refine (unhide HBB).mono ?_
            rintro e w3 ⟨rfl, hb3⟩
            have HO3 := hide (own_below2 (unhide HO) hb3)
            have HBE3 := hide ((unhide HBE).trans (hb3.mono hzq))
            have hz3 := (unhide HBE3).size
            have hlen : (A ++ F).length < 100000000 := by rw [List.length_append]; omega
            clear hb3 y0 q3
            go_wp2_with (at_builtin; refine wp_app_pair rfl (.tmp 37) (.tmp 41) rfl (B := w1.heap.size) (y := (p, q)) (unhide HO3) rfl (by omega) rfl hlen ?_; intro v5 w5 hown5 hg5)
            go_roundw
            case rel => exact ⟨m + 1, by omega, by go_num, by rw [← unhide HA, ← unhide HF', unhide HR2, ← List.append_assoc]; exact hown5, (unhide HBE3).trans hg5.below⟩
            case measure => simp [intOf]; omega
        · obtain rfl : m = k := by omega
          rw [← unhide HSU] at hown
          have HO := hide hown
          have HBE := hide hbel
          clear hown hbel
          go_wp2
          go_roundw
          case rel => exact ⟨m + 1, by omega, by go_num, unhide HO, unhide HBE⟩
          case measure => simp [intOf]; omega
    · obtain rfl : k = L.length := by omega
      go_wp2
      go_ret
      exact ⟨_, rfl, ⟨hown.1, hown.2.imp id (fun ⟨g, cap, cur, hv, hg, r⟩ => ⟨g, cap, cur, hv, Nat.le_trans hz1 hg, r⟩)⟩, (unhide HB1).trans (hbel.mono (by omega))⟩

theorem fillS_any {w : World} {b : Nat} {s : Srch} {x y z : Value} (h : StV w b s x y z) (hr : RightG s.g) (hl : s.t.length = s.g.length) (hT : TabD w) (a : Int) :
    Calls Tryd.prog 54 #[.pointer (some ⟨b, 0, none⟩), .int .i64 a] w fun e w' => e = .returned (.int .i64 (fillW s.g s.t a)) ∧ Below w.heap.size w w' := by
  have HB := hide (apartS_any h hr hl hT a)
  unfold fillW
  clear h hr hl hT
  generalize apartL s.g s.t a = L at *
  go_enter Tryd.func54, Tryd.ntmps54
  go_wp2_with fail
  refine (unhide HB).mono ?_
  rintro e w1 ⟨vn, rfl, ho1, hb1⟩
  obtain ⟨an, cn, rfl, hnc⟩ := (Own2.prs ho1).form
  clear ho1
  go_wp2
  go_ret
  exact ⟨rfl, hb1⟩

end Go.Proofs.YtflibcfecnhjgaaDoor
