/-
  The contracts of bitsOf, points, New, slices.Clone at []uint64, Beside.
-/
import Derived.Test.YtflibcfecnhjgaaDoorGOne
namespace Go.Proofs.YtflibcfecnhjgaaDoor
open Go.RowKit
set_option linter.unusedVariables false
set_option linter.unusedSimpArgs false
set_option maxRecDepth 20000

theorem own_mono {w : World} {B B' n : Nat} {e : TypeId} {v : Value} {xs : List Value} (h : w.ownsRow B e 1 v n xs) (hb : B' ≤ B) : w.ownsRow B' e 1 v n xs :=
  ⟨h.1, h.2.imp id (fun ⟨g, cap, cur, hv, hg, r⟩ => ⟨g, cap, cur, hv, Nat.le_trans hb hg, r⟩)⟩

set_option maxHeartbeats 1000000 in
theorem bitsOf_any {g : List Nat} {l : List Int} {x v : Value} {w : World} (hg : Words w x g) (hn : g.length ≤ 64) (hl : Ints w v l) :
    Calls Tryd.prog 40 #[.agg #[x], v] w fun e w' => e = .returned (.int .u64 (bitsN g.length l : Nat)) ∧ Below w.heap.size w w' := by
  obtain ⟨W1, hW1, hb1, hz1, hx1⟩ := boxed (w := w) (x := x)
  have HP := hide (fun W (a : Int) (hb : Below W1.heap.size W1 W) => bitOf_any (a := a) ((hg.below hb1).below hb) hn)
  have HC := hide (fun W (hb : Below W1.heap.size W1 W) => (hx1.below hb (by omega)).cell)
  have HL := hide (fun W (hb : Below W1.heap.size W1 W) => ((hl.below hb1).below hb))
  have HB := hide hb1
  have HW1 := hide hW1
  obtain ⟨ax, cx, rfl, hlx, hcx⟩ := hg.form
  obtain ⟨al, cl, rfl, hll, hcl⟩ := hl.form
  unfold maxLen at hcl
  clear hg hl hb1 hW1 hx1
  go_enter Tryd.func40, Tryd.ntmps40
  go_wp2_with fail
  rw [← unhide HW1]
  go_wp2
  go_loopw [5, 10] (fun s i wr => ∃ k : Nat, k ≤ l.length ∧ i = .int .i64 k ∧ s = .int .u64 (bitsN g.length (l.take k) : Nat) ∧ Below W1.heap.size W1 wr) (fun _ i _ => l.length - (intOf i).toNat)
  case atStart => exact ⟨0, by omega, rfl, rfl, Below.refl _ _⟩
  case round =>
    obtain ⟨k, hk, rfl, rfl, hbel⟩ := hrel
    rename World => wr
    have hzr := hbel.size
    have y0 := unhide HC wr hbel
    by_cases hkl : k < l.length
    · obtain ⟨bl, ol, rfl, q1⟩ := (unhide HL wr hbel).at hkl
      have HV : Hid (bits .or .u64 ((bitsN g.length (l.take k) : Nat) : Int) ((bitN g.length l[k] : Nat) : Int) = ((bitsN g.length (l.take (k + 1)) : Nat) : Int)) := hide (by
        rw [u64_or_nat _ _ (bitsN_lt hn _) (bitN_lt hn _), List.take_succ_eq_append_getElem hkl, bitsN_snoc])
      have HQ := hide (unhide HP wr l[k] hbel)
      generalize bitsN g.length (l.take k) = s at *
      obtain ⟨s', hs'⟩ : ∃ s', s' = bitsN g.length (l.take (k + 1)) := ⟨_, rfl⟩
      rw [← hs'] at HV
      have HS := hide hs'
      clear hs'
      generalize bitN g.length l[k] = t at *
      generalize l[k] = a at *
      go_wp2_with fail
      refine (unhide HQ).mono ?_
      rintro e w2 ⟨rfl, hb2⟩
      have HB2 := hide (hbel.trans (hb2.mono hzr))
      clear hb2 HQ q1 y0
      go_wp2
      go_roundw
      case rel => exact ⟨k + 1, by omega, by go_num, by rw [unhide HV, unhide HS], unhide HB2⟩
      case measure => simp [intOf]; omega
    · have e : l.take k = l := List.take_of_length_le (by omega)
      rw [e]
      go_wp2
      go_ret
      exact ⟨rfl, (unhide HB).trans (hbel.mono (by omega))⟩

theorem pts_set {n k : Nat} (hk : k < n) : ((ptsL k) ++ List.replicate (n - k) (0 : Int)).set k (k : Int) = ptsL (k + 1) ++ List.replicate (n - (k + 1)) 0 := by
  have e : n - k = (n - (k + 1)) + 1 := by omega
  rw [e, List.replicate_succ, List.set_append_right _ _ (by rw [ptsL_len]; exact Nat.le_refl _), ptsL_len, Nat.sub_self, List.set_cons_zero]
  simp [ptsL, List.range_succ]

set_option maxHeartbeats 1000000 in
theorem points_any {g : List Nat} {x : Value} {w : World} (hg : Words w x g) (hn : g.length ≤ 64) :
    Calls Tryd.prog 41 #[.agg #[x]] w fun e w' => ∃ v, e = .returned v ∧ OwnI w.heap.size w' v (ptsL g.length) ∧ Below w.heap.size w w' := by
  obtain ⟨W1, hW1, hb1, hz1, hx1⟩ := boxed (w := w) (x := x)
  have hc1 := hx1.cell
  have HB := hide hb1
  have HW1 := hide hW1
  obtain ⟨ax, cx, rfl, hlx, hcx⟩ := hg.form
  generalize g.length = n at *
  clear hg hb1 hW1 hx1
  go_enter Tryd.func41, Tryd.ntmps41
  go_wp2_with (at_make; rw [← unhide HW1]; refine wp_make_ints rfl _ _ rfl (B := W1.heap.size) (Nat.le_refl _) rfl rfl (by omega) ?_; intro w1 hown1 hb1; rw [hz1] at hown1)
  go_loopw [11] (fun i wr => ∃ k : Nat, k ≤ n ∧ i = .int .i64 k ∧ OwnI (w.heap.size + 1) wr (.slice (some ⟨w.heap.size + 1, 0, none⟩) n n) (ptsL k ++ List.replicate (n - k) 0) ∧ Below W1.heap.size W1 wr) (fun i _ => n - (intOf i).toNat)
  case atStart => exact ⟨0, by omega, rfl, by simpa [ptsL] using hown1, hb1⟩
  case round =>
    clear hown1 hb1 hc1
    obtain ⟨k, hk, rfl, hown, hbel⟩ := hrel
    by_cases hkn : k < n
    · obtain ⟨⟨old, hcell⟩, hfr, hset, hbs⟩ := own_setI hown (by simp [ptsL_len]; omega) (i := k) hkn (k : Int)
      rw [pts_set hkn] at hset
      clear hown
      go_wp2
      go_roundw
      case rel => exact ⟨k + 1, by omega, by go_num, hset, hbel.trans (hbs.mono (by omega))⟩
      case measure => simp [intOf]; omega
    · obtain rfl : k = n := by omega
      rw [Nat.sub_self, List.replicate_zero, List.append_nil] at hown
      go_wp2
      go_ret
      exact ⟨_, rfl, own_mono hown (by omega), (unhide HB).trans (hbel.mono (by omega))⟩

/-- A slice of n nought words is made. -/
theorem wp_make_words {w : World} {ops : Array Oper} {rest : List Oper} {o : Oper} {a : Act} {Q : Exit → Act → World → Prop} (hgd : o.guard = none) (l c : Operand) (ho : o.op = Op.makeSlice 29 l c) {B : Nat} (hB : B ≤ w.heap.size)
    {n : Nat} (hl : a.eval l = .int .i64 (n : Int)) (hc : a.eval c = .int .i64 (n : Int)) (hlen : n < 100000000000)
    (h : ∀ w', OwnW B w' (.slice (some ⟨w.heap.size, 0, none⟩) n n) (List.replicate n 0) → Below w.heap.size w w' → wpList Tryd.prog ops Q rest (a.put o.dst (.slice (some ⟨w.heap.size, 0, none⟩) n n)) w') :
    wpList Tryd.prog ops Q (o :: rest) a w := by
  obtain ⟨i, hi, hz0, hz1, hz2⟩ := info_parts Tryd.infoWord
  refine wpList_make_full w hgd l c 29 ho B 37 i (.int .u64 0) 1 Tryd.underlying29 hi hz0 hz1 .i64 .i64 _ _ n hl hc rfl rfl (by rw [hz2]; omega) (by unfold maxLen; omega) hB ?_
  intro w' hown hg
  refine h w' ?_ ⟨hg.os, hg.tape, hg.output, hg.size, fun k hk => hg.block k hk (by simp)⟩
  have : (madeCells (Value.int IntKind.u64 0).cells (n * 1)).toList = (List.replicate n (0 : Nat)).map u64C := by
    rw [show (Value.int IntKind.u64 0).cells = #[.int .u64 0] from rfl, toList_madeCells_one]; simp [u64C]
  rw [this] at hown
  simpa [OwnW] using hown

/-- How many points New answers. -/
def newN (n : Int) : Nat := (min (max n 0) 40).toNat

set_option maxHeartbeats 1000000 in
theorem new_any (n : Int) (w : World) :
    Calls Tryd.prog 30 #[.int .i64 n] w fun e w' => ∃ x, e = .returned (.agg #[x]) ∧ OwnW w.heap.size w' x (List.replicate (newN n) 0) ∧ Below w.heap.size w w' := by
  obtain ⟨W1, hW1, hb1, hz1, hx1⟩ := boxed (w := w) (x := .slice none 0 0)
  have HB := hide hb1
  have HW1 := hide hW1
  have HX := hide hx1
  have hn2 : newN n ≤ 40 := by unfold newN; omega
  obtain ⟨M, hM⟩ : ∃ M, M = max n 0 := ⟨_, rfl⟩
  have hmax : ∀ W ts t, (Builtin.max_ ts t #[.int .i64 n, .int .i64 0]).run Tryd.prog W = .ok (.int .i64 M) W := fun W ts t => by rw [run_max_int2]; split <;> (congr 2; omega)
  have hmin : ∀ W ts t, (Builtin.min_ ts t #[.int .i64 M, .int .i64 40]).run Tryd.prog W = .ok (.int .i64 (newN n : Int)) W := fun W ts t => by rw [run_min_int2]; unfold newN; split <;> (congr 2; omega)
  generalize newN n = m at *
  clear hb1 hW1 hM
  clear hx1
  go_enter Tryd.func30, Tryd.ntmps30
  go_wp2_with (at_make; rw [← unhide HW1]; refine wp_make_words rfl _ _ rfl (B := W1.heap.size) (Nat.le_refl _) rfl rfl (by omega) ?_; intro w2 hown2 hb2; rw [hz1] at hown2; have q0 := ((unhide HX).below hb2 (by omega)).cell; have f0 := ((unhide HX).below hb2 (by omega)).frozen; have HB2 := hide ((unhide HB).trans (hb2.mono (by omega))); clear hb2)
  refine bodyPost_ret (v := .agg #[.slice (some ⟨w.heap.size + 1, 0, none⟩) m m]) (by simp [results, Tryd.results30, go_sem, q0]) rfl ⟨_, rfl, own_mono (by exact (ownsRow_setCell_below hown2 (by simp) _)) (by omega), (unhide HB2).setCell (Nat.le_refl _) _⟩

end Go.Proofs.YtflibcfecnhjgaaDoor
