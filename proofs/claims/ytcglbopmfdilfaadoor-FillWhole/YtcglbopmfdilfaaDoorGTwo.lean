/-
  The contracts of bitsOf, points, New, slices.Clone at []uint64, Beside.
-/
import Derived.Test.YtcglbopmfdilfaaDoorGOne
namespace Go.Proofs.YtcglbopmfdilfaaDoor
open Go.RowKit
set_option linter.unusedVariables false
set_option linter.unusedSimpArgs false
set_option maxRecDepth 20000

theorem own_mono {w : World} {B B' n : Nat} {e : TypeId} {v : Value} {xs : List Value} (h : w.ownsRow B e 1 v n xs) (hb : B' ≤ B) : w.ownsRow B' e 1 v n xs :=
  ⟨h.1, h.2.imp id (fun ⟨g, cap, cur, hv, hg, r⟩ => ⟨g, cap, cur, hv, Nat.le_trans hb hg, r⟩)⟩

set_option maxHeartbeats 1000000 in
theorem bitsOf_any {g : List Nat} {l : List Int} {x v : Value} {w : World} (hg : Words w x g) (hn : g.length ≤ 64) (hl : Ints w v l) :
    Calls Tryd.prog 68 #[.agg #[x], v] w fun e w' => e = .returned (.int .u64 (bitsN g.length l : Nat)) ∧ Below w.heap.size w w' := by
  obtain ⟨W1, hW1, hb1, hz1, hx1⟩ := boxed (w := w) (x := x)
  have HP := hide (fun W (a : Int) (hb : Below W1.heap.size W1 W) => bitOf_any (a := a) ((hg.below hb1).below hb) hn)
  have HC := hide (fun W (hb : Below W1.heap.size W1 W) => (hx1.below hb (by omega)).cell)
  have HL := hide (fun W (hb : Below W1.heap.size W1 W) => ((hl.below hb1).below hb))
  have HB := hide hb1
  have HW1 := hide hW1
  obtain ⟨ax, cx, rfl, hlx, hcx⟩ := hg.form
  obtain ⟨al, cl, rfl, hll, hcl⟩ := hl.form
  unfold maxLen at hcl
  clear hg hl hb1 hW1 hx1
  go_enter Tryd.func68, Tryd.ntmps68
  go_wp2_with fail
  rw [← unhide HW1]
  go_wp2
  go_loopw [5, 10] (fun s i wr => ∃ k : Nat, k ≤ l.length ∧ i = .int .i64 k ∧ s = .int .u64 (bitsN g.length (l.take k) : Nat) ∧ Below W1.heap.size W1 wr) (fun _ i _ => l.length - (intOf i).toNat)
  case atStart => exact ⟨0, by omega, rfl, rfl, Below.refl _ _⟩
  case round =>
    obtain ⟨k, hk, rfl, rfl, hbel⟩ := hrel
    rename World => wr
    have hzr := hbel.size
    have y0 := unhide HC wr hbel
    by_cases hkl : k < l.length
    · obtain ⟨bl, ol, rfl, q1⟩ := (unhide HL wr hbel).at hkl
      have HV : Hid (bits .or .u64 ((bitsN g.length (l.take k) : Nat) : Int) ((bitN g.length l[k] : Nat) : Int) = ((bitsN g.length (l.take (k + 1)) : Nat) : Int)) := hide (by
        rw [u64_or_nat _ _ (bitsN_lt hn _) (bitN_lt hn _), List.take_succ_eq_append_getElem hkl, bitsN_snoc])
      have HQ := hide (unhide HP wr l[k] hbel)
      generalize bitsN g.length (l.take k) = s at *
      obtain ⟨s', hs'⟩ : ∃ s', s' = bitsN g.length (l.take (k + 1)) := ⟨_, rfl⟩
      rw [← hs'] at HV
      have HS := hide hs'
      clear hs'
      generalize bitN g.length l[k] = t at *
      generalize l[k] = a at *
      go_wp2_with fail
      refine (unhide HQ).mono ?_
      rintro e w2 ⟨rfl, hb2⟩
      have HB2 := hide (hbel.trans (hb2.mono hzr))
      clear hb2 HQ q1 y0
      go_wp2
      go_roundw
      case rel => exact ⟨k + 1, by omega, by go_num, by rw [unhide HV, unhide HS], unhide HB2⟩
      case measure => simp [intOf]; omega
    · have e : l.take k = l := List.take_of_length_le (by omega)
      rw [e]
      go_wp2
      go_ret
      exact ⟨rfl, (unhide HB).trans (hbel.mono (by omega))⟩

theorem pts_set {n k : Nat} (hk : k < n) : ((ptsL k) ++ List.replicate (n - k) (0 : Int)).set k (k : Int) = ptsL (k + 1) ++ List.replicate (n - (k + 1)) 0 := by
  have e : n - k = (n - (k + 1)) + 1 := by omega
  rw [e, List.replicate_succ, List.set_append_right _ _ (by rw [ptsL_len]; exact Nat.le_refl _), ptsL_len, Nat.sub_self, List.set_cons_zero]
  simp [ptsL, List.range_succ]

/-- A slice of n nought words is made. -/
theorem wp_make_words {w : World} {ops : Array Oper} {rest : List Oper} {o : Oper} {a : Act} {Q : Exit → Act → World → Prop} (hgd : o.guard = none) (l c : Operand) (ho : o.op = Op.makeSlice 27 l c) {B : Nat} (hB : B ≤ w.heap.size)
    {n : Nat} (hl : a.eval l = .int .i64 (n : Int)) (hc : a.eval c = .int .i64 (n : Int)) (hlen : n < 100000000000)
    (h : ∀ w', OwnW B w' (.slice (some ⟨w.heap.size, 0, none⟩) n n) (List.replicate n 0) → Below w.heap.size w w' → wpList Tryd.prog ops Q rest (a.put o.dst (.slice (some ⟨w.heap.size, 0, none⟩) n n)) w') :
    wpList Tryd.prog ops Q (o :: rest) a w := by
  obtain ⟨i, hi, hz0, hz1, hz2⟩ := info_parts Tryd.infoWord
  refine wpList_make_full w hgd l c 27 ho B 61 i (.int .u64 0) 1 Tryd.underlying27 hi hz0 hz1 .i64 .i64 _ _ n hl hc rfl rfl (by rw [hz2]; omega) (by unfold maxLen; omega) hB ?_
  intro w' hown hg
  refine h w' ?_ ⟨hg.os, hg.tape, hg.output, hg.size, fun k hk => hg.block k hk (by simp)⟩
  have : (madeCells (Value.int IntKind.u64 0).cells (n * 1)).toList = (List.replicate n (0 : Nat)).map u64C := by
    rw [show (Value.int IntKind.u64 0).cells = #[.int .u64 0] from rfl, toList_madeCells_one]; simp [u64C]
  rw [this] at hown
  simpa [OwnW] using hown

/-- How many points New answers. -/
def newN (n : Int) : Nat := (min (max n 0) 40).toNat

end Go.Proofs.YtcglbopmfdilfaaDoor
