/-
  Proved: BuiltRows answers true for all rows, and leaves them as they were. No condition.
-/
import Derived.Test.YtlbiebnihoekkaaFrame
import Derived.Test.YtlbiebnihoekkaaShown7
import Derived.Test.YtlbiebnihoekkaaBRound
import Derived.Test.YtlbiebnihoekkaaSortMath
namespace Go.Proofs.Ytlbiebnihoekkaa.builtRows
open Go.RowKit Go.ChangeShapes Go.WideShapes Go.ChangeAt
set_option linter.unusedVariables false
set_option linter.unusedSimpArgs false
set_option maxRecDepth 20000

abbrev D8 : List Int := [0, 1, 2, 3, 4, 5, 6, 7]
abbrev DD : List (List Int) := [D8, D8]
def s7 (x : Int) : Int := bits .and .i64 x 7
theorem s7_range (x : Int) : 0 ≤ s7 x ∧ s7 x ≤ 7 := by unfold s7; rw [and7_eq]; omega
def pairT (r : List Int) : List Int := [s7 ((rndL r 2).getD 0 0), s7 ((rndL r 2).getD 1 0)]
def pairsK (rows : List (List Int)) (k : Nat) : List (List Int) := (rows.take k).map pairT
theorem pairsK_step {rows : List (List Int)} {k : Nat} (h : k < rows.length) : pairsK rows (k + 1) = pairsK rows k ++ [pairT rows[k]] := by
  unfold pairsK; rw [List.take_succ_eq_append_getElem h, List.map_append]; rfl
theorem pairsK_len (rows : List (List Int)) (k : Nat) : (pairsK rows k).length ≤ k := by simp [pairsK]; omega

abbrev F64 : List (List Int) := fullL ([0, 1].map (domL DD))
theorem f64_asc : AscL F64 := full_asc _ (by decide)
theorem f64_len : F64.length = 64 := by rw [full_count]; decide
theorem f64_mem {x y : Int} (hx : 0 ≤ x ∧ x ≤ 7) (hy : 0 ≤ y ∧ y ≤ 7) : [x, y] ∈ F64 := by
  refine (mem_full _ _).2 ⟨rfl, fun i hi hi' => ?_⟩
  have h8 : ∀ z : Int, 0 ≤ z ∧ z ≤ 7 → z ∈ D8 := fun z hz => by simp; omega
  match i, hi, hi' with
  | 0, _, _ => exact h8 x hx
  | 1, _, _ => exact h8 y hy

theorem filter_two (p : List Int → Bool) (l : List (List Int)) : (l.filter p).length + (l.filter fun x => !p x).length = l.length := by
  induction l with
  | nil => rfl
  | cons x r ih => by_cases h : p x = true <;> simp [List.filter_cons, h] at ih ⊢ <;> omega

theorem sane1 {k : Int} {L : List (List Int)} (hL : AscL L) (hl : L.length < 100000000) : Sane ⟨k, [0, 1], L, []⟩ := ⟨hL, hl, by simp [Mill], by simp⟩

theorem rows_yes {L : List (List Int)} (hL : AscL L) (hm : ∀ t ∈ L, t ∈ F64) : F64.filter (holdsB ⟨1, [0, 1], L, []⟩) = L := by
  refine AscL.ext (f64_asc.filter _) hL fun t => ?_
  rw [List.mem_filter]
  constructor
  · rintro ⟨h1, h2⟩
    have hl := full_len _ t h1
    have hl2 : t.length = 2 := hl
    simp [holdsB, hl2] at h2
    exact h2
  · intro h
    have h1 := hm t h
    have hl : t.length = 2 := full_len _ t h1
    exact ⟨h1, by simp [holdsB, hl, h]⟩
theorem rows_no {L : List (List Int)} : F64.filter (holdsB ⟨2, [0, 1], L, []⟩) = F64.filter fun t => !holdsB ⟨1, [0, 1], L, []⟩ t := by
  refine List.filter_congr fun t h1 => ?_
  have hl : t.length = 2 := full_len _ t h1
  simp [holdsB, hl]
theorem rows_out {L : List (List Int)} {t : List Int} (h : t ∈ L) : t ∉ F64.filter (holdsB ⟨2, [0, 1], L, []⟩) := by
  rw [rows_no, List.mem_filter]
  rintro ⟨h1, h2⟩
  have hl : t.length = 2 := full_len _ t h1
  simp [holdsB, hl, h] at h2
theorem rows_count {L : List (List Int)} (hL : AscL L) (hm : ∀ t ∈ L, t ∈ F64) : L.length + (F64.filter (holdsB ⟨2, [0, 1], L, []⟩)).length = 64 := by
  have := filter_two (holdsB ⟨1, [0, 1], L, []⟩) F64
  rw [rows_yes hL hm, ← rows_no, f64_len] at this
  exact this

abbrev c8 : Array Value := #[.int .i64 0, .int .i64 1, .int .i64 2, .int .i64 3, .int .i64 4, .int .i64 5, .int .i64 6, .int .i64 7]
theorem doms_lit (w : World) : Tups (((w.alloc (.cells c8 3)).alloc (.cells c8 3)).alloc (.cells #[.slice (some ⟨w.heap.size, 0, none⟩) 8 8, .slice (some ⟨w.heap.size + 1, 0, none⟩) 8 8] 29)) (.slice (some ⟨w.heap.size + 1 + 1, 0, none⟩) 2 2) DD := by
  refine ⟨[.slice (some ⟨w.heap.size, 0, none⟩) 8 8, .slice (some ⟨w.heap.size + 1, 0, none⟩) 8 8], litT_at (c := #[.slice (some ⟨w.heap.size, 0, none⟩) 8 8, .slice (some ⟨w.heap.size + 1, 0, none⟩) 8 8]) (e := 29) (fr := (0, 0)) (by simp only [alloc_at, World.size_alloc]; repeat (first | rw [if_pos True.intro] | rw [if_pos rfl] | rw [if_neg (by omega)])) rfl rfl (by simp), rfl, fun i hi hi' => ?_⟩
  match i, hi, hi' with
  | 0, _, _ => exact litI_at (c := c8) (e := 3) (fr := (0, 0)) (by simp only [alloc_at, World.size_alloc]; repeat (first | rw [if_pos True.intro] | rw [if_pos rfl] | rw [if_neg (by omega)])) rfl rfl (by simp)
  | 1, _, _ => exact litI_at (c := c8) (e := 3) (fr := (0, 0)) (by simp only [alloc_at, World.size_alloc]; repeat (first | rw [if_pos True.intro] | rw [if_pos rfl] | rw [if_neg (by omega)])) rfl rfl (by simp)

theorem op_app_tup2 {w : World} {o : Oper} {a : Act} {K : Act → World → Prop} {Q : Exit → Act → World → Prop} (s x : Operand)
    (ho : o.op = .call { callee := .builtin .append, args := #[s, x], argTypes := #[22, 22] }) {B n : Nat} {v u : Value} {ll : List (List Int)} {l : List Int} (hown : OwnT B w v ll) (hu : Ints w u l) (ha : Apart u l v) (hs : a.eval s = v) (hB : B ≤ w.heap.size)
    (hx : a.eval x = .slice (some ⟨n, 0, none⟩) 1 1) (hn : n = w.heap.size) (hlen : ll.length < 100000000000)
    (h : ∀ v' w', OwnT B w' v' (ll ++ [l]) → Grew B w w' v v' → K (a.put o.dst v') w') :
    o.wp Try.prog a (w.alloc (.cells #[u] 29)) K Q := by
  subst hn
  exact op_app_tup s x ho hown hu ha hs hB hx hlen h

set_option maxHeartbeats 4000000 in
theorem walk {l0 : List (List Int)} {v0 : Value} {w : World} (i0 : Tups w v0 l0) (m0 : ∀ l ∈ l0, ∀ n ∈ l, InI64 n) :
    Calls Try.prog 8 #[v0] w fun e w' => e = .returned (.bool true) ∧ Below w.heap.size w w' := by
  obtain ⟨a, ca, rfl, hla, hca⟩ := i0.form
  unfold maxLen at hca
  clear m0
  go_enter Try.func8, Try.ntmps8
  go_wp2_with fail
  refine (shown7_any _).mono ?_
  rintro e w1 ⟨rfl, hb1⟩
  have hbD := (((Below.refl _ w1).alloc (Nat.le_refl _) (.cells c8 3)).alloc (by simp) (.cells c8 3)).alloc (by simp; omega) (.cells #[.slice (some ⟨w1.heap.size, 0, none⟩) 8 8, .slice (some ⟨w1.heap.size + 1, 0, none⟩) 8 8] 29)
  have htD := doms_lit w1
  have hsD : (((w1.alloc (.cells c8 3)).alloc (.cells c8 3)).alloc (.cells #[.slice (some ⟨w1.heap.size, 0, none⟩) 8 8, .slice (some ⟨w1.heap.size + 1, 0, none⟩) 8 8] 29)).heap.size = w1.heap.size + 1 + 1 + 1 := by simp
  have hlit : OwnT (w1.heap.size + 1 + 1 + 1) ((((w1.alloc (.cells c8 3)).alloc (.cells c8 3)).alloc (.cells #[.slice (some ⟨w1.heap.size, 0, none⟩) 8 8, .slice (some ⟨w1.heap.size + 1, 0, none⟩) 8 8] 29)).alloc (.cells #[] 29)) (.slice (some ⟨w1.heap.size + 1 + 1 + 1, 0, none⟩) 0 0) [] := by
    have := OwnT.lit (w := (((w1.alloc (.cells c8 3)).alloc (.cells c8 3)).alloc (.cells #[.slice (some ⟨w1.heap.size, 0, none⟩) 8 8, .slice (some ⟨w1.heap.size + 1, 0, none⟩) 8 8] 29))) (Nat.le_refl _)
    rw [hsD] at this
    exact this
  obtain ⟨wD, hwD⟩ : ∃ W, W = (((w1.alloc (.cells c8 3)).alloc (.cells c8 3)).alloc (.cells #[.slice (some ⟨w1.heap.size, 0, none⟩) 8 8, .slice (some ⟨w1.heap.size + 1, 0, none⟩) 8 8] 29)) := ⟨_, rfl⟩
  rw [← hwD] at hbD htD hsD hlit
  rw [← hsD] at hlit
  have j0 := (i0.below hb1).below hbD
  have HBD := hide (hb1.trans (hbD.mono hb1.size))
  have HTD := hide htD
  have HLIT := hide hlit
  have HWD := hide hwD
  have hbp := (Below.refl _ wD).alloc (Nat.le_refl _) (.cells #[] 29)
  have HSD := hide hsD
  clear i0 hb1 hbD htD hlit hwD hsD
  go_wp2
  rw [← unhide HWD]
  go_loopw [5, 6, 7] (fun v i _ wr => ∃ k : Nat, k ≤ l0.length ∧ k ≤ 20 ∧ i = .int .i64 k ∧ OwnT wD.heap.size wr v (pairsK l0 k) ∧ Below wD.heap.size wD wr) (fun _ i _ _ => l0.length - (intOf i).toNat)
  case atStart => exact ⟨0, by omega, by omega, rfl, by rw [← unhide HSD] ; exact unhide HLIT, hbp⟩
  case round =>
    clear HLIT hbp HWD HSD
    obtain ⟨k, hk, hk20, rfl, hown, hbel⟩ := hrel
    rename World => wr
    have hzz := hbel.size
    by_cases hkk : k < l0.length ∧ k < 20
    · obtain ⟨hkl, hkt⟩ := hkk
      obtain ⟨bl, ol, ul, rfl, hcl, hiL⟩ := (j0.below hbel).at hkl
      obtain ⟨ia, ic, rfl, hil, hic⟩ := hiL.form
      have HC := hide (pairsK_step hkl)
      have hlen := pairsK_len l0 k
      have HRD := hide (round_any (n := 2) hiL (by omega))
      have hrl := rnd_len l0[k] 2
      have hpe : Hid (pairT l0[k] = [s7 ((rndL l0[k] 2).getD 0 0), s7 ((rndL l0[k] 2).getD 1 0)]) := hide rfl
      generalize pairT l0[k] = P at *
      generalize rndL l0[k] 2 = T at *
      generalize pairsK l0 k = LL at *
      clear hiL j0
      go_wp2_with fail
      refine (unhide HRD).mono ?_
      rintro e w3 ⟨u3, rfl, hu3, hb3⟩
      have hi3 := Seq.of_own hu3
      obtain ⟨xa, xc, rfl, _, _⟩ := hi3.form
      obtain ⟨t0, t1, rfl⟩ : ∃ x y, T = [x, y] := by
        match T, hrl with
        | [x, y], _ => exact ⟨x, y, rfl⟩
      obtain ⟨b3, o3, e3, hq0⟩ := hi3.at (k := 0) (by simp)
      obtain ⟨b4, o4, e4, hq1⟩ := hi3.at (k := 1) (by simp)
      rw [e3] at e4
      cases e4
      subst e3
      rw [Nat.add_zero] at hq0
      simp only [List.getElem_cons_zero, List.getElem_cons_succ] at hq0 hq1
      have hown3 := hown.below hb3
      have hB3 := hbel.trans (hb3.mono hzz)
      have hz3 := hB3.size
      have hpe' := unhide hpe
      simp only [List.getD_cons_zero, List.getD_cons_succ] at hpe'
      have HP := hide hpe'
      have HK := hide (fun W (hb : Below w3.heap.size w3 W) => And.intro (Below.cell_of hb hq0) (Below.cell_of hb hq1))
      have hbR := Below.refl w3.heap.size w3
      have HBQ := hide hB3
      have hsT := (Sep.of_new hown.new (Nat.le_refl _) (New.of_own hu3)).symm
      have hneT := hide (fun (e : _) => hsT b3 rfl e)
      have hpl := (Below.refl _ w3).alloc (Nat.le_refl _) (.cells #[.int .i64 (bits .and .i64 t0 7), .int .i64 (bits .and .i64 t1 7)] 3)
      have hown4 := hown3.below hpl
      have hi4 : Ints (w3.alloc (.cells #[.int .i64 (bits .and .i64 t0 7), .int .i64 (bits .and .i64 t1 7)] 3)) (.slice (some ⟨w3.heap.size, 0, none⟩) 2 2) [s7 t0, s7 t1] := litI_at (c := #[.int .i64 (bits .and .i64 t0 7), .int .i64 (bits .and .i64 t1 7)]) (e := 3) (fr := (0, 0)) (heap_alloc_new _ _) rfl rfl (by simp)
      have hap4 := hide (show Sep (.slice (some ⟨w3.heap.size, 0, none⟩) 2 2) _ from (Sep.of_new hown3.new (Nat.le_refl _) (B := w3.heap.size) (w' := w3.alloc (.cells #[.int .i64 (bits .and .i64 t0 7), .int .i64 (bits .and .i64 t1 7)] 3)) (v := .slice (some ⟨w3.heap.size, 0, none⟩) 2 2) (by intro g hg; cases hg; exact ⟨Nat.le_refl _, by simp⟩)).symm)
      have hz4 : wD.heap.size ≤ (w3.alloc (.cells #[.int .i64 (bits .and .i64 t0 7), .int .i64 (bits .and .i64 t1 7)] 3)).heap.size := by simp; omega
      have HPL := hide (hB3.trans (hpl.mono hz3))
      have hll : LL.length < 100000000000 := by omega
      have hsz4 : w3.heap.size + 1 = (w3.alloc (.cells #[.int .i64 (bits .and .i64 t0 7), .int .i64 (bits .and .i64 t1 7)] 3)).drew.heap.size := by have : (w3.alloc (.cells #[.int .i64 (bits .and .i64 t0 7), .int .i64 (bits .and .i64 t1 7)] 3)).heap.size = w3.heap.size + 1 := World.size_alloc _ _; exact this.symm
      have HSZ4 := hide hsz4
      clear hsz4
      clear hsT hpl
      clear hown hu3 hb3 hbel hi3 hpe hpe' hrl HRD hB3
      rw [show ([t0, t1] : List Int).length = 2 from rfl]
      go_wp2
      go_region_held3 (fun W => W.cell? ⟨b3, o3, none⟩ = some (.int .i64 t0) ∧ W.cell? ⟨b3, o3 + 1, none⟩ = some (.int .i64 t1))
        (first | exact hS7 | exact unhide HK _ (by first | exact hbR | exact below_same rfl rfl rfl rfl | exact below_push rfl rfl rfl rfl | exact Below.drew ((hbR.alloc (Nat.le_refl _) _).alloc (by simp) _) | exact (hbR.alloc (Nat.le_refl _) _).alloc (by simp) _ | exact Below.drew (hbR.alloc (Nat.le_refl _) _)))
        (first
          | (refine step_of rfl (op_app_tup2 (w := (w3.alloc (.cells #[.int .i64 (bits .and .i64 t0 7), .int .i64 (bits .and .i64 t1 7)] 3)).drew) (u := .slice (some ⟨w3.heap.size, 0, none⟩) 2 2) (l := [s7 t0, s7 t1]) (.tmp 35) (.tmp 45) rfl (OwnT.below hown4 (below_same rfl rfl rfl rfl)) (Seq.below hi4 (below_same rfl rfl rfl rfl)) (fun _ => unhide hap4) rfl hz4 rfl (unhide HSZ4) hll ?_); intro v7 w7 hown7 hg7; have hS7 := And.intro (hg7.by_.cell (Below.cell_of (Below.drew (hbR.alloc (Nat.le_refl _) (.cells #[.int .i64 (bits .and .i64 t0 7), .int .i64 (bits .and .i64 t1 7)] 3))) hq0) (fun e => unhide hneT e.symm)) (hg7.by_.cell (Below.cell_of (Below.drew (hbR.alloc (Nat.le_refl _) (.cells #[.int .i64 (bits .and .i64 t0 7), .int .i64 (bits .and .i64 t1 7)] 3))) hq1) (fun e => unhide hneT e.symm)); have hB7 := (Below.drew (unhide HPL)).trans hg7.below))
      go_wp2
      go_roundw
      case rel => exact ⟨k + 1, by omega, by omega, by go_num, by rw [unhide HC, unhide HP]; exact hown7, hB7⟩
      case measure => simp [intOf]; omega
    · have hok : Hid (decide (k < l0.length) = false ∨ (k < l0.length ∧ ¬ k < 20)) := hide (by
        by_cases h1 : k < l0.length
        · exact .inr ⟨h1, fun h2 => hkk ⟨h1, h2⟩⟩
        · exact .inl (by simpa using h1))
      have hlen := pairsK_len l0 k
      have HSRT := hide (refSort_any hown.tups (by omega) (fun t ht => by
        obtain ⟨x, _, rfl⟩ := List.mem_map.1 ht
        simp [pairT]))
      have hspec := sortL_spec (pairsK l0 k)
      have hmem : ∀ t ∈ sortL (pairsK l0 k), t ∈ F64 := fun t ht => by
        obtain ⟨x, _, rfl⟩ := List.mem_map.1 ((hspec.2 t).1 ht)
        exact f64_mem (s7_range _) (s7_range _)
      have hasc := hspec.1
      have hsll := sortL_le (pairsK l0 k)
      have hyes := rows_yes hasc hmem
      have hcnt := rows_count hasc hmem
      have hout := hide (fun t (h : t ∈ sortL (pairsK l0 k)) => rows_out h)
      obtain ⟨va, vc, hve, hva, hvc⟩ := hown.tups.form
      rw [hve] at HSRT ⊢
      generalize hLL : pairsK l0 k = LL at *
      generalize hSS : sortL LL = L at *
      have hL20 : L.length ≤ 20 := by omega
      have HT1 := hide (fun W (u v1 : Value) (hb : Below wr.heap.size wr W) (hu : Ints W u [0, 1]) (hv : Tups W v1 L) => table_any (most := 64) (doms := DD) (c := ⟨1, [0, 1], L, []⟩) (vc := .agg #[.int .i64 1, u, v1, .slice none 0 0]) (((unhide HTD).below hbel).below hb) ⟨_, _, _, rfl, hu, hv, Seq.nil _ _⟩ (show ∀ x ∈ ([0, 1] : List Int), 0 ≤ x ∧ x < (DD.length : Int) by decide) (show F64.length < 1000000000 by rw [f64_len]; decide) (by decide) (sane1 hasc (by omega)) (by intro d hd x hx; simp at hd; subst hd; simp at hx; omega))
      have HT2 := hide (fun W (u v1 : Value) (hb : Below wr.heap.size wr W) (hu : Ints W u [0, 1]) (hv : Tups W v1 L) => table_any (most := 64) (doms := DD) (c := ⟨2, [0, 1], L, []⟩) (vc := .agg #[.int .i64 2, u, v1, .slice none 0 0]) (((unhide HTD).below hbel).below hb) ⟨_, _, _, rfl, hu, hv, Seq.nil _ _⟩ (show ∀ x ∈ ([0, 1] : List Int), 0 ≤ x ∧ x < (DD.length : Int) by decide) (show F64.length < 1000000000 by rw [f64_len]; decide) (by decide) (sane1 hasc (by omega)) (by intro d hd x hx; simp at hd; subst hd; simp at hx; omega))
      simp only [] at HT1 HT2
      rw [hyes] at HT1
      generalize F64.filter (holdsB ⟨2, [0, 1], L, []⟩) = R2 at *
      have HFin := hide ((unhide HBD).trans (hbel.mono (unhide HBD).size))
      have HASC := hide hasc
      have HCN := hide hcnt
      clear hve hLL hSS hspec hmem hyes hown hkk j0 hbel hlen hasc hcnt HTD HBD
      rcases unhide hok with h1 | ⟨h1, h2⟩
      all_goals
        clear hok
        go_wp2_with fail
        refine (unhide HSRT).mono ?_
        rintro e w5 ⟨u5, rfl, hu5, hun5, hb5⟩
        obtain ⟨ra, rc, rfl, hrl, hrc⟩ := hu5.form
        unfold maxLen at hrc
        have hpa := (Below.refl _ w5).alloc (Nat.le_refl _) (.cells #[.int .i64 0, .int .i64 1] 3)
        have H1 := hide (unhide HT1 _ _ _ (below_then hb5 hpa) (litI_at (c := #[.int .i64 0, .int .i64 1]) (e := 3) (fr := (0, 0)) (heap_alloc_new w5 _) rfl rfl (by simp)) (hu5.below hpa))
        have HP1 := hide hpa
        clear hpa hun5
        go_wp2_with fail
        refine (unhide H1).mono ?_
        rintro e w6 ⟨hE, hb6⟩
        rcases hE with ⟨hm, xa, xb, rfl, hx1, hx2, hx3⟩ | ⟨hm, rfl⟩
        rotate_left
        · omega
        obtain ⟨ya, yc, rfl, _, _⟩ := hx1.form
        obtain ⟨za, zc, rfl, hzl, hzc⟩ := hx2.form
        unfold maxLen at hzc
        rw [show ([0, 1] : List Int).length = 2 from rfl] at hx1 ⊢
        have hB6 := below_then hb5 ((unhide HP1).trans (hb6.mono (unhide HP1).size))
        have hu6 := hu5.below ((unhide HP1).trans (hb6.mono (unhide HP1).size))
        have hpb := (Below.refl _ w6).alloc (Nat.le_refl _) (.cells #[.slice ya 2 yc, .slice za L.length zc] 36)
        have hA1 : (w6.alloc (.cells #[.slice ya 2 yc, .slice za L.length zc] 36)).heap[w6.heap.size]? = some (.cells #[.slice ya 2 yc, .slice za L.length zc] 36) := heap_alloc_new _ _
        have hta := hx2.below hpb
        have hu7 := hu6.below hpb
        have hB7 := below_then hB6 hpb
        have hs7 : (w6.alloc (.cells #[.slice ya 2 yc, .slice za L.length zc] 36)).heap.size = w6.heap.size + 1 := by simp
        obtain ⟨w7, hw7⟩ : ∃ W, W = w6.alloc (.cells #[.slice ya 2 yc, .slice za L.length zc] 36) := ⟨_, rfl⟩
        rw [← hw7] at hpb hA1 hta hu7 hB7 hs7
        have hpc := (Below.refl _ w7).alloc (Nat.le_refl _) (.cells #[.int .i64 0, .int .i64 1] 3)
        have H2' := unhide HT2 _ _ _ (below_then hB7 hpc) (litI_at (c := #[.int .i64 0, .int .i64 1]) (e := 3) (fr := (0, 0)) (heap_alloc_new w7 _) rfl rfl (by simp)) (hu7.below hpc)
        rw [hs7] at H2'
        have H2 := hide H2'
        clear H2'
        have HW7 := hide hw7
        have HB7 := hide hB7
        have HA1 := hide hA1
        have HS7 := hide hs7
        have HPC := hide hpc
        clear hx1 hx2 hx3 hpb hu5 hu6 hB6 hb5 hb6 hw7 hA1 hpc hB7 hs7 HP1 H1 hm
        go_wp2_with fail
        rw [← unhide HW7]
        refine (unhide H2).mono ?_
        rintro e w8 ⟨hE, hb8⟩
        rcases hE with ⟨hm, pa, pb, rfl, hp1, hp2, hp3⟩ | ⟨hm, rfl⟩
        rotate_left
        · have := unhide HCN; omega
        obtain ⟨qa, qc, rfl, _, _⟩ := hp1.form
        obtain ⟨sa, sc, rfl, hsl, hsc⟩ := hp2.form
        unfold maxLen at hsc
        rw [show ([0, 1] : List Int).length = 2 from rfl] at hp1 ⊢
        have hpd := (Below.refl _ w8).alloc (Nat.le_refl _) (.cells #[.slice qa 2 qc, .slice sa R2.length sc] 36)
        have hb78 : Below w7.heap.size w7 w8 := (unhide HPC).trans (hb8.mono (unhide HPC).size)
        have hb79 := below_then hb78 hpd
        have htb := hp2.below hpd
        have hta9 := hta.below hb79
        have hu9 := hu7.below hb79
        have hc1 : (w8.alloc (.cells #[.slice qa 2 qc, .slice sa R2.length sc] 36)).cell? ⟨w6.heap.size, 1, none⟩ = some (.slice za L.length zc) := by
          unfold World.cell?
          rw [hb79.block w6.heap.size (by have := unhide HS7; omega), unhide HA1]; rfl
        have hc2 : (w8.alloc (.cells #[.slice qa 2 qc, .slice sa R2.length sc] 36)).cell? ⟨w8.heap.size, 1, none⟩ = some (.slice sa R2.length sc) := by unfold World.cell?; rw [heap_alloc_new]; rfl
        have hB9 := below_then (unhide HB7) hb79
        have HB9 := hide ((unhide HFin).trans (hB9.mono (unhide HFin).size))
        have hsum : ((L.length : Int) + (R2.length : Int) != 64) = false := by have := unhide HCN; rw [bne_eq_false_iff_eq]; omega
        have hll : ((L.length : Int) != (L.length : Int)) = false := by simp
        have hR64 : R2.length ≤ 64 := by have := unhide HCN; omega
        have HCMP := hide (fun W (hb : Below (w8.alloc (.cells #[.slice qa 2 qc, .slice sa R2.length sc] 36)).heap.size (w8.alloc (.cells #[.slice qa 2 qc, .slice sa R2.length sc] 36)) W) => And.intro (hta9.below hb) (And.intro (hu9.below hb) (And.intro (htb.below hb) (And.intro (Below.cell_of hb hc1) (Below.cell_of hb hc2)))))
        have hs9 : (w8.alloc (.cells #[.slice qa 2 qc, .slice sa R2.length sc] 36)).heap.size = w8.heap.size + 1 := by simp
        clear hp1 hp2 hp3 hb8 hpd hb78 hb79 htb hta9 hu9 hta hu7 hB9 HCN HB7 HA1 HS7 HPC HW7 H2 HT1 HT2 HFin hm
        go_wp2
        generalize w8.alloc (.cells #[.slice qa 2 qc, .slice sa R2.length sc] 36) = w9 at *
        go_loopw [12, 13, 14] (fun i _ _ wq => ∃ (j : Nat), j ≤ L.length ∧ i = .int .i64 j ∧ Below w9.heap.size w9 wq) (fun i _ _ _ => L.length - (intOf i).toNat)
        case atStart => exact ⟨0, by omega, rfl, Below.refl _ _⟩
        case round =>
          obtain ⟨j, hj, rfl, hbq⟩ := hrel
          rename World => wq
          by_cases hjl : j < L.length
          · obtain ⟨k1, k2, k3, k4, k5⟩ := unhide HCMP w9 (Below.refl _ _)
            obtain ⟨b1, o1, x1, e1, hq1, hi1⟩ := k1.at hjl
            obtain ⟨b2, o2, x2, e2, hq2, hi2⟩ := k2.at hjl
            cases e1
            cases e2
            have hno := unhide hout _ (List.getElem_mem hjl)
            have hfl : isAt R2 L[j] (lowN R2 L[j]) = false := by
              unfold isAt
              split
              · rename_i hlt
                rw [decide_eq_false_iff_not]
                intro e
                exact hno (by rw [← cmpL_eq e]; exact List.getElem_mem _)
              · rfl
            have HFD := hide (fun W (hb : Below w9.heap.size w9 W) => Calls.toBelow (refFind_any (k3.below hb) (hi2.below hb)))
            rw [hfl] at HFD
            have HCP := hide (fun W (hb : Below w9.heap.size w9 W) => Calls.toBelow (refCompare_any (hi1.below hb) (hi2.below hb)))
            rw [cmpL_refl] at HCP
            obtain ⟨p1, q1, rfl, _, _⟩ := hi1.form
            obtain ⟨p2, q2, rfl, _, _⟩ := hi2.form
            generalize lowN R2 L[j] = lo at *
            generalize L[j] = t at *
            clear k1 k2 k3 hi1 hi2 hno hfl HCMP hout
            have HK := hide (fun W (hb : Below w9.heap.size w9 W) => And.intro (Below.cell_of hb k4) (And.intro (Below.cell_of hb k5) (And.intro (Below.cell_of hb hq1) (Below.cell_of hb hq2))))
            clear k4 k5 hq1 hq2
            go_wp2
            go_region_held3 (fun W => W.cell? ⟨w6.heap.size, 1, none⟩ = some (.slice (some ⟨b1, o1, none⟩) L.length zc) ∧ W.cell? ⟨w8.heap.size, 1, none⟩ = some (.slice sa R2.length sc) ∧ W.cell? ⟨b1, o1 + j, none⟩ = some (.slice p1 t.length q1) ∧ W.cell? ⟨b2, o2 + j, none⟩ = some (.slice p2 t.length q2))
              (first | exact unhide HK _ (by first | exact hBf | exact hbq | exact hbq.drew))
              (first | (go_at_call 24; refine (unhide HFD _ (by first | exact hbq | exact hbq.drew)).mono ?_; rintro e wf ⟨rfl, hbf⟩; have hBf : Below w9.heap.size w9 wf := hbq.trans (Below.mono (show Below wq.heap.size wq wf from ⟨hbf.os, hbf.tape, hbf.output, hbf.size, hbf.block⟩) hbq.size)))
            go_wp2
            go_region_held3 (fun W => W.cell? ⟨w6.heap.size, 1, none⟩ = some (.slice (some ⟨b1, o1, none⟩) L.length zc) ∧ W.cell? ⟨w8.heap.size, 1, none⟩ = some (.slice sa R2.length sc) ∧ W.cell? ⟨b1, o1 + j, none⟩ = some (.slice p1 t.length q1) ∧ W.cell? ⟨b2, o2 + j, none⟩ = some (.slice p2 t.length q2))
              (first | exact unhide HK _ (by first | exact hBg | exact hBf | exact hBf.drew))
              (first | (go_at_call 25; refine (unhide HCP _ (by first | exact hBf | exact hBf.drew)).mono ?_; rintro e wg ⟨rfl, hbg⟩; have hBg : Below w9.heap.size w9 wg := hBf.trans (Below.mono (show Below wf.heap.size wf wg from ⟨hbg.os, hbg.tape, hbg.output, hbg.size, hbg.block⟩) hBf.size)))
            go_wp2
            go_roundw
            case rel => exact ⟨j + 1, by omega, by go_num, hBg⟩
            case measure => simp [intOf]; omega
          · clear HCMP hout
            go_wp2
            go_ret
            exact ⟨rfl, (unhide HB9).trans (hbq.mono (unhide HB9).size)⟩

set_option maxRecDepth 100000 in
theorem lifted (os : Os) (started : os.Started) (H : Type) (enc : TypeId × Value → H) :
    ReturnsInHanded {} Try.checked os 8 .any (Rows.builtRowsSpec.pre6 enc Try.prog Try.f8 Rows.builtRowsRow.domain false) (Rows.builtRowsSpec.post enc Try.prog Try.f8 false true false false) := by
  refine returnsInHanded_of_change (C := Try.checked) own started (by kernel_rfl) Try.func8
    (ChangeSpec.witness6 (enc := enc) (C := Try.checked) false ⟨#[], #[.slice none 0 0], []⟩ 8 (by kernel_rfl) (by kernel_rfl) (by kernel_rfl) (by kernel_rfl)) ?_
  intro W base args ds gs before hval0 hW hcnd _
  have hval : ∀ (j : Nat) t v, Try.f8.params[j]? = some t → args[j]? = some v → Value.okWide Try.prog W .any base t v := hval0
  have hW' := hW
  obtain ⟨p, q, hA0, hV, rfl, hfz, hnd⟩ := hW
  have hA : DataW.TrodAll enc Try.prog W 0 (fun _ => true) true Try.f8.params.toList args.toList ds p := hA0
  rw [Try.params8] at hA hval
  obtain ⟨v0, vs0, d0, ds0, p0, q0, hargs, rfl, rfl, h0, r0⟩ := trodAll_cons hA
  obtain ⟨rfl, rfl, rfl⟩ := trodAll_nil r0
  obtain rfl : args = #[v0] := by cases args; simp_all
  obtain ⟨rfl, rfl⟩ := trodVars_none hV
  obtain ⟨l0, i0, m0⟩ := read_tups h0 (okWide_slice Try.underlying22 (hval 0 22 v0 rfl rfl))
  have lt0 : ∀ x ∈ p0, x.block < W.heap.size := by obtain ⟨m, hm⟩ := h0; exact DataW.trod_lt m _ _ _ hm
  clear hA0 hval0
  refine (walk i0 m0).mono fun e W' ⟨he, bel⟩ => ?_
  subst he
  exact ⟨_, rfl, _, _, _, [], _, [], hW', trodAll_mk1 (shut_bool Try.underlying4 _), (trodAll_cons_mk (Below.trod laidOut (by kernel_rfl) (of_decide_eq_true (by kernel_rfl)) h0 bel lt0) trodAll_mk0), rfl, bel.frame _, fun h => by cases h⟩

theorem over : Rows.builtRowsRow.holds Try.pinned (OpenSpec.ofChange Rows.builtRowsSpec) :=
  OpenClaim.holds_of_wide 8 Try.f8 rfl rfl rfl rfl rfl rfl rfl ⟨rfl, rfl, rfl, rfl, rfl⟩ rfl rfl rfl rfl rfl (by kernel_rfl) Try.func8 (by kernel_rfl)
    (of_decide_eq_true (by kernel_rfl)) (by unfold Func.isWrapper; first | (rw [if_pos (by decide +kernel)]; kernel_rfl) | (rw [if_neg (by decide +kernel)]; exact ⟨rfl, rfl⟩))
    (fun os started H enc _ => lifted os started H enc)

/-- The statement. -/
theorem proved : Rows.BuiltRowsSaid := over
#print axioms proved
end Go.Proofs.Ytlbiebnihoekkaa.builtRows
