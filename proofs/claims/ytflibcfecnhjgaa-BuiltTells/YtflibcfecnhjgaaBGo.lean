/-
  The contract of goThrough: each row of values is handed to take, the less ones first, till it says no.
-/
import Derived.Test.YtflibcfecnhjgaaBuiltMath
import Derived.Test.YtflibcfecnhjgaaJumps
import Derived.Test.YtflibcfecnhjgaaApp3
import Derived.Test.YtflibcfecnhjgaaOffs
import Derived.Deep.RegionHeld3
import Derived.Deep.CutRange
namespace Go.Proofs.Ytflibcfecnhjgaa
open Go.RowKit
set_option linter.unusedVariables false
set_option linter.unusedSimpArgs false
set_option maxRecDepth 20000

/-- What taking makes of rows that come one behind the other, till it says no. -/
def goF {σ : Type} (step : σ → List Int → σ) (cont : σ → List Int → Bool) : List (List Int) → σ → σ
  | [], s => s
  | t :: r, s => if cont s t = true then goF step cont r (step s t) else step s t

theorem goF_more {σ : Type} {step : σ → List Int → σ} {cont : σ → List Int → Bool} {t : List Int} {r : List (List Int)} {s : σ} (h : cont s t = true) : goF step cont (t :: r) s = goF step cont r (step s t) := by rw [goF, if_pos h]
theorem goF_stop {σ : Type} {step : σ → List Int → σ} {cont : σ → List Int → Bool} {t : List Int} {r : List (List Int)} {s : σ} (h : cont s t = false) : goF step cont (t :: r) s = step s t := by rw [goF, if_neg (by simp [h])]

theorem grown_set (w : World) (g i : Nat) (z : Value) : w.grownBy (w.setCell ⟨g, i, none⟩ z) (some g) := by
  refine ⟨rfl, rfl, rfl, Nat.le_of_eq (by simp), fun k hk hne => by rw [heap_setCell_other w ⟨g, i, none⟩ k z (fun e => hne (by rw [e]))]⟩

abbrev natV (l : List Nat) : List Int := l.map fun (n : Nat) => (n : Int)

/-- The run's own slots. -/
def GoT (vl tk vr vn vi : Value) (a : Act) : Prop := ∃ (u2 u3 u7 u8 u9 u10 u11 u12 u13 u14 u15 u16 u17 u18 u19 u20 u21 u22 u23 u24 u25 u26 u27 u28 u29 u30 u31 u32 u33 u34 u35 u36 u37 u38 u39 u40 u41 u42 u43 u44 u45 u46 u47 u48 u49 u50 u51 u52 u53 u54 u55 u56 u57 u58 : Value), a = { tmps := #[vl, tk, u2, u3, vr, vn, vi, u7, u8, u9, u10, u11, u12, u13, u14, u15, u16, u17, u18, u19, u20, u21, u22, u23, u24, u25, u26, u27, u28, u29, u30, u31, u32, u33, u34, u35, u36, u37, u38, u39, u40, u41, u42, u43, u44, u45, u46, u47, u48, u49, u50, u51, u52, u53, u54, u55, u56, u57, u58], defers := [] }

/-- What is in memory: the row p, the places nx that come next, the rest as I has it. -/
structure GoM {σ : Type} (lists : List (List Int)) (B N g1 g2 : Nat) (I : Nat → World → σ → Prop) (p : List Int) (nx : List Nat) (s : σ) (w : World) : Prop where
  lp : p.length = lists.length
  ln : nx.length = lists.length
  nxt : ∀ k, nx.getD k 0 ≤ (lists.getD k []).length
  row : OwnI B w (.slice (some ⟨g1, 0, none⟩) lists.length lists.length) p
  next : OwnI B w (.slice (some ⟨g2, 0, none⟩) lists.length lists.length) (natV nx)
  inv : I N w s
  size : N ≤ w.heap.size

/-- What is left to hand out, and how many were handed out. -/
def Rem {σ : Type} (step : σ → List Int → σ) (cont : σ → List Int → Bool) (Res : σ) (cnt : σ → Nat) (T : Nat) (F0 : List (List Int)) (R : List (List Int)) (s : σ) : Prop := Res = goF step cont R s ∧ cnt s + R.length = T ∧ ∀ x ∈ R, x ∈ F0

def GoJ {σ : Type} (step : σ → List Int → σ) (cont : σ → List Int → Bool) (lists : List (List Int)) (B N g1 g2 : Nat) (I : Nat → World → σ → Prop) (vl tk : Value) (Res : σ) (cnt : σ → Nat) (T : Nat) (F0 : List (List Int)) (l n : Nat) (a : Act) (w : World) : Prop :=
  ∃ (i : Nat) (vi : Value) (p : List Int) (nx : List Nat) (s : σ), GoT vl tk (.slice (some ⟨g1, 0, none⟩) lists.length lists.length) (.slice (some ⟨g2, 0, none⟩) lists.length lists.length) vi a ∧ vi = .int .i64 (i : Int) ∧ GoM lists B N g1 g2 I p nx s w ∧
    ((l = 0 ∧ i ≤ lists.length ∧ Rem step cont Res cnt T F0 (upR lists p nx i) s ∧ upT lists nx i + 1 ≤ n) ∨
     (l = 1 ∧ i ≤ lists.length ∧ Rem step cont Res cnt T F0 (downR lists p nx i) s ∧ tDown lists nx i ≤ n) ∨
     (l = 2 ∧ i < lists.length ∧ Rem step cont Res cnt T F0 (upR lists p nx (i + 1)) s ∧ upT lists nx (i + 1) ≤ n))

theorem set_getD_le {ls : List (List Int)} {nx : List Nat} (h : ∀ k, nx.getD k 0 ≤ (ls.getD k []).length) {i v : Nat} (hv : v ≤ (ls.getD i []).length) : ∀ k, (nx.set i v).getD k 0 ≤ (ls.getD k []).length := by
  intro k
  have := h k
  simp only [List.getD_eq_getElem?_getD, List.getElem?_set] at this hv ⊢
  by_cases e : i = k
  · subst e
    by_cases hl : i < nx.length
    · simpa [hl] using hv
    · simp [hl]
  · simpa [e] using this

set_option maxHeartbeats 8000000 in
theorem goThrough_any {σ : Type} {lists : List (List Int)} {vl : Value} {w0 : World} {G : FuncId} {c1 c2 c3 : Value} (X : Nat → Prop) (hX : ∀ g, w0.heap.size ≤ g → X g) (hl : TupsX X w0 vl lists)
    (hlen : lists.length < 100000) (hlens : ∀ l ∈ lists, l.length < 1000000000)
    (I : Nat → World → σ → Prop) (step : σ → List Int → σ) (cont : σ → List Int → Bool) (s0 : σ) (cnt : σ → Nat) (hcnt : ∀ s t, cnt (step s t) = cnt s + 1)
    (h0 : ∀ w, Below w0.heap.size w0 w → I w.heap.size w s0) (hK : ∀ N w s, I N w s → Keeps X w0 w)
    (hS : ∀ N w w' s g, I N w s → w.grownBy w' (some g) → w0.heap.size ≤ g → g < N → I N w' s)
    (hEN : ∀ args w, (callFunc G args).run Try.prog w = .ok (.enter G args) w)
    (hT : ∀ N w s t vt, I N w s → cnt s < cnt s0 + (fullL lists).length → t ∈ fullL lists → N ≤ w.heap.size → Ints w vt t → t.length = lists.length → (∀ g, vt.ownBlock = some g → w0.heap.size ≤ g ∧ g < N) →
      Calls Try.prog G #[vt, c1, c2, c3] w fun e w' => e = .returned (.bool (cont s t)) ∧ I N w' (step s t) ∧ w.heap.size ≤ w'.heap.size ∧ ∀ g, w0.heap.size ≤ g → g < N → w'.heap[g]? = w.heap[g]?) :
    Calls Try.prog 36 #[vl, .func (.func G) #[] #[c1, c2, c3]] w0 fun e w' => e = .returned (.tuple #[]) ∧ ∃ N, I N w' (goF step cont (fullL lists) s0) := by
  obtain ⟨a, ca, rfl, hla, hca⟩ := hl.tups.form
  unfold maxLen at hca
  obtain ⟨Res, hRes⟩ : ∃ r, r = goF step cont (fullL lists) s0 := ⟨_, rfl⟩
  rw [← hRes]
  have HRES := hide hRes
  obtain ⟨T, hTT⟩ : ∃ T, T = cnt s0 + (fullL lists).length := ⟨_, rfl⟩
  rw [← hTT] at hT
  obtain ⟨F0, hF0⟩ : ∃ F, F = fullL lists := ⟨_, rfl⟩
  simp only [← hF0] at hT
  have HF0 := hide hF0
  clear hF0
  have HTT := hide hTT
  have HCN := hide hcnt
  clear hTT hcnt
  have HL := hide hl
  have H0 := hide h0
  have HK := hide hK
  have HS := hide hS
  have HT := hide hT
  have HLS := hide hlens
  have HX := hide hX
  clear hRes hl h0 hK hS hT hlens hX
  go_enter Try.func36, Try.ntmps36
  refine wp_scope_labels3 (fun l n a' w' => ∃ N g1 g2, w0.heap.size ≤ g1 ∧ g1 < N ∧ w0.heap.size ≤ g2 ∧ g2 < N ∧ g1 ≠ g2 ∧ GoJ step cont lists w0.heap.size N g1 g2 I (.slice a lists.length ca) (.func (.func G) #[] #[c1, c2, c3]) Res cnt T F0 l n a' w') rfl rfl rfl ?_ ?_ ?_ ?_ ?_
  · rintro l n a' w' ⟨N, g1, g2, _, _, _, _, _, i, vi, p, nx, s, _, _, _, h⟩
    rcases h with h | h | h <;> simp [h.1]
  · -- up
    rintro n a' w' ⟨N, g1, g2, b1, b2, b3, b4, b5, i, vi, p, nx, s, ⟨u2, u3, u7, u8, u9, u10, u11, u12, u13, u14, u15, u16, u17, u18, u19, u20, u21, u22, u23, u24, u25, u26, u27, u28, u29, u30, u31, u32, u33, u34, u35, u36, u37, u38, u39, u40, u41, u42, u43, u44, u45, u46, u47, u48, u49, u50, u51, u52, u53, u54, u55, u56, u57, u58, rfl⟩, rfl, hM, h⟩
    rcases h with ⟨_, hi, hR, hn⟩ | ⟨h, _⟩ | ⟨h, _⟩
    rotate_left
    · cases h
    · cases h
    have HM := hide hM
    cases i with
    | zero =>
      have hres : Hid (Res = s) := hide (by rw [hR.1]; rfl)
      clear hM hR hn
      go_wp2
      simp only [jumps]
      refine bodyPost_ret (v := .tuple #[]) (by simp [results, Try.results36, go_sem]) rfl ⟨rfl, N, ?_⟩
      rw [hres.out]; exact (unhide HM).inv
    | succ i =>
      have HR := hide hR
      have HN := hide hn
      have hi1 : i < lists.length := hi
      clear hM hR hn
      go_wp2
      go_step3
      refine ⟨upT lists nx (i + 1), unhide HN, N, g1, g2, b1, b2, b3, b4, b5, i, _, p, nx, s, ⟨_, _, _, _, _, _, _, _, _, _, _, _, _, _, _, _, _, _, _, _, _, _, _, _, _, _, _, _, _, _, _, _, _, _, _, _, _, _, _, _, _, _, _, _, _, _, _, _, _, _, _, _, _, _, rfl⟩, by go_num, unhide HM, .inr (.inr ⟨rfl, hi1, unhide HR, Nat.le_refl _⟩)⟩
  · -- along
    rintro n a' w' ⟨N, g1, g2, b1, b2, b3, b4, b5, i, vi, p, nx, s, ⟨u2, u3, u7, u8, u9, u10, u11, u12, u13, u14, u15, u16, u17, u18, u19, u20, u21, u22, u23, u24, u25, u26, u27, u28, u29, u30, u31, u32, u33, u34, u35, u36, u37, u38, u39, u40, u41, u42, u43, u44, u45, u46, u47, u48, u49, u50, u51, u52, u53, u54, u55, u56, u57, u58, rfl⟩, rfl, hM, h⟩
    rcases h with ⟨h, _⟩ | ⟨h, _⟩ | ⟨_, hi, hR, hn⟩
    · cases h
    · cases h
    have hseqn := Seq.of_own hM.next
    have hin : i < (natV nx).length := by simp [hM.ln]; exact hi
    obtain ⟨bn, on, en, hcn⟩ := hseqn.at hin
    cases en
    rw [Nat.zero_add] at hcn
    have hin' : i < nx.length := by simpa using hin
    have hip : i < p.length := by rw [hM.lp]; exact hi
    obtain ⟨k, hk⟩ : ∃ k, k = nx.getD i 0 := ⟨_, rfl⟩
    have hkv : (natV nx)[i] = (k : Int) := by rw [hk]; simp [List.getD_eq_getElem?_getD, hin']
    rw [hkv] at hcn
    have hle := hM.nxt i
    rw [← hk] at hle
    have hdi : lists.getD i [] = lists[i] := by simp [List.getD_eq_getElem?_getD, hi]
    rw [hdi] at hle
    have hlt := Keeps.tups (unhide HK _ _ _ hM.inv) (unhide HL)
    obtain ⟨bl, ol, vd, rfl, hcl, hvd, hxl, hxd⟩ := hlt.at hi
    obtain ⟨da, dc, rfl, hdl, hdc⟩ := hvd.form
    unfold maxLen at hdc
    have hdlen := unhide HLS _ (List.getElem_mem hi)
    have HM := hide hM
    have HR := hide hR
    have HN := hide hn
    have HKE := hide hk
    have HDI := hide hdi
    by_cases hkl : k < lists[i].length
    · obtain ⟨bd, od, rfl, hcd⟩ := hvd.at hkl
      have hne : ((k : Int) == (lists[i].length : Int)) = false := by rw [beq_eq_false_iff_ne]; omega
      obtain ⟨⟨old, hcr⟩, hfr, hset, _⟩ := own_setI hM.row hM.lp.symm hi (lists[i][k])
      have gr1 := grown_set w' g1 i (.int .i64 (lists[i][k]))
      have hnext2 := hM.next.kept gr1 (Or.inr (fun e => b5 (by injection e with e; exact e.symm)))
      have hI2 := unhide HS _ _ _ _ _ hM.inv gr1 b1 b2
      have hsz2 : (w'.setCell ⟨g1, i, none⟩ (.int .i64 (lists[i][k]))).heap.size = w'.heap.size := by simp
      have hx : Hid (GoM lists w0.heap.size N g1 g2 I (p.set i (lists[i][k])) nx s (w'.setCell ⟨g1, i, none⟩ (.int .i64 (lists[i][k])))) := hide ⟨by simp [hM.lp], hM.ln, hM.nxt, hset, hnext2, hI2, by rw [hsz2]; exact hM.size⟩
      have hg1i : w'.heap[g1]? = w'.heap[g1]? := rfl
      -- the next place is written
      have hni : i < lists.length := hi
      obtain ⟨⟨old2, hcn2⟩, hfr2, hset2, _⟩ := own_setI hnext2 (by simp [hM.ln]) (i := i) hni ((k : Int) + 1)
      have gr2 := grown_set (w'.setCell ⟨g1, i, none⟩ (.int .i64 (lists[i][k]))) g2 i (.int .i64 ((k : Int) + 1))
      have hrow3 := hset.kept gr2 (Or.inr (fun e => b5 (by injection e)))
      have hI3 := unhide HS _ _ _ _ _ hI2 gr2 b3 b4
      have hnat : (natV nx).set i ((k : Int) + 1) = natV (nx.set i (k + 1)) := by simp [natV, List.map_set]
      rw [hnat] at hset2
      have hx3 : Hid (∀ m, GoM lists w0.heap.size N g1 g2 I (p.set i (lists[i][k])) (nx.set i (k + 1)) s (((w'.drewN m).setCell ⟨g1, i, none⟩ (.int .i64 (lists[i][k]))).setCell ⟨g2, i, none⟩ (.int .i64 ((k : Int) + 1)))) := hide fun m =>
        ⟨by simp [hM.lp], by simp [hM.ln], set_getD_le hM.nxt (by rw [hdi]; omega), hrow3, hset2, unhide HS _ _ _ _ g2 hI2 ⟨gr2.os, gr2.tape, gr2.output, gr2.size, gr2.block⟩ b3 b4, by simp; exact hM.size⟩
      have HX3 := hx3
      have hcn3 : (w'.setCell ⟨g1, i, none⟩ (.int .i64 (lists[i][k]))).cell? ⟨g2, i, none⟩ = some (.int .i64 (k : Int)) := by
        rw [World.cell?_setCell_other _ _ _ _ (by intro e; injection e with e; exact b5 e)]; exact hcn
      have hkb : (k : Int) + 1 ≤ 1000000000 := by omega
      have hbl : bl ≠ g1 := fun e => hxl (e ▸ unhide HX g1 b1)
      have hbd : bd ≠ g1 := fun e => hxd (by intro h0; rw [h0] at hkl; simp at hkl) bd rfl (e ▸ unhide HX g1 b1)
      generalize hxv : lists[i][k] = x at *
      have HXX := hide (fun (W : World) (h : W.heap = w'.heap ∨ W.heap = (w'.setCell ⟨g1, i, none⟩ (.int .i64 x)).heap) => (show W.cell? ⟨g2, i, none⟩ = some (.int .i64 (k : Int)) ∧ W.cell? ⟨bl, ol + i, none⟩ = some (.slice (some ⟨bd, od, none⟩) lists[i].length dc) ∧ W.cell? ⟨bd, od + k, none⟩ = some (.int .i64 x) from by
        have hs : ∀ (W V : World) (q : Addr), W.heap = V.heap → W.cell? q = V.cell? q := fun W V q h => by unfold World.cell?; rw [h]
        rcases h with h | h
        · rw [hs _ _ _ h, hs _ _ _ h, hs _ _ _ h]; exact ⟨hcn, hcl, hcd⟩
        · rw [hs _ _ _ h, hs _ _ _ h, hs _ _ _ h]
          refine ⟨hcn3, ?_, ?_⟩
          · rw [World.cell?_setCell_other _ _ _ _ (by intro e; injection e with e; exact hbl e.symm)]; exact hcl
          · rw [World.cell?_setCell_other _ _ _ _ (by intro e; injection e with e; exact hbd e.symm)]; exact hcd))
      have HXV := hide hxv
      clear hM hR hn hk hdi hvd hlt hseqn hin hkv hset hnext2 hI2 hx hrow3 hset2 hI3 hx3 gr1 gr2 hxv hxl hxd hg1i hnat hcl hcn hcd
      obtain ⟨f1, f2, f3⟩ := unhide HXX w' (.inl rfl)
      have hbwh : (w'.setCell ⟨g1, i, none⟩ (.int .i64 x)).cell? ⟨g2, i, none⟩ = some (.int .i64 (k : Int)) := hcn3
      have HWW := hide (show True from trivial)
      go_wp2
      go_quiet (fail)
      go_wp2
      go_region_held3 (fun W => W.cell? ⟨g2, i, none⟩ = some (.int .i64 (k : Int)) ∧ W.cell? ⟨bl, ol + i, none⟩ = some (.slice (some ⟨bd, od, none⟩) lists[i].length dc) ∧ W.cell? ⟨bd, od + k, none⟩ = some (.int .i64 x))
        (exact unhide HXX _ (by first | exact .inl rfl | exact .inr rfl)) (fail)
      have y1 : ((w'.drewN (nq + 1)).setCell ⟨g1, i, none⟩ (.int .i64 x)).cell? ⟨g2, i, none⟩ = some (.int .i64 (k : Int)) := hcn3
      have y2 : ((w'.drewN (nq + 1)).setCell ⟨g1, i, none⟩ (.int .i64 x)).frozen? ⟨g2, i, none⟩ = false := hfr2
      have Y3 := hide (unhide HX3 (nq + 1))
      clear f1 f2 f3 HX3 HXX hcn3 hfr2 hcn2 hbwh hcr hfr hsz2
      generalize (w'.drewN (nq + 1)).setCell ⟨g1, i, none⟩ (.int .i64 x) = wz at *
      go_wp2
      go_step3
      refine ⟨tDown lists (nx.set i (k + 1)) (i + 1), ?_, N, g1, g2, b1, b2, b3, b4, b5, i + 1, _, p.set i x, nx.set i (k + 1), s, ⟨_, _, _, _, _, _, _, _, _, _, _, _, _, _, _, _, _, _, _, _, _, _, _, _, _, _, _, _, _, _, _, _, _, _, _, _, _, _, _, _, _, _, _, _, _, _, _, _, _, _, _, _, _, _, rfl⟩, by go_num, unhide Y3, .inr (.inl ⟨rfl, by omega, ?_, Nat.le_refl _⟩)⟩
      · have := along_next_t (ls := lists) hin' (unhide HKE).symm (by rw [unhide HDI]; exact hkl); have := unhide HN; omega
      · have hr := unhide HR; rw [along_next hip hin' (unhide HKE).symm (by rw [unhide HDI]; exact hkl)] at hr; simp only [unhide HDI, unhide HXV] at hr; exact hr
    · have hke : k = lists[i].length := by omega
      have hne : ((k : Int) == (lists[i].length : Int)) = true := by rw [beq_iff_eq]; omega
      clear hM hR hn hk hdi hvd hlt hseqn hin hkv
      go_wp2
      go_quiet (fail)
      go_wp2
      go_step3
      refine ⟨upT lists nx i + 1, ?_, N, g1, g2, b1, b2, b3, b4, b5, i, _, p, nx, s, ⟨_, _, _, _, _, _, _, _, _, _, _, _, _, _, _, _, _, _, _, _, _, _, _, _, _, _, _, _, _, _, _, _, _, _, _, _, _, _, _, _, _, _, _, _, _, _, _, _, _, _, _, _, _, _, rfl⟩, rfl, ?_, .inl ⟨rfl, Nat.le_of_lt hi, ?_, Nat.le_refl _⟩⟩
      · have := along_end_t lists nx i; have := unhide HN; omega
      · have h := unhide HM; exact ⟨h.lp, h.ln, h.nxt, h.row, h.next, unhide HS _ _ _ _ g1 h.inv ⟨rfl, rfl, rfl, Nat.le_refl _, fun _ _ _ => rfl⟩ b1 b2, h.size⟩
      · rw [← along_end (by rw [unhide HDI, ← unhide HKE]; omega)]; exact unhide HR
  · -- down
    intro HAL
    rintro n a' w' ⟨N, g1, g2, b1, b2, b3, b4, b5, i, vi, p, nx, s, ⟨u2, u3, u7, u8, u9, u10, u11, u12, u13, u14, u15, u16, u17, u18, u19, u20, u21, u22, u23, u24, u25, u26, u27, u28, u29, u30, u31, u32, u33, u34, u35, u36, u37, u38, u39, u40, u41, u42, u43, u44, u45, u46, u47, u48, u49, u50, u51, u52, u53, u54, u55, u56, u57, u58, rfl⟩, rfl, hM, h⟩
    rcases h with ⟨h, _⟩ | ⟨_, hi, hR, hn⟩ | ⟨h, _⟩
    · cases h
    rotate_left
    · cases h
    by_cases hil : i < lists.length
    · have hne : ((i : Int) == (lists.length : Int)) = false := by rw [beq_eq_false_iff_ne]; omega
      obtain ⟨⟨old2, hcn2⟩, hfr2, hset2, _⟩ := own_setI hM.next (by simp [hM.ln]) (i := i) hil 0
      have gr2 := grown_set w' g2 i (.int .i64 0)
      have hnat : (natV nx).set i 0 = natV (nx.set i 0) := by simp [natV, List.map_set]
      rw [hnat] at hset2
      have hin' : i < nx.length := by rw [hM.ln]; exact hil
      have hip : i < p.length := by rw [hM.lp]; exact hil
      have HX3 : Hid (GoM lists w0.heap.size N g1 g2 I p (nx.set i 0) s (w'.setCell ⟨g2, i, none⟩ (.int .i64 0))) := hide
        ⟨hM.lp, by simp [hM.ln], set_getD_le hM.nxt (Nat.zero_le _), hM.row.kept gr2 (Or.inr (fun e => b5 (by injection e))), hset2, unhide HS _ _ _ _ g2 hM.inv gr2 b3 b4, by simp; exact hM.size⟩
      have HR := hide hR
      have HN := hide hn
      have HA := hide HAL
      clear hM hR hn gr2 hnat hset2 HAL
      go_wp2
      go_step3
      rename_i hKK hTT
      refine hKK _ _ (unhide HA (upT lists (nx.set i 0) (i + 1)) n _ _ ?_ ⟨N, g1, g2, b1, b2, b3, b4, b5, i, _, p, nx.set i 0, s, ⟨_, _, _, _, _, _, _, _, _, _, _, _, _, _, _, _, _, _, _, _, _, _, _, _, _, _, _, _, _, _, _, _, _, _, _, _, _, _, _, _, _, _, _, _, _, _, _, _, _, _, _, _, _, _, rfl⟩, rfl, unhide HX3, .inr (.inr ⟨rfl, hil, ?_, Nat.le_refl _⟩)⟩)
      · have := down_next_t (ls := lists) (nx := nx) hil hin'; have := unhide HN; omega
      · rw [← down_next hil hin' hip]; exact unhide HR
    · have hie : i = lists.length := by omega
      subst hie
      have hne : ((lists.length : Int) == (lists.length : Int)) = true := by simp
      have hHT := unhide HT N w' s p (.slice (some ⟨g1, 0, none⟩) lists.length lists.length) hM.inv (by have h1 := hR.2.1; rw [down_end hM.lp] at h1; simp only [List.length_cons] at h1; omega) (hR.2.2 p (by rw [down_end hM.lp]; exact List.mem_cons_self)) hM.size (by have := Seq.of_own hM.row; rw [← hM.lp] at this ⊢; exact this) hM.lp (by intro g e; injection e with e; subst e; exact ⟨b1, b2⟩)
      rw [down_end hM.lp] at hR
      have hbl1 : ∀ w2 : World, (∀ g, w0.heap.size ≤ g → g < N → w2.heap[g]? = w'.heap[g]?) → w'.heap.size ≤ w2.heap.size → ∀ s2, I N w2 s2 → GoM lists w0.heap.size N g1 g2 I p nx s2 w2 := fun w2 hk hsz s2 hI => by
        have key : ∀ (g : Nat) (l : List Int) (v : Value), v = .slice (some ⟨g, 0, none⟩) lists.length lists.length → w0.heap.size ≤ g → g < N → OwnI w0.heap.size w' v l → OwnI w0.heap.size w2 v l := by
          rintro g l v rfl h1 h2 ⟨j1, j2⟩
          refine ⟨j1, ?_⟩
          rcases j2 with j2 | ⟨gg, cap, cur, e, j3, j4, j5⟩
          · exact .inl j2
          · have e' := e
            simp only [Value.slice.injEq, Option.some.injEq, Addr.mk.injEq] at e'
            obtain ⟨⟨e1, _⟩, _⟩ := e'
            exact .inr ⟨gg, cap, cur, e, j3, (hk gg (by omega) (by omega)).trans j4, j5⟩
        exact ⟨hM.lp, hM.ln, hM.nxt, key g1 _ _ rfl b1 b2 hM.row, key g2 _ _ rfl b3 b4 hM.next, hI, Nat.le_trans hM.size hsz⟩
      have HBL := hide hbl1
      have HC := hide hHT
      have HN := hide hn
      cases hcb : cont s p with
      | true =>
        replace hR : Rem step cont Res cnt T F0 (upR lists p nx lists.length) (step s p) := ⟨by rw [hR.1, goF_more hcb], by have h1 := hR.2.1; simp only [List.length_cons] at h1; have := unhide HCN s p; omega, fun x hx => hR.2.2 x (List.mem_cons_of_mem _ hx)⟩
        have HR := hide hR
        rw [hcb] at HC
        clear hM hR hn hbl1 hHT hcb
        go_wp2_with (refine (unhide HC).mono ?_; rintro e w2 ⟨rfl, hI2, hsz2, hk2⟩)
        go_step3
        refine ⟨upT lists nx lists.length + 1, ?_, N, g1, g2, b1, b2, b3, b4, b5, lists.length, _, p, nx, step s p, ⟨_, _, _, _, _, _, _, _, _, _, _, _, _, _, _, _, _, _, _, _, _, _, _, _, _, _, _, _, _, _, _, _, _, _, _, _, _, _, _, _, _, _, _, _, _, _, _, _, _, _, _, _, _, _, rfl⟩, rfl, unhide HBL _ hk2 hsz2 _ hI2, .inl ⟨rfl, Nat.le_refl _, unhide HR, Nat.le_refl _⟩⟩
        have := unhide HN
        unfold tDown at this
        simp [downT] at this
        omega
      | false =>
        replace hR : Res = step s p := by rw [hR.1, goF_stop hcb]
        have HR := hide hR
        rw [hcb] at HC
        clear hM hR hn hbl1 hHT hcb
        go_wp2_with (refine (unhide HC).mono ?_; rintro e w2 ⟨rfl, hI2, hsz2, hk2⟩)
        simp only [jumps]
        refine bodyPost_ret (v := .tuple #[]) (by simp [results, Try.results36, go_sem]) rfl ⟨rfl, N, ?_⟩
        rw [unhide HR]; exact hI2
  · intro HD
    have hz0 : lists.length < 100000000000 := by omega
    have HDD := hide HD
    clear HD
    go_wp2_with (at_make; first | (refine wp_make_ints (B := w0.heap.size) rfl _ _ rfl hb1.size rfl rfl hz0 ?_; intro w2 hown2 hb2) | (refine wp_make_ints (B := w0.heap.size) rfl _ _ rfl (Nat.le_refl _) rfl rfl hz0 ?_; intro w1 hown1 hb1))
    go_step3
    rename_i hKK
    have hbb := below_then hb1 hb2
    have l1 := hown1.lt _ rfl
    have l2 := hown2.lt _ rfl
    have hs1 := hb1.size
    have hs2 := hb2.size
    have hlt2 : w1.heap.size < w2.heap.size := l2.2
    have hlt1 : w0.heap.size < w1.heap.size := l1.2
    refine hKK _ _ (unhide HDD (tDown lists (List.replicate lists.length 0) 0) _ _ ⟨w2.heap.size, w0.heap.size, w1.heap.size, Nat.le_refl _, by omega, hs1, by omega, by omega, 0, _, List.replicate lists.length 0, List.replicate lists.length 0, s0, ⟨_, _, _, _, _, _, _, _, _, _, _, _, _, _, _, _, _, _, _, _, _, _, _, _, _, _, _, _, _, _, _, _, _, _, _, _, _, _, _, _, _, _, _, _, _, _, _, _, _, _, _, _, _, _, rfl⟩, rfl,
      ⟨by simp, by simp, fun k => ?_, own_below hown1 hb2, by simpa [natV] using hown2, unhide H0 _ hbb, Nat.le_refl _⟩, .inr (.inl ⟨rfl, Nat.zero_le _, ?_, Nat.le_refl _⟩)⟩)
    · have : (List.replicate lists.length 0).getD k 0 = 0 := by
        rw [List.getD_eq_getElem?_getD, List.getElem?_replicate]
        split <;> rfl
      rw [this]; exact Nat.zero_le _
    · refine ⟨?_, ?_, ?_⟩
      · rw [unhide HRES]; simp [downR, upR]
      · rw [unhide HTT]; simp [downR, upR]
      · rw [unhide HF0]; simp [downR, upR]

end Go.Proofs.Ytflibcfecnhjgaa
