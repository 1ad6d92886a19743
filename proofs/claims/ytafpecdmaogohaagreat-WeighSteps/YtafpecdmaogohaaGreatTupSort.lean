/-
  The contract of Sort, by the library's contract of slices.SortFunc.
-/
import Derived.Test.YtafpecdmaogohaaGreatRefSort
import Derived.Test.YtafpecdmaogohaaGreatShelf
namespace Go.Proofs.YtafpecdmaogohaaGreat
open Go.RowKit
set_option linter.unusedVariables false
set_option linter.unusedSimpArgs false
set_option maxRecDepth 20000

theorem cmpL_pos {a b : List Int} (h : 0 ≤ cmpL a b) : cmpL b a ≤ 0 := by have := cmpL_swap a b; omega
theorem cmpL_le_trans {a b c : List Int} (h1 : 0 ≤ cmpL a b) (h2 : 0 ≤ cmpL b c) : 0 ≤ cmpL a c := by
  have e1 := cmpL_swap a b
  have e2 := cmpL_swap b c
  have e3 := cmpL_swap a c
  rcases Int.lt_or_le (cmpL b a) 0 with h | h
  · rcases Int.lt_or_le (cmpL c b) 0 with k | k
    · have := cmpL_trans k h; omega
    · have : b = c := cmpL_eq (by omega)
      subst this; omega
  · have : a = b := cmpL_eq (by omega)
    subst this; exact h2

/-- A row that can be read in w, and lies in another block than g. -/
def RowIn (w : World) (g : Nat) : Type := { p : Value × List Int // Ints w p.1 p.2 ∧ (p.2 ≠ [] → p.1.ownBlock ≠ some g) }

def RowIn.nil (w : World) (g : Nat) : RowIn w g := ⟨(.slice none 0 0, []), Seq.nil _ _, fun h => absurd rfl h⟩

/-- No later one is less than an earlier one. -/
abbrev UpL (ll : List (List Int)) : Prop := ll.Pairwise fun x y => 0 ≤ cmpL y x

theorem row_sortWorld {α : Type} [Inhabited α] {enc : α → Value} {w : World} {blk : Nat} {v : Value} {l : List Int} (h : Ints w v l) (hne : l ≠ [] → v.ownBlock ≠ some blk) (m : Nat) (d : Array α) (os : Array Obj) (off : Nat) :
    Ints (sortWorld enc w blk off m d os) v l := by
  obtain ⟨a, cap, rfl, h2, h3, h4, h5, h6⟩ := h
  refine ⟨a, cap, rfl, h2, h3, h4, h5, fun i y hi => ?_⟩
  obtain ⟨x, rfl, hc⟩ := h6 i y hi
  refine ⟨x, rfl, ?_⟩
  have hb : x.block ≠ blk := fun e => hne (by rintro rfl; simp at hi) (by rw [e.symm]; rfl)
  have hlt := cell_lt hc
  unfold sortWorld
  rw [Go.Sort.cell?_grow _ _ _ (by simpa [Go.Sort.putRow, Go.Sort.mapBlock, Go.Sort.ahead] using hlt)]
  exact (Go.Sort.cell?_putRow_other enc (Go.Sort.ahead w m) blk off d ⟨x.block, x.off + i, none⟩ (.inl hb)).trans hc

theorem below_sortWorld {α : Type} [Inhabited α] {enc : α → Value} {w : World} {B blk off m : Nat} {d : Array α} {os : Array Obj} (h : B ≤ blk) (hB : B ≤ w.heap.size) : Below B w (sortWorld enc w blk off m d os) := by
  have hz : (Go.Sort.putRow enc (Go.Sort.ahead w m) blk off d).heap.size = w.heap.size := by simp [Go.Sort.putRow, Go.Sort.mapBlock, Go.Sort.ahead]
  refine ⟨rfl, rfl, rfl, ?_, fun k hk => ?_⟩
  · unfold sortWorld Go.Sort.grow
    simp only [Array.size_append, hz]; omega
  · unfold sortWorld
    rw [Go.Sort.heap_grow_old _ _ (by omega)]
    simp only [Go.Sort.putRow, Go.Sort.mapBlock, Go.Sort.ahead, Array.getElem?_modify]
    rw [if_neg (by omega)]

theorem rows_mk {w : World} {g : Nat} : ∀ (vs : List Value) (ll : List (List Int)), vs.length = ll.length → (∀ i (h : i < vs.length) (h' : i < ll.length), Ints w vs[i] ll[i] ∧ (ll[i] ≠ [] → vs[i].ownBlock ≠ some g)) →
    ∃ d : List (RowIn w g), d.map (·.1.1) = vs ∧ d.map (·.1.2) = ll
  | [], [], _, _ => ⟨[], rfl, rfl⟩
  | [], _ :: _, h, _ => by simp at h
  | _ :: _, [], h, _ => by simp at h
  | v :: vs, l :: ll, h, hr => by
    obtain ⟨d, h1, h2⟩ := rows_mk vs ll (by simpa using h) (fun i hi hi' => by have := hr (i + 1) (by simp; omega) (by simp; omega); simpa using this)
    have h0 := hr 0 (by simp) (by simp)
    exact ⟨⟨(v, l), h0⟩ :: d, by show v :: d.map (fun x => x.1.1) = v :: vs; rw [h1], by show l :: d.map (fun x => x.1.2) = l :: ll; rw [h2]⟩

set_option maxHeartbeats 1000000 in
theorem sortFunc_any {B : Nat} {ll : List (List Int)} {v : Value} {w : World} (h : OwnT B w v ll) (hB : B ≤ w.heap.size) (hlen : ll.length < 100000000) :
    Calls Tryz.prog 90 #[v, .func (.func 50) #[] #[]] w fun e w' => e = .returned (.tuple #[]) ∧ ∃ ll', ll'.Perm ll ∧ UpL ll' ∧ Tups w' v ll' ∧ Below B w w' := by
  obtain ⟨vs, hown, hvl, hrd⟩ := h
  obtain ⟨o1, o2⟩ := hown
  by_cases hnil : ll = []
  · subst hnil
    have hv0 : vs.length = 0 := hvl
    have : ∃ p c, v = .slice p 0 c := by
      rcases o2 with ⟨rfl, _⟩ | ⟨g, cap, cur, rfl, _⟩
      · exact ⟨none, 0, rfl⟩
      · rw [hv0]; exact ⟨_, _, rfl⟩
    obtain ⟨p, c, rfl⟩ := this
    refine (shelf_sort_none (α := Unit) p c _ w).mono ?_
    rintro e w' ⟨rfl, rfl⟩
    refine ⟨rfl, [], List.Perm.refl _, List.Pairwise.nil, ⟨vs, ?_, hvl, fun i hi hi' => (hrd i hi hi').1⟩, Below.refl _ _⟩
    exact Seq.of_own (enc := id) (B := B) (e := 22) (by rw [List.map_id]; exact ⟨o1, o2⟩)
  · have hpos : 0 < ll.length := List.length_pos_iff.2 hnil
    rcases o2 with ⟨_, h0⟩ | ⟨g, cap, cur, rfl, hg, hh, hnc, hcm, hcs, htake⟩
    · omega
    have hglt : g < w.heap.size := by
      rcases Nat.lt_or_ge g w.heap.size with h | h
      · exact h
      · rw [Array.getElem?_eq_none h] at hh; cases hh
    -- the rows, each with what it reads as
    have hok : ∀ i (h : i < vs.length) (h' : i < ll.length), Ints w vs[i] ll[i] ∧ (ll[i] ≠ [] → vs[i].ownBlock ≠ some g) := fun i hi hi' => ⟨(hrd i hi hi').1, fun hne e => (hrd i hi hi').2 hne g e rfl⟩
    have inh : Inhabited (RowIn w g) := ⟨RowIn.nil w g⟩
    obtain ⟨d, hd1, hd2⟩ : ∃ d : List (RowIn w g), d.map (·.1.1) = vs ∧ d.map (·.1.2) = ll := rows_mk vs ll hvl hok
    have hdl : d.length = vs.length := by rw [← hd1]; simp
    have hcell : ∀ j (hj : j < vs.length), w.cell? ⟨g, j, none⟩ = some vs[j] ∧ w.frozen? ⟨g, j, none⟩ = false := by
      intro j hj
      have e1 : (cur.toList.take (vs.length * 1))[j]? = vs[j]? := by rw [htake]
      rw [List.getElem?_take, if_pos (by omega)] at e1
      constructor
      · simp only [World.cell?, hh]
        simpa [hj] using e1
      · simp [World.frozen?, hh]
    have hH : Go.Sort.Holds (fun x : RowIn w g => x.1.1) w g 0 d.toArray := by
      intro j hj
      have hj' : j < d.length := by simpa using hj
      have := hcell j (by omega)
      have e : vs[j]'(by omega) = d[j].1.1 := by simp only [← hd1, List.getElem_map]
      rw [e] at this
      simpa [hj'] using this
    have hcmp : CmpReads Tryz.prog 50 #[] (fun x : RowIn w g => x.1.1) (fun x y => cmpL x.1.2 y.1.2) g 0 d.toArray.size w := by
      intro m os dk hs x y
      exact compare_any (row_sortWorld x.2.1 x.2.2 m dk os 0) (row_sortWorld y.2.1 y.2.2 m dk os 0)
    have hO : Go.Sort.SWO (ltOf fun x y : RowIn w g => cmpL x.1.2 y.1.2) := by
      refine ⟨fun x => ?_, fun x y z h1 h2 => ?_, fun x y z h1 h2 => ?_⟩
      · simp [ltOf, cmpL_refl]
      · simp only [ltOf, decide_eq_true_eq] at *; exact cmpL_trans h1 h2
      · simp only [ltOf, decide_eq_false_iff_not, Int.not_lt] at *; exact cmpL_le_trans h1 h2
    have hsz : d.toArray.size = vs.length := by simpa using hdl
    have hcon := shelf_sort (fun x : RowIn w g => x.1.1) (fun x => x.2.1.one) (fun x y => cmpL x.1.2 y.1.2) hO 50 #[] g 0 cap d.toArray w
      (fun args w => enters Tryz.func50 (by kernel_rfl) rfl args w) hcmp.lays hH hglt (by omega)
    rw [hsz] at hcon
    refine hcon.mono ?_
    rintro e w' ⟨rfl, d', n, os, hp, hs, rfl⟩
    obtain ⟨hp1, hp2, hp3⟩ := hp
    have hd's : d'.size = vs.length := by rw [hp1, hsz]
    have hperm : d'.toList.Perm d := by
      have e1 : (d'.extract 0 vs.length).toList = d'.toList := by rw [← hd's]; simp
      have e2 : (d.toArray.extract 0 vs.length).toList = d := by rw [← hsz]; simp
      rw [e1, e2] at hp3; exact hp3
    have hH' := holds_sortWorld (fun x : RowIn w g => x.1.1) w g 0 n d.toArray d' os hglt hH (by rw [hp1])
    refine ⟨rfl, d'.toList.map (·.1.2), ?_, ?_, ⟨d'.toList.map (·.1.1), ?_, by simp, ?_⟩, ?_⟩
    · rw [← hd2]; exact hperm.map _
    · refine List.pairwise_iff_getElem.2 fun i j hi hj hij => ?_
      have hj' : j < d'.size := by simpa using hj
      have := hs i j (Nat.zero_le _) hij (by omega)
      rw [getElem!_pos d' j hj', getElem!_pos d' i (by omega)] at this
      simp only [ltOf, decide_eq_false_iff_not, Int.not_lt] at this
      simpa using this
    · refine ⟨some ⟨g, 0, none⟩, cap, by simp [hd's], by simp [hd's]; omega, hcm, by simp, by rintro x h _; cases h; rfl, fun i y hi => ⟨_, rfl, ?_⟩⟩
      have hil : i < d'.size := by
        rcases Nat.lt_or_ge i d'.size with h | h
        · exact h
        · rw [List.getElem?_eq_none (by simpa using h)] at hi; cases hi
      have := (hH' i hil).1
      rw [getElem!_pos d' i hil] at this
      simp at hi
      obtain ⟨q, hq, rfl⟩ := hi
      rw [Array.getElem?_eq_getElem hil] at hq
      cases hq
      simpa using this
    · intro i hi hi'
      have hil : i < d'.size := by simpa using hi
      have := (d'[i]).2
      simpa using row_sortWorld this.1 this.2 n d' os 0
    · exact below_sortWorld hg hB

set_option maxHeartbeats 1000000 in
theorem clone_any {ll : List (List Int)} {v : Value} {w : World} (h : Tups w v ll) (hlen : ll.length < 100000000) :
    Calls Tryz.prog 89 #[v] w fun e w' => ∃ v', e = .returned v' ∧ OwnT w.heap.size w' v' ll ∧ Below w.heap.size w w' := by
  obtain ⟨vs, hsq, hvl, hrd⟩ := h
  obtain ⟨a, cap, rfl, hla, hca⟩ := hsq.form
  cases a with
  | none =>
    have hn : vs = [] := by
      obtain ⟨a', c', e, h2, h3, h4, h5, h6⟩ := hsq
      cases e
      have := h4 rfl
      exact List.length_eq_zero_iff.1 (by omega)
    subst hn
    have hl : ll = [] := List.length_eq_zero_iff.1 hvl.symm
    subst hl
    have hnil := Lib.run_eql_slice_nil (P := Tryz.prog)
    have q22 : ∀ (w : World) (n c n' c' : Nat), (binOp .eql 23 (.slice none n c) (.slice none n' c')).run Tryz.prog w = .ok (.bool true) w := fun w n c n' c' => Lib.run_eql_slice_nil w _ _ none n c n' c' Tryz.underlying23
    clear hnil hrd
    go_enter Tryz.func89, Tryz.ntmps89
    go_wp2
    go_ret
    exact ⟨_, rfl, OwnT.nil _ _, Below.refl _ _⟩
  | some x =>
    have q22 : ∀ (w : World) (n c n' c' : Nat), (binOp .eql 23 (.slice (some x) n c) (.slice none n' c')).run Tryz.prog w = .ok (.bool false) w := fun w n c n' c' => Lib.run_eql_slice_nil w _ _ (some x) n c n' c' Tryz.underlying23
    have hb0 := (Below.refl w.heap.size w).alloc (Nat.le_refl _) (.cells #[] 22)
    have HS := hide (hsq.below hb0)
    have HO := hide (show ∀ y, y ∈ vs → y.oneCell' = true from fun y hy => by obtain ⟨i, hi, rfl⟩ := List.getElem_of_mem hy; exact (hrd i hi (by omega)).one)
    have HR := hide hrd
    have hvl' : vs.length < 100000000 := by omega
    have HVL := hide hvl
    clear hsq hrd hvl
    go_enter Tryz.func89, Tryz.ntmps89
    go_wp2_with (at_builtin; refine wp_app_rows rfl (.tmp 5) (.tmp 6) rfl (B := w.heap.size) (l := []) (own_litV (Nat.le_refl _)) rfl (by simp) (unhide HS) rfl (unhide HO) (by simp; omega) ?_; intro v' w' hown hgrew)
    go_ret
    have hbel := hb0.trans hgrew.below
    refine ⟨_, rfl, ⟨vs, by simpa [OwnV] using hown, unhide HVL, fun i hi hi' => ⟨(unhide HR i hi hi').below hbel, ?_⟩⟩, hbel⟩
    exact (unhide HR i hi hi').apart (New.of_own hown) (Nat.le_refl _)

/-- Of a list whose equals stand together each once. -/
def ddK (l : List (List Int)) (k : Nat) : List (List Int) := ((List.range k).filter fun i => decide (i = 0 ∨ l[i - 1]? ≠ l[i]?)).map fun i => l.getD i []

theorem ddK_hit {l : List (List Int)} {k : Nat} (hk : k < l.length) (h : k = 0 ∨ l[k - 1]? ≠ l[k]?) : ddK l (k + 1) = ddK l k ++ [l[k]] := by
  unfold ddK
  rw [List.range_succ, List.filter_append, List.map_append]
  have hd : decide (k = 0 ∨ l[k - 1]? ≠ l[k]?) = true := decide_eq_true h
  simp only [List.filter_cons, hd, if_true, List.filter_nil, List.map_cons, List.map_nil]
  simp [hk]

theorem ddK_miss {l : List (List Int)} {k : Nat} (hk : k < l.length) (h0 : k ≠ 0) (h : l[k - 1]? = l[k]?) : ddK l (k + 1) = ddK l k := by
  unfold ddK
  rw [List.range_succ, List.filter_append, List.map_append]
  simp [h, h0, List.filter_cons]

theorem ddK_le (l : List (List Int)) (k : Nat) : (ddK l k).length ≤ k := by
  unfold ddK
  rw [List.length_map]
  exact Nat.le_trans (List.length_filter_le _ _) (by simp)

/-- What holds of it, of a list in which no later one is less. -/
theorem ddK_spec {l : List (List Int)} (hs : UpL l) : ∀ k, k ≤ l.length → AscL (ddK l k) ∧ (∀ x, x ∈ ddK l k ↔ x ∈ l.take k)
  | 0, _ => by simp [ddK, AscL]
  | k + 1, hk => by
    have hkl : k < l.length := by omega
    obtain ⟨h1, h2⟩ := ddK_spec hs k (by omega)
    have hup : ∀ x ∈ l.take k, 0 ≤ cmpL l[k] x := by
      intro x hx
      obtain ⟨i, hi, rfl⟩ := List.getElem_of_mem hx
      simp at hi
      rw [List.getElem_take]
      exact (List.pairwise_iff_getElem.1 hs) i k (by omega) hkl (by omega)
    rw [List.take_succ_eq_append_getElem hkl]
    by_cases hc : k = 0 ∨ l[k - 1]? ≠ l[k]?
    · rw [ddK_hit hkl hc]
      constructor
      · refine List.pairwise_append.2 ⟨h1, by simp, fun x hx y hy => ?_⟩
        simp at hy
        subst hy
        have hx' := (h2 x).1 hx
        have hge := hup x hx'
        have hsw := cmpL_swap x l[k]
        rcases Int.lt_or_le (cmpL x l[k]) 0 with h | h
        · exact h
        · -- then x is the last one, and so is the one ahead of it
          have hxe : x = l[k] := cmpL_eq (by omega)
          subst hxe
          obtain ⟨i, hi, hie⟩ := List.getElem_of_mem hx'
          simp at hi
          rw [List.getElem_take] at hie
          have hk0 : k ≠ 0 := by omega
          have hk1 : k - 1 < l.length := by omega
          have hne : l[k - 1] ≠ l[k] := by
            rcases hc with hc | hc
            · omega
            · intro e; exact hc (by simp [hkl, hk1, e])
          have ha : 0 ≤ cmpL l[k] l[k - 1] := (List.pairwise_iff_getElem.1 hs) (k - 1) k hk1 hkl (by omega)
          have hb : 0 ≤ cmpL l[k - 1] l[k] := by
            rcases Nat.lt_or_ge i (k - 1) with hik | hik
            · have := (List.pairwise_iff_getElem.1 hs) i (k - 1) (by omega) hk1 hik
              rw [hie] at this; exact this
            · have : i = k - 1 := by omega
              subst this
              rw [hie]; rw [cmpL_refl]; exact Int.le_refl _
          have := cmpL_swap l[k] l[k - 1]
          exact absurd (cmpL_eq (a := l[k - 1]) (b := l[k]) (by omega)) hne
      · intro x; simp only [List.mem_append, List.mem_singleton, h2 x]
    · have hc0 : k ≠ 0 := fun e => hc (.inl e)
      have hce : l[k - 1]? = l[k]? := Decidable.byContradiction fun e => hc (.inr e)
      rw [ddK_miss hkl hc0 hce]
      refine ⟨h1, fun x => ?_⟩
      rw [h2 x, List.mem_append]
      have hk1 : k - 1 < l.length := by omega
      have hee : l[k - 1] = l[k] := by simpa [hkl, hk1] using hce
      constructor
      · exact .inl
      · rintro (h | h)
        · exact h
        · simp at h
          subst h
          rw [← hee]
          exact List.mem_iff_getElem.2 ⟨k - 1, by simp; omega, by simp⟩

theorem AscL.ext : ∀ {a b : List (List Int)}, AscL a → AscL b → (∀ x, x ∈ a ↔ x ∈ b) → a = b
  | [], [], _, _, _ => rfl
  | [], y :: b, _, _, h => by have := (h y).2 (by simp); simp at this
  | x :: a, [], _, _, h => by have := (h x).1 (by simp); simp at this
  | x :: a, y :: b, ha, hb, h => by
    rw [AscL, List.pairwise_cons] at ha hb
    have hxy : x = y := by
      have h1 := (h x).1 (by simp)
      have h2 := (h y).2 (by simp)
      rcases List.mem_cons.1 h1 with h1 | h1
      · exact h1
      · rcases List.mem_cons.1 h2 with h2 | h2
        · exact h2.symm
        · have k1 := ha.1 _ h2; have k2 := hb.1 _ h1; have := cmpL_swap x y; omega
    subst hxy
    have hab : a = b := by
      refine AscL.ext ha.2 hb.2 fun z => ⟨fun hz => ?_, fun hz => ?_⟩
      · have h1 := (h z).1 (by simp [hz])
        rcases List.mem_cons.1 h1 with h1 | h1
        · have := ha.1 _ hz; rw [h1, cmpL_refl] at this; omega
        · exact h1
      · have h1 := (h z).2 (by simp [hz])
        rcases List.mem_cons.1 h1 with h1 | h1
        · have := hb.1 _ hz; rw [h1, cmpL_refl] at this; omega
        · exact h1
    rw [hab]

theorem lowN_spec (ll : List (List Int)) (t : List Int) : (∀ i (h : i < ll.length), i < lowN ll t → cmpL ll[i] t < 0) ∧ (∀ (h : lowN ll t < ll.length), ¬ cmpL ll[lowN ll t] t < 0) := by
  induction ll with
  | nil => simp
  | cons x r ih =>
    by_cases hx : cmpL x t < 0
    · have e : lowN (x :: r) t = lowN r t + 1 := by simp [lowN, List.takeWhile, hx]
      constructor
      · intro i hi hl
        cases i with
        | zero => simpa using hx
        | succ i => simp only [List.getElem_cons_succ]; exact ih.1 i (by simp at hi; omega) (by omega)
      · intro h
        have := ih.2 (by simp at h; omega)
        simpa [e] using this
    · have hd : decide (cmpL x t < 0) = false := by simpa using hx
      have e : lowN (x :: r) t = 0 := by simp [lowN, List.takeWhile, hd]
      constructor
      · intro i hi hl; omega
      · intro h; simpa [e] using hx

theorem insL_spec {ll : List (List Int)} (hs : AscL ll) (t : List Int) : AscL (insL ll t) ∧ ∀ x, x ∈ insL ll t ↔ x ∈ ll ∨ x = t := by
  have hle := lowN_le ll t
  obtain ⟨hl1, hl2⟩ := lowN_spec ll t
  unfold insL
  generalize lowN ll t = k at *
  by_cases hat : isAt ll t k = true
  · rw [if_pos hat]
    refine ⟨hs, fun x => ⟨.inl, ?_⟩⟩
    rintro (h | h)
    · exact h
    · subst h
      unfold isAt at hat
      split at hat
      · rename_i hk
        have := cmpL_eq (of_decide_eq_true hat)
        rw [← this]; exact List.getElem_mem hk
      · cases hat
  · rw [if_neg hat]
    have hgt : ∀ i (h : i < ll.length), k ≤ i → cmpL t ll[i] < 0 := by
      intro i hi hki
      have hk : k < ll.length := by omega
      have hne : cmpL ll[k] t ≠ 0 := by
        intro e; apply hat; unfold isAt; rw [dif_pos hk]; simpa using e
      have h0 := hl2 hk
      have hsw := cmpL_swap ll[k] t
      have htk : cmpL t ll[k] < 0 := by omega
      rcases Nat.lt_or_ge k i with h | h
      · exact cmpL_trans htk (asc_at hs hk hi h)
      · have : k = i := by omega
        subst this; exact htk
    constructor
    · refine List.pairwise_append.2 ⟨List.pairwise_append.2 ⟨hs.sublist (List.take_sublist _ _), by simp, ?_⟩, hs.sublist (List.drop_sublist _ _), ?_⟩
      · intro x hx y hy
        simp at hy
        subst hy
        obtain ⟨i, hi, rfl⟩ := List.getElem_of_mem hx
        simp at hi
        rw [List.getElem_take]
        exact hl1 i (by omega) (by omega)
      · intro x hx y hy
        obtain ⟨j, hj, rfl⟩ := List.getElem_of_mem hy
        simp at hj
        rw [List.getElem_drop]
        rcases List.mem_append.1 hx with hx | hx
        · obtain ⟨i, hi, rfl⟩ := List.getElem_of_mem hx
          simp at hi
          rw [List.getElem_take]
          exact asc_at hs (by omega) (by omega) (by omega)
        · simp at hx
          subst hx
          exact hgt _ (by omega) (by omega)
    · intro x
      have := List.take_append_drop k ll
      have hm : x ∈ ll ↔ x ∈ ll.take k ∨ x ∈ ll.drop k := by rw [← List.mem_append, this]
      simp only [List.mem_append, List.mem_singleton, hm]
      constructor
      · rintro ((h | h) | h)
        · exact .inl (.inl h)
        · exact .inr h
        · exact .inl (.inr h)
      · rintro ((h | h) | h)
        · exact .inl (.inl h)
        · exact .inr h
        · exact .inl (.inr h)

theorem sortL_spec (ll : List (List Int)) : AscL (sortL ll) ∧ ∀ x, x ∈ sortL ll ↔ x ∈ ll := by
  unfold sortL
  have : ∀ (l acc : List (List Int)), AscL acc → AscL (l.foldl insL acc) ∧ ∀ x, x ∈ l.foldl insL acc ↔ x ∈ acc ∨ x ∈ l := by
    intro l
    induction l with
    | nil => exact fun acc h => ⟨h, by simp⟩
    | cons y r ih =>
      intro acc h
      obtain ⟨h1, h2⟩ := insL_spec h y
      obtain ⟨k1, k2⟩ := ih _ h1
      refine ⟨k1, fun x => ?_⟩
      rw [List.foldl_cons, k2, h2, List.mem_cons]
      constructor
      · rintro ((h | h) | h)
        · exact .inl h
        · exact .inr (.inl h)
        · exact .inr (.inr h)
      · rintro (h | h | h)
        · exact .inl (.inl h)
        · exact .inl (.inr h)
        · exact .inr h
  obtain ⟨h1, h2⟩ := this ll [] (by simp [AscL])
  exact ⟨h1, fun x => by rw [h2]; simp⟩

theorem dd_sort {l ll : List (List Int)} (hs : UpL l) (hp : l.Perm ll) : ddK l l.length = sortL ll := by
  obtain ⟨h1, h2⟩ := ddK_spec hs l.length (Nat.le_refl _)
  obtain ⟨k1, k2⟩ := sortL_spec ll
  refine AscL.ext h1 k1 fun x => ?_
  rw [h2, k2, List.take_length]
  exact hp.mem_iff

/-- Rows of numbers in new memory, the rows themselves too. -/
def TupsN (B : Nat) (w : World) (v : Value) (ll : List (List Int)) : Prop :=
  ∃ vs : List Value, Seq id w v vs ∧ vs.length = ll.length ∧ (∀ i (h : i < vs.length) (h' : i < ll.length), Ints w vs[i] ll[i] ∧ New B w vs[i]) ∧ New B w v

theorem TupsN.tups {B : Nat} {w : World} {v : Value} {ll : List (List Int)} (h : TupsN B w v ll) : Tups w v ll := by
  obtain ⟨vs, h1, h2, h3, h4⟩ := h
  exact ⟨vs, h1, h2, fun i hi hi' => (h3 i hi hi').1⟩
theorem TupsN.new {B : Nat} {w : World} {v : Value} {ll : List (List Int)} (h : TupsN B w v ll) : New B w v := by
  obtain ⟨vs, h1, h2, h3, h4⟩ := h
  exact h4
theorem TupsN.below {B : Nat} {w w' : World} {v : Value} {ll : List (List Int)} (h : TupsN B w v ll) (hb : Below w.heap.size w w') : TupsN B w' v ll := by
  obtain ⟨vs, h1, h2, h3, h4⟩ := h
  exact ⟨vs, h1.below hb, h2, fun i hi hi' => ⟨(h3 i hi hi').1.below hb, (h3 i hi hi').2.grow (Nat.le_refl _) hb.size⟩, h4.grow (Nat.le_refl _) hb.size⟩
/-- It stays while an older row of the call's own is appended to. -/
theorem TupsN.grew {B A : Nat} {w w' : World} {v u u' : Value} {ll : List (List Int)} (h : TupsN B w v ll) (g : Grew A w w' u u') (hu : ∀ k, u.ownBlock = some k → k < B) : Tups w' v ll := by
  obtain ⟨vs, h1, h2, h3, h4⟩ := h
  refine ⟨vs, h1.grew g (fun _ k e1 e2 => ?_), h2, fun i hi hi' => (h3 i hi hi').1.grew g (fun _ k e1 e2 => ?_)⟩
  · have := h4 k e1; have := hu k e2; omega
  · have := (h3 i hi hi').2 k e1; have := hu k e2; omega

/-- The call's own rows, all of them in new memory. -/
def OwnN (B : Nat) (w : World) (v : Value) (ll : List (List Int)) : Prop :=
  ∃ vs : List Value, OwnV B w v vs ∧ vs.length = ll.length ∧ ∀ i (h : i < vs.length) (h' : i < ll.length), (Ints w vs[i] ll[i] ∧ Apart vs[i] ll[i] v) ∧ New B w vs[i]

theorem OwnN.own {B : Nat} {w : World} {v : Value} {ll : List (List Int)} (h : OwnN B w v ll) : OwnT B w v ll := by
  obtain ⟨vs, h1, h2, h3⟩ := h
  exact ⟨vs, h1, h2, fun i hi hi' => (h3 i hi hi').1⟩
theorem OwnN.lit {B : Nat} {w : World} (hB : B ≤ w.heap.size) : OwnN B (w.alloc (.cells #[] 22)) (.slice (some ⟨w.heap.size, 0, none⟩) 0 0) [] := ⟨[], own_litV hB, rfl, fun i h => by simp at h⟩
theorem OwnN.below {B : Nat} {w w' : World} {v : Value} {ll : List (List Int)} (h : OwnN B w v ll) (hb : Below w.heap.size w w') : OwnN B w' v ll := by
  obtain ⟨vs, h1, h2, h3⟩ := h
  exact ⟨vs, own_below h1 hb, h2, fun i hi hi' => ⟨⟨(h3 i hi hi').1.1.below hb, (h3 i hi hi').1.2⟩, (h3 i hi hi').2.grow (Nat.le_refl _) hb.size⟩⟩
theorem OwnN.new {B : Nat} {w : World} {v : Value} {ll : List (List Int)} (h : OwnN B w v ll) : New B w v := h.own.new
theorem OwnN.tups {B A : Nat} {w : World} {v : Value} {ll : List (List Int)} (h : OwnN B w v ll) (hA : A ≤ B) : TupsN A w v ll := by
  obtain ⟨vs, h1, h2, h3⟩ := h
  exact ⟨vs, Seq.of_own (enc := id) (by simpa using h1), h2, fun i hi hi' => ⟨(h3 i hi hi').1.1, (h3 i hi hi').2.grow hA (Nat.le_refl _)⟩, (New.of_own h1).grow hA (Nat.le_refl _)⟩

theorem wp_app_tupN {w : World} {ops : Array Oper} {rest : List Oper} {o : Oper} {a : Act} {Q : Exit → Act → World → Prop} (hgd : o.guard = none) (s x : Operand)
    (ho : o.op = .call { callee := .builtin .append, args := #[s, x], argTypes := #[23, 23] }) {B : Nat} {v u : Value} {ll : List (List Int)} {l : List Int} (hown : OwnN B w v ll) (hu : Ints w u l) (ha : Apart u l v) (hn : New B w u) (hs : a.eval s = v) (hB : B ≤ w.heap.size)
    (hx : a.eval x = .slice (some ⟨w.heap.size, 0, none⟩) 1 1) (hlen : ll.length < 100000000000)
    (h : ∀ v' w', OwnN B w' v' (ll ++ [l]) → Grew B w w' v v' → wpList Tryz.prog ops Q rest (a.put o.dst v') w') :
    wpList Tryz.prog ops Q (o :: rest) a (w.alloc (.cells #[u] 22)) := by
  obtain ⟨vs, h1, h2, h3⟩ := hown
  refine wpList_plain hgd fun K hK => op_app_row s x ho h1 hs hB hx hu.one (by omega) fun v' w' k1 k2 => hK _ _ (h v' w' ?_ k2)
  obtain ⟨vs', q1, q2, q3⟩ := OwnT.snoc h2 (fun i hi hi' => (h3 i hi hi').1) hu ha k1 k2
  have e : vs' = vs ++ [u] := by
    have e1 := (Seq.of_own (enc := id) (B := B) (e := 22) (l := vs') (by simpa using q1)).unique (Seq.of_own (enc := id) (B := B) (e := 22) (l := vs ++ [u]) (by simpa [OwnV] using k1)) (by simp at q2; simp; omega)
    exact e1
  subst e
  refine ⟨_, k1, q2, fun i hi hi' => ⟨q3 i hi hi', ?_⟩⟩
  by_cases hiv : i < vs.length
  · rw [List.getElem_append_left hiv]
    exact ((h3 i hiv (by omega)).2).grow (Nat.le_refl _) k2.by_.size
  · have e : i = vs.length := by simp at hi; omega
    subst e
    rw [List.getElem_append_right (by omega)]
    simp only [Nat.sub_self, List.getElem_cons_zero]
    exact hn.grow (Nat.le_refl _) k2.by_.size

set_option maxHeartbeats 4000000 in
theorem sort_anyN {ll : List (List Int)} {v : Value} {w : World} (h : Tups w v ll) (hlen : ll.length < 100000) (hrow : ∀ t ∈ ll, t.length < 100000000) :
    Calls Tryz.prog 66 #[v] w fun e w' => ∃ v, e = .returned v ∧ TupsN w.heap.size w' v (sortL ll) ∧ Below w.heap.size w w' := by
  have HC := hide (clone_any h (by omega))
  have HRW := hide hrow
  clear h hrow
  go_enter Tryz.func66, Tryz.ntmps66
  go_wp2_with fail
  refine (unhide HC).mono ?_
  rintro e w1 ⟨vc, rfl, hc1, hb1⟩
  have HF := hide (sortFunc_any hc1 hb1.size (by omega))
  clear HC hc1
  go_wp2_with fail
  refine (unhide HF).mono ?_
  rintro e w2 ⟨rfl, l, hp, hup, ht2, hb2⟩
  have hll : l.length = ll.length := hp.length_eq
  have HD := hide (dd_sort hup hp)
  have HR := hide (fun t (h : t ∈ l) => unhide HRW t (hp.mem_iff.1 h))
  have hb3 := hb1.trans hb2
  obtain ⟨a, ca, rfl, hla, hca⟩ := ht2.form
  unfold maxLen at hca
  have hln : l.length < 100000 := by omega
  clear HF HRW hp hup hll hb1 hb2
  go_wp2
  have hz2 := hb3.size
  go_loopw [4, 14] (fun v i wr => ∃ k : Nat, k ≤ l.length ∧ i = .int .i64 k ∧ OwnN w2.heap.size wr v (ddK l k) ∧ Below w2.heap.size w2 wr) (fun _ i _ => l.length - (intOf i).toNat)
  case atStart => exact ⟨0, by omega, rfl, OwnN.lit (Nat.le_refl _), (Below.refl _ _).alloc (Nat.le_refl _) _⟩
  case round =>
    obtain ⟨k, hk, rfl, hown, hbel⟩ := hrel
    have hz := hbel.size
    have hdl := ddK_le l k
    by_cases hkl : k < l.length
    · obtain ⟨bl, ol, ul, rfl, hcl, hil⟩ := (ht2.below hbel).at hkl
      obtain ⟨ia, ic, hie, hi1, hi2⟩ := hil.form
      have hlk : l[k].length < 100000000000 := by have := unhide HR _ (List.getElem_mem hkl); omega
      have HOWN := hide (fun W (hb : Below wr.heap.size wr W) => own_any (w := W) (hil.below hb) hlk)
      by_cases hk0 : k = 0
      · have Hhit := hide (ddK_hit hkl (.inl hk0))
        have hk0' : ((k : Int) == 0) = true := by simp [hk0]
        rw [hie] at hil hcl HOWN
        clear ht2 hie hk0
        go_wp2_with (first | (go_at_call 91; refine (unhide HOWN _ (Below.refl _ _)).mono ?_; rintro e w3 ⟨u, rfl, hu3, hun3, hb4⟩; obtain ⟨ua, uc, hue, _, _⟩ := hu3.form; rw [hue] at hu3 hun3 ⊢; clear hue) | (at_builtin; refine wp_app_tupN rfl (.tmp 31) (.tmp 34) rfl (hown.below hb4) hu3 (fun _ => (Sep.of_new hown.new (Nat.le_refl _) hun3).symm) (hun3.grow hz (Nat.le_refl _)) rfl (Nat.le_trans hz hb4.size) rfl (by omega) ?_; intro v' w4 hown4 hgrew))
        go_roundw
        case rel => exact ⟨k + 1, by omega, by go_num, by rw [unhide Hhit]; exact hown4, (hbel.trans (hb4.mono hz)).trans hgrew.below⟩
        case measure => simp [intOf]; omega
      · have hk1 : k - 1 < l.length := by omega
        obtain ⟨bl', ol', up, e2, hcp, hip⟩ := (ht2.below hbel).at hk1
        cases e2
        have HCMP := hide (compare_any hip hil)
        obtain ⟨q, hq⟩ : ∃ q, q = cmpL l[k - 1] l[k] := ⟨_, rfl⟩
        rw [← hq] at HCMP
        have hk0' : ((k : Int) == 0) = false := by simp [hk0]
        have hkp : (1 : Int) ≤ (k : Int) := by omega
        rw [hie] at hil hcl HOWN HCMP
        by_cases hq0 : q = 0
        · have he : l[k - 1] = l[k] := cmpL_eq (by omega)
          have Hmiss := hide (ddK_miss hkl hk0 (by simp [hkl, hk1, he]))
          have hq1 : (q != 0) = false := by simp [hq0]
          clear ht2 hie hq hip hk0 hq0 he
          go_wp2_with (go_at_call 50; refine (unhide HCMP).mono ?_; rintro e w9 ⟨rfl, m9, rfl⟩)
          go_roundw
          case rel => exact ⟨k + 1, by omega, by go_num, by rw [unhide Hmiss]; exact hown.below (Below.drewN _ _), Below.drewN1 hbel _⟩
          case measure => simp [intOf]; omega
        · have hne : l[k - 1] ≠ l[k] := fun e => hq0 (by rw [hq, e]; exact cmpL_refl _)
          have Hhit := hide (ddK_hit hkl (.inr (by simpa [hkl, hk1] using hne)))
          have hq1 : (q != 0) = true := by simp [hq0]
          clear ht2 hie hq hip hk0 hq0 hne
          go_wp2_with (first | (go_at_call 50; refine (unhide HCMP).mono ?_; rintro e w9 ⟨rfl, m9, rfl⟩) | (go_at_call 91; refine (unhide HOWN _ (Below.drewN _ _)).mono ?_; rintro e w3 ⟨u, rfl, hu3, hun3, hb4⟩; obtain ⟨ua, uc, hue, _, _⟩ := hu3.form; rw [hue] at hu3 hun3 ⊢; clear hue) | (at_builtin; refine wp_app_tupN rfl (.tmp 31) (.tmp 34) rfl ((hown.below (Below.drewN _ m9)).below hb4) hu3 (fun _ => (Sep.of_new hown.new (Nat.le_refl _) hun3).symm) (hun3.grow hz (Nat.le_refl _)) rfl (Nat.le_trans hz hb4.size) rfl (by omega) ?_; intro v' w4 hown4 hgrew))
          go_roundw
          case rel => exact ⟨k + 1, by omega, by go_num, by rw [unhide Hhit]; exact hown4, ((Below.drewN1 hbel m9).trans (hb4.mono hz)).trans hgrew.below⟩
          case measure => simp [intOf]; omega
    · have hkk : k = l.length := by omega
      subst hkk
      rw [unhide HD] at hown
      clear ht2
      go_wp2
      go_ret
      exact ⟨_, rfl, hown.tups hz2, hb3.trans (hbel.mono hz2)⟩

theorem sort_any {ll : List (List Int)} {v : Value} {w : World} (h : Tups w v ll) (hlen : ll.length < 100000) (hrow : ∀ t ∈ ll, t.length < 100000000) :
    Calls Tryz.prog 66 #[v] w fun e w' => ∃ v, e = .returned v ∧ Tups w' v (sortL ll) ∧ New w.heap.size w' v ∧ Below w.heap.size w w' :=
  (sort_anyN h hlen hrow).mono fun _ _ ⟨v, he, ht, hb⟩ => ⟨v, he, ht.tups, ht.new, hb⟩

end Go.Proofs.YtafpecdmaogohaaGreat
