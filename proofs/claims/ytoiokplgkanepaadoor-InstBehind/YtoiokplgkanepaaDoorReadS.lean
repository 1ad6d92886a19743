/-
  The contract of Parse.
-/
import Derived.Test.YtoiokplgkanepaaDoorReadR
import Derived.Test.YtoiokplgkanepaaDoorInstFair
import Derived.Test.YtoiokplgkanepaaDoorScanShown
namespace Go.Proofs.YtoiokplgkanepaaDoor
open Go.RowKit
set_option linter.unusedVariables false
set_option linter.unusedSimpArgs false
set_option maxRecDepth 20000

/-- The value v is this instance. -/
def InsV (w : World) (v : Value) (x : Ins) : Prop :=
  ∃ dv hv sv, v = .agg #[dv, hv, sv] ∧ TupsO (fun _ => False) w dv x.doms ∧
    (∃ qs : List Quad, SeqQ w hv qs ∧ NotIn (fun _ => False) w hv ∧ qs.length = x.hard.length ∧ ∀ i (h : i < qs.length) (h' : i < x.hard.length), ConO (fun _ => False) w qs[i] x.hard[i]) ∧
    (∃ qs : List Quad, SeqQ w sv qs ∧ NotIn (fun _ => False) w sv ∧ qs.length = x.soft.length ∧ ∀ i (h : i < qs.length) (h' : i < x.soft.length), SftO (fun _ => False) w qs[i] x.soft[i])
theorem InsV.below {w w' : World} {v : Value} {x : Ins} (h : InsV w v x) (hb : Below w.heap.size w w') : InsV w' v x := by
  obtain ⟨dv, hv, sv, rfl, h1, ⟨qs, h2, h3, h4, h5⟩, us, h6, h7, h8, h9⟩ := h
  have g := grown_below hb none
  have k : ∀ b, (none : Option Nat) = some b → False := fun b e => by cases e
  exact ⟨dv, hv, sv, rfl, h1.kept g k, ⟨qs, h2.keptO h3 g k, h3.kept hb.size, h4, fun i hi hi' => (h5 i hi hi').kept g k⟩, us, h6.keptO h7 g k, h7.kept hb.size, h8, fun i hi hi' => (h9 i hi hi').kept g k⟩
theorem InsV.nil (w : World) : InsV w (.agg #[.slice none 0 0, .slice none 0 0, .slice none 0 0]) ⟨[], [], []⟩ :=
  ⟨_, _, _, rfl, TupsO.nil _ _, ⟨[], SeqQ.nil _, NotIn.nil _ _, rfl, fun i h => by simp at h⟩, [], SeqQ.nil _, NotIn.nil _ _, rfl, fun i h => by simp at h⟩

/-- What Parse answers. -/
def PEnds (w' : World) (e : Ending) : Scan → Prop
  | .bad p c => e = .returned (.tuple #[.agg #[.slice none 0 0, .slice none 0 0, .slice none 0 0], .int .i64 (p : Int), .int .i64 c])
  | .good l => match parseR l with
    | .fault p c => e = .returned (.tuple #[.agg #[.slice none 0 0, .slice none 0 0, .slice none 0 0], .int .i64 (p : Int), .int .i64 c])
    | .ok x _ => ∃ v, e = .returned (.tuple #[v, .int .i64 0, .int .i64 0]) ∧ InsV w' v x

/-- Tokens do not lie in a block of one cell. -/
theorem ToksV.setOne {w : World} {v : Value} {l : List Tok} {b : Nat} {e : TypeId} {x : Value} (h : ToksV w v l) (hb : Box1 e w b x) (y : Value) : ToksV (w.setCell ⟨b, 0, none⟩ y) v l := by
  obtain ⟨a, cap, rfl, h2, h3, h4⟩ := h
  refine ⟨a, cap, rfl, h2, h3, fun i hi => ?_⟩
  obtain ⟨b', off, rfl, k2, k3, k4, k5⟩ := h4 i hi
  have hne : b' ≠ b := by
    rintro rfl
    unfold Box1 at hb
    simp only [World.cell?, hb] at k3
    simp at k3
  have g := grown_set w b 0 y
  have hne' : ¬ some b' = some b := fun e => hne (by cases e; rfl)
  exact ⟨b', off, rfl, g.cell k2 hne', g.cell k3 hne', g.cell k4 hne', g.cell k5 hne'⟩

theorem scan_err {l : Bytes} {p : Nat} {c : Int} (h : scanA 0 l = .bad p c) : (c != 0) = true := by
  have key : ∀ (f p : Nat) (l : Bytes), l.length < f → ∀ {q : Nat} {c : Int}, scanF f p l = .bad q c → c = 2 ∨ c = 4 := by
    intro f
    induction f with
    | zero => intro p l h; omega
    | succ f ih =>
      intro p l hl q c h
      rw [scanF] at h
      cases ht : tokG (l.drop (skipN false l)) with
      | bad e =>
        rw [ht] at h
        cases h
        exact tok_bad ht
      | tok k t n len =>
        rw [ht] at h
        simp only [] at h
        obtain ⟨h1, h2, _⟩ := tok_len ht
        split at h
        · cases h
        · rename_i hk
          have := h2 hk
          cases hs : scanF f (p + skipN false l + len) ((l.drop (skipN false l)).drop len) with
          | bad q' e' =>
            rw [hs] at h
            cases h
            refine ih _ _ ?_ hs
            simp only [List.length_drop] at h1 ⊢
            omega
          | good us => rw [hs] at h; cases h
  rcases key _ 0 l (Nat.lt_succ_self _) h with rfl | rfl <;> rfl

/-- The three variables of Parse's answer, in blocks one behind the other. -/
structure Res3 (w : World) (n : Nat) (W : World) (x y z : Value) (p c : Int) : Prop where
  b0 : Box3 27 W n x y z
  b1 : Box1 3 W (n + 1) (.int .i64 p)
  b2 : Box1 28 W (n + 1 + 1) (.int .i64 c)
  be : Below n w W
theorem Res3.st0 {w : World} {n : Nat} {W : World} {x y z : Value} {p c : Int} (h : Res3 w n W x y z p c) (x' y' z' : Value) : Res3 w n (((W.setCell ⟨n, 0, none⟩ x').setCell ⟨n, 1, none⟩ y').setCell ⟨n, 2, none⟩ z') x' y' z' p c := by
  have g := grown_then (grown_then (grown_set W n 0 x') (grown_set _ n 1 y') (fun b e => .inr e)) (grown_set _ n 2 z') (fun b e => .inr e)
  exact ⟨h.b0.set _ _ _, h.b1.keep g (by simp), h.b2.keep g (by simp; omega), ((h.be.setCell (p := ⟨n, 0, none⟩) (Nat.le_refl _) _).setCell (p := ⟨n, 1, none⟩) (Nat.le_refl _) _).setCell (p := ⟨n, 2, none⟩) (Nat.le_refl _) _⟩
theorem Res3.st1 {w : World} {n : Nat} {W : World} {x y z : Value} {p c : Int} (h : Res3 w n W x y z p c) (p' : Int) : Res3 w n (W.setCell ⟨n + 1, 0, none⟩ (.int .i64 p')) x y z p' c := by
  have g := grown_set W (n + 1) 0 (.int .i64 p')
  exact ⟨h.b0.keep g (by simp), h.b1.set _, h.b2.keep g (by simp), h.be.setCell (p := ⟨n + 1, 0, none⟩) (by show n ≤ n + 1; omega) _⟩
theorem Res3.st2 {w : World} {n : Nat} {W : World} {x y z : Value} {p c : Int} (h : Res3 w n W x y z p c) (c' : Int) : Res3 w n (W.setCell ⟨n + 1 + 1, 0, none⟩ (.int .i64 c')) x y z p c' := by
  have g := grown_set W (n + 1 + 1) 0 (.int .i64 c')
  exact ⟨h.b0.keep g (by simp; omega), h.b1.keep g (by simp), h.b2.set _, h.be.setCell (p := ⟨n + 1 + 1, 0, none⟩) (by show n ≤ n + 1 + 1; omega) _⟩
theorem Res3.kept {w : World} {n : Nat} {W W' : World} {x y z : Value} {p c : Int} (h : Res3 w n W x y z p c) (g : Below W.heap.size W W') : Res3 w n W' x y z p c := by
  have k := grown_below g none
  exact ⟨h.b0.keep k (by simp), h.b1.keep k (by simp), h.b2.keep k (by simp), h.be.trans (g.mono (by have := h.b0.lt; omega))⟩
/-- They are laid at first. -/
theorem Res3.start (w : World) : Res3 w w.heap.size (((w.alloc (.cells #[.slice none 0 0, .slice none 0 0, .slice none 0 0] 27)).alloc (.cells #[.int .i64 0] 3)).alloc (.cells #[.int .i64 0] 28)) (.slice none 0 0) (.slice none 0 0) (.slice none 0 0) 0 0 := by
  have y0 := ((Box3.new 27 w (.slice none 0 0) (.slice none 0 0) (.slice none 0 0)).keep (World.grownBy_alloc _ (.cells #[.int .i64 0] 3) none) (by simp)).keep (World.grownBy_alloc _ (.cells #[.int .i64 0] 28) none) (by simp)
  have y1 := (Box1.new 3 (w.alloc (.cells #[.slice none 0 0, .slice none 0 0, .slice none 0 0] 27)) (.int .i64 0)).keep (World.grownBy_alloc _ (.cells #[.int .i64 0] 28) none) (by simp)
  have y2 := Box1.new 28 ((w.alloc (.cells #[.slice none 0 0, .slice none 0 0, .slice none 0 0] 27)).alloc (.cells #[.int .i64 0] 3)) (.int .i64 0)
  simp only [World.size_alloc] at y1 y2
  exact ⟨y0, y1, y2, (((Below.refl _ _).alloc (Nat.le_refl _) _).alloc (by simp) _).alloc (by simp; omega) _⟩

set_option maxHeartbeats 1000000 in
theorem parse_bad (s : ByteArray) (w : World) (hs : s.size ≤ 100000) {p : Nat} {c : Int} (h : scanA 0 (lb s) = .bad p c) :
    Calls Tryd.prog 8 #[.string s] w fun e w' => e = .returned (.tuple #[.agg #[.slice none 0 0, .slice none 0 0, .slice none 0 0], .int .i64 (p : Int), .int .i64 c]) ∧ Below w.heap.size w w' := by
  have hc := scan_err h
  have HA := hide (fun W => all_bad s p c h hs W)
  clear h
  have hmf : ∀ (fn : Fn) (first cap : Array Value) (w : World), (Instr.makeFunc fn first cap).run Tryd.prog w = .ok (.func fn first cap) w := fun _ _ _ _ => rfl
  have HR0 := hide (Res3.start w)
  go_enter_defers Tryd.func8, Tryd.ntmps8
  go_wp2_with fail
  refine (unhide HA _).mono ?_
  rintro e w1 ⟨rfl, hb1⟩
  have r1 := (unhide HR0).kept hb1
  have c1 := r1.b1.cell0; have f1 := r1.b1.frozen 0; have c2 := r1.b2.cell0; have f2 := r1.b2.frozen 0
  have HR1 := hide ((r1.st1 (p : Int)).st2 c)
  clear hb1 r1 HR0
  go_wp2
  clear c1 c2 f1 f2
  generalize (w1.setCell ⟨w.heap.size + 1, 0, none⟩ (.int .i64 (p : Int))).setCell ⟨w.heap.size + 1 + 1, 0, none⟩ (.int .i64 c) = W at *
  have r1 := (unhide HR1).kept (Below.drewN W 1)
  have hS0 : W.drew.cell? ⟨w.heap.size + 1, 0, none⟩ = some (.int .i64 (p : Int)) ∧ W.drew.cell? ⟨w.heap.size + 1 + 1, 0, none⟩ = some (.int .i64 c) := ⟨r1.b1.cell0, r1.b2.cell0⟩
  have a0 := (unhide HR1).b0.cell0; have a1 := (unhide HR1).b0.cell1; have a2 := (unhide HR1).b0.cell2; have af := (unhide HR1).b0.frozen
  refine wp_region_noPanic ?_
  refine wp_region_held (S := fun U => U.cell? ⟨w.heap.size + 1, 0, none⟩ = some (.int .i64 (p : Int)) ∧ U.cell? ⟨w.heap.size + 1 + 1, 0, none⟩ = some (.int .i64 c)) (by kernel_rfl) ?_
  refine wpAnyH_take (i := 0) (v := ?_) rfl (by kernel_rfl) (by kernel_rfl) (by kernel_rfl) (fun _ _ _ h => h) (Or.inl ⟨by kernel_rfl, ?_⟩) (by assumption) ?_
  rotate_left
  · intro W hSW; obtain ⟨hS1, hS2⟩ := hSW; go_simp; first | done | rfl
  simp only [Act.put, List.setIfInBounds_toArray, List.set_cons_zero, List.set_cons_succ]
  refine wpAnyH_take (i := 1) (v := ?_) rfl (by kernel_rfl) (by kernel_rfl) (by kernel_rfl) (fun _ _ _ h => h) (Or.inl ⟨by kernel_rfl, ?_⟩) (by assumption) ?_
  rotate_left
  · intro W hSW; obtain ⟨hS1, hS2⟩ := hSW; go_simp; first | done | rfl
  simp only [Act.put, List.setIfInBounds_toArray, List.set_cons_zero, List.set_cons_succ]
  refine wpAnyH_take (i := 2) (v := ?_) rfl (by kernel_rfl) (by kernel_rfl) (by kernel_rfl) (fun _ _ _ h => h) (Or.inl ⟨by kernel_rfl, ?_⟩) (by assumption) ?_
  rotate_left
  · intro W hSW; obtain ⟨hS1, hS2⟩ := hSW; go_simp; first | done | rfl
  simp only [Act.put, List.setIfInBounds_toArray, List.set_cons_zero, List.set_cons_succ]
  have r2 := r1.st0 (.slice none 0 0) (.slice none 0 0) (.slice none 0 0)
  refine held_one (i := 3) (by kernel_rfl) rfl (by kernel_rfl) (fun K hK => ?_)
  go_simp
  refine hK.out _ _ ⟨r2.b1.cell0, r2.b2.cell0⟩ ?_
  clear hK K a0 a1 a2 af hS0
  replace r2 : Res3 w w.heap.size (((W.drew.setCell ⟨w.heap.size, 0, none⟩ (.slice none 0 0)).setCell ⟨w.heap.size, 1, none⟩ (.slice none 0 0)).setCell ⟨w.heap.size, 2, none⟩ (.slice none 0 0)) _ _ _ _ _ := r2
  try rw [show (((W.setCell ⟨w.heap.size, 0, none⟩ (.slice none 0 0)).setCell ⟨w.heap.size, 1, none⟩ (.slice none 0 0)).setCell ⟨w.heap.size, 2, none⟩ (.slice none 0 0)).drew = ((W.drew.setCell ⟨w.heap.size, 0, none⟩ (.slice none 0 0)).setCell ⟨w.heap.size, 1, none⟩ (.slice none 0 0)).setCell ⟨w.heap.size, 2, none⟩ (.slice none 0 0) from rfl]
  generalize ((W.drew.setCell ⟨w.heap.size, 0, none⟩ (.slice none 0 0)).setCell ⟨w.heap.size, 1, none⟩ (.slice none 0 0)).setCell ⟨w.heap.size, 2, none⟩ (.slice none 0 0) = W2 at *
  try simp only [Act.put, List.setIfInBounds_toArray, List.set_cons_zero, List.set_cons_succ]
  have r3 := r2.st1 (p : Int)
  have a0 := r2.b1.cell0; have af := r2.b1.frozen
  refine held_one (i := 4) (by kernel_rfl) rfl (by kernel_rfl) (fun K hK => ?_)
  go_simp
  refine hK.out _ _ ⟨r3.b1.cell0, r3.b2.cell0⟩ ?_
  clear hK K a0 af r2
  generalize W2.setCell ⟨w.heap.size + 1, 0, none⟩ (.int .i64 (p : Int)) = W3 at *
  try simp only [Act.put, List.setIfInBounds_toArray, List.set_cons_zero, List.set_cons_succ]
  have r4 := r3.st2 c
  have a0 := r3.b2.cell0; have af := r3.b2.frozen
  refine held_one (i := 5) (by kernel_rfl) rfl (by kernel_rfl) (fun K hK => ?_)
  go_simp
  refine hK.out _ _ ⟨r4.b1.cell0, r4.b2.cell0⟩ (wpAnyH_done (by kernel_rfl) (NoPanic.normal ?_) _)
  clear hK K a0 af r3 r1
  generalize W3.setCell ⟨w.heap.size + 1 + 1, 0, none⟩ (.int .i64 c) = W4 at *
  try simp only [Act.put, List.setIfInBounds_toArray, List.set_cons_zero, List.set_cons_succ]
  have HR4 := hide r4
  have a0 := r4.b0.cell0; have a1 := r4.b0.cell1; have a2 := r4.b0.cell2; have a3 := r4.b1.cell0; have a4 := r4.b2.cell0
  clear r4
  go_wp2
  refine ⟨_, ?_, rfl, (unhide HR4).be⟩
  simp [results, Tryd.results8, go_sem, a0, a1, a2, a3, a4]

end Go.Proofs.YtoiokplgkanepaaDoor
