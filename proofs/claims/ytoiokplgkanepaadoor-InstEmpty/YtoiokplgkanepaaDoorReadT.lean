/-
  The contract of Parse.
-/
import Derived.Test.YtoiokplgkanepaaDoorReadQ
import Derived.Test.YtoiokplgkanepaaDoorReadS
namespace Go.Proofs.YtoiokplgkanepaaDoor
open Go.RowKit
set_option linter.unusedVariables false
set_option linter.unusedSimpArgs false
set_option maxRecDepth 20000

def PEndR (w' : World) (e : Ending) : Res Ins → Prop
  | .fault p c => e = .returned (.tuple #[.agg #[.slice none 0 0, .slice none 0 0, .slice none 0 0], .int .i64 (p : Int), .int .i64 c])
  | .ok x _ => ∃ v, e = .returned (.tuple #[v, .int .i64 0, .int .i64 0]) ∧ InsV w' v x
theorem pend_no {w' : World} {X : Res Ins} {p : Nat} {c : Int} (h : X = .fault p c) : PEndR w' (.returned (.tuple #[.agg #[.slice none 0 0, .slice none 0 0, .slice none 0 0], .int .i64 (p : Int), .int .i64 c])) X := by subst h; rfl
theorem pend_ok {w' : World} {X : Res Ins} {x : Ins} {r : List Tok} {v : Value} (h : X = .ok x r) (hv : InsV w' v x) : PEndR w' (.returned (.tuple #[v, .int .i64 0, .int .i64 0])) X := by subst h; exact ⟨v, rfl, hv⟩

theorem InSt.start {W : World} {tv : Value} {l : List Tok} (ht : ToksV W tv l) : InSt W W.heap.size (W.alloc (.cells #[tv, .slice none 0 0, .slice none 0 0, .slice none 0 0] 50)) ⟨[], [], []⟩ l (.slice none 0 0) (.slice none 0 0) (.slice none 0 0) :=
  ⟨⟨⟨tv, BoxK.new _ _ _ _ _ _, ht⟩, (Below.refl _ _).alloc (Nat.le_refl _) _, Nat.le_refl _⟩, ⟨[], own_nilV _ _, rfl, fun i h => by simp at h⟩, ⟨[], OwnQ.nil _ _ _, rfl, fun i h => by simp at h⟩, ⟨[], OwnQ.nil _ _ _, rfl, fun i h => by simp at h⟩⟩

theorem InSt.insV {w0 : World} {R : Nat} {w : World} {x : Ins} {ts : List Tok} {dv hv sv : Value} (a : InSt w0 R w x ts dv hv sv) : InsV w (.agg #[dv, hv, sv]) x := by
  obtain ⟨qs, h1, h2, h3⟩ := a.h
  obtain ⟨us, s1, s2, s3⟩ := a.s
  have k : ∀ g, g < w.heap.size → False → XX R dv hv sv g := fun g _ h => h.elim
  exact ⟨dv, hv, sv, rfl, a.doms.weaken (fun g _ h => h.elim), ⟨qs, h1.seq, fun g hg => ⟨id, (own4_new h1 g hg).2⟩, h2, fun i hi hi' => (h3 i hi hi').weaken k⟩, us, s1.seq, fun g hg => ⟨id, (own4_new s1 g hg).2⟩, s2, fun i hi hi' => (s3 i hi hi').weaken k⟩

/-- What is read stays, while a variable of the answer is written. -/
theorem InsV.kept {w w' : World} {v : Value} {x : Ins} {row : Option Nat} (h : InsV w v x) (g : w.grownBy w' row) (hx : ∀ b, row = some b → w.heap.size ≤ b) : InsV w' v x :=
  h.below ⟨g.os, g.tape, g.output, g.size, fun k hk => g.block k hk (fun e => by have := hx k e.symm; omega)⟩

/-- The same instance, off the blocks X. -/
def InsO (X : Nat → Prop) (w : World) (dv hv sv : Value) (x : Ins) : Prop :=
  TupsO X w dv x.doms ∧
    (∃ qs : List Quad, SeqQ w hv qs ∧ NotIn X w hv ∧ qs.length = x.hard.length ∧ ∀ i (h : i < qs.length) (h' : i < x.hard.length), ConO X w qs[i] x.hard[i]) ∧
    (∃ qs : List Quad, SeqQ w sv qs ∧ NotIn X w sv ∧ qs.length = x.soft.length ∧ ∀ i (h : i < qs.length) (h' : i < x.soft.length), SftO X w qs[i] x.soft[i])
theorem InsO.kept {X : Nat → Prop} {w w' : World} {dv hv sv : Value} {x : Ins} {row : Option Nat} (h : InsO X w dv hv sv x) (g : w.grownBy w' row) (hX : ∀ b, row = some b → X b) : InsO X w' dv hv sv x := by
  obtain ⟨h1, ⟨qs, h2, h3, h4, h5⟩, us, h6, h7, h8, h9⟩ := h
  exact ⟨h1.kept g hX, ⟨qs, h2.keptO h3 g hX, h3.kept g.size, h4, fun i hi hi' => (h5 i hi hi').kept g hX⟩, us, h6.keptO h7 g hX, h7.kept g.size, h8, fun i hi hi' => (h9 i hi hi').kept g hX⟩
theorem InsO.insV {X : Nat → Prop} {w : World} {dv hv sv : Value} {x : Ins} (h : InsO X w dv hv sv x) : InsV w (.agg #[dv, hv, sv]) x := by
  obtain ⟨h1, ⟨qs, h2, h3, h4, h5⟩, us, h6, h7, h8, h9⟩ := h
  exact ⟨dv, hv, sv, rfl, h1.weaken (fun g _ h => h.elim), ⟨qs, h2, h3.weaken (fun g _ h => h.elim), h4, fun i hi hi' => (h5 i hi hi').weaken (fun g _ h => h.elim)⟩, us, h6, h7.weaken (fun g _ h => h.elim), h8, fun i hi hi' => (h9 i hi hi').weaken (fun g _ h => h.elim)⟩

theorem InSt.insO {w0 : World} {R : Nat} {w : World} {x : Ins} {ts : List Tok} {dv hv sv : Value} (a : InSt w0 R w x ts dv hv sv) : InsO (· ≤ R) w dv hv sv x := by
  obtain ⟨vs, d1, d2, d3⟩ := a.d
  obtain ⟨qs, h1, h2, h3⟩ := a.h
  obtain ⟨us, s1, s2, s3⟩ := a.s
  have k : ∀ g, g < w.heap.size → g ≤ R → XX R dv hv sv g := fun g _ h => .inl h
  have off : ∀ {v : Value} {e : TypeId} {k n : Nat} {xs : List Value}, w.ownsRow (R + 1) e k v n xs → NotIn (· ≤ R) w v := fun h g hg => by
    have := own4_new h g hg
    exact ⟨by show ¬ g ≤ R; omega, this.2⟩
  exact ⟨⟨vs, Seq.of_own (enc := id) (by simpa using d1), off d1, d2, fun i hi hi' => (d3 i hi hi').weaken k⟩, ⟨qs, h1.seq, off h1, h2, fun i hi hi' => (h3 i hi hi').weaken k⟩, us, s1.seq, off s1, s2, fun i hi hi' => (s3 i hi hi').weaken k⟩

set_option maxHeartbeats 1000000 in
theorem parse_good (s : ByteArray) (w : World) (T : Tabs w) (hs : s.size ≤ 100000) {l : List Tok} (h : scanA 0 (lb s) = .good l) :
    Calls Tryd.prog 8 #[.string s] w fun e w' => PEndR w' e (parseR l) ∧ Below w.heap.size w w' := by
  obtain ⟨hf, hlen⟩ := scan_fair h
  rw [lb_len] at hlen
  have HA := hide (fun W => all_good s l h hs W)
  obtain ⟨X, hX⟩ : ∃ X, X = parseR l := ⟨_, rfl⟩
  rw [← hX]
  have HX : Hid (X = parseF (l.length + 1) ⟨[], [], []⟩ l) := hide hX
  have HF := hide hf
  have HT := hide T
  have hN : l.length ≤ 1000000 := by omega
  clear h hX hf T
  have hmf : ∀ (fn : Fn) (first cap : Array Value) (w : World), (Instr.makeFunc fn first cap).run Tryd.prog w = .ok (.func fn first cap) w := fun _ _ _ _ => rfl
  have HR0 := hide (Res3.start w)
  go_enter_defers Tryd.func8, Tryd.ntmps8
  go_wp2_with fail
  refine (unhide HA _).mono ?_
  rintro e w1 ⟨ta, tc, rfl, ht, htc1, htc2, hb1⟩
  have r1 := (unhide HR0).kept hb1
  have c1 := r1.b1.cell0; have f1 := r1.b1.frozen 0; have c2 := r1.b2.cell0; have f2 := r1.b2.frozen 0
  have ht2 := (ht.setOne r1.b1 (.int .i64 0)).setOne (r1.st1 0).b2 (.int .i64 0)
  have r2 := (r1.st1 0).st2 0
  have HR1 := hide r2
  have HTK := hide ht2
  clear hb1 r1 HR0 ht ht2 r2 HA
  go_wp2
  clear c1 c2 f1 f2
  have hsz : ((w1.setCell ⟨w.heap.size + 1, 0, none⟩ (.int .i64 0)).setCell ⟨w.heap.size + 1 + 1, 0, none⟩ (.int .i64 0)).heap.size = w1.heap.size := by simp
  generalize (w1.setCell ⟨w.heap.size + 1, 0, none⟩ (.int .i64 0)).setCell ⟨w.heap.size + 1 + 1, 0, none⟩ (.int .i64 0) = W at *
  rw [← hsz]
  clear hsz
  have HTW := hide ((unhide HT).below (unhide HR1).be)
  have HI := hide (InSt.start (unhide HTK))
  have hRn : w.heap.size + 1 + 1 < W.heap.size := (unhide HR1).b2.lt
  obtain ⟨R, hR⟩ : ∃ R, R = W.heap.size := ⟨_, rfl⟩
  rw [← hR] at HI hRn ⊢
  have HRW := hide hR
  clear HT HTK hR
  go_loopw [] (fun wr => ∃ (x : Ins) (ts : List Tok) (f : Nat) (dv hv sv : Value), InSt W R wr x ts dv hv sv ∧ Fair ts ∧ ts.length < f ∧ ts.length ≤ 1000000 ∧ Hid (X = parseF f x ts)) (fun wr => lenOf ((wr.cell? ⟨R, 0, none⟩).getD undef))
  case atStart => exact ⟨_, l, l.length + 1, _, _, _, unhide HI, unhide HF, Nat.lt_succ_self _, hN, HX⟩
  case round =>
    clear HX HF HI
    obtain ⟨x, ts, f, dv, hv, sv, a, hf, hfu, hN2, HX⟩ := hrel
    rename World => wr
    obtain ⟨g, rfl⟩ : ∃ g, f = g + 1 := ⟨f - 1, by omega⟩
    obtain ⟨t, r, rfl⟩ := hf.cons
    obtain ⟨pb, poff, pc, p0, p1, p2, p3, _⟩ := a.rd.peek
    have P0 := hide p0
    have HA := hide a
    have hX := HX.out
    rw [parseF] at hX
    by_cases hk : t.kind = 4
    · rw [if_pos hk] at hX
      have hk' : (t.kind != 4) = false := by simp [hk]
      have HX2 := hide hX
      obtain ⟨da, dc, rfl, _, _⟩ := a.formD
      obtain ⟨ha, hc, rfl, _, _⟩ := a.formH
      obtain ⟨sa, sc, rfl, _, _⟩ := a.formS
      have q1 := a.rd.cell1; have q2 := a.rd.cell2; have q3 := a.rd.cell3
      have r1 := (unhide HR1).kept a.rd.old
      have c0 := r1.b0.cell0; have c1 := r1.b0.cell1; have c2 := r1.b0.cell2; have cf := r1.b0.frozen
      have d1 := r1.b1.cell0; have df := r1.b1.frozen; have e1 := r1.b2.cell0; have ef := r1.b2.frozen
      have r2 := ((r1.st0 (.slice da x.doms.length dc) (.slice ha x.hard.length hc) (.slice sa x.soft.length sc)).st1 0).st2 0
      have io := a.insO
      have hn0 : w.heap.size ≤ R := by omega
      have io1 := (((io.kept (grown_set wr w.heap.size 0 (.slice da x.doms.length dc)) (fun b e => by cases e; exact hn0)).kept (grown_set _ w.heap.size 1 (.slice ha x.hard.length hc)) (fun b e => by cases e; exact hn0)).kept (grown_set _ w.heap.size 2 (.slice sa x.soft.length sc)) (fun b e => by cases e; exact hn0))
      have io2 := (io1.kept (grown_set _ (w.heap.size + 1) 0 (.int .i64 0)) (fun b e => by cases e; show w.heap.size + 1 ≤ R; omega)).kept (grown_set _ (w.heap.size + 1 + 1) 0 (.int .i64 0)) (fun b e => by cases e; show w.heap.size + 1 + 1 ≤ R; omega)
      have HR2 := hide r2
      have HIO := hide io2.insV
      clear HX hX hk a hf r1 r2 io io1 io2 HA
      go_wp2
      refine leaves_cons (f := 14) (args := #[.pointer (some ⟨w.heap.size, 0, none⟩), .pointer (some ⟨w.heap.size + 1, 0, none⟩), .pointer (some ⟨w.heap.size + 1 + 1, 0, none⟩)]) (by simp) (by simp [go_sem]) ?_
      refine (catch_idle w.heap.size (w.heap.size + 1) (w.heap.size + 1 + 1) _).mono ?_
      rintro e u' w6 ⟨rfl, rfl, rfl⟩
      have r2 := unhide HR2
      have a0 := r2.b0.cell0; have a1 := r2.b0.cell1; have a2 := r2.b0.cell2; have a3 := r2.b1.cell0; have a4 := r2.b2.cell0
      refine ⟨.tuple #[.agg #[.slice da x.doms.length dc, .slice ha x.hard.length hc, .slice sa x.soft.length sc], .int .i64 0, .int .i64 0], ?_, pend_ok (unhide HX2) (unhide HIO), r2.be⟩
      simp [results, Tryd.results8, go_sem, a0, a1, a2, a3, a4]
    · rw [if_neg hk] at hX
      have hk' : (t.kind != 4) = true := by simpa using hk
      have HX2 := hide hX
      have HS := hide (stmt_any (unhide HTW) a hf hN2)
      have HF := hide hf
      clear HX hX hk a hf
      go_wp2_with fail
      refine (unhide HS).mono ?_
      have hX := unhide HX2
      cases hst : stmtR x (t :: r) with
      | fault p c =>
        rw [hst] at hX
        have HX3 := hide hX
        clear hX hst
        rintro e w5 ⟨rfl, hb5⟩
        have r5 := (unhide HR1).kept hb5
        refine leaves_cons (f := 14) (args := #[.pointer (some ⟨w.heap.size, 0, none⟩), .pointer (some ⟨w.heap.size + 1, 0, none⟩), .pointer (some ⟨w.heap.size + 1 + 1, 0, none⟩)]) (by simp) (by simp [go_sem]) ?_
        refine (catch_fault w.heap.size p c w5 r5.b0 r5.b1 r5.b2).mono ?_
        rintro e u' w6 ⟨rfl, rfl, k0, k1, k2, kb⟩
        have a0 := k0.cell0; have a1 := k0.cell1; have a2 := k0.cell2; have a3 := k1.cell0; have a4 := k2.cell0
        refine ⟨.tuple #[.agg #[.slice none 0 0, .slice none 0 0, .slice none 0 0], .int .i64 (p : Int), .int .i64 c], ?_, pend_no (unhide HX3), r5.be.trans kb⟩
        simp [results, Tryd.results8, go_sem, a0, a1, a2, a3, a4]
      | ok x2 r2 =>
        rw [hst, ok_bind] at hX
        obtain ⟨hf2, hl2⟩ := (unhide HF).stmt hst
        have HX3 := hide hX
        clear hX hst
        rintro e w5 ⟨rfl, dv2, hv2, sv2, a2⟩
        have A2 := hide a2
        obtain ⟨t2, r3, hr3⟩ := hf2.cons
        subst hr3
        obtain ⟨pb2, poff2, pc2, q0, _⟩ := a2.rd.peek
        have Q0 := hide q0
        have HF2 := hide hf2
        clear a2 q0 hf2
        go_wp2
        go_roundw
        case rel => first | exact ⟨x2, t2 :: r3, g, _, _, _, unhide A2, unhide HF2, by omega, by omega, HX3⟩ | ((repeat apply Exists.intro); exact ⟨⟨x2, t2 :: r3, g, _, _, _, unhide A2, unhide HF2, by omega, by omega, HX3⟩, rfl⟩)
        case measure => rw [unhide Q0, unhide P0]; simp [lenOf]; simp at hl2; omega

/-- Parse, of any text that is not too long. -/
theorem parse_any (s : ByteArray) (w : World) (T : Tabs w) (hs : s.size ≤ 100000) :
    Calls Tryd.prog 8 #[.string s] w fun e w' => PEnds w' e (scanA 0 (lb s)) ∧ Below w.heap.size w w' := by
  cases h : scanA 0 (lb s) with
  | bad p c => exact parse_bad s w hs h
  | good l =>
    refine (parse_good s w T hs h).mono fun e w' ⟨h1, h2⟩ => ⟨?_, h2⟩
    unfold PEndR at h1
    unfold PEnds
    simp only []
    cases hp : parseR l with
    | fault p c => rw [hp] at h1; exact h1
    | ok x r => rw [hp] at h1; exact h1

end Go.Proofs.YtoiokplgkanepaaDoor
