/-
  Numbers, weighted relations in memory, weights by their places, sums, phases.
-/
import Derived.Test.YtafpecdmaogohaaGreatApp2
import Derived.Test.YtafpecdmaogohaaGreatShelfM
import Derived.Test.YtafpecdmaogohaaGreatRelRight
import Derived.Test.YtafpecdmaogohaaGreatApp3
import Derived.Test.YtafpecdmaogohaaGreatTupFind
namespace Go.Proofs.YtafpecdmaogohaaGreat
open Go.RowKit
set_option linter.unusedVariables false
set_option linter.unusedSimpArgs false
set_option maxRecDepth 20000

/-- A number of 64 bits. -/
def I64 (x : Int) : Prop := -9223372036854775808 ≤ x ∧ x ≤ 9223372036854775807
/-- A weight that fits. -/
def Fits (x : Int) : Prop := -4611686018427387904 ≤ x ∧ x ≤ 4611686018427387904
theorem Fits.i64 {x : Int} (h : Fits x) : I64 x := by unfold Fits at h; unfold I64; omega
def fitB64 (x : Int) : Bool := decide (x.natAbs ≤ 4611686018427387904)
theorem fitB64_iff {x : Int} : fitB64 x = true ↔ Fits x := by unfold fitB64 Fits; rw [decide_eq_true_eq]; omega
theorem wrap64_id {x : Int} (h : I64 x) : wrap64 x = x := by unfold wrap64; unfold I64 at h; omega

theorem size_wrap {x : Int} (h1 : -9223372036854775808 ≤ x) (h0 : x < 0) : IntKind.u64.wrap (wrap64 (-x)) = (x.natAbs : Int) := by
  rw [show IntKind.u64.wrap (wrap64 (-x)) = wrap64 (-x) % 18446744073709551616 by simp [IntKind.wrap, IntKind.bits, IntKind.signed]]
  unfold wrap64
  omega

set_option maxHeartbeats 1000000 in
theorem size_any {x : Int} {w : World} (hx : I64 x) : Calls Tryz.prog 51 #[.int .i64 x] w fun e w' => e = .returned (.int .u64 (x.natAbs : Int)) ∧ w' = w := by
  obtain ⟨h1, h2⟩ := hx
  by_cases h0 : x < 0
  · have HW := hide (size_wrap h1 h0)
    go_enter Tryz.func51, Tryz.ntmps51
    go_wp2
    go_ret
    exact ⟨ret_int (unhide HW), rfl⟩
  · have HW := hide (show x = (x.natAbs : Int) by omega)
    go_enter Tryz.func51, Tryz.ntmps51
    go_wp2
    go_ret
    exact ⟨ret_int (unhide HW), rfl⟩

set_option maxHeartbeats 1000000 in
theorem countFits_any {x : Int} {w : World} (hx : I64 x) : Calls Tryz.prog 43 #[.int .i64 x] w fun e w' => e = .returned (.bool (fitB64 x)) ∧ w' = w := by
  have HS := hide (size_any (w := w) hx)
  have HQ := hide (show decide ((x.natAbs : Int) ≤ 4611686018427387904) = fitB64 x by unfold fitB64; rw [decide_eq_decide]; omega)
  go_enter Tryz.func43, Tryz.ntmps43
  go_wp2_with (go_at_call 51; refine (unhide HS).mono ?_; rintro e w' ⟨rfl, rfl⟩)
  go_ret
  exact ⟨ret_bool (unhide HQ), rfl⟩

set_option maxHeartbeats 1000000 in
theorem sumOfTwo_any {x y : Int} {w : World} (hx : Fits x) (hy : Fits y) : Calls Tryz.prog 26 #[.int .i64 x, .int .i64 y] w fun e w' => e = .returned (.tuple #[.int .i64 (wrap64 (x + y)), .bool (fitB64 (x + y))]) ∧ w' = w := by
  have HF := hide (countFits_any (w := w) (x := wrap64 (x + y)) (by unfold I64 wrap64; omega))
  have HQ := hide (show fitB64 (wrap64 (x + y)) = fitB64 (x + y) by unfold fitB64 wrap64; unfold Fits at hx hy; rw [decide_eq_decide]; omega)
  rw [unhide HQ] at HF
  clear hx hy
  go_enter Tryz.func26, Tryz.ntmps26
  go_wp2_with (go_at_call 43; refine (unhide HF).mono ?_; rintro e w' ⟨rfl, rfl⟩)
  go_ret2
  exact ⟨rfl, rfl⟩

set_option maxHeartbeats 1000000 in
theorem countProduct_any {x y : Int} {w : World} (hx : I64 x) (hy : I64 y) : Calls Tryz.prog 41 #[.int .i64 x, .int .i64 y] w fun e w' => e = .returned (.tuple #[.int .i64 (wrap64 (x * y)), .bool (fitB64 (x * y))]) ∧ w' = w := by
  have HX := hide (size_any (w := w) hx)
  have HY := hide (size_any (w := w) hy)
  have hx' : x.natAbs < 18446744073709551616 := by unfold I64 at hx; omega
  have hy' : y.natAbs < 18446744073709551616 := by unfold I64 at hy; omega
  have HM := hide (shelf_mul64 x.natAbs y.natAbs hx' hy' w)
  rw [show x.natAbs * y.natAbs = (x * y).natAbs from (Int.natAbs_mul x y).symm] at HM
  generalize hm : (x * y).natAbs = m at HM
  have HQ : Hid (fitB64 (x * y) = decide (m ≤ 4611686018427387904)) := hide (by unfold fitB64; rw [hm])
  clear hx hy hx' hy' hm
  by_cases h0 : m / 18446744073709551616 = 0
  · have h1 : (((m / 18446744073709551616 : Nat) : Int) == 0) = true := by simp [h0]
    have HD := hide (show decide (((m % 18446744073709551616 : Nat) : Int) ≤ 4611686018427387904) = decide (m ≤ 4611686018427387904) by rw [decide_eq_decide]; omega)
    generalize ((m / 18446744073709551616 : Nat) : Int) = p at HM h1
    generalize ((m % 18446744073709551616 : Nat) : Int) = q at HM HD
    clear h0
    go_enter Tryz.func41, Tryz.ntmps41
    go_wp2_with fail
    refine (unhide HX).mono ?_
    rintro e w' ⟨rfl, rfl⟩
    go_wp2_with fail
    refine (unhide HY).mono ?_
    rintro e w' ⟨rfl, rfl⟩
    go_wp2_with fail
    refine (unhide HM).mono ?_
    rintro e w' ⟨rfl, rfl⟩
    go_wp2
    go_ret2
    refine ⟨?_, rfl⟩
    rw [unhide HQ, ← unhide HD]; rfl
  · have h1 : (((m / 18446744073709551616 : Nat) : Int) == 0) = false := by simp; omega
    have HD := hide (show decide (m ≤ 4611686018427387904) = false by rw [decide_eq_false_iff_not]; omega)
    generalize ((m / 18446744073709551616 : Nat) : Int) = p at HM h1
    generalize ((m % 18446744073709551616 : Nat) : Int) = q at HM
    clear h0
    go_enter Tryz.func41, Tryz.ntmps41
    go_wp2_with fail
    refine (unhide HX).mono ?_
    rintro e w' ⟨rfl, rfl⟩
    go_wp2_with fail
    refine (unhide HY).mono ?_
    rintro e w' ⟨rfl, rfl⟩
    go_wp2_with fail
    refine (unhide HM).mono ?_
    rintro e w' ⟨rfl, rfl⟩
    go_wp2
    go_ret2
    refine ⟨?_, rfl⟩
    rw [unhide HQ, unhide HD]; rfl

theorem assert_i64 (x : Int) (w : World) : (Instr.typeAssert (.iface 2 (.int .i64 x)) 20 2 true).run Tryz.prog w = .ok (.tuple #[.int .i64 x, .bool true]) w := by kernel_rfl
theorem assert_i64' (x : Int) (w : World) : (Instr.typeAssert (.iface 2 (.int .i64 x)) 20 2 false).run Tryz.prog w = .ok (.int .i64 x) w := by kernel_rfl
theorem assert_l64 (a : Option Addr) (n c : Nat) (w : World) : (Instr.typeAssert (.iface 24 (.slice a n c)) 20 24 true).run Tryz.prog w = .ok (.tuple #[.slice a n c, .bool true]) w := by kernel_rfl

set_option maxHeartbeats 1000000 in
theorem product_any {x y : Int} {w : World} (hx : I64 x) (hy : I64 y) : Calls Tryz.prog 25 #[.int .i64 x, .int .i64 y] w fun e w' => e = .returned (.tuple #[.int .i64 (wrap64 (x * y)), .bool (fitB64 (x * y))]) ∧ w' = w := by
  have HP := hide (countProduct_any (w := w) hx hy)
  have ha := assert_i64
  have hb := assert_i64'
  clear hx hy
  go_enter Tryz.func25, Tryz.ntmps25
  go_wp2_with (go_at_call 41; refine (unhide HP).mono ?_; rintro e w' ⟨rfl, rfl⟩)
  go_ret2
  exact ⟨rfl, rfl⟩

theorem set_take {α : Type} {f : Int → α} {z : α} {ps : List Int} {k : Nat} (hk : k < ps.length) : ((ps.take k).map f ++ List.replicate (ps.length - k) z).set k (f ps[k]) = (ps.take (k + 1)).map f ++ List.replicate (ps.length - (k + 1)) z := by
  have e : ps.length - k = (ps.length - (k + 1)) + 1 := by omega
  rw [e, List.replicate_succ, List.take_succ_eq_append_getElem hk, List.map_append, List.set_append_right _ _ (by simp; omega)]
  simp [Nat.min_eq_left (Nat.le_of_lt hk)]

end Go.Proofs.YtafpecdmaogohaaGreat

namespace Go.Proofs.YtafpecdmaogohaaGreat
open Go.RowKit
set_option linter.unusedVariables false
set_option linter.unusedSimpArgs false
set_option maxRecDepth 20000


abbrev WtsI (w : World) (v : Value) (l : List Int) : Prop := Seq (Value.int .i64) w v l

/-- The block of a variable that holds a weighted relation. -/
def BoxWI (w : World) (b : Nat) (x y z : Value) : Prop := w.heap[b]? = some (.cells #[x, y, z] 35 (0, 0))
theorem BoxWI.lt {w : World} {b : Nat} {x y z : Value} (h : BoxWI w b x y z) : b < w.heap.size := by
  rcases Nat.lt_or_ge b w.heap.size with hl | hl
  · exact hl
  · unfold BoxWI at h; rw [Array.getElem?_eq_none hl] at h; cases h
theorem BoxWI.cell0 {w : World} {b : Nat} {x y z : Value} (h : BoxWI w b x y z) : w.cell? ⟨b, 0, none⟩ = some x := by unfold BoxWI at h; simp only [World.cell?, h]; simp
theorem BoxWI.cell1 {w : World} {b : Nat} {x y z : Value} (h : BoxWI w b x y z) : w.cell? ⟨b, 1, none⟩ = some y := by unfold BoxWI at h; simp only [World.cell?, h]; simp
theorem BoxWI.cell2 {w : World} {b : Nat} {x y z : Value} (h : BoxWI w b x y z) : w.cell? ⟨b, 2, none⟩ = some z := by unfold BoxWI at h; simp only [World.cell?, h]; simp
theorem BoxWI.frozen {w : World} {b : Nat} {x y z : Value} (h : BoxWI w b x y z) (i : Nat) : w.frozen? ⟨b, i, none⟩ = false := frozen_of_row w b i _ _ h
theorem BoxWI.new (w : World) (x y z : Value) : BoxWI (w.alloc (.cells #[x, y, z] 35)) w.heap.size x y z := heap_alloc_new w _
theorem BoxWI.below {w w' : World} {b B : Nat} {x y z : Value} (h : BoxWI w b x y z) (hb : Below B w w') (hB : b < B) : BoxWI w' b x y z := by
  unfold BoxWI at *; rw [hb.block b hB]; exact h
theorem BoxWI.belowH {w w' : World} {b : Nat} {x y z : Value} (h : BoxWI w b x y z) (hb : Below w.heap.size w w') : BoxWI w' b x y z := h.below hb h.lt
theorem BoxWI.push {w : World} {b : Nat} {x y z : Value} (h : BoxWI w b x y z) (o : Obj) : BoxWI (w.alloc o) b x y z := h.belowH ((Below.refl _ _).alloc (Nat.le_refl _) o)
theorem BoxWI.grew {w w' : World} {b B : Nat} {x y z v v' : Value} (h : BoxWI w b x y z) (g : Grew B w w' v v') (hne : v.ownBlock ≠ some b) : BoxWI w' b x y z := by
  have hl := h.lt
  unfold BoxWI at *
  rw [g.by_.block b hl (fun e => hne e.symm)]; exact h
theorem BoxWI.set {w : World} {b : Nat} {x y z : Value} (h : BoxWI w b x y z) (x' y' z' : Value) : BoxWI (((w.setCell ⟨b, 0, none⟩ x').setCell ⟨b, 1, none⟩ y').setCell ⟨b, 2, none⟩ z') b x' y' z' := by
  unfold BoxWI at *
  have h1 := heap_setCell_same w b 0 _ _ x' h
  have h2 := heap_setCell_same _ b 1 _ _ y' h1
  rw [heap_setCell_same _ b 2 _ _ z' h2]; simp
theorem BoxWI.set1 {w : World} {b : Nat} {x y z : Value} (h : BoxWI w b x y z) (y' : Value) : BoxWI (w.setCell ⟨b, 1, none⟩ y') b x y' z := by
  unfold BoxWI at *
  rw [heap_setCell_same w b 1 _ _ y' h]; simp
theorem BoxWI.set2 {w : World} {b : Nat} {x y z : Value} (h : BoxWI w b x y z) (z' : Value) : BoxWI (w.setCell ⟨b, 2, none⟩ z') b x y z' := by
  unfold BoxWI at *
  rw [heap_setCell_same w b 2 _ _ z' h]; simp
theorem BoxWI.keep {w : World} {b : Nat} {x y z : Value} (h : BoxWI w b x y z) {c i : Nat} (hne : b ≠ c) (u : Value) : BoxWI (w.setCell ⟨c, i, none⟩ u) b x y z := by
  unfold BoxWI at *
  rw [heap_setCell_other w ⟨c, i, none⟩ b u hne]; exact h

/-- The value v reads as the rows ll over s, which weigh ws. -/
def WVI (w : World) (v : Value) (s : List Int) (ll : List (List Int)) (ws : List Int) : Prop := ∃ vs vr vw, v = .agg #[vs, vr, vw] ∧ Ints w vs s ∧ Tups w vr ll ∧ WtsI w vw ws
theorem WVI.below {w w' : World} {v : Value} {s : List Int} {ll : List (List Int)} {ws : List Int} (h : WVI w v s ll ws) (hb : Below w.heap.size w w') : WVI w' v s ll ws := by
  obtain ⟨vs, vr, vw, rfl, h1, h2, h3⟩ := h
  exact ⟨vs, vr, vw, rfl, h1.below hb, h2.below hb, h3.below hb⟩
theorem WVI.form {w : World} {v : Value} {s : List Int} {ll : List (List Int)} {ws : List Int} (h : WVI w v s ll ws) :
    ∃ a ca b cb d cd, v = .agg #[.slice a s.length ca, .slice b ll.length cb, .slice d ws.length cd] ∧ ca ≤ maxLen ∧ cb ≤ maxLen ∧ cd ≤ maxLen ∧ ws.length ≤ cd ∧ Ints w (.slice a s.length ca) s ∧ Tups w (.slice b ll.length cb) ll ∧ WtsI w (.slice d ws.length cd) ws := by
  obtain ⟨vs, vr, vw, rfl, h1, h2, h3⟩ := h
  obtain ⟨a, ca, rfl, k1, k2⟩ := h1.form
  obtain ⟨b, cb, rfl, k3, k4⟩ := h2.form
  obtain ⟨d, cd, rfl, k5, k6⟩ := h3.form
  exact ⟨a, ca, b, cb, d, cd, rfl, k2, k4, k6, k5, h1, h2, h3⟩
theorem WVI.rel {w : World} {x y z : Value} {s : List Int} {ll : List (List Int)} {ws : List Int} (h : WVI w (.agg #[x, y, z]) s ll ws) : RelV w (.agg #[x, y]) s ll := by
  obtain ⟨vs, vr, vw, e, h1, h2, h3⟩ := h
  cases e
  exact ⟨_, _, rfl, h1, h2⟩

theorem Tryz.infoWI : (Tryz.prog.info? 2).map (fun i => (i.zero, i.size, i.bytes)) = some (some (.int .i64 0), 1, 8) := by kernel_rfl
abbrev OwnWI (B : Nat) (w : World) (v : Value) (l : List Int) : Prop := w.ownsRow B 2 1 v l.length (l.map (Value.int .i64))

theorem op_app_wI {w : World} {o : Oper} {a : Act} {K : Act → World → Prop} {Q : Exit → Act → World → Prop} (s x : Operand)
    (ho : o.op = .call { callee := .builtin .append, args := #[s, x], argTypes := #[24, 24] }) {B : Nat} {v : Value} {l : List Int} {y : Int} (hown : OwnWI B w v l) (hs : a.eval s = v) (hB : B ≤ w.heap.size)
    (hx : a.eval x = .slice (some ⟨w.heap.size, 0, none⟩) 1 1) (hlen : l.length < 100000000000)
    (h : ∀ v' w', OwnWI B w' v' (l ++ [y]) → Grew B w w' v v' → K (a.put o.dst v') w') :
    o.wp Tryz.prog a (w.alloc (.cells #[(Value.int .i64) y] 2)) K Q :=
  op_app_one Tryz.underlying24 Tryz.infoWI rfl (by decide) s x ho hown hs hB hx rfl hlen h
theorem wp_app_wI {w : World} {ops : Array Oper} {rest : List Oper} {o : Oper} {a : Act} {Q : Exit → Act → World → Prop} (hgd : o.guard = none) (s x : Operand)
    (ho : o.op = .call { callee := .builtin .append, args := #[s, x], argTypes := #[24, 24] }) {B : Nat} {v : Value} {l : List Int} {y : Int} (hown : OwnWI B w v l) (hs : a.eval s = v) (hB : B ≤ w.heap.size)
    (hx : a.eval x = .slice (some ⟨w.heap.size, 0, none⟩) 1 1) (hlen : l.length < 100000000000)
    (h : ∀ v' w', OwnWI B w' v' (l ++ [y]) → Grew B w w' v v' → wpList Tryz.prog ops Q rest (a.put o.dst v') w') :
    wpList Tryz.prog ops Q (o :: rest) a (w.alloc (.cells #[(Value.int .i64) y] 2)) :=
  wpList_plain hgd fun _ hK => op_app_wI s x ho hown hs hB hx hlen fun v' w' h1 h2 => hK _ _ (h v' w' h1 h2)

theorem wp_make_wI {w : World} {ops : Array Oper} {rest : List Oper} {o : Oper} {a : Act} {Q : Exit → Act → World → Prop} (hgd : o.guard = none) (l c : Operand) (ho : o.op = Op.makeSlice 24 l c) {B : Nat} (hB : B ≤ w.heap.size)
    {n : Nat} (hl : a.eval l = .int .i64 (n : Int)) (hc : a.eval c = .int .i64 (n : Int)) (hlen : n < 1000000000)
    (h : ∀ w', OwnWI B w' (.slice (some ⟨w.heap.size, 0, none⟩) n n) (List.replicate n (0 : Int)) → Below w.heap.size w w' → wpList Tryz.prog ops Q rest (a.put o.dst (.slice (some ⟨w.heap.size, 0, none⟩) n n)) w') :
    wpList Tryz.prog ops Q (o :: rest) a w := by
  obtain ⟨i, hi, hz0, hz1, hz2⟩ := info_parts Tryz.infoWI
  refine wpList_make_full w hgd l c 24 ho B 2 i (.int .i64 0) 1 Tryz.underlying24 hi hz0 hz1 .i64 .i64 _ _ n hl hc rfl rfl (by rw [hz2]; omega) (by unfold maxLen; omega) hB ?_
  intro w' hown hg
  refine h w' ?_ ⟨hg.os, hg.tape, hg.output, hg.size, fun k hk => hg.block k hk (by simp)⟩
  have : (madeCells (Value.cells (.int .i64 0)) (n * 1)).toList = (List.replicate n (0 : Int)).map (Value.int .i64) := by
    rw [show (Value.cells (.int .i64 0)) = #[(.int .i64 0)] from rfl, toList_madeCells_one]; simp
  rw [this] at hown
  simpa [OwnWI] using hown

theorem own_setWI {B : Nat} {w : World} {g n c : Nat} {l : List Int} (h : OwnWI B w (.slice (some ⟨g, 0, none⟩) n c) l) (hn : n = l.length) {i : Nat} (hi : i < n) (y : Int) :
    (∃ u, w.cell? ⟨g, i, none⟩ = some u) ∧ w.frozen? ⟨g, i, none⟩ = false ∧ OwnWI B (w.setCell ⟨g, i, none⟩ ((Value.int .i64) y)) (.slice (some ⟨g, 0, none⟩) n c) (l.set i y) ∧ Below B w (w.setCell ⟨g, i, none⟩ ((Value.int .i64) y)) := by
  subst hn
  obtain ⟨h1, h2, h3, h4⟩ := own_set h hi ((Value.int .i64) y)
  refine ⟨h1, h2, ?_, h4⟩
  simpa [OwnWI, List.map_set] using h3

end Go.Proofs.YtafpecdmaogohaaGreat

namespace Go.Proofs.YtafpecdmaogohaaGreat
open Go.RowKit
set_option linter.unusedVariables false
set_option linter.unusedSimpArgs false
set_option maxRecDepth 20000

def encC (p : Nat × Nat) : Value := .complex .f64 p.1 p.2

abbrev WtsC (w : World) (v : Value) (l : List (Nat × Nat)) : Prop := Seq encC w v l

/-- The block of a variable that holds a weighted relation. -/
def BoxWC (w : World) (b : Nat) (x y z : Value) : Prop := w.heap[b]? = some (.cells #[x, y, z] 48 (0, 0))
theorem BoxWC.lt {w : World} {b : Nat} {x y z : Value} (h : BoxWC w b x y z) : b < w.heap.size := by
  rcases Nat.lt_or_ge b w.heap.size with hl | hl
  · exact hl
  · unfold BoxWC at h; rw [Array.getElem?_eq_none hl] at h; cases h
theorem BoxWC.cell0 {w : World} {b : Nat} {x y z : Value} (h : BoxWC w b x y z) : w.cell? ⟨b, 0, none⟩ = some x := by unfold BoxWC at h; simp only [World.cell?, h]; simp
theorem BoxWC.cell1 {w : World} {b : Nat} {x y z : Value} (h : BoxWC w b x y z) : w.cell? ⟨b, 1, none⟩ = some y := by unfold BoxWC at h; simp only [World.cell?, h]; simp
theorem BoxWC.cell2 {w : World} {b : Nat} {x y z : Value} (h : BoxWC w b x y z) : w.cell? ⟨b, 2, none⟩ = some z := by unfold BoxWC at h; simp only [World.cell?, h]; simp
theorem BoxWC.frozen {w : World} {b : Nat} {x y z : Value} (h : BoxWC w b x y z) (i : Nat) : w.frozen? ⟨b, i, none⟩ = false := frozen_of_row w b i _ _ h
theorem BoxWC.new (w : World) (x y z : Value) : BoxWC (w.alloc (.cells #[x, y, z] 48)) w.heap.size x y z := heap_alloc_new w _
theorem BoxWC.below {w w' : World} {b B : Nat} {x y z : Value} (h : BoxWC w b x y z) (hb : Below B w w') (hB : b < B) : BoxWC w' b x y z := by
  unfold BoxWC at *; rw [hb.block b hB]; exact h
theorem BoxWC.belowH {w w' : World} {b : Nat} {x y z : Value} (h : BoxWC w b x y z) (hb : Below w.heap.size w w') : BoxWC w' b x y z := h.below hb h.lt
theorem BoxWC.push {w : World} {b : Nat} {x y z : Value} (h : BoxWC w b x y z) (o : Obj) : BoxWC (w.alloc o) b x y z := h.belowH ((Below.refl _ _).alloc (Nat.le_refl _) o)
theorem BoxWC.grew {w w' : World} {b B : Nat} {x y z v v' : Value} (h : BoxWC w b x y z) (g : Grew B w w' v v') (hne : v.ownBlock ≠ some b) : BoxWC w' b x y z := by
  have hl := h.lt
  unfold BoxWC at *
  rw [g.by_.block b hl (fun e => hne e.symm)]; exact h
theorem BoxWC.set {w : World} {b : Nat} {x y z : Value} (h : BoxWC w b x y z) (x' y' z' : Value) : BoxWC (((w.setCell ⟨b, 0, none⟩ x').setCell ⟨b, 1, none⟩ y').setCell ⟨b, 2, none⟩ z') b x' y' z' := by
  unfold BoxWC at *
  have h1 := heap_setCell_same w b 0 _ _ x' h
  have h2 := heap_setCell_same _ b 1 _ _ y' h1
  rw [heap_setCell_same _ b 2 _ _ z' h2]; simp
theorem BoxWC.set1 {w : World} {b : Nat} {x y z : Value} (h : BoxWC w b x y z) (y' : Value) : BoxWC (w.setCell ⟨b, 1, none⟩ y') b x y' z := by
  unfold BoxWC at *
  rw [heap_setCell_same w b 1 _ _ y' h]; simp
theorem BoxWC.set2 {w : World} {b : Nat} {x y z : Value} (h : BoxWC w b x y z) (z' : Value) : BoxWC (w.setCell ⟨b, 2, none⟩ z') b x y z' := by
  unfold BoxWC at *
  rw [heap_setCell_same w b 2 _ _ z' h]; simp
theorem BoxWC.keep {w : World} {b : Nat} {x y z : Value} (h : BoxWC w b x y z) {c i : Nat} (hne : b ≠ c) (u : Value) : BoxWC (w.setCell ⟨c, i, none⟩ u) b x y z := by
  unfold BoxWC at *
  rw [heap_setCell_other w ⟨c, i, none⟩ b u hne]; exact h

/-- The value v reads as the rows ll over s, which weigh ws. -/
def WVC (w : World) (v : Value) (s : List Int) (ll : List (List Int)) (ws : List (Nat × Nat)) : Prop := ∃ vs vr vw, v = .agg #[vs, vr, vw] ∧ Ints w vs s ∧ Tups w vr ll ∧ WtsC w vw ws
theorem WVC.below {w w' : World} {v : Value} {s : List Int} {ll : List (List Int)} {ws : List (Nat × Nat)} (h : WVC w v s ll ws) (hb : Below w.heap.size w w') : WVC w' v s ll ws := by
  obtain ⟨vs, vr, vw, rfl, h1, h2, h3⟩ := h
  exact ⟨vs, vr, vw, rfl, h1.below hb, h2.below hb, h3.below hb⟩
theorem WVC.form {w : World} {v : Value} {s : List Int} {ll : List (List Int)} {ws : List (Nat × Nat)} (h : WVC w v s ll ws) :
    ∃ a ca b cb d cd, v = .agg #[.slice a s.length ca, .slice b ll.length cb, .slice d ws.length cd] ∧ ca ≤ maxLen ∧ cb ≤ maxLen ∧ cd ≤ maxLen ∧ ws.length ≤ cd ∧ Ints w (.slice a s.length ca) s ∧ Tups w (.slice b ll.length cb) ll ∧ WtsC w (.slice d ws.length cd) ws := by
  obtain ⟨vs, vr, vw, rfl, h1, h2, h3⟩ := h
  obtain ⟨a, ca, rfl, k1, k2⟩ := h1.form
  obtain ⟨b, cb, rfl, k3, k4⟩ := h2.form
  obtain ⟨d, cd, rfl, k5, k6⟩ := h3.form
  exact ⟨a, ca, b, cb, d, cd, rfl, k2, k4, k6, k5, h1, h2, h3⟩
theorem WVC.rel {w : World} {x y z : Value} {s : List Int} {ll : List (List Int)} {ws : List (Nat × Nat)} (h : WVC w (.agg #[x, y, z]) s ll ws) : RelV w (.agg #[x, y]) s ll := by
  obtain ⟨vs, vr, vw, e, h1, h2, h3⟩ := h
  cases e
  exact ⟨_, _, rfl, h1, h2⟩

theorem Tryz.infoWC : (Tryz.prog.info? 50).map (fun i => (i.zero, i.size, i.bytes)) = some (some (.complex .f64 0 0), 1, 16) := by kernel_rfl
abbrev OwnWC (B : Nat) (w : World) (v : Value) (l : List (Nat × Nat)) : Prop := w.ownsRow B 50 1 v l.length (l.map encC)

theorem op_app_wC {w : World} {o : Oper} {a : Act} {K : Act → World → Prop} {Q : Exit → Act → World → Prop} (s x : Operand)
    (ho : o.op = .call { callee := .builtin .append, args := #[s, x], argTypes := #[46, 46] }) {B : Nat} {v : Value} {l : List (Nat × Nat)} {y : (Nat × Nat)} (hown : OwnWC B w v l) (hs : a.eval s = v) (hB : B ≤ w.heap.size)
    (hx : a.eval x = .slice (some ⟨w.heap.size, 0, none⟩) 1 1) (hlen : l.length < 100000000000)
    (h : ∀ v' w', OwnWC B w' v' (l ++ [y]) → Grew B w w' v v' → K (a.put o.dst v') w') :
    o.wp Tryz.prog a (w.alloc (.cells #[encC y] 50)) K Q :=
  op_app_one Tryz.underlying46 Tryz.infoWC rfl (by decide) s x ho hown hs hB hx rfl hlen h
theorem wp_app_wC {w : World} {ops : Array Oper} {rest : List Oper} {o : Oper} {a : Act} {Q : Exit → Act → World → Prop} (hgd : o.guard = none) (s x : Operand)
    (ho : o.op = .call { callee := .builtin .append, args := #[s, x], argTypes := #[46, 46] }) {B : Nat} {v : Value} {l : List (Nat × Nat)} {y : (Nat × Nat)} (hown : OwnWC B w v l) (hs : a.eval s = v) (hB : B ≤ w.heap.size)
    (hx : a.eval x = .slice (some ⟨w.heap.size, 0, none⟩) 1 1) (hlen : l.length < 100000000000)
    (h : ∀ v' w', OwnWC B w' v' (l ++ [y]) → Grew B w w' v v' → wpList Tryz.prog ops Q rest (a.put o.dst v') w') :
    wpList Tryz.prog ops Q (o :: rest) a (w.alloc (.cells #[encC y] 50)) :=
  wpList_plain hgd fun _ hK => op_app_wC s x ho hown hs hB hx hlen fun v' w' h1 h2 => hK _ _ (h v' w' h1 h2)

theorem wp_make_wC {w : World} {ops : Array Oper} {rest : List Oper} {o : Oper} {a : Act} {Q : Exit → Act → World → Prop} (hgd : o.guard = none) (l c : Operand) (ho : o.op = Op.makeSlice 46 l c) {B : Nat} (hB : B ≤ w.heap.size)
    {n : Nat} (hl : a.eval l = .int .i64 (n : Int)) (hc : a.eval c = .int .i64 (n : Int)) (hlen : n < 1000000000)
    (h : ∀ w', OwnWC B w' (.slice (some ⟨w.heap.size, 0, none⟩) n n) (List.replicate n ((0, 0) : Nat × Nat)) → Below w.heap.size w w' → wpList Tryz.prog ops Q rest (a.put o.dst (.slice (some ⟨w.heap.size, 0, none⟩) n n)) w') :
    wpList Tryz.prog ops Q (o :: rest) a w := by
  obtain ⟨i, hi, hz0, hz1, hz2⟩ := info_parts Tryz.infoWC
  refine wpList_make_full w hgd l c 46 ho B 50 i (.complex .f64 0 0) 1 Tryz.underlying46 hi hz0 hz1 .i64 .i64 _ _ n hl hc rfl rfl (by rw [hz2]; omega) (by unfold maxLen; omega) hB ?_
  intro w' hown hg
  refine h w' ?_ ⟨hg.os, hg.tape, hg.output, hg.size, fun k hk => hg.block k hk (by simp)⟩
  have : (madeCells (Value.cells (.complex .f64 0 0)) (n * 1)).toList = (List.replicate n ((0, 0) : Nat × Nat)).map encC := by
    rw [show (Value.cells (.complex .f64 0 0)) = #[(.complex .f64 0 0)] from rfl, toList_madeCells_one]; simp; exact .inr rfl
  rw [this] at hown
  simpa [OwnWC] using hown

theorem own_setWC {B : Nat} {w : World} {g n c : Nat} {l : List (Nat × Nat)} (h : OwnWC B w (.slice (some ⟨g, 0, none⟩) n c) l) (hn : n = l.length) {i : Nat} (hi : i < n) (y : (Nat × Nat)) :
    (∃ u, w.cell? ⟨g, i, none⟩ = some u) ∧ w.frozen? ⟨g, i, none⟩ = false ∧ OwnWC B (w.setCell ⟨g, i, none⟩ (encC y)) (.slice (some ⟨g, 0, none⟩) n c) (l.set i y) ∧ Below B w (w.setCell ⟨g, i, none⟩ (encC y)) := by
  subst hn
  obtain ⟨h1, h2, h3, h4⟩ := own_set h hi (encC y)
  refine ⟨h1, h2, ?_, h4⟩
  simpa [OwnWC, List.map_set] using h3

end Go.Proofs.YtafpecdmaogohaaGreat

namespace Go.Proofs.YtafpecdmaogohaaGreat
open Go.RowKit
set_option linter.unusedVariables false
set_option linter.unusedSimpArgs false
set_option maxRecDepth 20000

set_option maxHeartbeats 2000000 in
theorem weightAtI_any {s : List Int} {ll : List (List Int)} {ws : List Int} {p : Nat} {v : Value} {w : World} (h : WVI w v s ll ws) (hp : p < 100000000000) :
    Calls Tryz.prog 36 #[v, .int .i64 p] w fun e w' => e = .returned ((Value.int .i64) (ws.getD p (0 : Int))) ∧ Below w.heap.size w w' := by
  obtain ⟨a, ca, b, cb, d, cd, rfl, k1, k2, k3, k4, h1, h2, h3⟩ := h.form
  unfold maxLen at k3
  have hb0 := (Below.refl w.heap.size w).alloc (Nat.le_refl _) (.cells #[.slice a s.length ca, .slice b ll.length cb, .slice d ws.length cd] 35)
  by_cases hpl : p < ws.length
  · obtain ⟨bd, od, rfl, hc⟩ := (h3.below hb0).at hpl
    have HG := hide (show ws.getD p (0 : Int) = ws[p] by simp [hpl])
    clear h1 h2 h3 h
    go_enter Tryz.func36, Tryz.ntmps36
    go_wp2
    go_ret
    exact ⟨by rw [unhide HG]; rfl, hb0⟩
  · have HG := hide (show ws.getD p (0 : Int) = (0 : Int) by rw [List.getD_eq_getElem?_getD, List.getElem?_eq_none (by omega)]; rfl)
    clear h1 h2 h3 h
    go_enter Tryz.func36, Tryz.ntmps36
    go_wp2
    go_ret
    exact ⟨by rw [unhide HG]; rfl, hb0⟩

set_option maxHeartbeats 2000000 in
theorem weightOfI_any {s : List Int} {ll : List (List Int)} {ws : List Int} {t : List Int} {v vt : Value} {w : World} (h : WVI w v s ll ws) (ht : Ints w vt t) (hs : AscL ll) (hlen : ll.length < 100000000) :
    Calls Tryz.prog 40 #[v, vt] w fun e w' => e = .returned ((Value.int .i64) (ws.getD (lowN ll t) (0 : Int))) ∧ Below w.heap.size w w' := by
  obtain ⟨a, ca, b, cb, d, cd, rfl, k1, k2, k3, k4, h1, h2, h3⟩ := h.form
  obtain ⟨a', ca', rfl, _, _⟩ := ht.form
  have hb0 := (Below.refl w.heap.size w).alloc (Nat.le_refl _) (.cells #[.slice a s.length ca, .slice b ll.length cb, .slice d ws.length cd] 35)
  have HF := hide (find_any (h2.below hb0) (ht.below hb0) hs (by omega))
  have hl := lowN_le ll t
  have HA := hide (fun W (hb : Below w.heap.size w W) => weightAtI_any (p := lowN ll t) (h.below hb) (by omega))
  have bx := BoxWI.new w (.slice a s.length ca) (.slice b ll.length cb) (.slice d ws.length cd)
  generalize lowN ll t = p at HF HA hl
  generalize isAt ll t p = q at HF
  clear h1 h2 h3 h ht
  go_enter Tryz.func40, Tryz.ntmps40
  go_wp2_with fail
  refine (unhide HF).mono ?_
  rintro e w1 ⟨rfl, n, hw1⟩
  have hb1 : Below w.heap.size w w1 := by rw [hw1]; exact Below.drewN1 hb0 n
  have bx1 : BoxWI w1 w.heap.size (.slice a s.length ca) (.slice b ll.length cb) (.slice d ws.length cd) := by rw [hw1]; exact bx
  clear hw1 bx
  have c0 := bx1.cell0
  have c1 := bx1.cell1
  have c2 := bx1.cell2
  clear bx1
  go_wp2_with fail
  refine (unhide HA _ hb1).mono ?_
  rintro e w2 ⟨rfl, hb2⟩
  clear c0 c1 c2
  go_wp2
  go_ret
  exact ⟨rfl, below_then hb1 hb2⟩

set_option maxHeartbeats 4000000 in
theorem weightsAtI_any {s : List Int} {ll : List (List Int)} {ws : List Int} {ps : List Int} {v vp : Value} {w : World} (h : WVI w v s ll ws) (hp : Ints w vp ps) (hpos : ∀ p ∈ ps, 0 ≤ p ∧ p < 100000000000) (hlen : ps.length < 100000000) :
    Calls Tryz.prog 21 #[v, vp] w fun e w' => ∃ u, e = .returned u ∧ WtsI w' u (ps.map fun p => ws.getD p.toNat (0 : Int)) ∧ New w.heap.size w' u ∧ Below w.heap.size w w' := by
  obtain ⟨a, ca, b, cb, d, cd, rfl, k1, k2, k3, k4, h1, h2, h3⟩ := h.form
  obtain ⟨a', ca', rfl, _, k5⟩ := hp.form
  unfold maxLen at k5
  have hb0 := (Below.refl w.heap.size w).alloc (Nat.le_refl _) (.cells #[.slice a s.length ca, .slice b ll.length cb, .slice d ws.length cd] 35)
  have bx := BoxWI.new w (.slice a s.length ca) (.slice b ll.length cb) (.slice d ws.length cd)
  have HP := hide hpos
  have HV := hide (fun W (hb : Below w.heap.size w W) (p : Nat) (hp : p < 100000000000) => weightAtI_any (p := p) (h.below hb) hp)
  have HI := hide (fun W (hb : Below w.heap.size w W) => hp.below hb)
  clear h1 h2 h3 h hp hpos
  go_enter Tryz.func21, Tryz.ntmps21
  go_wp2_with (at_make; refine wp_make_wI rfl _ _ rfl (Nat.le_refl _) rfl rfl (by omega) ?_; intro w1 hown1 hb1)
  have hbel1 := hb0.trans (hb1.mono (by simp))
  have bx1 := bx.belowH hb1
  have hown2 : OwnWI (w.heap.size + 1) w1 (.slice (some ⟨w.heap.size + 1, 0, none⟩) ps.length ps.length) (List.replicate ps.length (0 : Int)) := by simpa using hown1
  clear hown1 hb1 bx
  go_wp2
  go_loopw [6, 7, 13] (fun _ _ i wr => ∃ k : Nat, k ≤ ps.length ∧ i = .int .i64 k ∧ OwnWI (w.heap.size + 1) wr (.slice (some ⟨w.heap.size + 1, 0, none⟩) ps.length ps.length) ((ps.take k).map (fun p => ws.getD p.toNat (0 : Int)) ++ List.replicate (ps.length - k) (0 : Int)) ∧ Below w.heap.size w wr ∧ BoxWI wr w.heap.size (.slice a s.length ca) (.slice b ll.length cb) (.slice d ws.length cd)) (fun _ _ i _ => ps.length - (intOf i).toNat)
  case atStart => exact ⟨0, by omega, rfl, by simpa using hown2, hbel1, bx1⟩
  case round =>
    clear hown2 hbel1 bx1 hb0
    obtain ⟨k, hk, rfl, hown, hbel, bx⟩ := hrel
    have hz := hbel.size
    by_cases hkl : k < ps.length
    · obtain ⟨bp, op, rfl, hcp⟩ := (unhide HI _ hbel).at hkl
      obtain ⟨hp0, hp1⟩ := unhide HP _ (List.getElem_mem hkl)
      obtain ⟨p, hpe⟩ := Int.eq_ofNat_of_zero_le hp0
      have HA := hide (unhide HV _ hbel p (by omega))
      have HN := hide (set_take (f := fun p => ws.getD p.toNat (0 : Int)) (z := (0 : Int)) hkl)
      rw [hpe] at hcp
      have HPE := hide (show ws.getD ps[k].toNat (0 : Int) = ws.getD p (0 : Int) by rw [hpe]; rfl)
      rw [unhide HPE] at HN
      clear hp0 hp1 hpe
      generalize ws.getD p (0 : Int) = y at HA HN
      have c0 := bx.cell0
      have c1 := bx.cell1
      have c2 := bx.cell2
      have HB := hide bx
      clear bx HPE
      go_wp2_with fail
      refine (unhide HA).mono ?_
      rintro e w2 ⟨rfl, hb2⟩
      have hownq := own_below hown hb2
      obtain ⟨⟨old, hcell⟩, hfr, hset, hbs⟩ := own_setWI hownq (by simp; omega) (i := k) hkl y
      rw [unhide HN] at hset
      have bx3 := ((unhide HB).belowH hb2).below hbs (by omega)
      clear hown hownq c0 c1 c2 hcp
      go_wp2
      go_roundw
      case rel => exact ⟨k + 1, by omega, by go_num, hset, (below_then hbel hb2).trans (hbs.mono (by omega)), bx3⟩
      case measure => simp [intOf]; omega
    · have hkk : k = ps.length := by omega
      subst hkk
      have hown3 : OwnWI (w.heap.size + 1) wr (.slice (some ⟨w.heap.size + 1, 0, none⟩) ps.length ps.length) (ps.map fun p => ws.getD p.toNat (0 : Int)) := by
        have e : (ps.take ps.length).map (fun p => ws.getD p.toNat (0 : Int)) ++ List.replicate (ps.length - ps.length) (0 : Int) = ps.map fun p => ws.getD p.toNat (0 : Int) := by simp
        rw [e] at hown; exact hown
      have hfin := Seq.of_own hown3
      have hnw := (New.of_own hown3).grow (B' := w.heap.size) (by omega) (Nat.le_refl _)
      clear hown hown3 bx
      go_wp2
      go_ret
      exact ⟨_, rfl, hfin, hnw, hbel⟩

end Go.Proofs.YtafpecdmaogohaaGreat

namespace Go.Proofs.YtafpecdmaogohaaGreat
open Go.RowKit
set_option linter.unusedVariables false
set_option linter.unusedSimpArgs false
set_option maxRecDepth 20000

set_option maxHeartbeats 2000000 in
theorem weightAtC_any {s : List Int} {ll : List (List Int)} {ws : List (Nat × Nat)} {p : Nat} {v : Value} {w : World} (h : WVC w v s ll ws) (hp : p < 100000000000) :
    Calls Tryz.prog 60 #[v, .int .i64 p] w fun e w' => e = .returned (encC (ws.getD p ((0, 0) : Nat × Nat))) ∧ Below w.heap.size w w' := by
  obtain ⟨a, ca, b, cb, d, cd, rfl, k1, k2, k3, k4, h1, h2, h3⟩ := h.form
  unfold maxLen at k3
  have hb0 := (Below.refl w.heap.size w).alloc (Nat.le_refl _) (.cells #[.slice a s.length ca, .slice b ll.length cb, .slice d ws.length cd] 48)
  by_cases hpl : p < ws.length
  · obtain ⟨bd, od, rfl, hc⟩ := (h3.below hb0).at hpl
    have HG := hide (show ws.getD p ((0, 0) : Nat × Nat) = ws[p] by simp [hpl])
    clear h1 h2 h3 h
    go_enter Tryz.func60, Tryz.ntmps60
    go_wp2
    go_ret
    exact ⟨by rw [unhide HG]; rfl, hb0⟩
  · have HG := hide (show ws.getD p ((0, 0) : Nat × Nat) = ((0, 0) : Nat × Nat) by rw [List.getD_eq_getElem?_getD, List.getElem?_eq_none (by omega)]; rfl)
    clear h1 h2 h3 h
    go_enter Tryz.func60, Tryz.ntmps60
    go_wp2
    go_ret
    exact ⟨by rw [unhide HG]; rfl, hb0⟩

set_option maxHeartbeats 2000000 in
theorem weightOfC_any {s : List Int} {ll : List (List Int)} {ws : List (Nat × Nat)} {t : List Int} {v vt : Value} {w : World} (h : WVC w v s ll ws) (ht : Ints w vt t) (hs : AscL ll) (hlen : ll.length < 100000000) :
    Calls Tryz.prog 44 #[v, vt] w fun e w' => e = .returned (encC (ws.getD (lowN ll t) ((0, 0) : Nat × Nat))) ∧ Below w.heap.size w w' := by
  obtain ⟨a, ca, b, cb, d, cd, rfl, k1, k2, k3, k4, h1, h2, h3⟩ := h.form
  obtain ⟨a', ca', rfl, _, _⟩ := ht.form
  have hb0 := (Below.refl w.heap.size w).alloc (Nat.le_refl _) (.cells #[.slice a s.length ca, .slice b ll.length cb, .slice d ws.length cd] 48)
  have HF := hide (find_any (h2.below hb0) (ht.below hb0) hs (by omega))
  have hl := lowN_le ll t
  have HA := hide (fun W (hb : Below w.heap.size w W) => weightAtC_any (p := lowN ll t) (h.below hb) (by omega))
  have bx := BoxWC.new w (.slice a s.length ca) (.slice b ll.length cb) (.slice d ws.length cd)
  generalize lowN ll t = p at HF HA hl
  generalize isAt ll t p = q at HF
  clear h1 h2 h3 h ht
  go_enter Tryz.func44, Tryz.ntmps44
  go_wp2_with fail
  refine (unhide HF).mono ?_
  rintro e w1 ⟨rfl, n, hw1⟩
  have hb1 : Below w.heap.size w w1 := by rw [hw1]; exact Below.drewN1 hb0 n
  have bx1 : BoxWC w1 w.heap.size (.slice a s.length ca) (.slice b ll.length cb) (.slice d ws.length cd) := by rw [hw1]; exact bx
  clear hw1 bx
  have c0 := bx1.cell0
  have c1 := bx1.cell1
  have c2 := bx1.cell2
  clear bx1
  go_wp2_with fail
  refine (unhide HA _ hb1).mono ?_
  rintro e w2 ⟨rfl, hb2⟩
  clear c0 c1 c2
  go_wp2
  go_ret
  exact ⟨rfl, below_then hb1 hb2⟩

end Go.Proofs.YtafpecdmaogohaaGreat

namespace Go.Proofs.YtafpecdmaogohaaGreat
open Go.RowKit
set_option linter.unusedVariables false
set_option linter.unusedSimpArgs false
set_option maxRecDepth 20000

def sizesW (ws : List Int) : Nat := (ws.map Int.natAbs).sum
theorem sizes_snoc (ws : List Int) (x : Int) : sizesW (ws ++ [x]) = sizesW ws + x.natAbs := by simp [sizesW]
theorem sum_snoc (ws : List Int) (x : Int) : (ws ++ [x]).sum = ws.sum + x := by simp
theorem sum_le_sizes : ∀ ws : List Int, ws.sum.natAbs ≤ sizesW ws
  | [] => by simp [sizesW]
  | x :: r => by have := sum_le_sizes r; simp only [List.sum_cons, sizesW, List.map_cons] at *; omega
theorem sizes_take (ws : List Int) (k : Nat) : sizesW (ws.take k) ≤ sizesW ws := by
  have e : sizesW (ws.take k ++ ws.drop k) = sizesW (ws.take k) + sizesW (ws.drop k) := by unfold sizesW; rw [List.map_append, List.sum_append]
  rw [List.take_append_drop] at e; omega
def sumOk (ws : List Int) : Bool := decide (sizesW ws ≤ 4611686018427387904)
def sumV (ws : List Int) : Int := if sumOk ws then ws.sum else 0

set_option maxHeartbeats 2000000 in
theorem countSum_any {ws : List Int} {v : Value} {w : World} (h : WtsI w v ws) (hf : ∀ x ∈ ws, Fits x) :
    Calls Tryz.prog 37 #[v] w fun e w' => e = .returned (.tuple #[.int .i64 (sumV ws), .bool (sumOk ws)]) ∧ w' = w := by
  obtain ⟨a, ca, rfl, hla, hca⟩ := h.form
  unfold maxLen at hca
  have HF := hide hf
  clear hf
  go_enter Tryz.func37, Tryz.ntmps37
  go_wp2
  go_loop [4, 5, 7, 10] (fun s z _ i => ∃ k : Nat, k ≤ ws.length ∧ i = .int .i64 k ∧ s = .int .i64 (ws.take k).sum ∧ z = .int .u64 (sizesW (ws.take k) : Int) ∧ sizesW (ws.take k) ≤ 4611686018427387904) (fun _ _ _ i => ws.length - (intOf i).toNat)
  case atStart => exact ⟨0, by omega, rfl, rfl, rfl, by simp [sizesW]⟩
  case round =>
    obtain ⟨k, hk, rfl, rfl, rfl, hz⟩ := hrel
    have hss := sum_le_sizes (ws.take k)
    by_cases hkl : k < ws.length
    · obtain ⟨bl, ol, rfl, hcl⟩ := h.at hkl
      have hfx := unhide HF _ (List.getElem_mem hkl)
      have HS := hide (show (ws.take (k + 1)).sum = (ws.take k).sum + ws[k] by rw [List.take_succ_eq_append_getElem hkl, sum_snoc])
      have HZ := hide (show sizesW (ws.take (k + 1)) = sizesW (ws.take k) + ws[k].natAbs by rw [List.take_succ_eq_append_getElem hkl, sizes_snoc])
      have HT := hide (sizes_take ws (k + 1))
      have HC := hide (size_any (w := w) hfx.i64)
      unfold Fits at hfx
      generalize ws[k] = x at hcl hfx HS HZ HC
      generalize (ws.take k).sum = S at hss HS
      generalize sizesW (ws.take k) = Z at hz hss HZ
      clear h
      obtain ⟨m, hm⟩ : ∃ m, m = x.natAbs := ⟨_, rfl⟩
      rw [← hm] at HC HZ
      have hmx : m ≤ 4611686018427387904 := by omega
      have HM := hide hm
      clear hm
      go_wp2_with (go_at_call 51; refine (unhide HC).mono ?_; rintro e w' ⟨rfl, rfl⟩)
      · have hbig : 4611686018427387904 < Z + m := by omega
        go_ret2
        have := unhide HT
        rw [unhide HZ] at this
        have hno : sumOk ws = false := by unfold sumOk; rw [decide_eq_false_iff_not]; omega
        refine ⟨?_, rfl⟩
        rw [show sumV ws = 0 by unfold sumV; rw [hno]; rfl, hno]
        rfl
      · go_round
        case rel => exact ⟨k + 1, by omega, by go_num, by have := unhide HM; rw [unhide HS, wrap64_id (by unfold I64; omega)], by rw [unhide HZ]; go_num, by rw [unhide HZ]; omega⟩
        case measure => simp [intOf]; omega
    · have hkk : k = ws.length := by omega
      subst hkk
      rw [List.take_length] at hz ⊢
      have hyes : sumOk ws = true := by unfold sumOk; rw [decide_eq_true_eq]; exact hz
      have HV := hide (show ws.sum = sumV ws by unfold sumV; rw [hyes]; rfl)
      have HY := hide hyes
      clear h hyes
      go_wp2
      go_ret2
      refine ⟨?_, rfl⟩
      rw [unhide HY, ← unhide HV]
      rfl

set_option maxHeartbeats 2000000 in
theorem sumI_any {ws : List Int} {v : Value} {w : World} (h : WtsI w v ws) (hf : ∀ x ∈ ws, Fits x) :
    Calls Tryz.prog 22 #[v] w fun e w' => e = .returned (.tuple #[.int .i64 (sumV ws), .bool (sumOk ws)]) ∧ w' = w := by
  obtain ⟨a, ca, rfl, hla, hca⟩ := h.form
  have HC := hide (countSum_any h hf)
  have ha := assert_l64
  have hb := assert_i64'
  clear h hf
  go_enter Tryz.func22, Tryz.ntmps22
  go_wp2_with (go_at_call 37; refine (unhide HC).mono ?_; rintro e w' ⟨rfl, rfl⟩)
  go_ret2
  exact ⟨rfl, rfl⟩

/-- The least of these; 0 of none. -/
def leastV : List Int → Int
  | [] => 0
  | x :: r => r.foldl min x

set_option maxHeartbeats 2000000 in
theorem min_any {ws : List Int} {v : Value} {w : World} (h : WtsI w v ws) (hne : 0 < ws.length) :
    Calls Tryz.prog 35 #[v] w fun e w' => e = .returned (.int .i64 (leastV ws)) ∧ w' = w := by
  obtain ⟨a, ca, rfl, hla, hca⟩ := h.form
  unfold maxLen at hca
  obtain ⟨b0, o0, rfl, hc0⟩ := h.at hne
  rw [Nat.add_zero] at hc0
  have hn1 : ¬ ((ws.length : Int) < 1) := by omega
  go_enter Tryz.func35, Tryz.ntmps35
  go_wp2
  go_loop [3, 4] (fun m i => ∃ k : Nat, 1 ≤ k ∧ k ≤ ws.length ∧ i = .int .i64 k ∧ m = .int .i64 (leastV (ws.take k))) (fun _ i => ws.length - (intOf i).toNat)
  case atStart =>
    refine ⟨1, by omega, by omega, rfl, ?_⟩
    cases ws with
    | nil => simp at hne
    | cons x r => rfl
  case round =>
    obtain ⟨k, hk1, hk, rfl, rfl⟩ := hrel
    by_cases hkl : k < ws.length
    · obtain ⟨bl, ol, e1, hcl⟩ := h.at hkl
      cases e1
      have HN := hide (show leastV (ws.take (k + 1)) = min (leastV (ws.take k)) ws[k] by
        rw [List.take_succ_eq_append_getElem hkl]
        cases hq : ws.take k with
        | nil => have := congrArg List.length hq; rw [List.length_take] at this; simp only [List.length_nil] at this; omega
        | cons x r => simp [leastV, List.foldl_append])
      generalize leastV (ws.take k) = m at HN
      generalize ws[k] = x at hcl HN
      clear h hc0
      go_wp2
      all_goals
        go_round
        case rel => exact ⟨k + 1, by omega, by omega, by go_num, by rw [unhide HN]⟩
        case measure => simp [intOf]; omega
    · have hkk : k = ws.length := by omega
      subst hkk
      rw [List.take_length]
      clear h hc0
      go_wp2
      go_ret
      exact ⟨rfl, rfl⟩

set_option maxHeartbeats 2000000 in
theorem least_any {ws : List Int} {v : Value} {w : World} (h : WtsI w v ws) :
    Calls Tryz.prog 20 #[v] w fun e w' => e = .returned (.int .i64 (leastV ws)) ∧ w' = w := by
  obtain ⟨a, ca, rfl, hla, hca⟩ := h.form
  unfold maxLen at hca
  by_cases h0 : ws.length = 0
  · have h1 : ((ws.length : Int) == 0) = true := by simp [h0]
    have e : leastV ws = 0 := by rw [List.length_eq_zero_iff.1 h0]; rfl
    rw [e]
    clear h e
    go_enter Tryz.func20, Tryz.ntmps20
    go_wp2
    go_ret
    exact ⟨rfl, rfl⟩
  · have h1 : ((ws.length : Int) == 0) = false := by rw [beq_eq_false_iff_ne]; omega
    have HC := hide (min_any h (by omega))
    clear h h0
    go_enter Tryz.func20, Tryz.ntmps20
    go_wp2_with (go_at_call 35; refine (unhide HC).mono ?_; rintro e w' ⟨rfl, rfl⟩)
    go_ret
    exact ⟨rfl, rfl⟩

end Go.Proofs.YtafpecdmaogohaaGreat

namespace Go.Proofs.YtafpecdmaogohaaGreat
open Go.RowKit
set_option linter.unusedVariables false
set_option linter.unusedSimpArgs false
set_option maxRecDepth 20000

theorem run_store_float (P : Program) (w : World) (a : Addr) (m : Mode) (k : FloatKind) (b : Nat) : (store a (.float k b) m).run P w = stored P w a (.float k b) m := run_store P w a _ m rfl
theorem run_store_complex (P : Program) (w : World) (a : Addr) (m : Mode) (k : FloatKind) (b c : Nat) : (store a (.complex k b c) m).run P w = stored P w a (.complex k b c) m := run_store P w a _ m rfl
attribute [local go_sem] run_store_float run_store_complex

theorem fbits (b : Nat) (w : World) : (callFunc 69 #[.float .f64 b]).run Tryz.prog w = .ok (.value (.int .u64 b)) w := by kernel_rfl
theorem ffrom (b : Nat) (w : World) : (callFunc 68 #[.int .u64 b]).run Tryz.prog w = .ok (.value (.float .f64 b)) w := by kernel_rfl

set_option maxHeartbeats 1000000 in
theorem abs_at {b c : Nat} {w : World} (h : (bits .andNot .u64 b 9223372036854775808) = c) : Calls Tryz.prog 52 #[.float .f64 b] w fun e w' => e = .returned (.float .f64 c) ∧ w' = w := by
  have h1 := fbits
  have h2 := ffrom
  go_enter Tryz.func52, Tryz.ntmps52
  go_wp2
  go_ret
  exact ⟨rfl, rfl⟩

set_option maxHeartbeats 1000000 in
theorem trunc_at {b c : Nat} {w : World} (h : ∀ w, (callFunc 92 #[.float .f64 b]).run Tryz.prog w = .ok (.value (.float .f64 c)) w) : Calls Tryz.prog 70 #[.float .f64 b] w fun e w' => e = .returned (.float .f64 c) ∧ w' = w := by
  go_enter Tryz.func70, Tryz.ntmps70
  go_wp2
  go_ret
  exact ⟨rfl, rfl⟩

set_option maxHeartbeats 1000000 in
/-- A whole number of few digits is a part that fits. -/
theorem part_at {b c : Nat} {w : World} (h : (bits .andNot .u64 b 9223372036854775808) = c) (hlt : FloatKind.f64.format.order c 4845873199050653696 = some Ordering.lt) (ht : ∀ w, (callFunc 92 #[.float .f64 b]).run Tryz.prog w = .ok (.value (.float .f64 b)) w) (heq : FloatKind.f64.format.order b b = some Ordering.eq) :
    Calls Tryz.prog 53 #[.float .f64 b] w fun e w' => e = .returned (.bool true) ∧ w' = w := by
  have HA := hide (abs_at (w := w) h)
  have HT := hide (trunc_at (w := w) ht)
  clear h ht
  go_enter Tryz.func53, Tryz.ntmps53
  go_wp2_with fail
  refine (unhide HA).mono ?_
  rintro e w' ⟨rfl, rfl⟩
  go_wp2_with fail
  refine (unhide HT).mono ?_
  rintro e w' ⟨rfl, rfl⟩
  go_wp2
  go_ret
  exact ⟨rfl, rfl⟩

theorem part_0 (w : World) : Calls Tryz.prog 53 #[.float .f64 0] w fun e w' => e = .returned (.bool true) ∧ w' = w :=
  part_at (c := 0) (by kernel_rfl) (by kernel_rfl) (fun _ => by kernel_rfl) (by kernel_rfl)
theorem part_4 (w : World) : Calls Tryz.prog 53 #[.float .f64 4616189618054758400] w fun e w' => e = .returned (.bool true) ∧ w' = w :=
  part_at (c := 4616189618054758400) (by kernel_rfl) (by kernel_rfl) (fun _ => by kernel_rfl) (by kernel_rfl)
theorem part_m4 (w : World) : Calls Tryz.prog 53 #[.float .f64 13839561654909534208] w fun e w' => e = .returned (.bool true) ∧ w' = w :=
  part_at (c := 4616189618054758400) (by kernel_rfl) (by kernel_rfl) (fun _ => by kernel_rfl) (by kernel_rfl)

set_option maxHeartbeats 1000000 in
theorem phaseFits_at {x y : Nat} {w : World} (hx : ∀ w, Calls Tryz.prog 53 #[.float .f64 x] w fun e w' => e = .returned (.bool true) ∧ w' = w) (hy : ∀ w, Calls Tryz.prog 53 #[.float .f64 y] w fun e w' => e = .returned (.bool true) ∧ w' = w) :
    Calls Tryz.prog 59 #[.complex .f64 x y] w fun e w' => e = .returned (.bool true) ∧ w' = w := by
  have HX := hide hx
  have HY := hide hy
  clear hx hy
  go_enter Tryz.func59, Tryz.ntmps59
  go_wp2_with fail
  refine (unhide HX _).mono ?_
  rintro e w' ⟨rfl, rfl⟩
  go_wp2_with fail
  refine (unhide HY _).mono ?_
  rintro e w' ⟨rfl, rfl⟩
  go_wp2
  go_ret
  exact ⟨rfl, rfl⟩

def FPart (x : Nat) : Prop := ∀ w, Calls Tryz.prog 53 #[.float .f64 x] w fun e w' => e = .returned (.bool true) ∧ w' = w
def FOp (o : BinOp) (x y z : Nat) : Prop := ∀ w, (binOp o 86 (.float .f64 x) (.float .f64 y)).run Tryz.prog w = .ok (.float .f64 z) w

theorem idx4_0 (p q r s : Nat) (w : World) : (Instr.index 93 (.agg #[.float .f64 p, .float .f64 q, .float .f64 r, .float .f64 s]) (.int .i64 0)).run Tryz.prog w = .ok (.float .f64 p) w := by kernel_rfl
theorem idx4_1 (p q r s : Nat) (w : World) : (Instr.index 93 (.agg #[.float .f64 p, .float .f64 q, .float .f64 r, .float .f64 s]) (.int .i64 1)).run Tryz.prog w = .ok (.float .f64 q) w := by kernel_rfl
theorem idx4_2 (p q r s : Nat) (w : World) : (Instr.index 93 (.agg #[.float .f64 p, .float .f64 q, .float .f64 r, .float .f64 s]) (.int .i64 2)).run Tryz.prog w = .ok (.float .f64 r) w := by kernel_rfl
theorem idx4_3 (p q r s : Nat) (w : World) : (Instr.index 93 (.agg #[.float .f64 p, .float .f64 q, .float .f64 r, .float .f64 s]) (.int .i64 3)).run Tryz.prog w = .ok (.float .f64 s) w := by kernel_rfl

set_option maxHeartbeats 8000000 in
theorem phase_at {a b c d p q r s t t' v v' : Nat} {w : World} (h1 : FOp .mul a c p) (h2 : FOp .mul b d q) (h3 : FOp .mul a d r) (h4 : FOp .mul b c s) (h5 : FOp .sub p q t) (h6 : FOp .add t 0 t') (h7 : FOp .add r s v) (h8 : FOp .add v 0 v') (f1 : FPart p) (f2 : FPart q) (f3 : FPart r) (f4 : FPart s) (f5 : FPart t') (f6 : FPart v') :
    Calls Tryz.prog 42 #[.complex .f64 a b, .complex .f64 c d] w fun e w' => e = .returned (.tuple #[.complex .f64 t' v', .bool true]) ∧ Below w.heap.size w w' := by
  have hb0 := (Below.refl w.heap.size w).alloc (Nat.le_refl _) (.cells #[.float .f64 p, .float .f64 q, .float .f64 r, .float .f64 s] 93)
  have F1 := hide f1
  have F2 := hide f2
  have F3 := hide f3
  have F4 := hide f4
  have F5 := hide (fun w => phaseFits_at (w := w) f5 f6)
  have i0 := idx4_0
  have i1 := idx4_1
  have i2 := idx4_2
  have i3 := idx4_3
  unfold FOp at *
  clear f1 f2 f3 f4 f5 f6
  go_enter Tryz.func42, Tryz.ntmps42
  go_wp2
  go_loopw [8, 32] (fun _ i wr => (i = .int .i64 0 ∨ i = .int .i64 1 ∨ i = .int .i64 2 ∨ i = .int .i64 3 ∨ i = .int .i64 4) ∧ wr = w.alloc (.cells #[.float .f64 p, .float .f64 q, .float .f64 r, .float .f64 s] 93)) (fun _ i _ => 4 - (intOf i).toNat)
  case atStart => exact ⟨.inl rfl, rfl⟩
  case round =>
    obtain ⟨hi, hwr⟩ := hrel
    subst hwr
    rcases hi with rfl | rfl | rfl | rfl | rfl
    · go_wp2_with fail
      refine (unhide F1 _).mono ?_
      rintro e w' ⟨rfl, hw'⟩
      subst hw'
      go_wp2
      go_roundw
      case rel => exact ⟨.inr (.inl rfl), trivial⟩
      case measure => simp [intOf]
    · go_wp2_with fail
      refine (unhide F2 _).mono ?_
      rintro e w' ⟨rfl, hw'⟩
      subst hw'
      go_wp2
      go_roundw
      case rel => exact ⟨.inr (.inr (.inl rfl)), trivial⟩
      case measure => simp [intOf]
    · go_wp2_with fail
      refine (unhide F3 _).mono ?_
      rintro e w' ⟨rfl, hw'⟩
      subst hw'
      go_wp2
      go_roundw
      case rel => exact ⟨.inr (.inr (.inr (.inl rfl))), trivial⟩
      case measure => simp [intOf]
    · go_wp2_with fail
      refine (unhide F4 _).mono ?_
      rintro e w' ⟨rfl, hw'⟩
      subst hw'
      go_wp2
      go_roundw
      case rel => exact ⟨.inr (.inr (.inr (.inr rfl))), trivial⟩
      case measure => simp [intOf]
    · go_wp2_with fail
      refine (unhide F5 _).mono ?_
      rintro e w' ⟨rfl, hw'⟩
      subst hw'
      go_wp2
      go_ret2
      exact ⟨rfl, hb0⟩

/-- The product of the phases 0 and 2i with each other. -/
def mulC2 (x y : Nat × Nat) : (Nat × Nat) × Bool := (if x = (0, 0) then (0, 0) else if y = (0, 0) then (0, 0) else (13839561654909534208, 0), true)

theorem assert_c (x y : Nat) (w : World) : (Instr.typeAssert (.iface 50 (.complex .f64 x y)) 20 50 true).run Tryz.prog w = .ok (.tuple #[.complex .f64 x y, .bool true]) w := by kernel_rfl
theorem assert_c' (x y : Nat) (w : World) : (Instr.typeAssert (.iface 50 (.complex .f64 x y)) 20 50 false).run Tryz.prog w = .ok (.complex .f64 x y) w := by kernel_rfl
theorem assert_cn (x y : Nat) (w : World) : (Instr.typeAssert (.iface 50 (.complex .f64 x y)) 20 2 true).run Tryz.prog w = .ok (.tuple #[.int .i64 0, .bool false]) w := by kernel_rfl

set_option maxHeartbeats 4000000 in
theorem productC_at {a b c d t v : Nat} {w : World} (h : ∀ w, Calls Tryz.prog 42 #[.complex .f64 a b, .complex .f64 c d] w fun e w' => e = .returned (.tuple #[.complex .f64 t v, .bool true]) ∧ Below w.heap.size w w') :
    Calls Tryz.prog 28 #[.complex .f64 a b, .complex .f64 c d] w fun e w' => e = .returned (.tuple #[.complex .f64 t v, .bool true]) ∧ Below w.heap.size w w' := by
  have H := hide h
  have ha := assert_c
  have hb := assert_c'
  have hc := assert_cn
  clear h
  go_enter Tryz.func28, Tryz.ntmps28
  go_wp2_with fail
  refine (unhide H _).mono ?_
  rintro e w' ⟨rfl, hb'⟩
  go_wp2
  go_ret2
  exact ⟨rfl, hb'⟩

theorem FPart.p0 : FPart 0 := part_0
theorem FPart.p4 : FPart 4616189618054758400 := part_4
theorem FPart.m4 : FPart 13839561654909534208 := part_m4

/-- 2i is what these weigh, or 0. -/
theorem product2_any {x y : Nat × Nat} {w : World} (hx : x = (0, 0) ∨ x = (0, 4611686018427387904)) (hy : y = (0, 0) ∨ y = (0, 4611686018427387904)) :
    Calls Tryz.prog 28 #[encC x, encC y] w fun e w' => e = .returned (.tuple #[encC (mulC2 x y).1, .bool (mulC2 x y).2]) ∧ Below w.heap.size w w' := by
  rcases hx with rfl | rfl <;> rcases hy with rfl | rfl
  · exact productC_at fun w => phase_at (p := 0) (q := 0) (r := 0) (s := 0) (t := 0) (t' := 0) (v := 0) (v' := 0) (fun _ => by kernel_rfl) (fun _ => by kernel_rfl) (fun _ => by kernel_rfl) (fun _ => by kernel_rfl) (fun _ => by kernel_rfl) (fun _ => by kernel_rfl) (fun _ => by kernel_rfl) (fun _ => by kernel_rfl) .p0 .p0 .p0 .p0 .p0 .p0
  · exact productC_at fun w => phase_at (p := 0) (q := 0) (r := 0) (s := 0) (t := 0) (t' := 0) (v := 0) (v' := 0) (fun _ => by kernel_rfl) (fun _ => by kernel_rfl) (fun _ => by kernel_rfl) (fun _ => by kernel_rfl) (fun _ => by kernel_rfl) (fun _ => by kernel_rfl) (fun _ => by kernel_rfl) (fun _ => by kernel_rfl) .p0 .p0 .p0 .p0 .p0 .p0
  · exact productC_at fun w => phase_at (p := 0) (q := 0) (r := 0) (s := 0) (t := 0) (t' := 0) (v := 0) (v' := 0) (fun _ => by kernel_rfl) (fun _ => by kernel_rfl) (fun _ => by kernel_rfl) (fun _ => by kernel_rfl) (fun _ => by kernel_rfl) (fun _ => by kernel_rfl) (fun _ => by kernel_rfl) (fun _ => by kernel_rfl) .p0 .p0 .p0 .p0 .p0 .p0
  · exact productC_at fun w => phase_at (p := 0) (q := 4616189618054758400) (r := 0) (s := 0) (t := 13839561654909534208) (t' := 13839561654909534208) (v := 0) (v' := 0) (fun _ => by kernel_rfl) (fun _ => by kernel_rfl) (fun _ => by kernel_rfl) (fun _ => by kernel_rfl) (fun _ => by kernel_rfl) (fun _ => by kernel_rfl) (fun _ => by kernel_rfl) (fun _ => by kernel_rfl) .p0 .p4 .p0 .p0 .m4 .p0

end Go.Proofs.YtafpecdmaogohaaGreat
