/-
  The contract of partFrom: its walk.
-/
import Derived.Test.YtflibcfecnhjgaaDoorGPart
namespace Go.Proofs.YtflibcfecnhjgaaDoor
open Go.RowKit
set_option linter.unusedVariables false
set_option linter.unusedSimpArgs false
set_option maxRecDepth 20000

set_option maxHeartbeats 4000000 in
theorem partFrom_any {B : Nat} {g : List Nat} {S : List Bool} {a : Nat} {x vs : Value} {w : World} (hg : Words w x g) (hr : RightG g) (hT : TabD w) (hs : OwnB B w vs S) (hB : B ≤ w.heap.size) (hB0 : 0 < B)
    (hsl : S.length = g.length) (ha : a < g.length) (h0 : S.getD a false = false) (hc : ∀ x y, besB g x y = true → S.getD x false = true → S.getD y false = true) (hap : Apart x g vs) :
    Calls Tryd.prog 51 #[.agg #[x], .int .i64 (a : Int), vs] w fun e w' => ∃ v S', e = .returned v ∧ HoldsI (w.heap.size + 1) w' v (compL g a) ∧ OwnB B w' vs S' ∧ S'.length = g.length ∧
      (∀ i, S'.getD i false = true ↔ S.getD i false = true ∨ Reach g a i) ∧ Keeps (fun b => vs.ownBlock = some b) w w' := by
  have hn : g.length ≤ 64 := by have := hr.few; omega
  obtain ⟨vb, vc, rfl, hvc, hvm, hvb1, hvb2⟩ := own_someB hs (by omega)
  unfold maxLen at hvm
  rw [hsl] at hs hvc hap ⊢
  obtain ⟨W1, hW1, hb1, hz1, hx1⟩ := boxed (w := w) (x := x)
  have HG := hide (fun W (hb : Keeps (fun b => b = vb) W1 W) => hb.seq (hg.below hb1) (fun hne b h1 h2 => hap hne b h1 (by rw [h2]; rfl)))
  have HT := hide (fun W (hb : Keeps (fun b => b = vb) W1 W) => (fun i hi => hb.cell ((hT.below hb1) i hi) (fun e => by have e : 0 = vb := e; omega) : TabD W))
  have HC := hide (fun W (hb : Keeps (fun b => b = vb) W1 W) => hb.cell hx1.cell (fun e => by have e : w.heap.size = vb := e; omega))
  have hs1 := own_below hs hb1
  obtain ⟨⟨uw, hcw⟩, hfw, _, _⟩ := own_setB hs (by omega) (i := a) (by omega) true
  have hset0 := own_setB hs1 (by omega) (i := a) (by omega) true
  have HB := hide hb1
  have HW1 := hide hW1
  have HR := hide hr
  obtain ⟨ax, cx, rfl, hlx, hcx⟩ := hg.form
  have HW := hide hr.w64
  have HCL := hide hc
  clear hb1 hx1 hg hW1 hT hs hap hs1 hr hc
  have y0 := unhide HC W1 (Keeps.refl _ _)
  obtain ⟨⟨u0, hc0⟩, hf0, ho0, hb0⟩ := hset0
  have k0 : Keeps (fun b => b = vb) W1 (W1.setCell ⟨vb, a, none⟩ (.bool true)) := Keeps.grown (grown_setG _ _ _ _) (fun b e => by injection e with e; exact e.symm)
  have HO0 := hide ho0
  have HK0 := hide k0
  have hz0 : (W1.setCell ⟨vb, a, none⟩ (.bool true)).heap.size = W1.heap.size := by simp
  have HZ0 := hide hz0
  have HBS := hide (Bfs.start (g := g) (S0 := S) hsl ha h0)
  clear ho0 k0 hb0 hz0 h0
  go_enter Tryd.func51, Tryd.ntmps51
  go_wp2
  rw [← World.setCell_alloc_past _ _ _ _ hvb2, ← unhide HW1]
  generalize W1.setCell ⟨vb, a, none⟩ (.bool true) = w2 at *
  have ho2 := unhide HO0
  have hk2 := unhide HK0
  have hz2 := unhide HZ0
  have hone := own_oneI (B := W1.heap.size) (w := w2) (by omega) (a : Int)
  have hb3 : Below w2.heap.size w2 (w2.alloc (.cells #[.int .i64 (a : Int)] 3)) := (Below.refl _ _).alloc (Nat.le_refl _) _
  have ho3 := own_below ho2 hb3
  have hk3 := hk2.then (Keeps.belowW (X := fun b => b = vb) hb3)
  clear ho2 hk2 hb3 HO0 HK0 HZ0 hc0 hf0 y0
  go_loopw [7, 8] (fun v i wr => ∃ (P : List Int) (S' : List Bool) (k : Nat), i = .int .i64 k ∧ k ≤ P.length ∧ OwnI W1.heap.size wr v P ∧ OwnB B wr (.slice (some ⟨vb, 0, none⟩) g.length vc) S' ∧ Hid (Bfs g S a S' P ∧ GoneTo g S' P k) ∧ Keeps (fun b => b = vb) W1 wr) (fun _ i _ => g.length - (intOf i).toNat)
  case atStart => exact ⟨[(a : Int)], S.set a true, 0, rfl, by simp, (by have h := hone; rw [hz2, hz1] at h; rw [hz1]; exact h), ho3, hide ⟨unhide HBS, fun i hi => by omega⟩, hk3⟩
  case round =>
    clear hone ho3 hk3 HBS
    obtain ⟨P, S', k, rfl, hk, hown, hoB, HQ, hkp⟩ := hrel
    rename World => wr
    have hzr := hkp.size
    have hPn := (unhide HQ).1.few (unhide HR)
    obtain ⟨pa, pc, rfl, hpl, hpc⟩ := (Seq.of_own hown).form
    unfold maxLen at hpc
    have y0 := unhide HC wr hkp
    by_cases hkl : k < P.length
    · obtain ⟨bp, op, e1, q1⟩ := (Seq.of_own hown).at hkl
      subst e1
      have HD := hide (fun W (hb : Below wr.heap.size wr W) => And.intro (Below.cell_of hb y0) (Below.cell_of hb q1))
      have HGW := hide (fun W (hb : Below wr.heap.size wr W) => neighbors_any (a := P[k]) (unhide HG W (hkp.then (Keeps.belowW hb))) hn (unhide HW) (unhide HT W (hkp.then (Keeps.belowW hb))))
      have HAT : Hid (P.getD k 0 = P[k]) := hide (by rw [List.getD_eq_getElem?_getD, List.getElem?_eq_getElem hkl]; rfl)
      obtain ⟨p, hp⟩ : ∃ p, p = P[k] := ⟨_, rfl⟩
      rw [← hp] at HAT HGW
      have HD' : Hid (∀ W, Below wr.heap.size wr W → W.cell? ⟨w.heap.size, 0, none⟩ = some (.slice ax g.length cx) ∧ W.cell? ⟨bp, op + k, none⟩ = some (.int .i64 p)) := by rw [hp]; exact HD
      rw [← hp] at q1
      have HO := hide hown
      have HOB := hide hoB
      clear hp HD hown hoB
      go_wp2
      have hbR : Below wr.heap.size wr wr.drew := drewB
      go_region_held3 (fun W => W.cell? ⟨w.heap.size, 0, none⟩ = some (.slice ax g.length cx) ∧ W.cell? ⟨bp, op + k, none⟩ = some (.int .i64 p))
        (first | exact unhide HD' _ (by first | exact hB3 | exact hbR | exact below_same rfl rfl rfl rfl))
        (first
          | (go_at_call 31; refine (unhide HGW _ (by first | exact hbR | exact below_same rfl rfl rfl rfl)).mono ?_; rintro e w3 ⟨vn, rfl, hownN, hb3⟩; have hB3 : Below wr.heap.size wr w3 := below_then (by first | exact hbR | exact below_same rfl rfl rfl rfl) hb3; obtain ⟨an, cn, rfl, hln, hcn⟩ := (Seq.of_own hownN).form))
      all_goals
        unfold maxLen at hcn
        have hz3 := hB3.size
        have hN : ∃ N, N = nbL g p := ⟨_, rfl⟩
        obtain ⟨N, hN⟩ := hN
        rw [← hN] at hownN hln ⊢
        have hownN2 : OwnI wr.heap.size w3 (.slice an N.length cn) N := own_mono hownN (by exact Nat.le_refl _)
        have hP3 := own_below (unhide HO) hB3
        have hS3 := own_below (unhide HOB) hB3
        have hk3 := hkp.then (Keeps.belowW (X := fun b => b = vb) hB3)
        have hnI := Seq.of_own hownN2
        have hapN : Apart (.slice an N.length cn) N (.slice (some ⟨bp, op, none⟩) P.length pc) := fun _ b h1 h2 => by
          have h3 := hownN2.lt b h1
          have h4 := (unhide HO).lt b h2
          omega
        have HNG := hide (fun b hb => (hownN2.lt b hb).1)
        have HNE := hide hN
        have hin : BfsIn g S a k p N S' P 0 := ⟨(unhide HQ).1, (unhide HQ).2, unhide HAT, hkl, fun i h hi => by omega⟩
        have HIN := hide hin
        clear hin hN hownN hownN2 hB3 hbR HO HOB y0 q1 HD' HGW HAT HQ
        go_wp2
        go_loopw [7, 29] (fun v j wq => ∃ (P : List Int) (S' : List Bool) (m : Nat), j = .int .i64 m ∧ m ≤ N.length ∧ OwnI W1.heap.size wq v P ∧ OwnB B wq (.slice (some ⟨vb, 0, none⟩) g.length vc) S' ∧ Ints wq (.slice an N.length cn) N ∧ Apart (.slice an N.length cn) N v ∧ Hid (BfsIn g S a k p N S' P m) ∧ Keeps (fun b => b = vb) W1 wq) (fun _ j _ => N.length - (intOf j).toNat)
        case atStart => exact ⟨P, S', 0, rfl, by omega, hP3, hS3, hnI, hapN, HIN, hk3⟩
        case round =>
          clear hP3 hS3 hnI hapN HIN hk3
          obtain ⟨P2, S2, m, rfl, hm, hown, hoB, hnI, hapN, HIN, hkq⟩ := hrel
          rename World => wq
          have hzq := hkq.size
          have hPn2 := (unhide HIN).bfs.few (unhide HR)
          have hSl2 := (unhide HIN).bfs.len
          obtain ⟨pa, pc2, rfl, hpl2, hpc2⟩ := (Seq.of_own hown).form
          unfold maxLen at hpc2
          by_cases hml : m < N.length
          · obtain ⟨bn, on, e2, q3⟩ := hnI.at hml
            subst e2
            have hmem : N[m] ∈ nbL g p := by rw [← unhide HNE]; exact List.getElem_mem _
            obtain ⟨hpt1, hpt2, hpt3⟩ := mem_nbL'.1 hmem
            have hb' := ptB_iff.1 hpt2
            obtain ⟨b, hb⟩ : ∃ b : Nat, N[m] = (b : Int) := ⟨N[m].toNat, by omega⟩
            have hbn : b < g.length := by omega
            have hsk := (unhide HIN).skip hml
            have had := (unhide HIN).add (unhide HR) hml (unhide HNE) hb
            rw [hb] at q3 hsk
            obtain ⟨bs, os, e3, q4⟩ := (Seq.of_own hoB).at (k := b) (by omega)
            cases e3
            have hgb : S2[b]'(by omega) = S2.getD b false := by rw [List.getD_eq_getElem?_getD, List.getElem?_eq_getElem (by omega)]; rfl
            rw [hgb, Nat.zero_add] at q4
            obtain ⟨⟨_, hcu⟩, hfr, hset, hbs⟩ := own_setB hoB (by omega) (i := b) (by omega) true
            cases hsb : S2.getD b false with
            | true =>
              rw [hsb] at q4
              have HSK := hide (hsk (by simpa using hsb))
              clear hsk had hset hbs hcu hfr hmem hpt1 hpt2 hpt3 hgb hsb
              go_wp2
              go_roundw
              case rel => exact ⟨P2, S2, m + 1, by go_num, by omega, hown, hoB, hnI, hapN, HSK, hkq⟩
              case measure => simp [intOf]; omega
            | false =>
              rw [hsb] at q4
              have HAD := hide (had hsb)
              have gr := grown_setG wq vb b (.bool true)
              have hP5 : OwnI W1.heap.size (wq.setCell ⟨vb, b, none⟩ (.bool true)) (.slice pa P2.length pc2) P2 := own_same hown (fun b' hb' => gr.block b' (hown.lt b' hb').2 (fun e => by injection e with e; have := (hown.lt b' hb').1; omega))
              have hkq5 := hkq.then (Keeps.grown (X := fun b => b = vb) gr (fun b e => by injection e with e; exact e.symm))
              have hnI5 : Ints (wq.setCell ⟨vb, b, none⟩ (.bool true)) (.slice (some ⟨bn, on, none⟩) N.length cn) N := (Keeps.grown (X := fun b => b = vb) gr (fun b e => by injection e with e; exact e.symm)).seq hnI (fun _ g' h1 h2 => by have := unhide HNG g' h1; have h2 : g' = vb := h2; omega)
              have HS5 := hide hset
              have hz5 : (wq.setCell ⟨vb, b, none⟩ (.bool true)).heap.size = wq.heap.size := by simp
              have HN5 := hide hnI5
              have HP5 := hide hP5
              have HK5 := hide hkq5
              have HAP := hide hapN
              clear hsk had hset hbs hmem hpt1 hpt2 hpt3 hgb hsb gr hP5 hnI5 hkq5 hnI hown hoB hapN HIN hkq
              go_wp2_with (at_builtin; refine wp_app_int rfl (.tmp 41) (.tmp 43) rfl (B := W1.heap.size) (unhide HP5) rfl (by omega) (by rw [hz5]; rfl) (by omega) ?_; intro v6 w6 hown6 hg6)
              go_roundw
              case rel =>
                have hneq : ∀ b' : Nat, (Value.slice (some ⟨vb, 0, none⟩) g.length vc).ownBlock = some b' → some b' = (Value.slice pa P2.length pc2).ownBlock → False := fun b' hb' e => by
                  have e2 : vb = b' := by simpa [Value.ownBlock] using hb'
                  have := (unhide HP5).lt b' e.symm
                  omega
                have hS6 : OwnB B w6 (.slice (some ⟨vb, 0, none⟩) g.length vc) (S2.set b true) := own_same (unhide HS5) (fun b' hb' => hg6.by_.block b' (by have := (unhide HS5).lt b' hb'; exact this.2) (fun e => hneq b' hb' e))
                exact ⟨P2 ++ [(b : Int)], S2.set b true, m + 1, by go_num, by omega, hown6, hS6, (unhide HN5).grew hg6 (unhide HAP), (unhide HAP).grew (unhide HN5) hg6, HAD, (unhide HK5).thenB hg6.below⟩
              case measure => simp [intOf]; omega
          · have hmN : m = N.length := by omega
            subst hmN
            have HG2 := hide ((unhide HIN).next (unhide HNE))
            have HB2 := hide (unhide HIN).bfs
            have hlt := (unhide HIN).lt
            clear HIN hnI hapN
            go_wp2
            go_roundw
            case rel => exact ⟨P2, S2, k + 1, by go_num, by omega, hown, hoB, hide ⟨unhide HB2, unhide HG2⟩, hkq⟩
            case measure => simp [intOf]; omega
    · have hkP : k = P.length := by omega
      subst hkP
      have hdone := (unhide HQ).1.done (unhide HR) (unhide HQ).2 (unhide HCL)
      have hcomp := (unhide HQ).1.comp (unhide HR) hdone
      have HSE : Hid (∀ i, S'.getD i false = true ↔ S.getD i false = true ∨ Reach g a i) := hide (fun i => by rw [(unhide HQ).1.seen, hdone])
      have HSL := hide (unhide HQ).1.len
      have hsort := sortInts_any (HoldsI.of_own hown) (by omega) (by omega)
      rw [hcomp] at hsort
      have HSO := hide hsort
      have HOB := hide hoB
      have HKP := hide hkp
      clear hsort hcomp hdone HQ hown hoB hkp y0
      go_wp2_with fail
      refine (unhide HSO).mono ?_
      rintro e w4 ⟨rfl, hh4, hb4⟩
      have hS4 : OwnB B w4 (.slice (some ⟨vb, 0, none⟩) g.length vc) S' := own_same (unhide HOB) (fun b hb => hb4.block b (by simp [Value.ownBlock] at hb; omega))
      have hkK := unhide HKP
      have hk4 : Keeps (fun b => b = vb) W1 w4 := ⟨hb4.os.trans hkK.os, hb4.tape.trans hkK.tape, hb4.output.trans hkK.output, Nat.le_trans hkK.size hb4.size, fun k hk hx => (hb4.block k hk).trans (hkK.block k hk hx)⟩
      have hkW := (Keeps.belowW (X := fun b => b = vb) (unhide HB)).then hk4
      go_wp2
      go_ret
      exact ⟨_, S', rfl, by rw [← hz1]; exact hh4, hS4, unhide HSL, unhide HSE, ⟨hkW.os, hkW.tape, hkW.output, hkW.size, fun k hk hx => hkW.block k hk (fun e => hx (by rw [e]; rfl))⟩⟩

end Go.Proofs.YtflibcfecnhjgaaDoor
