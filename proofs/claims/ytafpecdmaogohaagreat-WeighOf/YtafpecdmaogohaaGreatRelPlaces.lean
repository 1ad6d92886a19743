/-
  The contract of placesByVariable, by the library's contract of slices.SortFunc.
-/
import Derived.Test.YtafpecdmaogohaaGreatRelCut
import Derived.Test.YtafpecdmaogohaaGreatLibSort
import Derived.Test.YtafpecdmaogohaaGreatShelfI
namespace Go.Proofs.YtafpecdmaogohaaGreat
open Go.RowKit
set_option linter.unusedVariables false
set_option linter.unusedSimpArgs false
set_option maxRecDepth 20000

theorem cell_sortWorld {α : Type} [Inhabited α] {enc : α → Value} {w : World} {blk : Nat} {x : Addr} {v : Value} (h : w.cell? x = some v) (hne : x.block ≠ blk) (m : Nat) (d : Array α) (os : Array Obj) (off : Nat) : (sortWorld enc w blk off m d os).cell? x = some v := by
  have hlt := cell_lt h
  unfold sortWorld
  rw [Go.Sort.cell?_grow _ _ _ (by simpa [Go.Sort.putRow, Go.Sort.mapBlock, Go.Sort.ahead] using hlt)]
  exact (Go.Sort.cell?_putRow_other enc (Go.Sort.ahead w m) blk off d x (.inl hne)).trans h

theorem ints_sortWorld {α : Type} [Inhabited α] {enc : α → Value} {w : World} {blk : Nat} {v : Value} {l : List Int} (h : Ints w v l) (hne : l ≠ [] → v.ownBlock ≠ some blk) (m : Nat) (d : Array α) (os : Array Obj) (off : Nat) :
    Ints (sortWorld enc w blk off m d os) v l := by
  obtain ⟨a, cap, rfl, h2, h3, h4, h5, h6⟩ := h
  refine ⟨a, cap, rfl, h2, h3, h4, h5, fun i y hi => ?_⟩
  obtain ⟨x, rfl, hc⟩ := h6 i y hi
  exact ⟨x, rfl, cell_sortWorld hc (fun e => hne (by rintro rfl; simp at hi) (by have e' : x.block = blk := e; rw [← e']; rfl)) m d os off⟩

theorem cmpI_lt {x y : Int} : cmpI x y < 0 ↔ x < y := by unfold cmpI; split <;> (try split) <;> omega

set_option maxHeartbeats 1000000 in
theorem placesK_any {s : List Int} {vs : Value} {b i k : Nat} {w : World} (hs : Ints w vs s) (hp : w.cell? ⟨b, 0, none⟩ = some vs) (hi : i < s.length) (hk : k < s.length) :
    Calls Tryz.prog 95 #[.int .i64 i, .int .i64 k, .pointer (some ⟨b, 0, none⟩)] w fun e w' => e = .returned (.int .i64 (cmpI s[i] s[k])) ∧ ∃ n, w' = w.drewN n := by
  obtain ⟨a, ca, rfl, hla, hca⟩ := hs.form
  unfold maxLen at hca
  obtain ⟨bs, os, rfl, hci⟩ := hs.at hi
  obtain ⟨bs', os', e2, hck⟩ := hs.at hk
  cases e2
  clear hs
  go_enter Tryz.func95, Tryz.ntmps95
  go_wp2
  go_quiet ((go_at_call 67; exact Calls.quiet_of_same (cmp_same _ _ _)))
  go_wp2
  go_ret
  exact ⟨rfl, by first | exact ⟨_, rfl⟩ | (simp only [World.drewN_drewN]; exact ⟨_, rfl⟩)⟩

def natsI (n : Nat) : List Int := (List.range n).map Int.ofNat

theorem natsI_len (n : Nat) : (natsI n).length = n := by simp [natsI]
theorem natsI_at {n i : Nat} (h : i < (natsI n).length) : (natsI n)[i] = (i : Int) := by simp [natsI]

theorem pick_fin (s : List Int) (l : List (Fin s.length)) : pickL s (l.map fun i => ((i.val : Nat) : Int)) = l.map fun i => s[i.val] := by
  induction l with
  | nil => rfl
  | cons x r ih =>
    have := x.2
    have e : pickL s (((x.val : Nat) : Int) :: r.map fun i => ((i.val : Nat) : Int)) = s[x.val] :: pickL s (r.map fun i => ((i.val : Nat) : Int)) := by
      unfold pickL; rw [List.filterMap_cons]; simp [this]
    rw [List.map_cons, e, ih]; rfl

theorem extract_all {α : Type} (d : Array α) {n : Nat} (h : d.size = n) : (d.extract 0 n).toList = d.toList := by subst h; simp

theorem sortPlaces_any {B : Nat} {s : List Int} {v vs : Value} {b : Nat} {w : World} (h : HoldsI B w v (natsI s.length)) (hs : Ints w vs s) (hbox : w.cell? ⟨b, 0, none⟩ = some vs)
    (hap : ∀ g, v.ownBlock = some g → b ≠ g ∧ (s ≠ [] → vs.ownBlock ≠ some g)) (hB : B ≤ w.heap.size) (hlen : s.length < 100000000) :
    Calls Tryz.prog 94 #[v, .func (.func 95) #[] #[.pointer (some ⟨b, 0, none⟩)]] w fun e w' =>
      e = .returned (.tuple #[]) ∧ ∃ ps, ps.Perm (natsI s.length) ∧ (pickL s ps).Pairwise (· ≤ ·) ∧ Ints w' v ps ∧ Below B w w' := by
  rcases h with ⟨rfl, hn⟩ | ⟨g, cap, rfl, hg, hlt, hcap, hm, hH⟩
  · refine (shelf_sortI_none (α := Unit) none 0 _ w).mono ?_
    rintro e w' ⟨rfl, rfl⟩
    exact ⟨rfl, [], by rw [hn], by simp [pickL], Seq.nil _ _, Below.refl _ _⟩
  · rw [natsI_len] at hcap
    by_cases h0 : s.length = 0
    · have e0 : (natsI s.length).length = 0 := by rw [natsI_len]; exact h0
      rw [e0]
      refine (shelf_sortI_none (α := Unit) _ cap _ w).mono ?_
      rintro e w' ⟨rfl, rfl⟩
      have en : natsI s.length = [] := List.length_eq_zero_iff.1 e0
      refine ⟨rfl, [], by rw [en], by simp [pickL], ⟨_, cap, rfl, by simp, hm, by simp, by rintro x h _; cases h; rfl, by simp⟩, Below.refl _ _⟩
    · have hpos : 0 < s.length := by omega
      have inh : Inhabited (Fin s.length) := ⟨⟨0, hpos⟩⟩
      have hd : ∀ j (hj : j < (List.finRange s.length).length), (List.finRange s.length)[j].val = j := fun j hj => by simp
      have hH' : Go.Sort.Holds (fun i : Fin s.length => Value.int .i64 ((i.val : Nat) : Int)) w g 0 (List.finRange s.length).toArray := by
        intro j hj
        have hj' : j < s.length := by simpa using hj
        have := hH j (by simp [natsI_len]; exact hj')
        have hjn : j < (natsI s.length).toArray.size := by simp [natsI_len]; exact hj'
        rw [getElem!_pos (natsI s.length).toArray j hjn] at this
        rw [getElem!_pos (List.finRange s.length).toArray j hj]
        simp only [List.getElem_toArray, natsI_at, List.getElem_finRange] at this ⊢
        simpa using this
      have hcmp : CmpReads Tryz.prog 95 #[.pointer (some ⟨b, 0, none⟩)] (fun i : Fin s.length => Value.int .i64 ((i.val : Nat) : Int)) (fun x y => cmpI s[x.val] s[y.val]) g 0 (List.finRange s.length).toArray.size w := by
        intro m os dk hsz x y
        exact placesK_any (ints_sortWorld hs (hap g rfl).2 m dk os 0) (cell_sortWorld hbox (hap g rfl).1 m dk os 0) x.2 y.2
      have hO : Go.Sort.SWO (ltOf fun x y : Fin s.length => cmpI s[x.val] s[y.val]) := by
        refine ⟨fun x => ?_, fun x y z h1 h2 => ?_, fun x y z h1 h2 => ?_⟩
        · simp [ltOf, cmpI]
        · simp only [ltOf, decide_eq_true_eq, cmpI_lt] at *; omega
        · simp only [ltOf, decide_eq_false_iff_not, cmpI_lt] at *; omega
      have hsz : (List.finRange s.length).toArray.size = s.length := by simp
      have hcon := shelf_sortI (fun i : Fin s.length => Value.int .i64 ((i.val : Nat) : Int)) (fun x => rfl) (fun x y => cmpI s[x.val] s[y.val]) hO 95 #[.pointer (some ⟨b, 0, none⟩)] g 0 cap (List.finRange s.length).toArray w
        (fun args w => enters Tryz.func95 (by kernel_rfl) rfl args w) hcmp.lays hH' hlt (by rw [hsz]; omega)
      rw [hsz] at hcon
      rw [natsI_len]
      refine hcon.mono ?_
      rintro e w' ⟨rfl, d', n, os, hp, hs', rfl⟩
      obtain ⟨hp1, hp2, hp3⟩ := hp
      have hd's : d'.size = s.length := by rw [hp1, hsz]
      have hperm : d'.toList.Perm (List.finRange s.length) := by
        rw [extract_all d' hd's, extract_all _ hsz] at hp3; exact hp3
      have hH2 := holds_sortWorld (fun i : Fin s.length => Value.int .i64 ((i.val : Nat) : Int)) w g 0 n (List.finRange s.length).toArray d' os hlt hH' (by rw [hp1])
      refine ⟨rfl, d'.toList.map (fun i => ((i.val : Nat) : Int)), ?_, ?_, ?_, belowI_sortWorld hg hB⟩
      · have e3 : natsI s.length = (List.finRange s.length).map (fun i => ((i.val : Nat) : Int)) := by
          apply List.ext_getElem
          · simp [natsI]
          · intro i h1 h2; simp [natsI]
        rw [e3]; exact hperm.map _
      · rw [pick_fin]
        refine List.pairwise_iff_getElem.2 fun i j hi hj hij => ?_
        have hj' : j < d'.size := by simpa using hj
        have := hs' i j (Nat.zero_le _) hij (by omega)
        rw [getElem!_pos d' j hj', getElem!_pos d' i (by omega)] at this
        simp only [ltOf, decide_eq_false_iff_not, cmpI_lt] at this
        simp only [List.getElem_map, Array.getElem_toList]
        omega
      · refine ⟨some ⟨g, 0, none⟩, cap, by simp [hd's], by simp [hd's]; omega, hm, by simp, by rintro x h _; cases h; rfl, fun i y hi => ⟨_, rfl, ?_⟩⟩
        have hil : i < d'.size := by
          rcases Nat.lt_or_ge i d'.size with h | h
          · exact h
          · rw [List.getElem?_eq_none (by simpa using h)] at hi; cases hi
        have := (hH2 i hil).1
        rw [getElem!_pos d' i hil] at this
        have hy : y = ((d'[i].val : Nat) : Int) := by
          rw [List.getElem?_eq_getElem (by simpa using hil)] at hi
          simp at hi
          exact hi.symm
        rw [hy]
        simpa using this

theorem natsI_snoc {n k : Nat} (hk : k < n) : ((natsI n).take k ++ List.replicate (n - k) 0).set k (k : Int) = (natsI n).take (k + 1) ++ List.replicate (n - (k + 1)) 0 := by
  have e : n - k = (n - (k + 1)) + 1 := by omega
  have hkl : k < (natsI n).length := by rw [natsI_len]; exact hk
  rw [e, List.replicate_succ, List.take_succ_eq_append_getElem hkl, List.set_append_right _ _ (by simp [natsI_len]; omega), natsI_at]
  simp [natsI_len, Nat.min_eq_left (Nat.le_of_lt hk)]

set_option maxHeartbeats 2000000 in
theorem places_any {s : List Int} {v : Value} {w : World} (h : Ints w v s) (hlen : s.length < 100000000) :
    Calls Tryz.prog 75 #[v] w fun e w' => ∃ v ps, e = .returned v ∧ ps.Perm (natsI s.length) ∧ (pickL s ps).Pairwise (· ≤ ·) ∧ Ints w' v ps ∧ New w.heap.size w' v ∧ Below w.heap.size w w' := by
  obtain ⟨a, ca, rfl, hla, hca⟩ := h.form
  unfold maxLen at hca
  have hb0 := (Below.refl w.heap.size w).alloc (Nat.le_refl _) (.cells #[.slice a s.length ca] 22)
  go_enter Tryz.func75, Tryz.ntmps75
  go_wp2_with (at_make; refine wp_make_ints rfl _ _ rfl (Nat.le_refl _) rfl rfl (by omega) ?_; intro w1 hown1 hb1)
  have hbox1 : w1.cell? ⟨w.heap.size, 0, none⟩ = some (.slice a s.length ca) := by rw [hb1.cell (by simp)]; simp
  have hbel1 := hb0.trans (hb1.mono (by simp))
  have hown2 : OwnI (w.heap.size + 1) w1 (.slice (some ⟨w.heap.size + 1, 0, none⟩) s.length s.length) (List.replicate s.length 0) := by simpa using hown1
  clear hown1 hb1
  go_wp2
  go_loopw [4, 10] (fun _ i wr => ∃ k : Nat, k ≤ s.length ∧ i = .int .i64 k ∧ OwnI (w.heap.size + 1) wr (.slice (some ⟨w.heap.size + 1, 0, none⟩) s.length s.length) ((natsI s.length).take k ++ List.replicate (s.length - k) 0) ∧ Below w.heap.size w wr ∧ wr.cell? ⟨w.heap.size, 0, none⟩ = some (.slice a s.length ca)) (fun _ i _ => s.length - (intOf i).toNat)
  case atStart => exact ⟨0, by omega, rfl, by simpa using hown2, hbel1, hbox1⟩
  case round =>
    clear hown2 hbel1 hbox1 hb0
    obtain ⟨k, hk, rfl, hown, hbel, hbox⟩ := hrel
    have hz := hbel.size
    by_cases hkl : k < s.length
    · obtain ⟨⟨old, hcell⟩, hfr, hset, hbs⟩ := own_setI hown (by simp [natsI_len]; omega) (i := k) hkl k
      rw [natsI_snoc hkl] at hset
      have hbs2 := hbs.cell (p := ⟨w.heap.size, 0, none⟩) (by simp)
      rw [hbox] at hbs2
      clear h hown
      go_wp2
      go_roundw
      case rel => exact ⟨k + 1, by omega, by go_num, hset, hbel.trans (hbs.mono (by omega)), hbs2⟩
      case measure => simp [intOf]; omega
    · have hkk : k = s.length := by omega
      subst hkk
      have hown3 : OwnI (w.heap.size + 1) wr (.slice (some ⟨w.heap.size + 1, 0, none⟩) s.length s.length) (natsI s.length) := by
        have e : (natsI s.length).take s.length ++ List.replicate (s.length - s.length) 0 = natsI s.length := by
          rw [List.take_of_length_le (by rw [natsI_len]; exact Nat.le_refl _)]; simp
        rw [e] at hown; exact hown
      have hzy : w.heap.size + 1 < wr.heap.size := (New.of_own hown3 (w.heap.size + 1) rfl).2
      have hzz : w.heap.size + 1 ≤ wr.heap.size := by
        have h9 : w.heap.size + 1 < wr.heap.size := (New.of_own hown3 (w.heap.size + 1) rfl).2
        omega
      have HS := hide (sortPlaces_any (HoldsI.of_own hown3) (h.below hbel) hbox (fun g hg => by
        have hg' : w.heap.size + 1 = g := by simpa [Value.ownBlock] using hg
        subst hg'
        refine ⟨by omega, fun hne e => ?_⟩
        have := h.inheap hne _ e
        omega) hzz hlen)
      clear h hown hown3
      go_wp2_with fail
      refine (unhide HS).mono ?_
      rintro e w2 ⟨rfl, ps, hp, hup, hps, hb2⟩
      have HP := hide hp
      clear hp
      go_wp2
      go_ret
      have hb2z := hb2.size
      refine ⟨_, ps, rfl, unhide HP, hup, hps, ?_, hbel.trans (hb2.mono (by omega))⟩
      intro g hg
      have hg' : w.heap.size + 1 = g := by simpa [Value.ownBlock] using hg
      subst hg'
      exact ⟨by omega, by omega⟩

end Go.Proofs.YtafpecdmaogohaaGreat
