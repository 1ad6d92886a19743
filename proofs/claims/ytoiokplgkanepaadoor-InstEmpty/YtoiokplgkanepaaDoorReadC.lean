/-
  Reading tokens: the contracts of slices.Contains of texts, sign.
-/
import Derived.Test.YtoiokplgkanepaaDoorReadB
namespace Go.Proofs.YtoiokplgkanepaaDoor
open Go.RowKit
set_option linter.unusedVariables false
set_option linter.unusedSimpArgs false
set_option maxRecDepth 20000

def strE (b : Bytes) : Value := .string ⟨b.toArray⟩
theorem str_eq {a b : Bytes} (h : a = b) : (a == b) = true := by simpa using h
theorem str_ne {a b : Bytes} (h : a ≠ b) : (a == b) = false := by simpa using h

set_option maxHeartbeats 1000000 in
theorem indexS_any {l : List Bytes} {v : Value} {x : Bytes} {w : World} (h : Seq strE w v l) :
    Calls Tryd.prog 89 #[v, .string ⟨x.toArray⟩] w fun e w' => ∃ i : Int, e = .returned (.int .i64 i) ∧ (decide (0 ≤ i)) = decide (x ∈ l) ∧ w' = w := by
  obtain ⟨a, ca, rfl, hla, hca⟩ := h.form
  unfold maxLen at hca
  go_enter Tryd.func89, Tryd.ntmps89
  go_wp2
  go_loop [5, 8] (fun _ i => ∃ k : Nat, k ≤ l.length ∧ i = .int .i64 k ∧ Hid (∀ j (hj : j < l.length), j < k → l[j] ≠ x)) (fun _ i => l.length - (intOf i).toNat)
  case atStart => exact ⟨0, by omega, rfl, hide (fun j hj h => by omega)⟩
  case round =>
    obtain ⟨k, hk, rfl, hc⟩ := hrel
    by_cases hkl : k < l.length
    · obtain ⟨bl, ol, rfl, hcl⟩ := h.at hkl
      unfold strE at hcl
      clear h
      by_cases hn : x = l[k]
      · have HP : Hid (x ∈ l) := hide (by rw [hn]; exact List.getElem_mem _)
        have hn1 := str_eq hn
        clear hn hc
        generalize l[k] = y at *
        go_wp2
        go_ret
        exact ⟨_, rfl, by simp [unhide HP], rfl⟩
      · have Hc : Hid (∀ j (hj : j < l.length), j < k + 1 → l[j] ≠ x) := hide (fun j hj hjk => by
          rcases Nat.lt_or_ge j k with e | e
          · exact unhide hc j hj e
          · have : j = k := by omega
            subst this; exact fun e => hn e.symm)
        have hn1 := str_ne hn
        clear hn hc
        go_wp2
        go_round
        case rel => exact ⟨k + 1, by omega, by go_num, Hc⟩
        case measure => simp [intOf]; omega
    · have HP : Hid (x ∉ l) := hide (fun hm => by
        obtain ⟨i, hi, e⟩ := List.getElem_of_mem hm
        exact unhide hc i hi (by omega) e)
      clear h hc
      go_wp2
      go_ret
      exact ⟨_, rfl, by simp [unhide HP], rfl⟩

set_option maxHeartbeats 1000000 in
theorem containsS_any {l : List Bytes} {v : Value} {x : Bytes} {w : World} (h : Seq strE w v l) :
    Calls Tryd.prog 82 #[v, .string ⟨x.toArray⟩] w fun e w' => e = .returned (.bool (decide (x ∈ l))) ∧ w' = w := by
  have HI := hide (indexS_any (x := x) h)
  clear h
  go_enter Tryd.func82, Tryd.ntmps82
  go_wp2_with fail
  refine (unhide HI).mono ?_
  rintro e w' ⟨i, rfl, hi, rfl⟩
  have HH := hide hi
  clear hi
  go_wp2
  go_ret
  exact ⟨ret_bool (unhide HH), rfl⟩

set_option maxHeartbeats 2000000 in
theorem sign_any {w0 : World} {R : Nat} {w : World} {ts : List Tok} {dv hv sv mv : Value} {may : List Bytes} (h : Rd w0 R w ts dv hv sv) (hf : Fair ts) (hm : Seq strE w mv may) (hmn : mv.ownBlock ≠ some R) :
    Calls Tryd.prog 64 #[.pointer (some ⟨R, 0, none⟩), mv] w (REnds (fun s v _ => v = strE s) w0 R w dv hv sv (signR may ts)) := by
  have hlt := h.lt
  obtain ⟨t, r, rfl⟩ := hf.cons
  have HT := hide (rtake_any h)
  unfold tokV at HT
  obtain ⟨X, hX⟩ : ∃ X, X = signR may (t :: r) := ⟨_, rfl⟩
  rw [← hX]
  rw [show signR may (t :: r) = if t.kind = 3 ∧ t.text ∈ may then .ok t.text r else .fault t.at_ 3 from rfl] at hX
  have HX := hide hX
  clear hX
  have hmn' : NotIn (fun g => g = R) w mv ∨ may = [] := by
    by_cases he : may = []
    · exact .inr he
    · exact .inl fun g hg => ⟨fun e => hmn (by rw [hg, e]), (hm.inheap he g hg).2⟩
  have HM : Hid (∀ w', w.grownBy w' (some R) → Seq strE w' mv may) := hide (fun w' g => by
    rcases hmn' with h' | h'
    · exact Seq.keptO hm h' g (fun b e => by cases e; rfl)
    · subst h'
      obtain ⟨a, cap, rfl, h2, h3, h4, h5, h6⟩ := hm
      exact ⟨a, cap, rfl, h2, h3, h4, h5, fun i y hi => by simp at hi⟩)
  obtain ⟨ma, mc, rfl, _, hmc⟩ := hm.form
  unfold maxLen at hmc
  clear h hf hm hmn hmn'
  by_cases hk : t.kind = 3
  · have hk' : (t.kind == 3) = true := by simpa using hk
    have HKK := hide hk
    clear hk
    obtain ⟨q, hq⟩ : ∃ q : Bool, q = decide (t.text ∈ may) := ⟨_, rfl⟩
    have HQ := hide hq
    have HN := hide (fun W => need_any q t 3 W)
    unfold tokV at HN
    clear hq
    go_enter Tryd.func64, Tryd.ntmps64
    go_wp2_with fail
    refine (unhide HT).mono ?_
    rintro e w1 ⟨rfl, hr, hg⟩
    have x1 := BoxK.new 52 w1 (.int .i64 t.kind) (.string ⟨t.text.toArray⟩) (.int .i64 t.n) (.int .i64 (t.at_ : Int))
    have hr1 := hr.push (.cells #[.int .i64 t.kind, .string ⟨t.text.toArray⟩, .int .i64 t.n, .int .i64 (t.at_ : Int)] 52)
    have hg1 := grown_then hg (World.grownBy_alloc w1 (.cells #[.int .i64 t.kind, .string ⟨t.text.toArray⟩, .int .i64 t.n, .int .i64 (t.at_ : Int)] 52) none) (by simp)
    go_wp2
    generalize w1.alloc (.cells #[.int .i64 t.kind, .string ⟨t.text.toArray⟩, .int .i64 t.n, .int .i64 (t.at_ : Int)] 52) = W at *
    generalize w1.heap.size = tb at *
    have hS0 : W.drew.cell? ⟨tb, 0, none⟩ = some (.int .i64 t.kind) ∧ W.drew.cell? ⟨tb, 1, none⟩ = some (.string ⟨t.text.toArray⟩) ∧ W.drew.cell? ⟨tb, 2, none⟩ = some (.int .i64 t.n) ∧ W.drew.cell? ⟨tb, 3, none⟩ = some (.int .i64 (t.at_ : Int)) := ⟨x1.cell0, x1.cell1, x1.cell2, x1.cell3⟩
    have X1 := hide x1
    have HC := hide (containsS_any (x := t.text) ((unhide HM _ hg1).drewN 1))
    rw [← unhide HQ] at HC
    clear x1 hr hg HT HM
    refine wp_region_held (S := fun U => U.cell? ⟨tb, 0, none⟩ = some (.int .i64 t.kind) ∧ U.cell? ⟨tb, 1, none⟩ = some (.string ⟨t.text.toArray⟩) ∧ U.cell? ⟨tb, 2, none⟩ = some (.int .i64 t.n) ∧ U.cell? ⟨tb, 3, none⟩ = some (.int .i64 (t.at_ : Int))) (by kernel_rfl) ?_
    refine wpAnyH_take (i := 0) (v := ?_) rfl (by kernel_rfl) (by kernel_rfl) (by kernel_rfl) (fun _ _ _ h => h) (Or.inl ⟨by kernel_rfl, ?_⟩) (by assumption) ?_
    rotate_left
    · intro W hSW; obtain ⟨hS1, hS2, hS3, hS4⟩ := hSW; go_simp; first | done | rfl
    simp only [Act.put, List.setIfInBounds_toArray, List.set_cons_zero, List.set_cons_succ]
    refine wpAnyH_take (i := 1) (v := ?_) rfl (by kernel_rfl) (by kernel_rfl) (by kernel_rfl) (fun _ _ _ h => h) (Or.inl ⟨by kernel_rfl, ?_⟩) (by assumption) ?_
    rotate_left
    · intro W hSW; obtain ⟨hS1, hS2, hS3, hS4⟩ := hSW; go_simp; first | done | rfl
    simp only [Act.put, List.setIfInBounds_toArray, List.set_cons_zero, List.set_cons_succ]
    refine wpAnyH_take (i := 2) (v := ?_) rfl (by kernel_rfl) (by kernel_rfl) (by kernel_rfl) (fun _ _ _ h => h) (Or.inl ⟨by kernel_rfl, ?_⟩) (by assumption) ?_
    rotate_left
    · intro W hSW; obtain ⟨hS1, hS2, hS3, hS4⟩ := hSW; go_simp; first | done | rfl
    simp only [Act.put, List.setIfInBounds_toArray, List.set_cons_zero, List.set_cons_succ]
    refine wpAnyH_take (i := 3) (v := ?_) rfl (by kernel_rfl) (by kernel_rfl) (by kernel_rfl) (fun _ _ _ h => h) (Or.inl ⟨by kernel_rfl, ?_⟩) (by assumption) ?_
    rotate_left
    · intro W hSW; obtain ⟨hS1, hS2, hS3, hS4⟩ := hSW; go_simp; first | done | rfl
    simp only [Act.put, List.setIfInBounds_toArray, List.set_cons_zero, List.set_cons_succ]
    refine wpAnyH_take (i := 4) (v := ?_) rfl (by kernel_rfl) (by kernel_rfl) (by kernel_rfl) (fun _ _ _ h => h) (Or.inl ⟨by kernel_rfl, ?_⟩) (by assumption) ?_
    rotate_left
    · intro W hSW; obtain ⟨hS1, hS2, hS3, hS4⟩ := hSW; go_simp; first | done | rfl
    simp only [Act.put, List.setIfInBounds_toArray, List.set_cons_zero, List.set_cons_succ]
    refine wpAnyH_take (i := 5) (v := ?_) rfl (by kernel_rfl) (by kernel_rfl) (by kernel_rfl) (fun _ _ _ h => h) (Or.inl ⟨by kernel_rfl, ?_⟩) (by assumption) ?_
    rotate_left
    · intro W hSW; obtain ⟨hS1, hS2, hS3, hS4⟩ := hSW; go_simp; first | done | rfl
    simp only [Act.put, List.setIfInBounds_toArray, List.set_cons_zero, List.set_cons_succ]
    refine wpAnyH_take (i := 6) (v := ?_) rfl (by kernel_rfl) (by kernel_rfl) (by kernel_rfl) (fun _ _ _ h => h) (Or.inl ⟨by kernel_rfl, ?_⟩) (by assumption) ?_
    rotate_left
    · intro W hSW; obtain ⟨hS1, hS2, hS3, hS4⟩ := hSW; go_simp; first | done | rfl
    simp only [Act.put, List.setIfInBounds_toArray, List.set_cons_zero, List.set_cons_succ]
    refine wpAnyH_take (i := 9) (v := ?_) rfl (by kernel_rfl) (by kernel_rfl) (by kernel_rfl) (fun _ _ _ h => h) (Or.inl ⟨by kernel_rfl, ?_⟩) (by assumption) ?_
    rotate_left
    · intro W hSW; obtain ⟨hS1, hS2, hS3, hS4⟩ := hSW; go_simp; first | done | rfl
    simp only [Act.put, List.setIfInBounds_toArray, List.set_cons_zero, List.set_cons_succ]
    refine held_one (i := 7) (by kernel_rfl) rfl (by rfl) (fun K hK => ?_)
    go_simp
    refine (unhide HC).mono ?_
    rintro e w2 ⟨rfl, rfl⟩
    refine hK.out _ _ hS0 ?_
    clear hK K
    try simp only [Act.put, List.setIfInBounds_toArray, List.set_cons_zero, List.set_cons_succ]
    refine wpAnyH_take (i := 8) (v := ?_) rfl (by kernel_rfl) (by kernel_rfl) (by kernel_rfl) (fun _ _ _ h => h) (Or.inl ⟨by kernel_rfl, ?_⟩) (by assumption) ?_
    rotate_left
    · intro W hSW; obtain ⟨hS1, hS2, hS3, hS4⟩ := hSW; go_simp; first | done | rfl
    simp only [Act.put, List.setIfInBounds_toArray, List.set_cons_zero, List.set_cons_succ]
    refine held_one (i := 10) (by kernel_rfl) rfl (by rfl) (fun K hK => ?_)
    go_simp
    refine (unhide HN _).mono ?_
    rintro e w2 ⟨rfl, hb⟩
    cases q with
    | false =>
      exact ⟨rfl, ends_no (by rw [unhide HX, if_neg (fun e => by have := unhide HQ; simp [e.2] at this)]) (grown_below_then (grown_then hg1 (grown_drewN W 1 none) (by simp)) hb)⟩
    | true =>
      have hb' : Below W.heap.size W w2 := below_then (Below.drewN W 1) hb
      have x1 := (unhide X1).belowH hb'
      have hS1 : w2.cell? ⟨tb, 0, none⟩ = some (.int .i64 t.kind) ∧ w2.cell? ⟨tb, 1, none⟩ = some (.string ⟨t.text.toArray⟩) ∧ w2.cell? ⟨tb, 2, none⟩ = some (.int .i64 t.n) ∧ w2.cell? ⟨tb, 3, none⟩ = some (.int .i64 (t.at_ : Int)) := ⟨x1.cell0, x1.cell1, x1.cell2, x1.cell3⟩
      refine hK.out _ _ hS1 (wpAnyH_done (by kernel_rfl) ?_ _)
      obtain ⟨c0, c1, c2, c3⟩ := hS1
      have HR := hide (hr1.below hb')
      have HG := hide (grown_below_then hg1 hb')
      clear x1 hb hb' hr1 hg1 X1 hS0 hK HN HC
      try simp only [Act.put, List.setIfInBounds_toArray, List.set_cons_zero, List.set_cons_succ]
      go_wp2
      go_ret
      exact ends_ok ((unhide HX).trans (if_pos ⟨unhide HKK, by have := unhide HQ; simpa using this.symm⟩)) (unhide HG) rfl (unhide HR)
  · have hk' : (t.kind == 3) = false := by simpa using hk
    rw [if_neg (fun e => hk e.1)] at HX
    clear hk
    have HN := hide (fun W => need_no t 3 W)
    unfold tokV at HN
    go_enter Tryd.func64, Tryd.ntmps64
    go_wp2_with fail
    refine (unhide HT).mono ?_
    rintro e w1 ⟨rfl, hr, hg⟩
    have x1 := BoxK.new 52 w1 (.int .i64 t.kind) (.string ⟨t.text.toArray⟩) (.int .i64 t.n) (.int .i64 (t.at_ : Int))
    have hg1 := grown_then hg (World.grownBy_alloc w1 (.cells #[.int .i64 t.kind, .string ⟨t.text.toArray⟩, .int .i64 t.n, .int .i64 (t.at_ : Int)] 52) none) (by simp)
    go_wp2
    generalize w1.alloc (.cells #[.int .i64 t.kind, .string ⟨t.text.toArray⟩, .int .i64 t.n, .int .i64 (t.at_ : Int)] 52) = W at *
    generalize w1.heap.size = tb at *
    have hS0 : W.drew.cell? ⟨tb, 0, none⟩ = some (.int .i64 t.kind) ∧ W.drew.cell? ⟨tb, 1, none⟩ = some (.string ⟨t.text.toArray⟩) ∧ W.drew.cell? ⟨tb, 2, none⟩ = some (.int .i64 t.n) ∧ W.drew.cell? ⟨tb, 3, none⟩ = some (.int .i64 (t.at_ : Int)) := ⟨x1.cell0, x1.cell1, x1.cell2, x1.cell3⟩
    clear x1 hr hg HT HM
    refine wp_region_held (S := fun U => U.cell? ⟨tb, 0, none⟩ = some (.int .i64 t.kind) ∧ U.cell? ⟨tb, 1, none⟩ = some (.string ⟨t.text.toArray⟩) ∧ U.cell? ⟨tb, 2, none⟩ = some (.int .i64 t.n) ∧ U.cell? ⟨tb, 3, none⟩ = some (.int .i64 (t.at_ : Int))) (by kernel_rfl) ?_
    refine wpAnyH_take (i := 0) (v := ?_) rfl (by kernel_rfl) (by kernel_rfl) (by kernel_rfl) (fun _ _ _ h => h) (Or.inl ⟨by kernel_rfl, ?_⟩) (by assumption) ?_
    rotate_left
    · intro W hSW; obtain ⟨hS1, hS2, hS3, hS4⟩ := hSW; go_simp; first | done | rfl
    simp only [Act.put, List.setIfInBounds_toArray, List.set_cons_zero, List.set_cons_succ]
    refine wpAnyH_take (i := 1) (v := ?_) rfl (by kernel_rfl) (by kernel_rfl) (by kernel_rfl) (fun _ _ _ h => h) (Or.inl ⟨by kernel_rfl, ?_⟩) (by assumption) ?_
    rotate_left
    · intro W hSW; obtain ⟨hS1, hS2, hS3, hS4⟩ := hSW; go_simp; first | done | rfl
    simp only [Act.put, List.setIfInBounds_toArray, List.set_cons_zero, List.set_cons_succ]
    refine wpAnyH_take (i := 2) (v := ?_) rfl (by kernel_rfl) (by kernel_rfl) (by kernel_rfl) (fun _ _ _ h => h) (Or.inl ⟨by kernel_rfl, ?_⟩) (by assumption) ?_
    rotate_left
    · intro W hSW; obtain ⟨hS1, hS2, hS3, hS4⟩ := hSW; go_simp; first | done | rfl
    simp only [Act.put, List.setIfInBounds_toArray, List.set_cons_zero, List.set_cons_succ]
    refine wpAnyH_take (i := 3) (v := ?_) rfl (by kernel_rfl) (by kernel_rfl) (by kernel_rfl) (fun _ _ _ h => h) (Or.inl ⟨by kernel_rfl, ?_⟩) (by assumption) ?_
    rotate_left
    · intro W hSW; obtain ⟨hS1, hS2, hS3, hS4⟩ := hSW; go_simp; first | done | rfl
    simp only [Act.put, List.setIfInBounds_toArray, List.set_cons_zero, List.set_cons_succ]
    refine wpAnyH_take (i := 4) (v := undef) rfl (by kernel_rfl) (by kernel_rfl) (by kernel_rfl) (fun _ _ _ h => h) (Or.inr ⟨by kernel_rfl, rfl⟩) (by assumption) ?_
    simp only [Act.put, List.setIfInBounds_toArray, List.set_cons_zero, List.set_cons_succ]
    refine wpAnyH_take (i := 5) (v := undef) rfl (by kernel_rfl) (by kernel_rfl) (by kernel_rfl) (fun _ _ _ h => h) (Or.inr ⟨by kernel_rfl, rfl⟩) (by assumption) ?_
    simp only [Act.put, List.setIfInBounds_toArray, List.set_cons_zero, List.set_cons_succ]
    refine wpAnyH_take (i := 6) (v := undef) rfl (by kernel_rfl) (by kernel_rfl) (by kernel_rfl) (fun _ _ _ h => h) (Or.inr ⟨by kernel_rfl, rfl⟩) (by assumption) ?_
    simp only [Act.put, List.setIfInBounds_toArray, List.set_cons_zero, List.set_cons_succ]
    refine wpAnyH_take (i := 7) (v := undef) rfl (by kernel_rfl) (by kernel_rfl) (by kernel_rfl) (fun _ _ _ h => h) (Or.inr ⟨by kernel_rfl, rfl⟩) (by assumption) ?_
    simp only [Act.put, List.setIfInBounds_toArray, List.set_cons_zero, List.set_cons_succ]
    refine wpAnyH_take (i := 8) (v := ?_) rfl (by kernel_rfl) (by kernel_rfl) (by kernel_rfl) (fun _ _ _ h => h) (Or.inl ⟨by kernel_rfl, ?_⟩) (by assumption) ?_
    rotate_left
    · intro W hSW; obtain ⟨hS1, hS2, hS3, hS4⟩ := hSW; go_simp; first | done | rfl
    simp only [Act.put, List.setIfInBounds_toArray, List.set_cons_zero, List.set_cons_succ]
    refine wpAnyH_take (i := 9) (v := ?_) rfl (by kernel_rfl) (by kernel_rfl) (by kernel_rfl) (fun _ _ _ h => h) (Or.inl ⟨by kernel_rfl, ?_⟩) (by assumption) ?_
    rotate_left
    · intro W hSW; obtain ⟨hS1, hS2, hS3, hS4⟩ := hSW; go_simp; first | done | rfl
    simp only [Act.put, List.setIfInBounds_toArray, List.set_cons_zero, List.set_cons_succ]
    refine held_one (i := 10) (by kernel_rfl) rfl (by rfl) (fun K hK => ?_)
    go_simp
    refine (unhide HN _).mono ?_
    rintro e w2 ⟨rfl, hb⟩
    exact ⟨rfl, ends_no (unhide HX) (grown_below_then (grown_then hg1 (grown_drewN W 1 none) (by simp)) hb)⟩

end Go.Proofs.YtoiokplgkanepaaDoor
