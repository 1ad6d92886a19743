/-
  Proved: BuiltFull answers true for all domains, scopes, and every limit, and leaves them as they were. No condition.
-/
import Derived.Test.YtlbiebnihoekkaaFrame
import Derived.Test.YtlbiebnihoekkaaFrame2
import Derived.Test.YtlbiebnihoekkaaShown7
import Derived.Test.YtlbiebnihoekkaaBRound
import Derived.Test.YtlbiebnihoekkaaRefFull7
import Derived.Test.YtlbiebnihoekkaaRefJoin
import Derived.Test.YtlbiebnihoekkaaRelSame
namespace Go.Proofs.Ytlbiebnihoekkaa.builtFull
open Go.RowKit Go.ChangeShapes Go.WideShapes Go.ChangeAt
set_option linter.unusedVariables false
set_option linter.unusedSimpArgs false
set_option maxRecDepth 20000

def domK (row : List Int) (k : Nat) : List Int := (row.take k).foldl (fun l x => joinL l [x.tmod 1000000]) [0]
def scoK (D : Nat) (scope : List Int) (k : Nat) : List Int := (scope.take k).foldl (fun l x => joinL l [(bits .and .i64 x 65535).tmod D]) []
theorem domK_step {row : List Int} {k : Nat} (h : k < row.length) : domK row (k + 1) = joinL (domK row k) [row[k].tmod 1000000] := by
  unfold domK; rw [List.take_succ_eq_append_getElem h, List.foldl_append]; rfl
theorem scoK_step {D : Nat} {row : List Int} {k : Nat} (h : k < row.length) : scoK D row (k + 1) = joinL (scoK D row k) [(bits .and .i64 row[k] 65535).tmod D] := by
  unfold scoK; rw [List.take_succ_eq_append_getElem h, List.foldl_append]; rfl
theorem joinL_le (a b : List Int) : (joinL a b).length ≤ a.length + b.length := by
  unfold joinL
  rw [List.length_merge]
  have := lessL_le b a
  omega
theorem domK_len (row : List Int) (k : Nat) : (domK row k).length ≤ k + 1 := by
  unfold domK
  have : ∀ (l acc : List Int), (l.foldl (fun l x => joinL l [x.tmod 1000000]) acc).length ≤ acc.length + l.length := by
    intro l
    induction l with
    | nil => intro acc; simp
    | cons x r ih =>
      intro acc
      have h1 := ih (joinL acc [x.tmod 1000000])
      have h2 := joinL_le acc [x.tmod 1000000]
      simp only [List.foldl_cons, List.length_cons, List.length_nil] at h1 h2 ⊢
      omega
  have h := this (row.take k) [0]
  have h2 : (row.take k).length ≤ k := List.length_take_le _ _
  simp only [List.length_cons, List.length_nil] at h
  omega
theorem scoK_len (D : Nat) (row : List Int) (k : Nat) : (scoK D row k).length ≤ k := by
  unfold scoK
  have : ∀ (l acc : List Int), (l.foldl (fun l x => joinL l [(bits .and .i64 x 65535).tmod D]) acc).length ≤ acc.length + l.length := by
    intro l
    induction l with
    | nil => intro acc; simp
    | cons x r ih =>
      intro acc
      have h1 := ih (joinL acc [(bits .and .i64 x 65535).tmod D])
      have h2 := joinL_le acc [(bits .and .i64 x 65535).tmod D]
      simp only [List.foldl_cons, List.length_cons, List.length_nil] at h1 h2 ⊢
      omega
  have h := this (row.take k) []
  have h2 : (row.take k).length ≤ k := List.length_take_le _ _
  simp only [List.length_nil] at h
  omega
theorem scoV_range {D : Nat} (hD : 0 < D) (x : Int) : 0 ≤ (bits .and .i64 x 65535).tmod D ∧ (bits .and .i64 x 65535).tmod D < D := by
  rw [andW_eq, Int.tmod_eq_emod_of_nonneg (Int.emod_nonneg _ (by decide))]
  exact ⟨Int.emod_nonneg _ (by omega), Int.emod_lt_of_pos _ (by omega)⟩
theorem scoK_mem {D : Nat} (hD : 0 < D) {row : List Int} {k : Nat} {x : Int} (h : x ∈ scoK D row k) : 0 ≤ x ∧ x < D := by
  unfold scoK at h
  have : ∀ (l acc : List Int), (∀ y ∈ acc, 0 ≤ y ∧ y < (D : Int)) → ∀ y ∈ l.foldl (fun l x => joinL l [(bits .and .i64 x 65535).tmod D]) acc, 0 ≤ y ∧ y < (D : Int) := by
    intro l
    induction l with
    | nil => intro acc h; exact h
    | cons z r ih =>
      intro acc h
      refine ih _ fun y hy => ?_
      rcases mem_joinL.1 hy with hy | hy
      · exact h y hy
      · simp at hy; subst hy; exact scoV_range hD z
  exact this _ _ (by simp) x h

def domsK (ds : List (List Int)) (k : Nat) : List (List Int) := (ds.take k).map fun row => domK row (min row.length 4)
theorem domsK_step {ds : List (List Int)} {k : Nat} (h : k < ds.length) : domsK ds (k + 1) = domsK ds k ++ [domK ds[k] (min ds[k].length 4)] := by
  unfold domsK; rw [List.take_succ_eq_append_getElem h, List.map_append]; rfl
theorem domsK_len (ds : List (List Int)) (k : Nat) : (domsK ds k).length ≤ k := by simp [domsK]; omega
theorem domsK_mem {ds : List (List Int)} {k : Nat} {d : List Int} (h : d ∈ domsK ds k) : d.length ≤ 5 := by
  obtain ⟨row, _, rfl⟩ := List.mem_map.1 h
  have := domK_len row (min row.length 4)
  omega

theorem prod_le : ∀ ls : List (List Int), (∀ d ∈ ls, d.length ≤ 5) → prodN ls ≤ 5 ^ ls.length
  | [], _ => by simp [prodN]
  | d :: ls, h => by
    have ih := prod_le ls fun x hx => h x (by simp [hx])
    have hd := h d (by simp)
    rw [prodN, List.length_cons, Nat.pow_succ, Nat.mul_comm (5 ^ ls.length)]
    exact Nat.mul_le_mul hd ih
theorem domL_len {ds : List (List Int)} (h : ∀ d ∈ ds, d.length ≤ 5) (x : Int) : (domL ds x).length ≤ 5 := by
  unfold domL
  rw [List.getD_eq_getElem?_getD]
  cases e : ds[x.toNat]? with
  | none => simp
  | some d => exact h d (List.mem_of_getElem? e)
theorem prod_small {ds : List (List Int)} {scope : List Int} (h : ∀ d ∈ ds, d.length ≤ 5) (hs : scope.length ≤ 4) : prodN (scope.map (domL ds)) ≤ 625 := by
  have h1 := prod_le (scope.map (domL ds)) fun d hd => by
    obtain ⟨x, _, rfl⟩ := List.mem_map.1 hd
    exact domL_len h x
  have h2 : 5 ^ (scope.map (domL ds)).length ≤ 5 ^ 4 := Nat.pow_le_pow_right (by decide) (by simpa using hs)
  have : 5 ^ 4 = 625 := by decide
  omega

set_option maxHeartbeats 4000000 in
theorem walk {l0 : List (List Int)} {l1 : List Int} {l2 : Int} {v0 v1 v2 : Value} {w : World} (i0 : Tups w v0 l0) (m0 : ∀ l ∈ l0, ∀ n ∈ l, InI64 n) (i1 : Ints w v1 l1) (m1 : ∀ n ∈ l1, InI64 n) (i2 : v2 = .int .i64 l2) (m2 : InI64 l2) :
    Calls Try.prog 4 #[v0, v1, v2] w fun e w' => e = .returned (.bool true) ∧ Below w.heap.size w w' := by
  subst i2
  obtain ⟨a, ca, rfl, hla, hca⟩ := i0.form
  obtain ⟨b, cb, rfl, hlb, hcb⟩ := i1.form
  unfold maxLen at hca hcb
  unfold InI64 at m2
  clear m1
  go_enter Try.func4, Try.ntmps4
  go_wp2_with fail
  refine (shown7_any _).mono ?_
  rintro e w1 ⟨rfl, hb1⟩
  have j0 := i0.below hb1
  have J1 := hide (i1.below hb1)
  clear i0 i1
  have HB1 := hide hb1
  clear hb1
  go_wp2
  go_loopw [8, 9, 10, 11] (fun v i _ _ wr => ∃ k : Nat, k ≤ l0.length ∧ k ≤ 6 ∧ i = .int .i64 k ∧ OwnT w1.heap.size wr v (domsK l0 k) ∧ Below w1.heap.size w1 wr) (fun _ i _ _ _ => l0.length - (intOf i).toNat)
  case atStart => exact ⟨0, by omega, by omega, rfl, OwnT.nil _ _, Below.refl _ _⟩
  case round =>
    obtain ⟨k, hk, hk6, rfl, hown, hbel⟩ := hrel
    rename World => wr
    have hzz := hbel.size
    by_cases hkk : k < l0.length ∧ k < 6
    · obtain ⟨hkl, hkt⟩ := hkk
      have hkI : decide ((k : Int) < 6) = true := by simp; omega
      obtain ⟨bl, ol, ul, rfl, hcl, hiL⟩ := (j0.below hbel).at hkl
      obtain ⟨ia, ic, rfl, hil, hic⟩ := hiL.form
      unfold maxLen at hic
      have hm0 := m0 _ (List.getElem_mem hkl)
      have HC := hide (domsK_step hkl)
      have hlen := domsK_len l0 k
      have HOW := hide hown
      have HBL := hide hbel
      generalize l0[k] = row at *
      clear m0 j0 hown hbel
      go_wp2
      go_loopw [10, 11] (fun v i wq => ∃ j : Nat, j ≤ row.length ∧ j ≤ 4 ∧ i = .int .i64 j ∧ Ints wq v (domK row j) ∧ New wr.heap.size wq v ∧ Below wr.heap.size wr wq) (fun _ i _ => row.length - (intOf i).toNat)
      case atStart => exact ⟨0, by omega, by omega, rfl, litI_at (c := #[.int .i64 0]) (e := 3) (fr := (0, 0)) (heap_alloc_new _ _) rfl rfl (by simp), (by intro g hg; cases hg; exact ⟨Nat.le_refl _, by simp⟩), (Below.refl _ _).alloc (Nat.le_refl _) _⟩
      case round =>
        obtain ⟨j, hj, hj4, rfl, hi, hnew, hbq⟩ := hrel
        rename World => wq
        have hzq := hbq.size
        obtain ⟨va, vc, rfl, hvl, hvc⟩ := hi.form
        unfold maxLen at hvc
        have hdl := domK_len row j
        have hclq := Below.cell_of hbq hcl
        by_cases hjj : j < row.length ∧ j < 4
        · obtain ⟨hjl, hjt⟩ := hjj
          obtain ⟨bi, oi, rfl, hci⟩ := (hiL.below hbq).at hjl
          have hmj := hm0 _ (List.getElem_mem hjl)
          unfold InI64 at hmj
          have HD := hide (domK_step hjl)
          generalize row[j] = x at *
          have hb3 := hbq.alloc hzq (.cells #[.int .i64 (x.tmod 1000000)] 3)
          have HJ := hide (refJoin_own (hi.below ((Below.refl _ wq).alloc (Nat.le_refl _) (.cells #[.int .i64 (x.tmod 1000000)] 3))) (litI_at (c := #[.int .i64 (x.tmod 1000000)]) (e := 3) (fr := (0, 0)) (l := [x.tmod 1000000]) (heap_alloc_new wq _) rfl rfl (by simp)) (by simp; omega))
          rw [← unhide HD] at HJ
          have HB3 := hide hb3
          clear hi hnew hiL hcl hm0 hb3 HOW HC
          go_wp2_with fail
          refine (unhide HJ).mono ?_
          rintro e w5 ⟨u5, rfl, ho5, hb5⟩
          have hB5 := (unhide HB3).trans (hb5.mono (by simp; omega))
          have hn5 : New wr.heap.size w5 u5 := fun g hg => by have := (New.of_own ho5) g hg; simp at this; exact ⟨by omega, this.2⟩
          have hi5 := Seq.of_own ho5
          obtain ⟨xa, xc, rfl, _, _⟩ := hi5.form
          clear ho5 hb5
          go_wp2
          go_roundw
          case rel => first | exact ⟨j + 1, by omega, by omega, by go_num, hi5, hn5, hB5⟩ | ((repeat apply Exists.intro); exact ⟨⟨j + 1, by omega, by omega, by go_num, hi5, hn5, hB5⟩, rfl⟩)
          case measure => simp [intOf]; omega
        · have he : j = min row.length 4 := by omega
          have hok : Hid (decide (j < row.length) = false ∨ (j < row.length ∧ ¬ j < 4)) := hide (by
            by_cases h1 : j < row.length
            · exact .inr ⟨h1, fun h2 => hjj ⟨h1, h2⟩⟩
            · exact .inl (by simpa using h1))
          rw [← he] at HC
          have hown := (unhide HOW).below hbq
          have hap := hide (show Sep _ _ from (Sep.of_new (unhide HOW).new (Nat.le_refl _) hnew).symm)
          have hz5 : w1.heap.size ≤ wq.heap.size := Nat.le_trans hzz hzq
          have HBQ := hide ((unhide HBL).trans (hbq.mono hzz))
          generalize domK row j = R at *
          generalize domsK l0 k = LL at *
          clear HOW hcl hiL hm0 hnew hjj he HBL hbq
          rcases unhide hok with h1 | ⟨h1, h2⟩
          all_goals
            clear hok
            go_wp2_with (at_builtin; refine wp_app_tup rfl (.tmp 53) (.tmp 55) rfl hown hi (fun _ => unhide hap) rfl hz5 rfl (by omega) ?_; intro v6 w6 hown6 hg6)
            go_roundw
            case rel => exact ⟨k + 1, by omega, by omega, by go_num, by rw [unhide HC]; exact hown6, (unhide HBQ).trans hg6.below⟩
            case measure => simp [intOf]; omega
    · have hok : Hid (decide (k < l0.length) = false ∨ (k < l0.length ∧ ¬ k < 6)) := hide (by
        by_cases h1 : k < l0.length
        · exact .inr ⟨h1, fun h2 => hkk ⟨h1, h2⟩⟩
        · exact .inl (by simpa using h1))
      have hdl6 := domsK_len l0 k
      have hd5 := hide (fun d (h : d ∈ domsK l0 k) => domsK_mem h)
      have htD := hown.tups
      generalize domsK l0 k = D at *
      obtain ⟨da, dc, rfl, hdl, hdc⟩ := htD.form
      unfold maxLen at hdc
      have HTD := hide htD
      have J2 := hide ((unhide J1).below hbel)
      have HBR := hide ((unhide HB1).trans (hbel.mono (unhide HB1).size))
      clear hown htD j0 m0 hkk hbel J1 HB1
      rcases unhide hok with h1 | ⟨h1, h2⟩
      all_goals
        clear hok
        go_wp2
        go_loopw [12, 13] (fun v i wq => ∃ j : Nat, j ≤ l1.length ∧ j ≤ 4 ∧ (D.length = 0 → j = 0) ∧ i = .int .i64 j ∧ Ints wq v (scoK D.length l1 j) ∧ Below wr.heap.size wr wq) (fun _ i _ => l1.length - (intOf i).toNat)
        case atStart => exact ⟨0, by omega, by omega, fun _ => rfl, rfl, Seq.nil _ _, Below.refl _ _⟩
        case round =>
          obtain ⟨j, hj, hj4, hj0, rfl, hi, hbq⟩ := hrel
          rename World => wq
          have hzq := hbq.size
          obtain ⟨va, vc, rfl, hvl, hvc⟩ := hi.form
          unfold maxLen at hvc
          have hsl := scoK_len D.length l1 j
          by_cases hjj : (j < l1.length ∧ j < 4) ∧ 0 < D.length
          · obtain ⟨⟨hjl, hjt⟩, hD⟩ := hjj
            obtain ⟨bi, oi, rfl, hci⟩ := ((unhide J2).below hbq).at hjl
            have HS := hide (scoK_step (D := D.length) hjl)
            generalize l1[j] = x at *
            obtain ⟨y, hy⟩ : ∃ y, y = (bits .and .i64 x 65535).tmod (D.length : Int) := ⟨_, rfl⟩
            rw [← hy] at HS
            have hb3 := hbq.alloc hzq (.cells #[.int .i64 y] 3)
            have HJ := hide (refJoin_own (hi.below ((Below.refl _ wq).alloc (Nat.le_refl _) (.cells #[.int .i64 y] 3))) (litI_at (c := #[.int .i64 y]) (e := 3) (fr := (0, 0)) (l := [y]) (heap_alloc_new wq _) rfl rfl (by simp)) (by simp; omega))
            rw [← unhide HS] at HJ
            have HB3 := hide hb3
            have hrg := scoV_range hD x
            have hDn : ((D.length : Int) == 0) = false := by rw [beq_eq_false_iff_ne]; omega
            have hDg : decide ((0 : Int) < (D.length : Int)) = true := by simpa using hD
            have hDg2 : decide (0 < D.length) = true := by simpa using hD
            have HY := hide hy
            clear hi hb3 hy hj0
            go_wp2_with fail
            rw [← unhide HY]
            refine (unhide HJ).mono ?_
            rintro e w5 ⟨u5, rfl, ho5, hb5⟩
            have hB5 := (unhide HB3).trans (hb5.mono (by simp; omega))
            have hi5 := Seq.of_own ho5
            obtain ⟨xa, xc, rfl, _, _⟩ := hi5.form
            clear ho5 hb5
            go_wp2
            go_roundw
            case rel => first | exact ⟨j + 1, by omega, by omega, by omega, by go_num, hi5, hB5⟩ | ((repeat apply Exists.intro); exact ⟨⟨j + 1, by omega, by omega, by omega, by go_num, hi5, hB5⟩, rfl⟩)
            case measure => simp [intOf]; omega
          · have hok : Hid (decide (j < l1.length) = false ∨ (j < l1.length ∧ ¬ j < 4) ∨ (j < l1.length ∧ j < 4 ∧ decide ((0 : Int) < (D.length : Int)) = false ∧ decide (0 < D.length) = false)) := hide (by
              by_cases h1 : j < l1.length
              · by_cases h2 : j < 4
                · exact .inr (.inr ⟨h1, h2, by have hD0 : D.length = 0 := (by omega); rw [hD0]; rfl, by have hD0 : D.length = 0 := (by omega); rw [hD0]; rfl⟩)
                · exact .inr (.inl ⟨h1, h2⟩)
              · exact .inl (by simpa using h1))
            have hsin : ∀ x ∈ scoK D.length l1 j, 0 ≤ x ∧ x < (D.length : Int) := by
              by_cases hD : 0 < D.length
              · exact fun x hx => scoK_mem hD hx
              · have := hj0 (by omega)
                subst this
                intro x hx
                simp [scoK] at hx
            generalize scoK D.length l1 j = S at *
            have htq := (unhide HTD).below hbq
            have hpr : ∀ i, i ≤ S.length → prodN ((S.take i).map (domL D)) < 1000000000 := fun i hi => by
              have := prod_small (scope := S.take i) (unhide hd5) (by rw [List.length_take]; omega)
              omega
            have hpr2 := prod_small (scope := S) (unhide hd5) (by omega)
            have HRF := hide (refFull_any htq hi hsin (by omega) hpr)
            have HBF := hide (fun W (hb : Below wq.heap.size wq W) => full_any (most := l2) (htq.below hb) (hi.below hb) hsin (by omega) (by rw [full_count]; omega) (fun d hd => by have := unhide hd5 d hd; omega))
            rw [← full_count] at hpr2
            generalize fullL (S.map (domL D)) = R at *
            have HI := hide hi
            have HFin := hide ((unhide HBR).trans (hbq.mono (unhide HBR).size))
            clear hi htq hpr hsin hj0 hjj HTD J2
            rcases unhide hok with g1 | ⟨g1, g2⟩ | ⟨g1, g2, g3, g4⟩
            all_goals
              clear hok
              go_wp2_with fail
              refine (unhide HRF).mono ?_
              rintro e w5 ⟨u5, rfl, ht5, hb5⟩
              obtain ⟨ra, rc, rfl, hrl, hrc⟩ := ht5.form
              unfold maxLen at hrc
              go_wp2_with fail
              refine (unhide HBF _ hb5).mono ?_
              rintro e w6 ⟨hE, hb6⟩
              have ht6 := ht5.below hb6
              have hi6 := ((unhide HI).below hb5).below hb6
              have hB6 := (unhide HFin).trans ((below_then hb5 hb6).mono (unhide HFin).size)
              have HB6 := hide hB6
              rcases hE with ⟨hm, xa, xb, rfl, hx1, hx2, hx3⟩ | ⟨hm, rfl⟩
              · obtain ⟨ya, yc, rfl, _, _⟩ := hx1.form
                obtain ⟨za, zc, rfl, _, _⟩ := hx2.form
                have hgt : decide (l2 < (R.length : Int)) = false := by simpa using hm
                have hpb := (Below.refl _ w6).alloc (Nat.le_refl _) (.cells #[.slice ya S.length yc, .slice za R.length zc] 36)
                have HSM := hide (refSame_rel (w := w6.alloc (.cells #[.slice ya S.length yc, .slice za R.length zc] 36)) (v := .agg #[.slice ya S.length yc, .slice za R.length zc]) (v' := .agg #[.slice va S.length vc, .slice ra R.length rc]) ⟨_, _, rfl, hx1.below hpb, hx2.below hpb⟩ ⟨_, _, rfl, hi6.below hpb, ht6.below hpb⟩)
                rw [show sameR S R S R = true from sameR_iff.2 ⟨rfl, rfl⟩] at HSM
                have HPB := hide ((unhide HB6).trans (hpb.mono (unhide HB6).size))
                clear hx1 hx2 hx3 ht6 hi6 ht5 hb5 hb6 hB6 hpb hm
                go_wp2_with fail
                refine (unhide HSM).mono ?_
                rintro e w7 ⟨rfl, hb7⟩
                have hfin := (unhide HPB).trans (hb7.mono (unhide HPB).size)
                clear hb7
                go_wp2
                go_ret
                exact ⟨rfl, hfin⟩
              · have hgt : decide (l2 < (R.length : Int)) = true := by simpa using hm
                have hfin := (unhide HB6).alloc (unhide HB6).size (.cells #[.slice none 0 0, .slice none 0 0] 36)
                have HF := hide hfin
                clear ht6 hi6 ht5 hb5 hb6 hB6 hfin hm
                go_wp2
                go_ret
                exact ⟨rfl, unhide HF⟩

set_option maxRecDepth 100000 in
theorem lifted (os : Os) (started : os.Started) (H : Type) (enc : TypeId × Value → H) :
    ReturnsInHanded {} Try.checked os 4 .any (Rows.builtFullSpec.pre6 enc Try.prog Try.f4 Rows.builtFullRow.domain false) (Rows.builtFullSpec.post enc Try.prog Try.f4 false true false false) := by
  refine returnsInHanded_of_change (C := Try.checked) own started (by kernel_rfl) Try.func4
    (ChangeSpec.witness6 (enc := enc) (C := Try.checked) false ⟨#[], #[.slice none 0 0, .slice none 0 0, .int .i64 0], []⟩ 8 (by kernel_rfl) (by kernel_rfl) (by kernel_rfl) (by kernel_rfl)) ?_
  intro W base args ds gs before hval0 hW hcnd _
  have hval : ∀ (j : Nat) t v, Try.f4.params[j]? = some t → args[j]? = some v → Value.okWide Try.prog W .any base t v := hval0
  have hW' := hW
  obtain ⟨p, q, hA0, hV, rfl, hfz, hnd⟩ := hW
  have hA : DataW.TrodAll enc Try.prog W 0 (fun _ => true) true Try.f4.params.toList args.toList ds p := hA0
  rw [Try.params4] at hA hval
  obtain ⟨v0, vs0, d0, ds0, p0, q0, hargs, rfl, rfl, h0, r0⟩ := trodAll_cons hA
  obtain ⟨v1, vs1, d1, ds1, p1, q1, rfl, rfl, rfl, h1, r1⟩ := trodAll_cons r0
  obtain ⟨v2, vs2, d2, ds2, p2, q2, rfl, rfl, rfl, h2, r2⟩ := trodAll_cons r1
  obtain ⟨rfl, rfl, rfl⟩ := trodAll_nil r2
  obtain rfl : args = #[v0, v1, v2] := by cases args; simp_all
  obtain ⟨rfl, rfl⟩ := trodVars_none hV
  obtain ⟨l0, i0, m0⟩ := read_tups h0 (okWide_slice Try.underlying22 (hval 0 22 v0 rfl rfl))
  have lt0 : ∀ x ∈ p0, x.block < W.heap.size := by obtain ⟨m, hm⟩ := h0; exact DataW.trod_lt m _ _ _ hm
  obtain ⟨l1, i1, m1⟩ := read_ints h1 (okWide_slice Try.underlying29 (hval 1 29 v1 rfl rfl))
  have lt1 : ∀ x ∈ p1, x.block < W.heap.size := by obtain ⟨m, hm⟩ := h1; exact DataW.trod_lt m _ _ _ hm
  obtain ⟨l2, i2, m2⟩ := read_int h2 (hval 2 3 v2 rfl rfl)
  have lt2 : ∀ x ∈ p2, x.block < W.heap.size := by obtain ⟨m, hm⟩ := h2; exact DataW.trod_lt m _ _ _ hm
  clear hA0 hval0
  refine (walk i0 m0 i1 m1 i2 m2).mono fun e W' ⟨he, bel⟩ => ?_
  subst he
  exact ⟨_, rfl, _, _, _, [], _, [], hW', trodAll_mk1 (shut_bool Try.underlying4 _), (trodAll_cons_mk (Below.trod laidOut (by kernel_rfl) (of_decide_eq_true (by kernel_rfl)) h0 bel lt0) (trodAll_cons_mk (Below.trod laidOut (by kernel_rfl) (of_decide_eq_true (by kernel_rfl)) h1 bel lt1) (trodAll_cons_mk (Below.trod laidOut (by kernel_rfl) (of_decide_eq_true (by kernel_rfl)) h2 bel lt2) trodAll_mk0))), rfl, bel.frame _, fun h => by cases h⟩

theorem over : Rows.builtFullRow.holds Try.pinned (OpenSpec.ofChange Rows.builtFullSpec) :=
  OpenClaim.holds_of_wide 4 Try.f4 rfl rfl rfl rfl rfl rfl rfl ⟨rfl, rfl, rfl, rfl, rfl⟩ rfl rfl rfl rfl rfl (by kernel_rfl) Try.func4 (by kernel_rfl)
    (of_decide_eq_true (by kernel_rfl)) (by unfold Func.isWrapper; first | (rw [if_pos (by decide +kernel)]; kernel_rfl) | (rw [if_neg (by decide +kernel)]; exact ⟨rfl, rfl⟩))
    (fun os started H enc _ => lifted os started H enc)

/-- The statement. -/
theorem proved : Rows.BuiltFullSaid := over
#print axioms proved
end Go.Proofs.Ytlbiebnihoekkaa.builtFull
