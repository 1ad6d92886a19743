/-
  The contract of All.
-/
import Derived.Test.YtoiokplgkanepaaDoorScanTakeA
import Derived.Test.YtoiokplgkanepaaDoorScanLeave
import Derived.ScopeJumps
import Derived.WalkMore
namespace Go.Proofs.YtoiokplgkanepaaDoor
open Go.RowKit
set_option linter.unusedVariables false
set_option linter.unusedSimpArgs false
set_option maxRecDepth 20000

theorem wp_scope_loop {P : Program} {a : Act} {w : World} {Q : Exit → Act → World → Prop} {c c' : Code} (l : Nat) (J : Act → World → Prop) (μ : Act → World → Nat) (hf : findLabel c l = some (Code.skip.seq c'))
    (first : (∀ a w, J a w → c'.wp P (Exit.jump l J Q) a w) → c.wp P (Exit.jump l J Q) a w)
    (pass : ∀ a w, J a w → c'.wp P (Exit.jump l (fun a' w' => J a' w' ∧ μ a' w' < μ a w) Q) a w) : (Code.scope c).wp P Q a w :=
  wp_scope_jumps l J μ hf (first fun a w h => wp_mono (pass a w h) fun e a' w' hq => by
    cases e with
    | goto l' => exact ⟨hq.1, hq.2.1⟩
    | _ => exact hq) fun a w h => wp_seq (wp_skip (pass a w h))

theorem tok_bad {l : Bytes} {e : Int} (h : tokG l = .bad e) : e = 2 ∨ e = 4 := by
  have num : ∀ (d : Bytes) (b : Bool), numG d b = .bad e → e = 2 ∨ e = 4 := by
    intro d b h
    unfold numG at h
    split at h
    · split at h
      · cases h
      · cases h; exact .inr rfl
    · cases h; exact .inl rfl
  cases l with
  | nil => cases h
  | cons c r =>
    rw [tokG_cons] at h
    split at h
    · cases h
    · split at h
      · cases h
      · split at h
        · exact num _ _ h
        · split at h
          · exact num _ _ h
          · cases h; exact .inl rfl

theorem wp_app_tok2 {t e : TypeId} (ht : Tryd.prog.underlying t = some (.slice e)) (hinfo : (Tryd.prog.info? e).map (fun i => (i.zero, i.size, i.bytes)) = some (some (.agg #[.int .i64 0, .string ⟨#[]⟩, .int .i64 0, .int .i64 0]), 4, 40))
    {w : World} {ops : Array Oper} {rest : List Oper} {o : Oper} {a : Act} {Q : Exit → Act → World → Prop} (hgd : o.guard = none) (s x : Operand)
    (ho : o.op = .call { callee := .builtin .append, args := #[s, x], argTypes := #[t, t] }) {B n : Nat} {v : Value} {l : List Tok} (y : Tok) (hown : OwnK e B w v l) (hs : a.eval s = v) (hB : B ≤ w.heap.size)
    (hx : a.eval x = .slice (some ⟨n, 0, none⟩) 1 1) (hn : n = w.heap.size) (hlen : l.length < 100000000)
    (h : ∀ v' w', OwnK e B w' v' (l ++ [y]) → Grew B w w' v v' → wpList Tryd.prog ops Q rest (a.put o.dst v') w') :
    wpList Tryd.prog ops Q (o :: rest) a (w.alloc (.cells #[.int .i64 y.kind, .string ⟨y.text.toArray⟩, .int .i64 y.n, .int .i64 (y.at_ : Int)] e)) := by
  subst hn
  exact wp_app_tok ht hinfo hgd s x ho y hown hs hB hx hlen h

theorem own_ne {B : Nat} {e : TypeId} {k : Nat} {w : World} {v : Value} {n : Nat} {xs : List Value} (h : w.ownsRow B e k v n xs) : v.ownBlock ≠ some w.heap.size := fun e => by
  have := own4_new h _ e; omega

/-- What All answers. -/
def AllEnds (w' : World) (e : Ending) : Scan → Prop
  | .bad p c => e = .returned (.tuple #[.slice none 0 0, .int .i64 (p : Int), .int .i64 c])
  | .good l => ∃ v, e = .returned (.tuple #[v, .int .i64 0, .int .i64 0]) ∧ ToksV w' v l

/-- What holds whenever the run comes to the label. -/
def AtLabel (s : ByteArray) (w : World) (R : Scan) (a' : Act) (w' : World) : Prop := ∃ (tv : Value) (k f : Nat) (done : List Tok) (u7 u8 u9 u10 u11 u12 u13 u14 u15 u16 u17 u18 u19 u20 u21 u22 u23 u24 u25 u26 u27 u28 u29 u30 u31 u32 u33 u34 u35 u36 : Value),
    a' = { tmps := #[.string s, undef, .slice none 0 0, .int .i64 0, .int .i64 0, tv, .int .i64 (k : Int), u7, u8, u9, u10, u11, u12, u13, u14, u15, u16, u17, u18, u19, u20, u21, u22, u23, u24, u25, u26, u27, u28, u29, u30, u31, u32, u33, u34, u35, u36], defers := [] } ∧
    k ≤ s.size ∧ OwnK 52 w.heap.size w' tv done ∧ Below w.heap.size w w' ∧ ((lb s).drop k).length < f ∧ done.length ≤ k ∧ Hid (R = (scanF f k ((lb s).drop k)).pre done)
def muAll (s : ByteArray) (a' : Act) (_ : World) : Nat := s.size - (intOf (a'.tmps.getD 6 undef)).toNat

set_option maxHeartbeats 4000000 in
theorem all_any (s : ByteArray) (w : World) (hs : s.size ≤ 100000) :
    Calls Tryd.prog 13 #[.string s] w fun e w' => AllEnds w' e (scanA 0 (lb s)) ∧ Below w.heap.size w w' := by
  obtain ⟨R, hR⟩ : ∃ R, R = scanA 0 (lb s) := ⟨_, rfl⟩
  rw [← hR]
  have hgu : decide ((100000 : Int) < (s.size : Int)) = false := by simp; omega
  go_enter Tryd.func13, Tryd.ntmps13
  go_wp2
  refine wp_scope_loop 0 (AtLabel s w R) (muAll s) rfl ?_ ?_
  · intro hp
    have HP := hide hp
    clear hp
    go_wp2
    go_step3
    rename_i hK
    refine hK _ _ (unhide HP _ _ ⟨_, 0, (lb s).length + 1, [], _, _, _, _, _, _, _, _, _, _, _, _, _, _, _, _, _, _, _, _, _, _, _, _, _, _, _, _, _, _, rfl, Nat.zero_le _, World.ownsRow_made w #[] 0 (Nat.le_refl _) (by simp [maxLen]) (by simp), (Below.refl _ _).alloc (Nat.le_refl _) _, by simp, Nat.le_refl _, hide ?_⟩)
    rw [hR, pre_nil]; rfl
  · rintro a' w1 ⟨tv, k, f, done, u7, u8, u9, u10, u11, u12, u13, u14, u15, u16, u17, u18, u19, u20, u21, u22, u23, u24, u25, u26, u27, u28, u29, u30, u31, u32, u33, u34, u35, u36, rfl, hk, hown, hbel, hf, hdl, HR⟩
    clear hR
    obtain ⟨g, rfl⟩ : ∃ g, f = g + 1 := ⟨f - 1, by omega⟩
    have hR := HR.out
    clear HR
    rw [scanF, List.drop_drop] at hR
    have hle := skip_le false ((lb s).drop k)
    simp only [List.length_drop, lb_len] at hle hf
    have HL := hide (fun W => leaveOut_any s k W hk (by omega))
    obtain ⟨m, hm⟩ : ∃ m, m = k + skipN false ((lb s).drop k) := ⟨_, rfl⟩
    rw [← hm] at hR HL
    have hms : m ≤ s.size := by omega
    have hkm : k ≤ m := by omega
    have HT := hide (fun W => take_any s m W hms (by omega))
    clear hm hle
    cases hT : tokG ((lb s).drop m) with
    | bad er =>
      rw [hT] at hR HT
      have hne : (er != 0) = true := by rcases tok_bad hT with rfl | rfl <;> rfl
      have HR := hide hR
      clear hR hT
      unfold takeV tokV at HT
      go_wp2_with fail
      refine (unhide HL _).mono ?_
      rintro e w' ⟨rfl, rfl⟩
      go_wp2_with fail
      refine (unhide HT _).mono ?_
      rintro e w2 ⟨rfl, hb2⟩
      go_wp2
      simp only [Exit.jump]
      refine bodyPost_ret (v := .tuple #[.slice none 0 0, .int .i64 (m : Int), .int .i64 er]) (by simp [results, Tryd.results13, go_sem]) rfl ⟨?_, ?_⟩
      · rw [unhide HR]; rfl
      · exact (hbel.trans (hb2.mono hbel.size)).alloc (Nat.le_trans hbel.size hb2.size) _
    | tok kind t n len =>
      rw [hT] at hR HT
      obtain ⟨hl1, hl2, hl3, hl4⟩ := tok_len hT
      simp only [List.length_drop, lb_len] at hl1
      have hz1 := hbel.size
      unfold takeV tokV at HT
      by_cases h4 : kind = 4
      · subst h4
        obtain ⟨h41, rfl, rfl, rfl⟩ := hl3 rfl
        have HR := hide hR
        clear hR hT hl2 hl3 hl4 h41
        go_wp2_with fail
        refine (unhide HL _).mono ?_
        rintro e w' ⟨rfl, rfl⟩
        go_wp2_with fail
        refine (unhide HT _).mono ?_
        rintro e w2 ⟨rfl, hb2⟩
        have hz2 := hb2.size
        have hown2 := own4_below hown hb2
        have x0 := BoxK.new 52 w2 (.int .i64 4) (.string ⟨#[]⟩) (.int .i64 0) (.int .i64 (m : Int))
        have hown3 := own4_below hown2 ((Below.refl _ _).alloc (Nat.le_refl _) (.cells #[.int .i64 4, .string ⟨#[]⟩, .int .i64 0, .int .i64 (m : Int)] 52))
        have hne := own_ne hown2
        have H1 := hide x0
        have H3 := hide hown3
        have HN := hide hne
        clear x0 hown hown2 hown3 hne
        go_wp2_with (at_builtin; refine wp_app_tok2 Tryd.underlying43 Tryd.infoTok rfl (.tmp 28) (.tmp 30) rfl ⟨4, [], 0, m⟩ (unhide H3) rfl (by simp; omega) rfl (by simp) (by omega) ?_; intro v' w3 hown4 hgrew; have c0 := (BoxK.grew (unhide H1) hgrew (unhide HN)).cell0)
        simp only [Exit.jump]
        refine bodyPost_ret (v := .tuple #[v', .int .i64 0, .int .i64 0]) (by simp [results, Tryd.results13, go_sem]) rfl ⟨?_, ?_⟩
        · rw [unhide HR, if_pos trivial]
          exact ⟨_, rfl, hown4.toks⟩
        · exact ((hbel.trans (hb2.mono hbel.size)).alloc (Nat.le_trans hbel.size hb2.size) _).trans hgrew.below
      · have hlen := hl2 h4
        have h4' : (kind != 4) = true := by simpa using h4
        simp only [] at hR HT
        rw [if_neg h4, List.drop_drop, pre_pre] at hR
        obtain ⟨E, hE⟩ : ∃ E, E = m + len := ⟨_, rfl⟩
        rw [← hE] at hR HT
        have HR := hide hR
        have hE1 : E ≤ s.size := by omega
        have hE2 : m < E := by omega
        clear hR hT hl2 hl3 hl4 h4 hE hl1
        go_wp2_with fail
        refine (unhide HL _).mono ?_
        rintro e w' ⟨rfl, rfl⟩
        go_wp2_with fail
        refine (unhide HT _).mono ?_
        rintro e w2 ⟨rfl, hb2⟩
        have hz2 := hb2.size
        have hown2 := own4_below hown hb2
        have x0 := BoxK.new 52 w2 (.int .i64 kind) (.string ⟨t.toArray⟩) (.int .i64 n) (.int .i64 (m : Int))
        have hown3 := own4_below hown2 ((Below.refl _ _).alloc (Nat.le_refl _) (.cells #[.int .i64 kind, .string ⟨t.toArray⟩, .int .i64 n, .int .i64 (m : Int)] 52))
        have hne := own_ne hown2
        have H1 := hide x0
        have H3 := hide hown3
        have HN := hide hne
        clear x0 hown hown2 hown3 hne
        go_wp2_with (at_builtin; refine wp_app_tok2 Tryd.underlying43 Tryd.infoTok rfl (.tmp 28) (.tmp 30) rfl ⟨kind, t, n, m⟩ (unhide H3) rfl (by simp; omega) rfl (by simp) (by omega) ?_; intro v' w3 hown4 hgrew; have c0 := (BoxK.grew (unhide H1) hgrew (unhide HN)).cell0)
        go_step3
        refine ⟨rfl, ⟨v', E, g, done ++ [⟨kind, t, n, m⟩], _, _, _, _, _, _, _, _, _, _, _, _, _, _, _, _, _, _, _, _, _, _, _, _, _, _, _, _, _, _, rfl, hE1, hown4, ?_, ?_, ?_, HR⟩, ?_⟩
        · exact ((hbel.trans (hb2.mono hbel.size)).alloc (Nat.le_trans hbel.size hb2.size) _).trans hgrew.below
        · simp only [List.length_drop, lb_len]; omega
        · simp; omega
        · simp [muAll, intOf]; omega

end Go.Proofs.YtoiokplgkanepaaDoor
