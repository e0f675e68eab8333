/-
  The reader's text.
-/
import Derived.Test.YtlkdcdmdkncjoaaDoorYH
import Derived.Test.YtlkdcdmdkncjoaaDoorJJ
namespace Go.Proofs.YtlkdcdmdkncjoaaDoor
open Go.RowKit
set_option maxRecDepth 1000000
set_option maxHeartbeats 16000000
set_option linter.unusedVariables false

/-- Three labels, the first at the front. -/
theorem wp_scope_three {P : Program} {a : Act} {w : World} {Q : Exit → Act → World → Prop} {c r0 r1 r2 : Code} (J0 J1 J2 : Nat → Act → World → Prop) (h0 : findLabel c 0 = some r0) (h1 : findLabel c 1 = some r1) (h2 : findLabel c 2 = some r2)
    (first : c.wp P (Exit.jumps (fun l a w => (l = 0 ∧ ∃ g, J0 g a w) ∨ (l = 1 ∧ ∃ g, J1 g a w) ∨ (l = 2 ∧ ∃ g, J2 g a w)) Q) a w)
    (pass0 : ∀ g a w, J0 g a w → r0.wp P (Exit.jumps (fun l a w => (l = 0 ∧ ∃ g', g' < g ∧ J0 g' a w) ∨ (l = 1 ∧ ∃ g', g' < g ∧ J1 g' a w) ∨ (l = 2 ∧ ∃ g', g' < g ∧ J2 g' a w)) Q) a w)
    (pass1 : ∀ g a w, J1 g a w → r1.wp P (Exit.jumps (fun l a w => (l = 0 ∧ ∃ g', g' < g ∧ J0 g' a w) ∨ (l = 1 ∧ ∃ g', g' < g ∧ J1 g' a w) ∨ (l = 2 ∧ ∃ g', g' < g ∧ J2 g' a w)) Q) a w)
    (pass2 : ∀ g a w, J2 g a w → r2.wp P (Exit.jumps (fun l a w => (l = 0 ∧ ∃ g', g' < g ∧ J0 g' a w) ∨ (l = 1 ∧ ∃ g', g' < g ∧ J1 g' a w) ∨ (l = 2 ∧ ∃ g', g' < g ∧ J2 g' a w)) Q) a w) : (Code.scope c).wp P Q a w := by
  refine wp_scope_multi (fun l => if l = 0 then r0 else if l = 1 then r1 else r2) (fun l g a w => (l = 0 ∧ J0 g a w) ∨ (l = 1 ∧ J1 g a w) ∨ (l = 2 ∧ J2 g a w)) (fun l g a w h => ?_) (wp_mono first ?_) (fun l g a w h => ?_)
  · rcases h with ⟨rfl, _⟩ | ⟨rfl, _⟩ | ⟨rfl, _⟩
    · exact h0
    · exact h1
    · exact h2
  · intro e a w h
    cases e <;> first | exact h | (rcases h with ⟨h1, g, h2⟩ | ⟨h1, g, h2⟩ | ⟨h1, g, h2⟩; exact ⟨g, .inl ⟨h1, h2⟩⟩; exact ⟨g, .inr (.inl ⟨h1, h2⟩)⟩; exact ⟨g, .inr (.inr ⟨h1, h2⟩)⟩)
  · rcases h with ⟨rfl, h⟩ | ⟨rfl, h⟩ | ⟨rfl, h⟩
    · refine wp_mono (pass0 g a w h) ?_
      intro e a w h
      cases e <;> first | exact h | (rcases h with ⟨h1, g, hg, h2⟩ | ⟨h1, g, hg, h2⟩ | ⟨h1, g, hg, h2⟩; exact ⟨g, hg, .inl ⟨h1, h2⟩⟩; exact ⟨g, hg, .inr (.inl ⟨h1, h2⟩)⟩; exact ⟨g, hg, .inr (.inr ⟨h1, h2⟩)⟩)
    · refine wp_mono (pass1 g a w h) ?_
      intro e a w h
      cases e <;> first | exact h | (rcases h with ⟨h1, g, hg, h2⟩ | ⟨h1, g, hg, h2⟩ | ⟨h1, g, hg, h2⟩; exact ⟨g, hg, .inl ⟨h1, h2⟩⟩; exact ⟨g, hg, .inr (.inl ⟨h1, h2⟩)⟩; exact ⟨g, hg, .inr (.inr ⟨h1, h2⟩)⟩)
    · refine wp_mono (pass2 g a w h) ?_
      intro e a w h
      cases e <;> first | exact h | (rcases h with ⟨h1, g, hg, h2⟩ | ⟨h1, g, hg, h2⟩ | ⟨h1, g, hg, h2⟩; exact ⟨g, hg, .inl ⟨h1, h2⟩⟩; exact ⟨g, hg, .inr (.inl ⟨h1, h2⟩)⟩; exact ⟨g, hg, .inr (.inr ⟨h1, h2⟩)⟩)
/-- A label in the middle of three: what holds when it is reached. -/
theorem wp_scope_three_mid {P : Program} {a : Act} {w : World} {Q : Exit → Act → World → Prop} {c X r1 r2 : Code} (J0 J1 J2 : Nat → Act → World → Prop) (h0 : findLabel c 0 = some (Code.skip.seq X)) (h1 : findLabel c 1 = some r1) (h2 : findLabel c 2 = some r2)
    (first : ∀ R : Exit → Act → World → Prop, (∀ g a w, J0 g a w → X.wp P R a w) → c.wp P R a w)
    (pass0 : ∀ g a w, J0 g a w → X.wp P (Exit.jumps (fun l a w => (l = 0 ∧ ∃ g', g' < g ∧ J0 g' a w) ∨ (l = 1 ∧ ∃ g', g' < g ∧ J1 g' a w) ∨ (l = 2 ∧ ∃ g', g' < g ∧ J2 g' a w)) Q) a w)
    (pass1 : ∀ g a w, J1 g a w → r1.wp P (Exit.jumps (fun l a w => (l = 0 ∧ ∃ g', g' < g ∧ J0 g' a w) ∨ (l = 1 ∧ ∃ g', g' < g ∧ J1 g' a w) ∨ (l = 2 ∧ ∃ g', g' < g ∧ J2 g' a w)) Q) a w)
    (pass2 : ∀ g a w, J2 g a w → r2.wp P (Exit.jumps (fun l a w => (l = 0 ∧ ∃ g', g' < g ∧ J0 g' a w) ∨ (l = 1 ∧ ∃ g', g' < g ∧ J1 g' a w) ∨ (l = 2 ∧ ∃ g', g' < g ∧ J2 g' a w)) Q) a w) : (Code.scope c).wp P Q a w := by
  refine wp_scope_three J0 J1 J2 h0 h1 h2 (first _ fun g a w h => wp_mono (pass0 g a w h) ?_) (fun g a w h => wp_seq (wp_skip (pass0 g a w h))) pass1 pass2
  intro e a w h
  cases e <;> first | exact h | (rcases h with ⟨h1, g, hg, h2⟩ | ⟨h1, g, hg, h2⟩ | ⟨h1, g, hg, h2⟩; exact .inl ⟨h1, g, h2⟩; exact .inr (.inl ⟨h1, g, h2⟩); exact .inr (.inr ⟨h1, g, h2⟩))

section
variable (p : Nat) (xs : List Int) (fr : Nat) (bl bc : Int) (i : Nat) (kept : Value) (w : World)
theorem quotedW (base : Nat) (ws : List (Mw × Value)) (hb : ∀ x ∈ xs, 0 ≤ x ∧ x ≤ 255) (hf : fr = i) (hi : i < xs.length) (hl : xs.length ≤ 65536) (h : Rd w p xs fr bl bc i kept) (hk : Kp w base p 39 kept ws) (hbase : base ≤ w.heap.size) (hn : ws.length ≤ 70000) :
    Calls Tryd.prog 31 #[.pointer (some ⟨p, 0, none⟩)] w fun e w' => Went base xs p fr bl bc kept ws w (tokQ xs i) e w' := by
  have HPA := hid (fun W j (hj : j < xs.length) (g1 : Rd W p xs fr bl bc j kept) => passW p xs fr bl bc j kept W hb hj hl g1)
  have HPE := hid (fun W j (hj : j ≤ xs.length) (g1 : Rd W p xs fr bl bc j kept) => peekW p xs fr bl bc j kept W hb hj hl g1)
  have HEN := hid (fun W j (g1 : Rd W p xs fr bl bc j kept) => endedW p xs fr bl bc j kept W g1)
  have HSE := hid (fun W j (hfj : fr ≤ j) (hj : j ≤ xs.length) (g1 : Rd W p xs fr bl bc j kept) => seenW p xs fr bl bc j kept W hfj hj hl g1)
  have HUQ := hid (fun W j (hj : j ≤ xs.length) => unquoteW (cut xs fr j) W (cut_bd hb fr j) (by rw [cut_length _ _ _ hj]; omega))
  have HUE := hid (fun j (hj : j ≤ xs.length) => (show ¬ 65536 < (cut xs fr j).length by rw [cut_length _ _ _ hj]; omega))
  have H2 := hid (fun W j (b : List Int) (a : Option Addr) (c : Nat) (hj : j ≤ xs.length) (hfj : fr ≤ j) (g1 : Rd W p xs fr bl bc j kept) (g2 : Kp W base p 39 kept ws) (g3 : base ≤ W.heap.size) (g4 : Reads W a b.length c b) (g5 : Off p kept b.length a) => keepW p xs fr bl bc j kept W base ws 3 0 b a c hfj hj hl g1 g2 g3 hn g4 g5)
  have HK := hid hk
  have HBS := hid hbase
  have HR := hid h
  have HT : Hid (tokQ xs i = match qe xs (i + 1) with | none => .bad 11 | some k => match uq (cut xs fr k) with | none => .bad 11 | some b => .word 3 k 0 b) := hid (by
    unfold tokQ
    rw [hf]
    cases qe xs (i + 1) with
    | none => rfl
    | some k => dsimp only; cases uq (cut xs i k) <;> rfl)
  have hf3 : fr ≤ i := by omega
  clear hb h hk hbase hn hf
  go_enter Tryd.func31, Tryd.ntmps31
  go_wp2
  refine wp_scope_three_mid
    (fun g a' w' => ∃ (j : Nat) (u1 u2 u3 u4 u5 u6 u7 u8 u9 u10 u11 u12 u13 u14 u15 u16 u17 u18 u19 u20 u21 u22 u23 u24 u25 u26 u27 u28 u29 u30 u31 u32 u33 u34 u35 : Value), a' = { tmps := #[.pointer (some ⟨p, 0, none⟩), u1, u2, u3, u4, u5, u6, u7, u8, u9, u10, u11, u12, u13, u14, u15, u16, u17, u18, u19, u20, u21, u22, u23, u24, u25, u26, u27, u28, u29, u30, u31, u32, u33, u34, u35], defers := [] } ∧ i ≤ j ∧ j < xs.length ∧ g = 2 * (xs.length - j) + 1 ∧ Hid (Rd w' p xs fr bl bc j kept) ∧ Hid (Keep (· ≠ p) w w') ∧ Hid (qe xs (j + 1) = qe xs (i + 1)))
    (fun g a' w' => ∃ (j : Nat) (u1 u2 u3 u4 u5 u6 u7 u8 u9 u10 u11 u12 u13 u14 u15 u16 u17 u18 u19 u20 u21 u22 u23 u24 u25 u26 u27 u28 u29 u30 u31 u32 u33 u34 u35 : Value), a' = { tmps := #[.pointer (some ⟨p, 0, none⟩), u1, u2, u3, u4, u5, u6, u7, u8, u9, u10, u11, u12, u13, u14, u15, u16, u17, u18, u19, u20, u21, u22, u23, u24, u25, u26, u27, u28, u29, u30, u31, u32, u33, u34, u35], defers := [] } ∧ i ≤ j ∧ j < xs.length ∧ g = 2 * (xs.length - j) ∧ Hid (Rd w' p xs fr bl bc j kept) ∧ Hid (Keep (· ≠ p) w w') ∧ Hid (bt xs j = 92) ∧ Hid (qe xs j = qe xs (i + 1)))
    (fun g a' w' => ∃ (j : Nat) (u1 u2 u3 u4 u5 u6 u7 u8 u9 u10 u11 u12 u13 u14 u15 u16 u17 u18 u19 u20 u21 u22 u23 u24 u25 u26 u27 u28 u29 u30 u31 u32 u33 u34 u35 : Value), a' = { tmps := #[.pointer (some ⟨p, 0, none⟩), u1, u2, u3, u4, u5, u6, u7, u8, u9, u10, u11, u12, u13, u14, u15, u16, u17, u18, u19, u20, u21, u22, u23, u24, u25, u26, u27, u28, u29, u30, u31, u32, u33, u34, u35], defers := [] } ∧ i ≤ j ∧ j < xs.length ∧ g = 0 ∧ Hid (Rd w' p xs fr bl bc j kept) ∧ Hid (Keep (· ≠ p) w w') ∧ Hid (qe xs (i + 1) = some (j + 1))) rfl rfl rfl ?_ ?_ ?_ ?_
  · intro R hX
    go_wp2
    rename_i K hK
    exact wp_label (hK _ _ (hX _ _ _ ⟨i, _, _, _, _, _, _, _, _, _, _, _, _, _, _, _, _, _, _, _, _, _, _, _, _, _, _, _, _, _, _, _, _, _, _, _, rfl, Nat.le_refl _, hi, rfl, HR, hid (Keep.refl _ _), hid rfl⟩))
  · rintro g a' w' ⟨j, u1, u2, u3, u4, u5, u6, u7, u8, u9, u10, u11, u12, u13, u14, u15, u16, u17, u18, u19, u20, u21, u22, u23, u24, u25, u26, u27, u28, u29, u30, u31, u32, u33, u34, u35, rfl, hij, hj, rfl, R0, K0, S0⟩
    go_wp2_with fail
    refine (HPA.out _ j hj R0.out).mono ?_
    rintro e w1 ⟨rfl, R1, K1⟩
    have HR1 := hid R1
    have HK1 := hid (K0.out.trans K1)
    clear R1 K1
    go_wp2_with fail
    refine (HEN.out _ (j + 1) HR1.out).mono ?_
    rintro e w2 ⟨rfl, B2⟩
    have HR2 := hid (HR1.out.kept B2)
    have HK2 := hid (HK1.out.trans (Keep.ofBelow B2))
    clear B2
    by_cases hje : j + 1 = xs.length
    · have HS : Hid (tokQ xs i = .bad 11) := hid (by rw [HT.out, ← S0.out, qe_end (by omega)])
      rw [show decide (j + 1 = xs.length) = true by simpa using hje]
      clear hje
      go_wp2
      simp only [Exit.jumps]
      go_ret
      rw [HS.out]
      exact ⟨rfl, _, HR2.out, HK2.out⟩
    · rw [show decide (j + 1 = xs.length) = false by simpa using hje]
      have hj1 : j + 1 < xs.length := by omega
      clear hje
      go_wp2_with fail
      refine (HPE.out _ (j + 1) (by omega) HR2.out).mono ?_
      rintro e w3 ⟨rfl, B3⟩
      have HR3 := hid (HR2.out.kept B3)
      have HK3 := hid (HK2.out.trans (Keep.ofBelow B3))
      clear B3
      by_cases h92 : bt xs (j + 1) = 92
      · rw [h92]
        have HX := hid h92
        clear h92
        go_wp2
        go_step3
        exact .inr (.inl ⟨rfl, _, by omega, j + 1, _, _, _, _, _, _, _, _, _, _, _, _, _, _, _, _, _, _, _, _, _, _, _, _, _, _, _, _, _, _, _, _, _, _, _, rfl, by omega, hj1, rfl, HR3, HK3, HX, S0⟩)
      · have e1 : (bt xs (j + 1) == 92) = false := by simpa using h92
        go_wp2_with fail
        refine (HPE.out _ (j + 1) (by omega) HR3.out).mono ?_
        rintro e w4 ⟨rfl, B4⟩
        have HR4 := hid (HR3.out.kept B4)
        have HK4 := hid (HK3.out.trans (Keep.ofBelow B4))
        clear B4
        by_cases h34 : bt xs (j + 1) = 34
        · have HS : Hid (qe xs (i + 1) = some (j + 1 + 1)) := hid (by rw [← S0.out, qe_mark hj1 h34])
          clear e1 h92
          rw [h34]
          clear h34
          go_wp2
          go_step3
          exact .inr (.inr ⟨rfl, 0, by omega, j + 1, _, _, _, _, _, _, _, _, _, _, _, _, _, _, _, _, _, _, _, _, _, _, _, _, _, _, _, _, _, _, _, _, _, _, _, rfl, by omega, hj1, rfl, HR4, HK4, HS⟩)
        · have HS : Hid (qe xs (j + 1 + 1) = qe xs (i + 1)) := hid (by rw [← S0.out, qe_step hj1 h92 h34])
          have e2 : (bt xs (j + 1) == 34) = false := by simpa using h34
          clear h92 h34
          go_wp2
          go_step3
          exact .inl ⟨rfl, _, by omega, j + 1, _, _, _, _, _, _, _, _, _, _, _, _, _, _, _, _, _, _, _, _, _, _, _, _, _, _, _, _, _, _, _, _, _, _, _, rfl, by omega, hj1, rfl, HR4, HK4, HS⟩
  · rintro g a' w' ⟨j, u1, u2, u3, u4, u5, u6, u7, u8, u9, u10, u11, u12, u13, u14, u15, u16, u17, u18, u19, u20, u21, u22, u23, u24, u25, u26, u27, u28, u29, u30, u31, u32, u33, u34, u35, rfl, hij, hj, rfl, R0, K0, X0, S0⟩
    go_wp2_with fail
    refine (HPA.out _ j hj R0.out).mono ?_
    rintro e w1 ⟨rfl, R1, K1⟩
    have HR1 := hid R1
    have HK1 := hid (K0.out.trans K1)
    clear R1 K1
    go_wp2_with fail
    refine (HEN.out _ (j + 1) HR1.out).mono ?_
    rintro e w2 ⟨rfl, B2⟩
    have HR2 := hid (HR1.out.kept B2)
    have HK2 := hid (HK1.out.trans (Keep.ofBelow B2))
    clear B2
    by_cases hje : j + 1 = xs.length
    · have HS : Hid (tokQ xs i = .bad 11) := hid (by rw [HT.out, ← S0.out, qe_back hj X0.out, qe_end (by omega)])
      rw [show decide (j + 1 = xs.length) = true by simpa using hje]
      clear hje
      go_wp2
      simp only [Exit.jumps]
      go_ret
      rw [HS.out]
      exact ⟨rfl, _, HR2.out, HK2.out⟩
    · rw [show decide (j + 1 = xs.length) = false by simpa using hje]
      have hj1 : j + 1 < xs.length := by omega
      have HS : Hid (qe xs (j + 1 + 1) = qe xs (i + 1)) := hid (by rw [← S0.out, qe_back hj X0.out])
      clear hje
      go_wp2
      go_step3
      exact .inl ⟨rfl, _, by omega, j + 1, _, _, _, _, _, _, _, _, _, _, _, _, _, _, _, _, _, _, _, _, _, _, _, _, _, _, _, _, _, _, _, _, _, _, _, rfl, by omega, hj1, rfl, HR2, HK2, HS⟩
  · rintro g a' w' ⟨j, u1, u2, u3, u4, u5, u6, u7, u8, u9, u10, u11, u12, u13, u14, u15, u16, u17, u18, u19, u20, u21, u22, u23, u24, u25, u26, u27, u28, u29, u30, u31, u32, u33, u34, u35, rfl, hij, hj, rfl, R0, K0, S0⟩
    have HT2 : Hid (tokQ xs i = match uq (cut xs fr (j + 1)) with | none => .bad 11 | some b => .word 3 (j + 1) 0 b) := hid (by rw [HT.out, S0.out])
    go_wp2_with fail
    refine (HPA.out _ j hj R0.out).mono ?_
    rintro e w1 ⟨rfl, R1, K1⟩
    have HR1 := hid R1
    have HK1 := hid (K0.out.trans K1)
    clear R1 K1
    go_wp2_with fail
    refine (HSE.out _ (j + 1) (by omega) (by omega) HR1.out).mono ?_
    rintro e w2 ⟨rfl, B2⟩
    have HR2 := hid (HR1.out.kept B2)
    have HK2 := hid (HK1.out.trans (Keep.ofBelow B2))
    clear B2
    go_wp2_with fail
    cases hu : uq (cut xs fr (j + 1)) with
    | none =>
      have HS : Hid (tokQ xs i = .bad 11) := hid (by rw [HT2.out, hu])
      have hE := HUQ.out w2 (j + 1) (by omega)
      rw [uqE_none (HUE.out (j + 1) (by omega)) hu] at hE
      refine hE.mono ?_
      rintro e w3 ⟨a3, c3, rfl, hr3, B3, _⟩
      have HR3 := hid (HR2.out.kept B3)
      have HK3 := hid (HK2.out.trans (Keep.ofBelow B3))
      clear B3 hE hr3 hu
      go_wp2
      simp only [Exit.jumps]
      go_ret
      rw [HS.out]
      exact ⟨rfl, _, HR3.out, HK3.out⟩
    | some b =>
      have HS : Hid (tokQ xs i = .word 3 (j + 1) 0 b) := hid (by rw [HT2.out, hu])
      have hE := HUQ.out w2 (j + 1) (by omega)
      rw [uqE_some (HUE.out (j + 1) (by omega)) hu] at hE
      refine hE.mono ?_
      rintro e w3 ⟨a3, c3, rfl, hr3, B3, hnew⟩
      have HR3 := hid (HR2.out.kept B3)
      have HK3 := hid (HK2.out.trans (Keep.ofBelow B3))
      have HKP2 := hid (HK.out.keep HK2.out)
      have HO : Hid (Off p kept b.length a3) := hid (fun y hy => .inr ⟨fun e => by have h1 := hnew y hy; have h2 := HR2.out.blk.lt; omega, fun e => by have h1 := hnew y hy; have h2 := (HKP2.out.row.lt y.block e).2; omega⟩)
      have HRD := hid hr3
      clear B3 hE hr3 hu hnew
      dsimp only at HRD
      go_wp2_with fail
      refine (H2.out _ (j + 1) b a3 c3 (by omega) (by omega) HR3.out (HK.out.keep HK3.out) (Nat.le_trans HBS.out HK3.out.size) HRD.out HO.out).mono ?_
      rintro e w4 ⟨rfl, kept', R4, K4, B4⟩
      have HH : Hid (Took base xs p fr bl bc kept ws w 3 (j + 1) 0 b w4) := hid ⟨kept', _, R4, K4, (keep_weak HK3.out).trans B4⟩
      clear R4 K4 B4
      go_wp2
      simp only [Exit.jumps]
      go_ret
      rw [HS.out]
      exact ⟨rfl, HH.out⟩
end
end Go.Proofs.YtlkdcdmdkncjoaaDoor
