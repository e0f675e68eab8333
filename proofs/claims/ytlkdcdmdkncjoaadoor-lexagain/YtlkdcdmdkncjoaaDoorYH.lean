/-
  The reader's comment.
-/
import Derived.Test.YtlkdcdmdkncjoaaDoorYG
namespace Go.Proofs.YtlkdcdmdkncjoaaDoor
open Go.RowKit
set_option maxRecDepth 1000000
set_option maxHeartbeats 4000000
set_option linter.unusedVariables false

/-- Two labels. -/
theorem wp_scope_two {P : Program} {a : Act} {w : World} {Q : Exit → Act → World → Prop} {c r0 r1 : Code} (J0 J1 : Nat → Act → World → Prop) (h0 : findLabel c 0 = some r0) (h1 : findLabel c 1 = some r1)
    (first : c.wp P (Exit.jumps (fun l a w => (l = 0 ∧ ∃ g, J0 g a w) ∨ (l = 1 ∧ ∃ g, J1 g a w)) Q) a w)
    (pass0 : ∀ g a w, J0 g a w → r0.wp P (Exit.jumps (fun l a w => (l = 0 ∧ ∃ g', g' < g ∧ J0 g' a w) ∨ (l = 1 ∧ ∃ g', g' < g ∧ J1 g' a w)) Q) a w)
    (pass1 : ∀ g a w, J1 g a w → r1.wp P (Exit.jumps (fun l a w => (l = 0 ∧ ∃ g', g' < g ∧ J0 g' a w) ∨ (l = 1 ∧ ∃ g', g' < g ∧ J1 g' a w)) Q) a w) : (Code.scope c).wp P Q a w := by
  refine wp_scope_multi (fun l => if l = 0 then r0 else r1) (fun l g a w => (l = 0 ∧ J0 g a w) ∨ (l = 1 ∧ J1 g a w)) (fun l g a w h => ?_) (wp_mono first ?_) (fun l g a w h => ?_)
  · rcases h with ⟨rfl, _⟩ | ⟨rfl, _⟩
    · exact h0
    · exact h1
  · intro e a w h
    cases e <;> first | exact h | (rcases h with ⟨h1, g, h2⟩ | ⟨h1, g, h2⟩; exact ⟨g, .inl ⟨h1, h2⟩⟩; exact ⟨g, .inr ⟨h1, h2⟩⟩)
  · rcases h with ⟨rfl, h⟩ | ⟨rfl, h⟩
    · refine wp_mono (pass0 g a w h) ?_
      intro e a w h
      cases e <;> first | exact h | (rcases h with ⟨h1, g, hg, h2⟩ | ⟨h1, g, hg, h2⟩; exact ⟨g, hg, .inl ⟨h1, h2⟩⟩; exact ⟨g, hg, .inr ⟨h1, h2⟩⟩)
    · refine wp_mono (pass1 g a w h) ?_
      intro e a w h
      cases e <;> first | exact h | (rcases h with ⟨h1, g, hg, h2⟩ | ⟨h1, g, hg, h2⟩; exact ⟨g, hg, .inl ⟨h1, h2⟩⟩; exact ⟨g, hg, .inr ⟨h1, h2⟩⟩)

section
variable (p : Nat) (xs : List Int) (fr : Nat) (bl bc : Int) (i : Nat) (kept : Value) (w : World)
/-- What a call over one token leaves. -/
def Went (base : Nat) (xs : List Int) (p fr : Nat) (bl bc : Int) (kept : Value) (ws : List (Mw × Value)) (w : World) (t : Tk) (e : Ending) (w' : World) : Prop := match t with
  | .skip j => e = .returned (.int .i64 0) ∧ Rd w' p xs fr bl bc j kept ∧ Keep (· ≠ p) w w'
  | .word kind j n b => e = .returned (.int .i64 0) ∧ Took base xs p fr bl bc kept ws w kind j n b w'
  | .bad c => e = .returned (.int .i64 c) ∧ ∃ j, Rd w' p xs fr bl bc j kept ∧ Keep (· ≠ p) w w'
theorem prefix_two {xs : List Int} (hb : ∀ x ∈ xs, 0 ≤ x ∧ x ≤ 255) (i : Nat) (hi : i ≤ xs.length) (a b : UInt8) (ha : a ≠ 0) (hb0 : b ≠ 0) : Lib.hasPrefix (strOfNums (xs.drop i)).data.toList [a, b] = decide (bt xs i = (a.toNat : Int) ∧ bt xs (i + 1) = (b.toNat : Int)) := by
  have hu : ∀ (c : Int) (d : UInt8), 0 ≤ c → c ≤ 255 → ((UInt8.ofNat c.toNat = d) ↔ c = (d.toNat : Int)) := by
    intro c d h0 h1
    constructor
    · intro e
      have := congrArg UInt8.toNat e
      simp only [UInt8.toNat_ofNat'] at this
      omega
    · intro e
      subst e
      simp
  rw [strOfNums_data]
  have hz : ∀ d : UInt8, d ≠ 0 → (0 : Int) ≠ (d.toNat : Int) := by
    intro d hd e
    apply hd
    apply UInt8.toNat_inj.1
    simp
    omega
  rcases Nat.lt_or_ge i xs.length with h | h
  · have e1 : xs.drop i = bt xs i :: xs.drop (i + 1) := by rw [List.drop_eq_getElem_cons h]; simp [bt, h]
    rcases Nat.lt_or_ge (i + 1) xs.length with h2 | h2
    · have e2 : xs.drop (i + 1) = bt xs (i + 1) :: xs.drop (i + 1 + 1) := by rw [List.drop_eq_getElem_cons h2]; simp [bt, h2]
      rw [e1, e2]
      rw [Bool.eq_iff_iff]
      simp only [Lib.hasPrefix, List.map_cons, List.isPrefixOf, Bool.and_eq_true, beq_iff_eq, decide_eq_true_eq, and_true]
      rw [eq_comm (a := a), eq_comm (a := b), hu _ _ (bt_bd hb i).1 (bt_bd hb i).2, hu _ _ (bt_bd hb (i + 1)).1 (bt_bd hb (i + 1)).2]
    · rw [e1, List.drop_eq_nil_of_le h2, bt_end h2]
      have := hz b hb0
      simp [Lib.hasPrefix, List.isPrefixOf, this]
  · rw [List.drop_eq_nil_of_le h, bt_end h]
    have := hz a ha
    simp [Lib.hasPrefix, this]
theorem prefixW2 (a b : UInt8) (ha : a ≠ 0) (hb0 : b ≠ 0) (hb : ∀ x ∈ xs, 0 ≤ x ∧ x ≤ 255) (hi : i ≤ xs.length) : Calls Tryd.prog 37 #[.string (strOfNums (xs.drop i)), .string ⟨#[a, b]⟩] w fun e w' => e = .returned (.bool (decide (bt xs i = (a.toNat : Int) ∧ bt xs (i + 1) = (b.toNat : Int)))) ∧ w = w' := by
  refine (Tryd.strings_HasPrefix (strOfNums (xs.drop i)) ⟨#[a, b]⟩ w).mono ?_
  rintro e w' ⟨rfl, rfl⟩
  rw [← prefix_two hb i hi a b ha hb0]
  exact ⟨rfl, rfl⟩
theorem prefixEnd (hb : ∀ x ∈ xs, 0 ≤ x ∧ x ≤ 255) (hi : i ≤ xs.length) : Calls Tryd.prog 37 #[.string (strOfNums (xs.drop i)), .string ⟨#[42, 47]⟩] w fun e w' => e = .returned (.bool (decide (bt xs i = 42 ∧ bt xs (i + 1) = 47))) ∧ w = w' := prefixW2 xs i w 42 47 (by decide) (by decide) hb hi
theorem prefixHex (hb : ∀ x ∈ xs, 0 ≤ x ∧ x ≤ 255) (hi : i ≤ xs.length) : Calls Tryd.prog 37 #[.string (strOfNums (xs.drop i)), .string ⟨#[48, 120]⟩] w fun e w' => e = .returned (.bool (hxA xs i)) ∧ w = w' := prefixW2 xs i w 48 120 (by decide) (by decide) hb hi

theorem commentW (base : Nat) (ws : List (Mw × Value)) (hb : ∀ x ∈ xs, 0 ≤ x ∧ x ≤ 255) (hi : i < xs.length) (hl : xs.length ≤ 65536) (h : Rd w p xs fr bl bc i kept) :
    Calls Tryd.prog 27 #[.pointer (some ⟨p, 0, none⟩)] w fun e w' => Went base xs p fr bl bc kept ws w (tokC xs i) e w' := by
  have HPA := hid (fun W j (hj : j < xs.length) (g1 : Rd W p xs fr bl bc j kept) => passW p xs fr bl bc j kept W hb hj hl g1)
  have HPE := hid (fun W j (hj : j ≤ xs.length) (g1 : Rd W p xs fr bl bc j kept) => peekW p xs fr bl bc j kept W hb hj hl g1)
  have HEN := hid (fun W j (g1 : Rd W p xs fr bl bc j kept) => endedW p xs fr bl bc j kept W g1)
  have HRE := hid (fun W j (hj : j ≤ xs.length) (g1 : Rd W p xs fr bl bc j kept) => restW p xs fr bl bc j kept W hj hl g1)
  have HPX := hid (fun W j (hj : j ≤ xs.length) => prefixEnd xs j W hb hj)
  have HTW := hid (fun W j (hj : j + 1 < xs.length) (g1 : Rd W p xs fr bl bc j kept) => passTwoW p xs fr bl bc j kept W ⟨#[42, 47]⟩ rfl hb hj hl g1)
  have HBD := hid (fun j => bt_bd hb j)
  have HR := hid h
  clear hb hl h
  go_enter Tryd.func27, Tryd.ntmps27
  go_wp2
  refine wp_scope_two (fun g a' w' => bt xs (i + 1) = 47 ∧ ∃ (j : Nat) (u1 u2 u3 u4 u5 u6 u7 u8 u9 u10 u11 u12 u13 u14 u15 u16 u17 u18 u19 u20 u21 u22 u23 u24 u25 u26 u27 u28 u29 u30 : Value), a' = { tmps := #[.pointer (some ⟨p, 0, none⟩), u1, u2, u3, u4, u5, u6, u7, u8, u9, u10, u11, u12, u13, u14, u15, u16, u17, u18, u19, u20, u21, u22, u23, u24, u25, u26, u27, u28, u29, u30], defers := [] } ∧ j ≤ xs.length ∧ g = xs.length - j ∧ Hid (Rd w' p xs fr bl bc j kept) ∧ Hid (Keep (· ≠ p) w w') ∧ Hid (sc notNl xs j = sc notNl xs (i + 1)))
    (fun g a' w' => bt xs (i + 1) = 42 ∧ ∃ (j : Nat) (u1 u2 u3 u4 u5 u6 u7 u8 u9 u10 u11 u12 u13 u14 u15 u16 u17 u18 u19 u20 u21 u22 u23 u24 u25 u26 u27 u28 u29 u30 : Value), a' = { tmps := #[.pointer (some ⟨p, 0, none⟩), u1, u2, u3, u4, u5, u6, u7, u8, u9, u10, u11, u12, u13, u14, u15, u16, u17, u18, u19, u20, u21, u22, u23, u24, u25, u26, u27, u28, u29, u30], defers := [] } ∧ j ≤ xs.length ∧ g = xs.length - j ∧ Hid (Rd w' p xs fr bl bc j kept) ∧ Hid (Keep (· ≠ p) w w') ∧ Hid (bk xs j = bk xs (i + 2))) rfl rfl ?_ ?_ ?_
  · go_wp2_with fail
    refine (HPA.out _ i hi HR.out).mono ?_
    rintro e w1 ⟨rfl, R1, K1⟩
    have HR1 := hid R1
    have HK1 := hid K1
    clear R1 K1
    go_wp2_with fail
    refine (HPE.out _ (i + 1) (by omega) HR1.out).mono ?_
    rintro e w2 ⟨rfl, B2⟩
    have HR2 := hid (HR1.out.kept B2)
    have HK2 := hid (HK1.out.trans (Keep.ofBelow B2))
    clear B2
    by_cases h47 : bt xs (i + 1) = 47
    · rw [h47]
      have HX := hid h47
      clear h47
      go_wp2
      go_step3
      exact .inl ⟨rfl, xs.length - (i + 1), HX.out, i + 1, _, _, _, _, _, _, _, _, _, _, _, _, _, _, _, _, _, _, _, _, _, _, _, _, _, _, _, _, _, _, rfl, by omega, rfl, HR2, HK2, hid rfl⟩
    · by_cases h42 : bt xs (i + 1) = 42
      · have hi1 : i + 1 < xs.length := by
          rcases Nat.lt_or_ge (i + 1) xs.length with h | h
          · exact h
          · rw [bt_end h] at h42; omega
        rw [h42]
        have HX := hid h42
        clear h42 h47
        go_wp2_with fail
        refine (HPA.out _ (i + 1) hi1 HR2.out).mono ?_
        rintro e w3 ⟨rfl, R3, K3⟩
        have HR3 := hid R3
        have HK3 := hid (HK2.out.trans K3)
        clear R3 K3
        go_wp2
        go_step3
        exact .inr ⟨rfl, xs.length - (i + 2), HX.out, i + 2, _, _, _, _, _, _, _, _, _, _, _, _, _, _, _, _, _, _, _, _, _, _, _, _, _, _, _, _, _, _, rfl, by omega, rfl, HR3, HK3, hid rfl⟩
      · have e1 : (bt xs (i + 1) == 47) = false := by simpa using h47
        have e2 : (bt xs (i + 1) == 42) = false := by simpa using h42
        have HT : Hid (tokC xs i = .bad 11) := hid (by unfold tokC; rw [if_neg h47, if_neg h42])
        clear h47 h42
        go_wp2
        simp only [Exit.jumps]
        go_ret
        rw [HT.out]
        exact ⟨rfl, _, HR2.out, HK2.out⟩
  · rintro g a' w' ⟨h47, j, u1, u2, u3, u4, u5, u6, u7, u8, u9, u10, u11, u12, u13, u14, u15, u16, u17, u18, u19, u20, u21, u22, u23, u24, u25, u26, u27, u28, u29, u30, rfl, hj, rfl, R0, K0, S0⟩
    have HT : Hid (tokC xs i = .skip (sc notNl xs (i + 1))) := hid (by unfold tokC; rw [if_pos h47])
    have HX := hid h47
    clear h47
    go_wp2_with fail
    refine (HEN.out _ j R0.out).mono ?_
    rintro e w1 ⟨rfl, B1⟩
    have HR1 := hid (R0.out.kept B1)
    have HK1 := hid (K0.out.trans (Keep.ofBelow B1))
    clear B1
    by_cases hje : j = xs.length
    · have HS : Hid (j = sc notNl xs (i + 1)) := hid (by rw [← S0.out, sc_end (by omega)])
      rw [show decide (j = xs.length) = true by simpa using hje]
      clear hje
      go_wp2
      simp only [Exit.jumps]
      go_ret
      rw [HT.out, ← HS.out]
      exact ⟨rfl, HR1.out, HK1.out⟩
    · rw [show decide (j = xs.length) = false by simpa using hje]
      have hjl : j < xs.length := by omega
      go_wp2_with fail
      refine (HPE.out _ j hj HR1.out).mono ?_
      rintro e w2 ⟨rfl, B2⟩
      have HR2 := hid (HR1.out.kept B2)
      have HK2 := hid (HK1.out.trans (Keep.ofBelow B2))
      clear B2
      by_cases h10 : bt xs j = 10
      · have HS : Hid (j = sc notNl xs (i + 1)) := hid (by rw [← S0.out, sc_stop (by simp [notNl, h10])])
        rw [h10]
        clear h10
        go_wp2
        simp only [Exit.jumps]
        go_ret
        rw [HT.out, ← HS.out]
        exact ⟨rfl, HR2.out, HK2.out⟩
      · have HS : Hid (sc notNl xs (j + 1) = sc notNl xs (i + 1)) := hid (by rw [← S0.out, ← sc_step hjl (by simp [notNl, h10])])
        have e1 : (bt xs j == 10) = false := by simpa using h10
        clear h10
        go_wp2_with fail
        refine (HPA.out _ j hjl HR2.out).mono ?_
        rintro e w3 ⟨rfl, R3, K3⟩
        have HR3 := hid R3
        have HK3 := hid (HK2.out.trans K3)
        clear R3 K3
        go_wp2
        go_step3
        exact .inl ⟨rfl, xs.length - (j + 1), by omega, HX.out, j + 1, _, _, _, _, _, _, _, _, _, _, _, _, _, _, _, _, _, _, _, _, _, _, _, _, _, _, _, _, _, _, rfl, by omega, rfl, HR3, HK3, HS⟩
  · rintro g a' w' ⟨h42, j, u1, u2, u3, u4, u5, u6, u7, u8, u9, u10, u11, u12, u13, u14, u15, u16, u17, u18, u19, u20, u21, u22, u23, u24, u25, u26, u27, u28, u29, u30, rfl, hj, rfl, R0, K0, S0⟩
    have HX := hid h42
    have HT : Hid (tokC xs i = match bk xs (i + 2) with | none => .bad 11 | some k => .skip k) := hid (by unfold tokC; rw [if_neg (by omega), if_pos h42]; cases bk xs (i + 2) <;> rfl)
    clear h42
    go_wp2_with fail
    refine (HEN.out _ j R0.out).mono ?_
    rintro e w1 ⟨rfl, B1⟩
    have HR1 := hid (R0.out.kept B1)
    have HK1 := hid (K0.out.trans (Keep.ofBelow B1))
    clear B1
    by_cases hje : j = xs.length
    · have HS : Hid (bk xs (i + 2) = none) := hid (by rw [← S0.out, bk_end (by omega)])
      rw [show decide (j = xs.length) = true by simpa using hje]
      clear hje
      go_wp2
      simp only [Exit.jumps]
      go_ret
      rw [HT.out, HS.out]
      exact ⟨rfl, _, HR1.out, HK1.out⟩
    · rw [show decide (j = xs.length) = false by simpa using hje]
      have hjl : j < xs.length := by omega
      clear hje
      go_wp2_with fail
      refine (HRE.out _ j hj HR1.out).mono ?_
      rintro e w2 ⟨rfl, B2⟩
      have HR2 := hid (HR1.out.kept B2)
      have HK2 := hid (HK1.out.trans (Keep.ofBelow B2))
      clear B2
      go_wp2_with fail
      refine (HPX.out _ j hj).mono ?_
      rintro e w3 ⟨rfl, rfl⟩
      by_cases hh : bt xs j = 42 ∧ bt xs (j + 1) = 47
      · have HS : Hid (bk xs (i + 2) = some (j + 2)) := hid (by rw [← S0.out, bk_here hh.1 hh.2])
        have hj1 : j + 1 < xs.length := by
          rcases Nat.lt_or_ge (j + 1) xs.length with h | h
          · exact h
          · have := hh.2; rw [bt_end h] at this; omega
        rw [show decide (bt xs j = 42 ∧ bt xs (j + 1) = 47) = true by simpa using hh]
        clear hh
        go_wp2_with fail
        refine (HTW.out _ j hj1 HR2.out).mono ?_
        rintro e w4 ⟨rfl, R4, K4⟩
        have HR4 := hid R4
        have HK4 := hid (HK2.out.trans K4)
        clear R4 K4
        go_wp2
        simp only [Exit.jumps]
        go_ret
        rw [HT.out, HS.out]
        exact ⟨rfl, HR4.out, HK4.out⟩
      · have HS : Hid (bk xs (j + 1) = bk xs (i + 2)) := hid (by rw [← S0.out, ← bk_step hjl hh])
        rw [show decide (bt xs j = 42 ∧ bt xs (j + 1) = 47) = false by simpa using hh]
        clear hh
        go_wp2_with fail
        refine (HPA.out _ j hjl HR2.out).mono ?_
        rintro e w4 ⟨rfl, R4, K4⟩
        have HR4 := hid R4
        have HK4 := hid (HK2.out.trans K4)
        clear R4 K4
        go_wp2
        go_step3
        exact .inr ⟨rfl, xs.length - (j + 1), by omega, HX.out, j + 1, _, _, _, _, _, _, _, _, _, _, _, _, _, _, _, _, _, _, _, _, _, _, _, _, _, _, _, _, _, _, rfl, by omega, rfl, HR4, HK4, HS⟩
end
end Go.Proofs.YtlkdcdmdkncjoaaDoor
