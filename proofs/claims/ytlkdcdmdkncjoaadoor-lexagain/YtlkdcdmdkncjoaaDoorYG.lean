/-
  Labels and gotos; the reader's name and sign.
-/
import Derived.Test.YtlkdcdmdkncjoaaDoorYF
namespace Go.Proofs.YtlkdcdmdkncjoaaDoor
open Go.RowKit
set_option maxRecDepth 1000000
set_option maxHeartbeats 4000000
set_option linter.unusedVariables false

/-- As Q; by a goto to label l: J l. -/
def Exit.jumps (J : Nat → Act → World → Prop) (Q : Exit → Act → World → Prop) : Exit → Act → World → Prop
  | .goto l, a, w => J l a w
  | e, a, w => Q e a w
/-- A scope with several labels: what holds at each of them, and a number that falls from jump to jump. -/
theorem wp_scope_multi {P : Program} {a : Act} {w : World} {Q : Exit → Act → World → Prop} {c : Code} (rest : Nat → Code) (J : Nat → Nat → Act → World → Prop) (hf : ∀ l g a w, J l g a w → findLabel c l = some (rest l))
    (first : c.wp P (Exit.jumps (fun l a w => ∃ g, J l g a w) Q) a w)
    (pass : ∀ l g a w, J l g a w → (rest l).wp P (Exit.jumps (fun l' a' w' => ∃ g', g' < g ∧ J l' g' a' w') Q) a w) : (Code.scope c).wp P Q a w := by
  intro b k cs
  have hg : ∀ l g a w, J l g a w → gotoIn l (.inScope c :: k) = some (.code (rest l) :: .inScope c :: k) := fun l g a w h => by simp [gotoIn, hf l g a w h]
  have key : ∀ g l a w, J l g a w → ∃ e a' w', Q e a' w' ∧ Arrives P (lone (b.at a (.code (rest l) :: .inScope c :: k)) cs w) b k cs e a' w' := by
    intro g
    induction g using Nat.strongRecOn with
    | _ g ih =>
      intro l a w hJ
      obtain ⟨e, a₁, w₁, hq, harr⟩ := pass l g a w hJ b (.inScope c :: k) cs
      cases e with
      | normal => exact ⟨.normal, a₁, w₁, hq, Steps.trans harr (.one step_inScope)⟩
      | exit id => exact ⟨.exit id, a₁, w₁, hq, fun k' hk => harr k' (by simp [exitTo, hk])⟩
      | goto l' =>
        obtain ⟨g', hlt, hJ'⟩ := hq
        obtain ⟨e₂, a₂, w₂, hq₂, harr₂⟩ := ih g' hlt l' a₁ w₁ hJ'
        exact ⟨e₂, a₂, w₂, hq₂, .of_steps (harr _ (hg l' g' a₁ w₁ hJ')) harr₂⟩
      | ret => exact ⟨_, a₁, w₁, hq, harr⟩
      | panic ch => exact ⟨_, a₁, w₁, hq, harr⟩
      | outgrown => exact ⟨_, a₁, w₁, hq, harr⟩
  obtain ⟨e, a₁, w₁, hq, harr⟩ := first b (.inScope c :: k) cs
  cases e with
  | normal => exact ⟨.normal, a₁, w₁, hq, .head step_scope (Steps.trans harr (.one step_inScope))⟩
  | exit id => exact ⟨.exit id, a₁, w₁, hq, fun k' hk => .head step_scope (harr k' (by simp [exitTo, hk]))⟩
  | goto l' =>
    obtain ⟨g, hJ'⟩ := hq
    obtain ⟨e₂, a₂, w₂, hq₂, harr₂⟩ := key g l' a₁ w₁ hJ'
    exact ⟨e₂, a₂, w₂, hq₂, .of_steps (.head step_scope (harr _ (hg l' g a₁ w₁ hJ'))) harr₂⟩
  | ret => exact ⟨_, a₁, w₁, hq, .of_steps (.one step_scope) harr⟩
  | panic ch => exact ⟨_, a₁, w₁, hq, .of_steps (.one step_scope) harr⟩
  | outgrown => exact ⟨_, a₁, w₁, hq, .of_steps (.one step_scope) harr⟩
/-- One label. -/
theorem wp_scope_one {P : Program} {a : Act} {w : World} {Q : Exit → Act → World → Prop} {c r0 : Code} (J : Nat → Act → World → Prop) (h0 : findLabel c 0 = some r0)
    (first : c.wp P (Exit.jumps (fun l a w => l = 0 ∧ ∃ g, J g a w) Q) a w)
    (pass : ∀ g a w, J g a w → r0.wp P (Exit.jumps (fun l' a' w' => l' = 0 ∧ ∃ g', g' < g ∧ J g' a' w') Q) a w) : (Code.scope c).wp P Q a w := by
  refine wp_scope_multi (fun _ => r0) (fun l g a w => l = 0 ∧ J g a w) (fun l g a w h => by rw [h.1]; exact h0) (wp_mono first ?_) (fun l g a w h => wp_mono (pass g a w h.2) ?_)
  · intro e a w h
    cases e <;> first | exact h | (obtain ⟨h1, g, h2⟩ := h; exact ⟨g, h1, h2⟩)
  · intro e a w h
    cases e <;> first | exact h | (obtain ⟨h1, g, h2, h3⟩ := h; exact ⟨g, h2, h1, h3⟩)
/-- A label at the front: the first time is as every other. -/
theorem wp_scope_front {P : Program} {a : Act} {w : World} {Q : Exit → Act → World → Prop} {r0 : Code} (J : Nat → Act → World → Prop) (g : Nat) (first : J g a w)
    (pass : ∀ g a w, J g a w → r0.wp P (Exit.jumps (fun l' a' w' => l' = 0 ∧ ∃ g', g' < g ∧ J g' a' w') Q) a w) : (Code.scope ((Code.label 0).seq r0)).wp P Q a w := by
  refine wp_scope_one (r0 := Code.skip.seq r0) J (by simp [findLabel]) (wp_seq (wp_label (wp_mono (pass g a w first) ?_))) (fun g a w h => wp_seq (wp_skip (pass g a w h)))
  intro e a w h
  cases e <;> first | exact h | (obtain ⟨h1, g, h2, h3⟩ := h; exact ⟨h1, g, h3⟩)

section
variable (p : Nat) (xs : List Int) (fr : Nat) (bl bc : Int) (i : Nat) (kept : Value) (w : World)
/-- What a call that keeps one word leaves. -/
def Took (base : Nat) (xs : List Int) (p fr : Nat) (bl bc : Int) (kept : Value) (ws : List (Mw × Value)) (w : World) (kind : Int) (j : Nat) (n : Int) (b : List Int) (w' : World) : Prop :=
  ∃ kept' bv, Rd w' p xs fr bl bc j kept' ∧ Kp w' base p 39 kept' (ws ++ [(⟨kind, cut xs fr j, n, b, bl, bc⟩, bv)]) ∧ Keep (fun k => k ≠ p ∧ kept.ownBlock ≠ some k) w w'
theorem keep_weak {p : Nat} {kept : Value} {w w' : World} (h : Keep (· ≠ p) w w') : Keep (fun k => k ≠ p ∧ kept.ownBlock ≠ some k) w w' := h.weak fun k hk => hk.1
theorem signW (base : Nat) (ws : List (Mw × Value)) (hb : ∀ x ∈ xs, 0 ≤ x ∧ x ≤ 255) (hf : fr ≤ i) (hi : i < xs.length) (hl : xs.length ≤ 65536) (h : Rd w p xs fr bl bc i kept) (hk : Kp w base p 39 kept ws) (hbase : base ≤ w.heap.size) (hn : ws.length ≤ 70000) :
    Calls Tryd.prog 32 #[.pointer (some ⟨p, 0, none⟩)] w fun e w' => e = .returned (.tuple #[]) ∧ Took base xs p fr bl bc kept ws w 4 (i + 1) 0 [] w' := by
  have H1 := hid (passW p xs fr bl bc i kept w hb hi hl h)
  have HK := hid hk
  have H2 := hid (fun W (g1 : Rd W p xs fr bl bc (i + 1) kept) (g2 : Kp W base p 39 kept ws) (g3 : base ≤ W.heap.size) => keepW p xs fr bl bc (i + 1) kept W base ws 4 0 [] none 0 (by omega) hi hl g1 g2 g3 hn (reads_nil _) (fun y hy => by cases hy))
  have HBS := hid hbase
  clear hb hi hl h hk hbase hn hf
  go_enter Tryd.func32, Tryd.ntmps32
  go_wp2_with fail
  refine H1.out.mono ?_
  rintro e w1 ⟨rfl, R1, K1⟩
  have HR1 := hid R1
  have HK1 := hid K1
  clear R1 K1
  go_wp2_with fail
  refine (H2.out _ HR1.out (HK.out.keep HK1.out) (Nat.le_trans HBS.out HK1.out.size)).mono ?_
  rintro e w2 ⟨rfl, kept', R2, K2, B2⟩
  have HH : Hid (Took base xs p fr bl bc kept ws w 4 (i + 1) 0 [] w2) := hid ⟨kept', _, R2, K2, (keep_weak HK1.out).trans B2⟩
  clear R2 K2 B2
  go_wp2
  go_end0
  exact ⟨rfl, HH.out⟩
theorem nameW (base : Nat) (ws : List (Mw × Value)) (hb : ∀ x ∈ xs, 0 ≤ x ∧ x ≤ 255) (hf : fr ≤ i) (hi : i < xs.length) (hl : xs.length ≤ 65536) (h : Rd w p xs fr bl bc i kept) (hk : Kp w base p 39 kept ws) (hbase : base ≤ w.heap.size) (hn : ws.length ≤ 70000) :
    Calls Tryd.prog 29 #[.pointer (some ⟨p, 0, none⟩)] w fun e w' => e = .returned (.tuple #[]) ∧ Took base xs p fr bl bc kept ws w 1 (sc namB xs (i + 1)) 0 [] w' := by
  have HPA := hid (fun W j (hj : j < xs.length) (g1 : Rd W p xs fr bl bc j kept) => passW p xs fr bl bc j kept W hb hj hl g1)
  have HPE := hid (fun W j (hj : j ≤ xs.length) (g1 : Rd W p xs fr bl bc j kept) => peekW p xs fr bl bc j kept W hb hj hl g1)
  have HIN := hid (fun W j => inNameW (bt xs j) (bt_bd hb j).1 (bt_bd hb j).2 W)
  have HK := hid hk
  have H2 := hid (fun W j (hj : j ≤ xs.length) (hfj : fr ≤ j) (g1 : Rd W p xs fr bl bc j kept) (g2 : Kp W base p 39 kept ws) (g3 : base ≤ W.heap.size) => keepW p xs fr bl bc j kept W base ws 1 0 [] none 0 hfj hj hl g1 g2 g3 hn (reads_nil _) (fun y hy => by cases hy))
  have HBS := hid hbase
  have HR := hid h
  clear hb hl h hk hbase hn
  go_enter Tryd.func29, Tryd.ntmps29
  go_wp2
  refine wp_scope_front (fun g a' w' => ∃ (j : Nat) (u1 u2 u3 u4 u5 u6 u7 u8 u9 : Value), a' = { tmps := #[.pointer (some ⟨p, 0, none⟩), u1, u2, u3, u4, u5, u6, u7, u8, u9], defers := [] } ∧ i ≤ j ∧ j < xs.length ∧ g = xs.length - j ∧ Hid (Rd w' p xs fr bl bc j kept) ∧ Hid (Keep (· ≠ p) w w') ∧ Hid (sc namB xs (j + 1) = sc namB xs (i + 1))) (xs.length - i) ?_ ?_
  · exact ⟨i, _, _, _, _, _, _, _, _, _, rfl, Nat.le_refl _, hi, rfl, HR, hid (Keep.refl _ _), hid rfl⟩
  · rintro g a' w' ⟨j, u1, u2, u3, u4, u5, u6, u7, u8, u9, rfl, hij, hj, rfl, R0, K0, S0⟩
    go_wp2_with fail
    refine (HPA.out _ j hj R0.out).mono ?_
    rintro e w1 ⟨rfl, R1, K1⟩
    have HR1 := hid R1
    have HK1 := hid (K0.out.trans K1)
    clear R1 K1
    go_wp2_with fail
    refine (HPE.out _ (j + 1) (by omega) HR1.out).mono ?_
    rintro e w2 ⟨rfl, B2⟩
    have HR2 := hid (HR1.out.kept B2)
    have HK2 := hid (HK1.out.trans (Keep.ofBelow B2))
    clear B2
    go_wp2_with fail
    refine (HIN.out _ (j + 1)).mono ?_
    rintro e w3 ⟨rfl, rfl⟩
    cases hnm : namB (bt xs (j + 1)) with
    | true =>
      have hj1 : j + 1 < xs.length := by
        rcases Nat.lt_or_ge (j + 1) xs.length with h | h
        · exact h
        · rw [bt_end h] at hnm; cases hnm
      have HS2 : Hid (sc namB xs (j + 1 + 1) = sc namB xs (i + 1)) := hid (by rw [← S0.out, ← sc_step hj1 hnm])
      go_wp2
      go_step3
      exact ⟨rfl, xs.length - (j + 1), by omega, j + 1, _, _, _, _, _, _, _, _, _, rfl, by omega, hj1, rfl, HR2, HK2, HS2⟩
    | false =>
      have HS2 : Hid (j + 1 = sc namB xs (i + 1)) := hid (by rw [← S0.out, sc_stop hnm])
      go_wp2_with fail
      refine (H2.out _ (j + 1) (by omega) (by omega) HR2.out (HK.out.keep HK2.out) (Nat.le_trans HBS.out HK2.out.size)).mono ?_
      rintro e w4 ⟨rfl, kept', R4, K4, B4⟩
      have HH : Hid (Took base xs p fr bl bc kept ws w 1 (sc namB xs (i + 1)) 0 [] w4) := hid (by rw [← HS2.out]; exact ⟨kept', _, R4, K4, (keep_weak HK2.out).trans B4⟩)
      clear R4 K4 B4
      go_wp2
      simp only [Exit.jumps]
      go_end0
      exact ⟨rfl, HH.out⟩
end
end Go.Proofs.YtlkdcdmdkncjoaaDoor
