/-
  The reader goes on: one byte, several.
-/
import Derived.Test.YtlkdcdmdkncjoaaDoorYC
namespace Go.Proofs.YtlkdcdmdkncjoaaDoor
open Go.RowKit
set_option maxRecDepth 1000000
set_option maxHeartbeats 1000000
set_option linter.unusedVariables false

theorem Blk.is {w : World} {p : Nat} {t : TypeId} {cs cs' : Array Value} (h : Blk w p t cs) (e : cs = cs') : Blk w p t cs' := e ▸ h
section
variable (p : Nat) (xs : List Int) (fr : Nat) (bl bc : Int) (i : Nat) (kept : Value) (w : World)
theorem passW (hb : ∀ x ∈ xs, 0 ≤ x ∧ x ≤ 255) (hi : i < xs.length) (hl : xs.length ≤ 65536) (h : Rd w p xs fr bl bc i kept) :
    Calls Tryd.prog 26 #[.pointer (some ⟨p, 0, none⟩)] w fun e w' => e = .returned (.tuple #[]) ∧ Rd w' p xs fr bl bc (i + 1) kept ∧ Keep (· ≠ p) w w' := by
  obtain ⟨c0, c1, c2, c3, c4, c5, c6, c7⟩ := h.cells
  have f2 := h.blk.frozen 2
  have f5 := h.blk.frozen 5
  have f6 := h.blk.frozen 6
  have hix := bt_index hb i hi .i64
  have hL := lnA_bd xs i
  have hC := clA_bd xs i
  have HB := hid h.blk
  have hi2 : (i : Int) < 65536 := by omega
  by_cases hc : bt xs i = 10
  · have HL := hid (lnA_nl hc)
    have HC := hid (clA_nl hc)
    rw [hc] at hix
    clear h hb hc hl hi
    generalize lnA xs i = L at *
    generalize clA xs i = C at *
    obtain ⟨hL0, hL1⟩ := hL
    obtain ⟨hC0, hC1⟩ := hC
    go_enter Tryd.func26, Tryd.ntmps26
    go_wp2
    go_quiet (fail)
    go_wp2
    go_end0
    exact ⟨rfl, ⟨Blk.is (((((HB.out.kept (below_drewN _ _)).set 5 _).set 6 _).set 6 _).set 2 _) (by rw [HL.out, HC.out]; simp)⟩, ((((Keep.ofBelow (below_drewN _ _)).trans (Keep.setCell _ _ _ (by simp))).trans (Keep.setCell _ _ _ (by simp))).trans (Keep.setCell _ _ _ (by simp))).trans (Keep.setCell _ _ _ (by simp))⟩
  · have HL := hid (lnA_on hc)
    have HC := hid (clA_on hc)
    have hne : (bt xs i == 10) = false := by simpa using hc
    clear h hb hc hl hi
    generalize lnA xs i = L at *
    generalize clA xs i = C at *
    generalize bt xs i = c at *
    obtain ⟨hL0, hL1⟩ := hL
    obtain ⟨hC0, hC1⟩ := hC
    go_enter Tryd.func26, Tryd.ntmps26
    go_wp2
    go_quiet (fail)
    go_wp2
    go_end0
    exact ⟨rfl, ⟨Blk.is (((HB.out.kept (below_drewN _ _)).set 6 _).set 2 _) (by rw [HL.out, HC.out]; simp)⟩, ((Keep.ofBelow (below_drewN _ _)).trans (Keep.setCell _ _ _ (by simp))).trans (Keep.setCell _ _ _ (by simp))⟩
/-- Two bytes are passed. -/
theorem passTwoW (s : ByteArray) (hs : s.size = 2) (hb : ∀ x ∈ xs, 0 ≤ x ∧ x ≤ 255) (hi : i + 1 < xs.length) (hl : xs.length ≤ 65536) (h : Rd w p xs fr bl bc i kept) :
    Calls Tryd.prog 39 #[.pointer (some ⟨p, 0, none⟩), .string s] w fun e w' => e = .returned (.tuple #[]) ∧ Rd w' p xs fr bl bc (i + 2) kept ∧ Keep (· ≠ p) w w' := by
  have H1 := hid (passW p xs fr bl bc i kept w hb (by omega) hl h)
  have H2 := hid (fun W => passW p xs fr bl bc (i + 1) kept W hb hi hl)
  clear hb hi hl h
  go_enter Tryd.func39, Tryd.ntmps39
  go_wp2
  refine wp_loop_rounds 3 ?_
  rw [rounds_succ]
  go_wp2_with fail
  refine H1.out.mono ?_
  rintro e w1 ⟨rfl, R1, K1⟩
  replace R1 := hid R1
  replace K1 := hid K1
  go_wp2
  rw [rounds_succ]
  go_wp2_with fail
  refine (H2.out _ R1.out).mono ?_
  rintro e w2 ⟨rfl, R2, K2⟩
  replace R2 := hid R2
  replace K2 := hid K2
  go_wp2
  rw [rounds_succ]
  go_wp2
  go_end0
  exact ⟨rfl, R2.out, K1.out.trans K2.out⟩
end
end Go.Proofs.YtlkdcdmdkncjoaaDoor
