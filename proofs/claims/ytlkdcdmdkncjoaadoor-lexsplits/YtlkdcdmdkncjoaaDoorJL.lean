/-
  The document's Unquote at every string; 'awake' returns true.
-/
import Derived.Test.YtlkdcdmdkncjoaaDoorJK
namespace Go.Proofs.YtlkdcdmdkncjoaaDoor
open Go.RowKit
set_option maxRecDepth 1000000

theorem ref_nil {w : World} {xs : List Int} (h : uq xs = none) : RefUnq w (uq xs) (.returned (.tuple #[.slice none 0 0, .bool false])) w := by rw [h]; exact ⟨rfl, Below.refl _ _⟩

set_option maxHeartbeats 400000 in
/-- The document's Unquote. -/
theorem refUnqR (xs : List Int) (w : World) (hb : ∀ x ∈ xs, 0 ≤ x ∧ x ≤ 255) (hl : xs.length ≤ 4194304) :
    Calls Tryd.prog 20 #[.string (strOfNums xs)] w fun e w' => RefUnq w (uq xs) e w' := by
  have hs : (strOfNums xs).size = xs.length := strOfNums_size xs
  by_cases h2 : xs.length < 2
  · have HE := hid (ref_nil (w := w) (uq_short h2))
    have hm2 : (xs.length : Int) < 2 := by omega
    go_enter Tryd.func20, Tryd.ntmps20
    go_wp2
    go_ret2
    exact HE.out
  by_cases h0 : xs[0]?.getD 0 = 34
  · have i0 : ∀ (k : IntKind) (W : World), (Instr.index 9 (.string (strOfNums xs)) (.int k 0)).run Tryd.prog W = .ok (.int .u8 34) W := fun k W => by rw [← h0]; exact index_str hb 0 (by omega) k W
    by_cases h1 : xs[xs.length - 1]?.getD 0 = 34
    · exact refUnqLoop xs xs.length (xs.length - 2) w hb rfl (by omega) (by omega) h0 (by rw [show xs.length - 2 + 1 = xs.length - 1 by omega]; exact h1)
    · have HE := hid (ref_nil (w := w) (uq_last h1))
      have i1 : ∀ (k : IntKind) (W : World), (Instr.index 9 (.string (strOfNums xs)) (.int k ((xs.length : Int) - 1))).run Tryd.prog W = .ok (.int .u8 (xs[xs.length - 1]?.getD 0)) W := fun k W => by
        have := index_str hb (xs.length - 1) (by omega) k W
        rw [show ((xs.length - 1 : Nat) : Int) = (xs.length : Int) - 1 by omega] at this
        exact this
      obtain ⟨d, hd⟩ : ∃ d, xs[xs.length - 1]?.getD 0 = d := ⟨_, rfl⟩
      rw [hd] at i1 h1
      have e1 : (d != 34) = true := by simpa using h1
      have hm1 : (xs.length : Int) ≤ 4194304 := by omega
      have hm2 : (2 : Int) ≤ (xs.length : Int) := by omega
      clear hb h0 hl h2 hd h1
      generalize xs.length = n at *
      go_enter Tryd.func20, Tryd.ntmps20
      go_wp2
      go_ret2
      exact HE.out
  · have HE := hid (ref_nil (w := w) (uq_first h0))
    have i0 : ∀ (k : IntKind) (W : World), (Instr.index 9 (.string (strOfNums xs)) (.int k 0)).run Tryd.prog W = .ok (.int .u8 (xs[0]?.getD 0)) W := fun k W => index_str hb 0 (by omega) k W
    obtain ⟨d, hd⟩ : ∃ d, xs[0]?.getD 0 = d := ⟨_, rfl⟩
    rw [hd] at i0 h0
    have e1 : (d != 34) = true := by simpa using h0
    have hm1 : (xs.length : Int) ≤ 4194304 := by omega
    have hm2 : (2 : Int) ≤ (xs.length : Int) := by omega
    generalize xs.length = n at *
    clear hb hd h0 hl h2
    go_enter Tryd.func20, Tryd.ntmps20
    go_wp2
    go_ret2
    exact HE.out

end Go.Proofs.YtlkdcdmdkncjoaaDoor
