/-
  The program's Unquote at every string.
-/
import Derived.Test.YtidimdbnnnpplaaGreatDoorCG
namespace Go.Proofs.YtidimdbnnnpplaaGreatDoor
open Go.RowKit
set_option maxRecDepth 1000000
theorem uq_short {xs : List Int} (h : xs.length < 2) : uq xs = none := by unfold uq; rw [if_pos (.inl h)]
theorem uq_first {xs : List Int} (h : xs[0]?.getD 0 ≠ 34) : uq xs = none := by unfold uq; rw [if_pos (.inr (.inl (by rw [List.getD_eq_getElem?_getD]; exact h)))]
theorem uq_last {xs : List Int} (h : xs[xs.length - 1]?.getD 0 ≠ 34) : uq xs = none := by unfold uq; rw [if_pos (.inr (.inr (by rw [List.getD_eq_getElem?_getD]; exact h)))]
set_option maxHeartbeats 400000 in
theorem unquoteC (xs : List Int) (w : World) (hb : ∀ x ∈ xs, 0 ≤ x ∧ x ≤ 255) (hl : xs.length ≤ 65536) (h2 : ¬ xs.length < 2) (h0 : xs[0]?.getD 0 ≠ 34) :
    Calls Tryz.prog 97 #[.string (strOfNums xs)] w fun e w' => Unquoted w (uqE xs) e w' := by
  have HE := hid (uqE_none (by omega) (uq_first h0))
  have hs : (strOfNums xs).size = xs.length := strOfNums_size xs
  have i0 : ∀ (k : IntKind) (W : World), (Instr.index 9 (.string (strOfNums xs)) (.int k 0)).run Tryz.prog W = .ok (.int .u8 (xs[0]?.getD 0)) W := fun k W => index_str hb 0 (by omega) k W
  obtain ⟨d, hd⟩ : ∃ d, xs[0]?.getD 0 = d := ⟨_, rfl⟩
  rw [hd] at i0 h0
  have e1 : (d != 34) = true := by simpa using h0
  have hm1 : (xs.length : Int) ≤ 65536 := by omega
  have hm2 : (2 : Int) ≤ (xs.length : Int) := by omega
  generalize xs.length = n at *
  clear hb hd h0 hl h2
  go_enter Tryz.func97, Tryz.ntmps97
  go_wp2
  go_ret2
  rw [HE.out]
  exact unq_nil (Below.refl _ _)
set_option maxHeartbeats 400000 in
theorem unquoteD (xs : List Int) (w : World) (hb : ∀ x ∈ xs, 0 ≤ x ∧ x ≤ 255) (hl : xs.length ≤ 65536) (h2 : ¬ xs.length < 2) (h0 : xs[0]?.getD 0 = 34) (h1 : xs[xs.length - 1]?.getD 0 ≠ 34) :
    Calls Tryz.prog 97 #[.string (strOfNums xs)] w fun e w' => Unquoted w (uqE xs) e w' := by
  have HE := hid (uqE_none (by omega) (uq_last h1))
  have hs : (strOfNums xs).size = xs.length := strOfNums_size xs
  have i0 : ∀ (k : IntKind) (W : World), (Instr.index 9 (.string (strOfNums xs)) (.int k 0)).run Tryz.prog W = .ok (.int .u8 34) W := fun k W => by rw [← h0]; exact index_str hb 0 (by omega) k W
  have i1 : ∀ (k : IntKind) (W : World), (Instr.index 9 (.string (strOfNums xs)) (.int k ((xs.length : Int) - 1))).run Tryz.prog W = .ok (.int .u8 (xs[xs.length - 1]?.getD 0)) W := fun k W => by
    have := index_str hb (xs.length - 1) (by omega) k W
    rw [show ((xs.length - 1 : Nat) : Int) = (xs.length : Int) - 1 by omega] at this
    exact this
  obtain ⟨d, hd⟩ : ∃ d, xs[xs.length - 1]?.getD 0 = d := ⟨_, rfl⟩
  rw [hd] at i1 h1
  have e1 : (d != 34) = true := by simpa using h1
  have hm1 : (xs.length : Int) ≤ 65536 := by omega
  have hm2 : (2 : Int) ≤ (xs.length : Int) := by omega
  clear hb h0 hl h2 hd h1
  generalize xs.length = n at *
  go_enter Tryz.func97, Tryz.ntmps97
  go_wp2
  go_ret2
  rw [HE.out]
  exact unq_nil (Below.refl _ _)
set_option maxHeartbeats 400000 in
/-- The program's Unquote. -/
theorem unquoteW (xs : List Int) (w : World) (hb : ∀ x ∈ xs, 0 ≤ x ∧ x ≤ 255) (hl : xs.length ≤ 9223372036854775807) :
    Calls Tryz.prog 97 #[.string (strOfNums xs)] w fun e w' => Unquoted w (uqE xs) e w' := by
  by_cases hbig : 65536 < xs.length
  · rw [uqE_big hbig]
    have hs : (strOfNums xs).size = xs.length := strOfNums_size xs
    go_enter Tryz.func97, Tryz.ntmps97
    go_wp2
    go_ret2
    exact unq_nil (Below.refl _ _)
  by_cases h2 : xs.length < 2
  · rw [uqE_none hbig (uq_short h2)]
    have hs : (strOfNums xs).size = xs.length := strOfNums_size xs
    go_enter Tryz.func97, Tryz.ntmps97
    go_wp2
    go_ret2
    exact unq_nil (Below.refl _ _)
  by_cases h0 : xs[0]?.getD 0 = 34
  · by_cases h1 : xs[xs.length - 1]?.getD 0 = 34
    · exact unquoteLoop xs xs.length (xs.length - 2) w hb rfl (by omega) (by omega) h0 (by rw [show xs.length - 2 + 1 = xs.length - 1 by omega]; exact h1)
    · exact unquoteD xs w hb (by omega) h2 h0 h1
  · exact unquoteC xs w hb (by omega) h2 h0
end Go.Proofs.YtidimdbnnnpplaaGreatDoor
