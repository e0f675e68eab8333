/-
  The document's Unquote at every string; 'awake' returns true.
-/
import Derived.Test.YtiipbamckbeheaaQK
namespace Go.Proofs.Ytiipbamckbeheaa
open Go.RowKit

theorem ref_nil {w : World} {xs : List Int} (h : uq xs = none) : RefUnq w (uq xs) (.returned (.tuple #[.slice none 0 0, .bool false])) w := by rw [h]; exact ⟨rfl, Below.refl _ _⟩

set_option maxHeartbeats 400000 in
/-- The document's Unquote. -/
theorem refUnqR (xs : List Int) (w : World) (hb : ∀ x ∈ xs, 0 ≤ x ∧ x ≤ 255) (hl : xs.length ≤ 4194304) :
    Calls Try.prog 12 #[.string (strOfNums xs)] w fun e w' => RefUnq w (uq xs) e w' := by
  have hs : (strOfNums xs).size = xs.length := strOfNums_size xs
  by_cases h2 : xs.length < 2
  · have HE := hid (ref_nil (w := w) (uq_short h2))
    have hm2 : (xs.length : Int) < 2 := by omega
    go_enter Try.func12, Try.ntmps12
    go_wp2
    go_ret2
    exact HE.out
  by_cases h0 : xs[0]?.getD 0 = 34
  · have i0 : ∀ (k : IntKind) (W : World), (Instr.index 9 (.string (strOfNums xs)) (.int k 0)).run Try.prog W = .ok (.int .u8 34) W := fun k W => by rw [← h0]; exact index_str hb 0 (by omega) k W
    by_cases h1 : xs[xs.length - 1]?.getD 0 = 34
    · exact refUnqLoop xs xs.length (xs.length - 2) w hb rfl (by omega) (by omega) h0 (by rw [show xs.length - 2 + 1 = xs.length - 1 by omega]; exact h1)
    · have HE := hid (ref_nil (w := w) (uq_last h1))
      have i1 : ∀ (k : IntKind) (W : World), (Instr.index 9 (.string (strOfNums xs)) (.int k ((xs.length : Int) - 1))).run Try.prog W = .ok (.int .u8 (xs[xs.length - 1]?.getD 0)) W := fun k W => by
        have := index_str hb (xs.length - 1) (by omega) k W
        rw [show ((xs.length - 1 : Nat) : Int) = (xs.length : Int) - 1 by omega] at this
        exact this
      obtain ⟨d, hd⟩ : ∃ d, xs[xs.length - 1]?.getD 0 = d := ⟨_, rfl⟩
      rw [hd] at i1 h1
      have e1 : (d != 34) = true := by simpa using h1
      have hm1 : (xs.length : Int) ≤ 4194304 := by omega
      have hm2 : (2 : Int) ≤ (xs.length : Int) := by omega
      clear hb h0 hl h2 hd h1
      generalize xs.length = n at *
      go_enter Try.func12, Try.ntmps12
      go_wp2
      go_ret2
      exact HE.out
  · have HE := hid (ref_nil (w := w) (uq_first h0))
    have i0 : ∀ (k : IntKind) (W : World), (Instr.index 9 (.string (strOfNums xs)) (.int k 0)).run Try.prog W = .ok (.int .u8 (xs[0]?.getD 0)) W := fun k W => index_str hb 0 (by omega) k W
    obtain ⟨d, hd⟩ : ∃ d, xs[0]?.getD 0 = d := ⟨_, rfl⟩
    rw [hd] at i0 h0
    have e1 : (d != 34) = true := by simpa using h0
    have hm1 : (xs.length : Int) ≤ 4194304 := by omega
    have hm2 : (2 : Int) ≤ (xs.length : Int) := by omega
    generalize xs.length = n at *
    clear hb hd h0 hl h2
    go_enter Try.func12, Try.ntmps12
    go_wp2
    go_ret2
    exact HE.out

theorem uqE_awake : uqE [34, 97, 92, 120, 52, 49, 34] = ([97, 65], 0) := by decide
theorem qt_awake : qt [97, 34, 10, 0, 195] = [34, 97, 92, 34, 92, 110, 92, 120, 48, 48, 92, 120, 99, 51, 34] := by decide
theorem rn_a : rn [97] = 1 := by decide

/-- The calls of 'awake', at what it hands in. -/
theorem callU (W : World) : Calls Try.prog 7 #[.string ⟨#[34, 97, 92, 120, 52, 49, 34]⟩] W fun e w' => ∃ a c, e = .returned (.tuple #[.slice a 2 c, .int .i64 0]) ∧ Reads w' a 2 c [97, 65] ∧ Below W.heap.size W w' := by
  have := unquoteW [34, 97, 92, 120, 52, 49, 34] W (by decide) (by decide)
  rw [uqE_awake] at this
  exact this
theorem callQ (W : World) : Calls Try.prog 13 #[.slice (some ⟨W.heap.size, 0, none⟩) 5 5] (W.alloc (.cells #[.int .u8 97, .int .u8 34, .int .u8 10, .int .u8 0, .int .u8 195] 5)) fun e w' => e = .returned (.string ⟨#[34, 97, 92, 34, 92, 110, 92, 120, 48, 48, 92, 120, 99, 51, 34]⟩) ∧ Below W.heap.size W w' := by
  refine (quoteW _ 5 5 [97, 34, 10, 0, 195] _ (reads_new W [97, 34, 10, 0, 195] (by decide) (by decide)) (by decide)).mono ?_
  rintro e w' ⟨rfl, hb⟩
  refine ⟨?_, below_trans (below_alloc _) hb⟩
  rw [qt_awake]
  rfl
/-- Valid of bytes that have just been laid. -/
theorem callV (xs : List Int) (n : Nat) (W : World) (hb : ∀ x ∈ xs, 0 ≤ x ∧ x ≤ 255) (hn : xs.length = n) (hm : n ≤ 1000) : Calls Try.prog 9 #[.slice (some ⟨W.heap.size, 0, none⟩) n n] (W.alloc (.cells (xs.map (Value.int .u8)).toArray 5)) fun e w' => e = .returned (.bool (decide (0 ≤ rn xs))) ∧ Below W.heap.size W w' := by
  subst hn
  refine (validW _ _ _ xs _ (reads_new W xs hb (by omega))).mono ?_
  rintro e w' ⟨rfl, hb⟩
  exact ⟨rfl, below_trans (below_alloc _) hb⟩
theorem callR (xs : List Int) (n : Nat) (W : World) (hb : ∀ x ∈ xs, 0 ≤ x ∧ x ≤ 255) (hn : xs.length = n) (hm : n ≤ 1000) : Calls Try.prog 10 #[.slice (some ⟨W.heap.size, 0, none⟩) n n] (W.alloc (.cells (xs.map (Value.int .u8)).toArray 5)) fun e w' => e = .returned (.int .i64 (max (rn xs) 0)) ∧ Below W.heap.size W w' := by
  subst hn
  refine (runesW _ _ _ xs _ (reads_new W xs hb (by omega))).mono ?_
  rintro e w' ⟨rfl, hb⟩
  exact ⟨rfl, below_trans (below_alloc _) hb⟩
theorem callVa (W : World) : Calls Try.prog 9 #[.slice (some ⟨W.heap.size, 0, none⟩) 1 1] (W.alloc (.cells #[.int .u8 97] 5)) fun e w' => e = .returned (.bool true) ∧ Below W.heap.size W w' := by
  have := callV [97] 1 W (by decide) rfl (by decide)
  rw [rn_a] at this
  exact this
theorem conv_aA {w : World} {a : Option Addr} {c : Nat} (h : Reads w a 2 c [97, 65]) : (convert 22 9 (.slice a 2 c)).run Try.prog w = .ok (.string ⟨#[97, 65]⟩) w := conv h

set_option maxRecDepth 100000 in
set_option maxHeartbeats 1000000 in
theorem awakeW (w : World) : Calls Try.prog 8 #[] w fun e w' => e = .returned (.bool true) ∧ Below w.heap.size w w' := by
  go_enter Try.func8, Try.ntmps8
  go_wp2_with (first
    | (go_at_call 7; refine (callU _).mono ?_; rintro e w1 ⟨a, c, rfl, hrd, hb1⟩; have HRD := hid hrd; have HB1 := hid hb1; clear hrd hb1)
    | (go_at_call 13; refine (callQ _).mono ?_; rintro e w2 ⟨rfl, hb2⟩; have hcv := conv_aA (reads_kept HRD.out hb2); have HB2 := hid hb2; clear hb2)
    | (go_at_call 9; refine (callVa _).mono ?_; rintro e w3 ⟨rfl, hb3⟩; have HB3 := hid hb3; clear hb3))
  go_ret
  exact ⟨rfl, below_trans (below_trans HB1.out HB2.out) HB3.out⟩
end Go.Proofs.Ytiipbamckbeheaa
