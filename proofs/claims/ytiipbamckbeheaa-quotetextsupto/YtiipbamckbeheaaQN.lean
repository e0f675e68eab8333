/-
  The walk of the law QuoteTexts.
-/
import Derived.Test.YtiipbamckbeheaaQM
namespace Go.Proofs.Ytiipbamckbeheaa
open Go.RowKit

theorem ret_true {b : Bool} {w w' : World} (h : b = true) (hb : Below w.heap.size w w') : Ending.returned (.bool b) = .returned (.bool true) ∧ Below w.heap.size w w' := ⟨by rw [h], hb⟩

set_option maxRecDepth 100000 in
set_option maxHeartbeats 4000000 in
theorem textsWith (a : Option Addr) (len cap : Nat) (xs ys : List Int) (w : World) (h : Reads w a len cap xs) (hm : len ≤ 1048576) (hl : ys.length ≤ 1048576)
    (us : List Int) (er : Int) (ok : Bool) (zs : List Int)
    (HU : ∀ W : World, Calls Try.prog 7 #[.string (strOfNums ys)] W fun e w' => ∃ a c, e = .returned (.tuple #[.slice a us.length c, .int .i64 er]) ∧ Reads w' a us.length c us ∧ Below W.heap.size W w')
    (HF : ∀ W : World, Calls Try.prog 12 #[.string (strOfNums ys)] W fun e w' => ∃ a c, e = .returned (.tuple #[.slice a zs.length c, .bool ok]) ∧ Reads w' a zs.length c zs ∧ Below W.heap.size W w')
    (hg : if 65536 < ys.length then er = 1 ∧ us = [] else if ok = false then er = 11 ∧ us = [] else er = 0 ∧ us = zs) :
    Calls Try.prog 5 #[.slice a len cap, .string (strOfNums ys)] w fun e w' => e = .returned (.bool true) ∧ Below w.heap.size w w' := by
  have HX := hid h
  have HU := hid HU
  have HF := hid HF
  have Hm := hid hm
  have hs : (strOfNums ys).size = ys.length := strOfNums_size ys
  clear h hm
  by_cases hbig : 65536 < ys.length
  · rw [if_pos hbig] at hg
    obtain ⟨rfl, rfl⟩ := hg
    have hb1 : (65536 : Int) < (ys.length : Int) := by omega
    have hl1 : (ys.length : Int) ≤ 1048576 := by omega
    clear hbig hl
    generalize ys.length = yl at *
    go_enter Try.func5, Try.ntmps5
    go_wp2_with (first
      | (go_at_call 7; refine (HU.out _).mono ?_; rintro e w1 ⟨ua, uc, rfl, hr1, hb1⟩; have HR1 := hid hr1; have HB1 := hid hb1; clear hr1 hb1)
      | (go_at_call 12; refine (HF.out _).mono ?_; rintro e w2 ⟨za, zc, rfl, hr2, hb2⟩; have HR2 := hid hr2; have HB2 := hid hb2; have HC2 := hid (below_trans HB1.out hb2); clear hr2 hb2)
      | (go_at_call 8; refine (awakeW _).mono ?_; rintro e w3 ⟨rfl, hb3⟩; have HB3 := hid hb3; have HC3 := hid (below_trans HC2.out hb3); clear hb3)
      | (go_at_call 13; refine (quoteW _ _ _ xs _ (reads_kept HX.out HC3.out) Hm.out).mono ?_; rintro e w4 ⟨rfl, hb4⟩; have HB4 := hid hb4; have HC4 := hid (below_trans HC3.out hb4); clear hb4)
      | (go_at_call 14; refine (refQuoteR _ _ _ xs _ (reads_kept HX.out HC4.out) Hm.out).mono ?_; rintro e w5 ⟨rfl, hb5⟩; have HC5 := hid (below_trans HC4.out hb5); clear hb5))
    all_goals
      go_ret
      exact ret_true (by simp) HC5.out
  rw [if_neg hbig] at hg
  have hb1 : (ys.length : Int) ≤ 65536 := by omega
  clear hbig hl
  cases ok with
  | false =>
    obtain ⟨rfl, rfl⟩ := hg
    generalize ys.length = yl at *
    go_enter Try.func5, Try.ntmps5
    go_wp2_with (first
      | (go_at_call 7; refine (HU.out _).mono ?_; rintro e w1 ⟨ua, uc, rfl, hr1, hb1⟩; have HR1 := hid hr1; have HB1 := hid hb1; clear hr1 hb1)
      | (go_at_call 12; refine (HF.out _).mono ?_; rintro e w2 ⟨za, zc, rfl, hr2, hb2⟩; have HR2 := hid hr2; have HB2 := hid hb2; have HC2 := hid (below_trans HB1.out hb2); clear hr2 hb2)
      | (go_at_call 8; refine (awakeW _).mono ?_; rintro e w3 ⟨rfl, hb3⟩; have HB3 := hid hb3; have HC3 := hid (below_trans HC2.out hb3); clear hb3)
      | (go_at_call 13; refine (quoteW _ _ _ xs _ (reads_kept HX.out HC3.out) Hm.out).mono ?_; rintro e w4 ⟨rfl, hb4⟩; have HB4 := hid hb4; have HC4 := hid (below_trans HC3.out hb4); clear hb4)
      | (go_at_call 14; refine (refQuoteR _ _ _ xs _ (reads_kept HX.out HC4.out) Hm.out).mono ?_; rintro e w5 ⟨rfl, hb5⟩; have HC5 := hid (below_trans HC4.out hb5); clear hb5))
    all_goals
      go_ret
      exact ret_true (by simp) HC5.out
  | true =>
    obtain ⟨rfl, rfl⟩ := hg
    generalize ys.length = yl at *
    go_enter Try.func5, Try.ntmps5
    go_wp2_with (first
      | (go_at_call 7; refine (HU.out _).mono ?_; rintro e w1 ⟨ua, uc, rfl, hr1, hb1⟩; have HR1 := hid hr1; have HB1 := hid hb1; clear hr1 hb1)
      | (go_at_call 12; refine (HF.out _).mono ?_; rintro e w2 ⟨za, zc, rfl, hr2, hb2⟩; have HR2 := hid hr2; have HB2 := hid hb2; have HC2 := hid (below_trans HB1.out hb2); clear hr2 hb2)
      | (go_at_call 8; refine (awakeW _).mono ?_; rintro e w3 ⟨rfl, hb3⟩; have HB3 := hid hb3; have HC3 := hid (below_trans HC2.out hb3); clear hb3)
      | (go_at_call 13; refine (quoteW _ _ _ xs _ (reads_kept HX.out HC3.out) Hm.out).mono ?_; rintro e w4 ⟨rfl, hb4⟩; have HB4 := hid hb4; have HC4 := hid (below_trans HC3.out hb4); clear hb4)
      | (go_at_call 14; refine (refQuoteR _ _ _ xs _ (reads_kept HX.out HC4.out) Hm.out).mono ?_; rintro e w5 ⟨rfl, hb5⟩; have HC5 := hid (below_trans HC4.out hb5); have hc1 := conv (reads_kept HR1.out (below_trans (below_trans (below_trans HB2.out HB3.out) HB4.out) hb5)); have hc2 := conv (reads_kept HR2.out (below_trans (below_trans HB3.out HB4.out) hb5)); clear hb5))
    all_goals
      go_ret
      exact ret_true (by simp) HC5.out

theorem unq_ref {w w' : World} {e : Ending} {ys : List Int} (h : RefUnq w (some ys) e w') : ∃ a c, e = .returned (.tuple #[.slice a ys.length c, .bool true]) ∧ Reads w' a ys.length c ys ∧ Below w.heap.size w w' := h
theorem unq_refN {w w' : World} {e : Ending} (h : RefUnq w none e w') : ∃ a c, e = .returned (.tuple #[.slice a ([] : List Int).length c, .bool false]) ∧ Reads w' a ([] : List Int).length c [] ∧ Below w.heap.size w w' := ⟨none, 0, h.1, reads_nil _, h.2⟩
/-- QuoteTexts, at bytes that can be read and at a string. -/
theorem quoteTextsW (a : Option Addr) (len cap : Nat) (xs ys : List Int) (w : World) (h : Reads w a len cap xs) (hm : len ≤ 1048576) (hy : ∀ x ∈ ys, 0 ≤ x ∧ x ≤ 255) (hl : ys.length ≤ 1048576) :
    Calls Try.prog 5 #[.slice a len cap, .string (strOfNums ys)] w fun e w' => e = .returned (.bool true) ∧ Below w.heap.size w w' := by
  cases hq : uq ys with
  | none =>
    refine textsWith a len cap xs ys w h hm hl (uqE ys).1 (uqE ys).2 false [] (fun W => (unquoteW ys W hy (by omega)).mono fun e w' h => h) (fun W => (refUnqR ys W hy (by omega)).mono fun e w' h => by rw [hq] at h; exact unq_refN h) ?_
    by_cases hb : 65536 < ys.length
    · rw [if_pos hb, uqE_big hb]; exact ⟨rfl, rfl⟩
    · rw [if_neg hb, if_pos rfl, uqE_none hb hq]; exact ⟨rfl, rfl⟩
  | some zs =>
    refine textsWith a len cap xs ys w h hm hl (uqE ys).1 (uqE ys).2 true zs (fun W => (unquoteW ys W hy (by omega)).mono fun e w' h => h) (fun W => (refUnqR ys W hy (by omega)).mono fun e w' h => by rw [hq] at h; exact unq_ref h) ?_
    by_cases hb : 65536 < ys.length
    · rw [if_pos hb, uqE_big hb]; exact ⟨rfl, rfl⟩
    · rw [if_neg hb, if_neg (by decide), uqE_some hb hq]; exact ⟨rfl, rfl⟩
end Go.Proofs.Ytiipbamckbeheaa
