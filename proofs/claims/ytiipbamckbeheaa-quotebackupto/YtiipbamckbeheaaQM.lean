/-
  The walks of the laws QuoteRunes and QuoteKnown.
-/
import Derived.Test.YtiipbamckbeheaaQL
import Derived.Test.YtiipbamckbeheaaQD
namespace Go.Proofs.Ytiipbamckbeheaa
open Go.RowKit

set_option maxRecDepth 100000 in
set_option maxHeartbeats 1000000 in
theorem quoteRunesW (a : Option Addr) (len cap : Nat) (xs : List Int) (w : World) (h : Reads w a len cap xs) (hm : len ≤ 140737488355328) :
    Calls Try.prog 4 #[.slice a len cap] w fun e w' => e = .returned (.bool true) ∧ Below w.heap.size w w' := by
  have HX := hid h
  have hr := rn_range xs
  have hl : (xs.length : Int) ≤ 140737488355328 := by rw [h.length]; omega
  clear h
  generalize hR : rn xs = R at *
  have HR := hid hR
  have hmx : (decide (0 ≤ R) == decide (0 ≤ R)) = true := by simp
  clear hR
  go_enter Try.func4, Try.ntmps4
  go_wp2_with (first
    | (go_at_call 11; refine (refRunesR _ _ _ xs _ HX.out hm).mono ?_; rintro e w0 ⟨rfl, rfl⟩; rw [HR.out])
    | (go_at_call 8; refine (awakeW _).mono ?_; rintro e w1 ⟨rfl, hb1⟩; have HB1 := hid hb1; clear hb1)
    | (go_at_call 9; refine (validW _ _ _ xs _ (reads_kept HX.out HB1.out)).mono ?_; rintro e w2 ⟨rfl, hb2⟩; rw [HR.out]; have HB2 := hid hb2; clear hb2)
    | (go_at_call 10; refine (runesW _ _ _ xs _ (reads_kept HX.out (below_trans HB1.out HB2.out))).mono ?_; rintro e w3 ⟨rfl, hb3⟩; rw [HR.out]; have HB3 := hid hb3; clear hb3))
  all_goals
    go_ret
    exact ⟨ret_bool (by simp; omega), below_trans (below_trans HB1.out HB2.out) HB3.out⟩

/-- The numbers that cells hold. -/
def nums (cs : Array Value) : List Int := cs.toList.map intOf
theorem callVc (cs : Array Value) (n : Nat) (W : World) (h : (nums cs).map (Value.int .u8) = cs.toList) (hb : ∀ x ∈ nums cs, 0 ≤ x ∧ x ≤ 255) (hn : (nums cs).length = n) (hm : n ≤ 1000) : Calls Try.prog 9 #[.slice (some ⟨W.heap.size, 0, none⟩) n n] (W.alloc (.cells cs 5)) fun e w' => e = .returned (.bool (decide (0 ≤ rn (nums cs)))) ∧ Below W.heap.size W w' := by
  have := callV (nums cs) n W hb hn hm
  rwa [h] at this
theorem callRc (cs : Array Value) (n : Nat) (W : World) (h : (nums cs).map (Value.int .u8) = cs.toList) (hb : ∀ x ∈ nums cs, 0 ≤ x ∧ x ≤ 255) (hn : (nums cs).length = n) (hm : n ≤ 1000) : Calls Try.prog 10 #[.slice (some ⟨W.heap.size, 0, none⟩) n n] (W.alloc (.cells cs 5)) fun e w' => e = .returned (.int .i64 (max (rn (nums cs)) 0)) ∧ Below W.heap.size W w' := by
  have := callR (nums cs) n W hb hn hm
  rwa [h] at this
theorem callUq (W : World) : Calls Try.prog 7 #[.string ⟨#[34, 92, 113, 34]⟩] W fun e w' => ∃ a c, e = .returned (.tuple #[.slice a 0 c, .int .i64 11]) ∧ Below W.heap.size W w' := by
  have := unquoteW [34, 92, 113, 34] W (by decide) (by decide)
  rw [show uqE [34, 92, 113, 34] = ([], 11) by decide] at this
  exact this.mono fun e w' ⟨a, c, h1, _, h3⟩ => ⟨a, c, h1, h3⟩
theorem callUa (W : World) : Calls Try.prog 7 #[.string ⟨#[97]⟩] W fun e w' => ∃ a c, e = .returned (.tuple #[.slice a 0 c, .int .i64 11]) ∧ Below W.heap.size W w' := by
  have := unquoteW [97] W (by decide) (by decide)
  rw [show uqE [97] = ([], 11) by decide] at this
  exact this.mono fun e w' ⟨a, c, h1, _, h3⟩ => ⟨a, c, h1, h3⟩

set_option maxRecDepth 100000 in
set_option maxHeartbeats 2000000 in
theorem quoteKnownW (w : World) : Calls Try.prog 3 #[] w fun e w' => e = .returned (.bool true) ∧ Below w.heap.size w w' := by
  have f1 : decide (0 ≤ rn (nums #[.int .u8 195, .int .u8 164])) = true := by decide
  have f2 : decide (0 ≤ rn (nums #[.int .u8 192, .int .u8 128])) = false := by decide
  have f3 : decide (0 ≤ rn (nums #[.int .u8 237, .int .u8 160, .int .u8 128])) = false := by decide
  have f4 : decide (0 ≤ rn (nums #[.int .u8 244, .int .u8 144, .int .u8 128, .int .u8 128])) = false := by decide
  have f5 : max (rn (nums #[.int .u8 97, .int .u8 195, .int .u8 164])) 0 = 2 := by decide
  have f6 : max (rn (nums #[.int .u8 255])) 0 = 0 := by decide
  have f7 : decide (0 ≤ rn []) = true := by decide
  have HB : Hid (Below w.heap.size w w) := hid (Below.refl _ _)
  go_enter Try.func3, Try.ntmps3
  go_wp2_with (first
    | (go_at_call_of 7 (Value.string ⟨#[34, 92, 113, 34]⟩); refine (callUq _).mono ?_; rintro e w' ⟨a, c, rfl, hb⟩; replace HB := hid (below_trans HB.out hb); clear hb)
    | (go_at_call_of 7 (Value.string ⟨#[97]⟩); refine (callUa _).mono ?_; rintro e w' ⟨a, c, rfl, hb⟩; replace HB := hid (below_trans HB.out hb); clear hb)
    | (go_at_call 8; refine (awakeW _).mono ?_; rintro e w' ⟨rfl, hb⟩; replace HB := hid (below_trans HB.out hb); clear hb)
    | (go_at_call_of 9 (Value.slice none 0 0); refine (validW none 0 0 [] _ (reads_nil _)).mono ?_; rintro e w' ⟨rfl, hb⟩; replace HB := hid (below_trans HB.out hb); clear hb)
    | (go_at_call 9; refine (callVc _ _ _ (by rfl) (by decide) (by rfl) (by decide)).mono ?_; rintro e w' ⟨rfl, hb⟩; replace HB := hid (below_trans HB.out hb); clear hb)
    | (go_at_call 10; refine (callRc _ _ _ (by rfl) (by decide) (by rfl) (by decide)).mono ?_; rintro e w' ⟨rfl, hb⟩; replace HB := hid (below_trans HB.out hb); clear hb))
  go_ret
  exact ⟨rfl, HB.out⟩
end Go.Proofs.Ytiipbamckbeheaa
