/-
  Does a value fit a kind? The program's walks and the document's.
-/
import Derived.Test.YtgcimeldofbgkaaSB
namespace Go.Proofs.Ytgcimeldofbgkaa
open Go.RowKit
set_option maxRecDepth 1000000
set_option maxHeartbeats 1000000

theorem widenedW (n : Int) (w : World) (h0 : 0 ≤ n) (h1 : n < 4294967296) : Calls Try.prog 54 #[.int .u32 n] w fun e w' => e = .returned (.int .u64 (wid n)) ∧ w = w' := by
  go_enter Try.func54, Try.ntmps54
  go_wp2
  go_ret
  refine ⟨ret_int ?_, rfl⟩
  unfold wid
  rw [IntKind.wrap_u64]
  unfold wrap32
  split <;> omega

theorem widens (n : Int) (h0 : 0 ≤ n) (h1 : n < 18446744073709551616) : (n == wid (n % 4294967296)) = decide (n < 2147483648 ∨ 18446744071562067968 ≤ n) := by
  unfold wid
  rw [show (n == if n % 4294967296 < 2147483648 then n % 4294967296 else n % 4294967296 + 18446744069414584320) = decide (n = if n % 4294967296 < 2147483648 then n % 4294967296 else n % 4294967296 + 18446744069414584320) from rfl]
  rw [decide_eq_decide]
  split <;> omega
theorem numberFitsW (k n : Int) (w : World) (h0 : 0 ≤ n) (h1 : n < 18446744073709551616) : Calls Try.prog 28 #[.int .i64 k, .int .u64 n] w fun e w' => e = .returned (.bool (nfit k n)) ∧ w = w' := by
  have HN : Hid (∀ (k : Int) (w : World), Calls Try.prog 10 #[.int .i64 k] w fun e w' => e = .returned (.bool (knum k)) ∧ w = w') := hid numericW
  have HW := hid (widens n h0 h1)
  rcases kinds k with rfl | rfl | rfl | rfl | rfl | rfl | rfl | rfl | rfl | rfl | rfl | rfl | rfl | rfl | rfl | rfl | rfl | h | h
  iterate 17 (next => go_enter Try.func28, Try.ntmps28; go_wp2_with (first | (go_at_call 10; refine (HN.out _ _).mono ?_; rintro e w' ⟨rfl, rfl⟩) | (go_at_call 54; refine (widenedW _ _ (by omega) (by omega)).mono ?_; rintro e w' ⟨rfl, rfl⟩)); go_ret; first | exact ⟨rfl, rfl⟩ | exact ⟨ret_bool HW.out, rfl⟩)
  · obtain ⟨e1, e2, e3, e4, e5, e6, e7, e8, e9, e10, e11, e12, e13, e14, e15, e16, e17⟩ := noKind (.inl h)
    have H : Hid (knum k = nfit k n) := hid (by unfold nfit; rw [knum_no (.inl h)]; rfl)
    clear h
    go_enter Try.func28, Try.ntmps28
    go_wp2_with (go_at_call 10; refine (HN.out _ _).mono ?_; rintro e w' ⟨rfl, rfl⟩)
    go_ret
    exact ⟨ret_bool H.out, rfl⟩
  · obtain ⟨e1, e2, e3, e4, e5, e6, e7, e8, e9, e10, e11, e12, e13, e14, e15, e16, e17⟩ := noKind (.inr h)
    have H : Hid (knum k = nfit k n) := hid (by unfold nfit; rw [knum_no (.inr h)]; rfl)
    clear h
    go_enter Try.func28, Try.ntmps28
    go_wp2_with (go_at_call 10; refine (HN.out _ _).mono ?_; rintro e w' ⟨rfl, rfl⟩)
    go_ret
    exact ⟨ret_bool H.out, rfl⟩
end Go.Proofs.Ytgcimeldofbgkaa
