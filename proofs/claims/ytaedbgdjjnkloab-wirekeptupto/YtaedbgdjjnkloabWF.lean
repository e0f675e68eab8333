/-
  Walks over tags, the program's and the document's.
-/
import Derived.Test.YtaedbgdjjnkloabWE
import Derived.Test.YtaedbgdjjnkloabM2
namespace Go.Proofs.Ytaedbgdjjnkloab
open Go.RowKit

theorem ret_bool {a b : Bool} (h : a = b) : Ending.returned (.bool a) = .returned (.bool b) := by rw [h]

theorem isKindW (k : Int) (w : World) : Calls Try.prog 28 #[.int .i64 k] w fun e w' => e = .returned (.bool (okK k)) ∧ w = w' := by
  by_cases h0 : k = 0
  · subst h0
    go_enter Try.func28, Try.ntmps28
    go_wp2
    go_ret
    exact ⟨rfl, rfl⟩
  by_cases h1 : k = 1
  · subst h1
    go_enter Try.func28, Try.ntmps28
    go_wp2
    go_ret
    exact ⟨rfl, rfl⟩
  by_cases h2 : k = 2
  · subst h2
    go_enter Try.func28, Try.ntmps28
    go_wp2
    go_ret
    exact ⟨rfl, rfl⟩
  by_cases h5 : k = 5
  · subst h5
    go_enter Try.func28, Try.ntmps28
    go_wp2
    go_ret
    exact ⟨rfl, rfl⟩
  have e0 : (k == 0) = false := by simp [h0]
  have e1 : (k == 1) = false := by simp [h1]
  have e2 : (k == 2) = false := by simp [h2]
  have e5 : (k == 5) = false := by simp [h5]
  have H : Hid (okK k = false) := by show _ = _; simp [okK, h0, h1, h2, h5]
  clear h0 h1 h2 h5
  go_enter Try.func28, Try.ntmps28
  go_wp2
  go_ret
  exact ⟨ret_bool H.out.symm, rfl⟩

theorem tagFaultW (n k : Int) (w : World) : Calls Try.prog 22 #[.int .i64 n, .int .i64 k] w fun e w' => e = .returned (.int .i64 (tf n k)) ∧ w = w' := by
  by_cases h1 : n < 1
  · have H : Hid (tf n k = 5) := by show _ = _; simp [tf, h1]
    have d1 : decide (n < 1) = true := by simpa using h1
    go_enter Try.func22, Try.ntmps22
    go_wp2
    go_ret
    exact ⟨ret_int H.out.symm, rfl⟩
  by_cases h2 : 536870911 < n
  · have H : Hid (tf n k = 5) := by show _ = _; simp [tf, h2]
    have d1 : decide (n < 1) = false := by simpa using h1
    have d2 : decide (536870911 < n) = true := by simpa using h2
    go_enter Try.func22, Try.ntmps22
    go_wp2
    go_ret
    exact ⟨ret_int H.out.symm, rfl⟩
  have d1 : decide (n < 1) = false := by simpa using h1
  have d2 : decide (536870911 < n) = false := by simpa using h2
  cases hk : okK k with
  | true =>
    have H : Hid (tf n k = 0) := by show _ = _; simp [tf, h1, h2, hk]
    have HK : Hid (okK k = true) := hk
    clear hk
    go_enter Try.func22, Try.ntmps22
    go_wp2_with (go_at_call 28; refine (isKindW _ _).mono ?_; rw [HK.out]; rintro e w' ⟨rfl, rfl⟩)
    go_ret
    exact ⟨ret_int H.out.symm, rfl⟩
  | false =>
    have H : Hid (tf n k = 6) := by show _ = _; simp [tf, h1, h2, hk]
    have HK : Hid (okK k = false) := hk
    clear hk
    go_enter Try.func22, Try.ntmps22
    go_wp2_with (go_at_call 28; refine (isKindW _ _).mono ?_; rw [HK.out]; rintro e w' ⟨rfl, rfl⟩)
    go_ret
    exact ⟨ret_int H.out.symm, rfl⟩

theorem tagW (n k : Int) (w : World) (h : tf n k = 0) : Calls Try.prog 23 #[.int .i64 n, .int .i64 k] w fun e w' => e = .returned (.int .u64 (n * 8 + k)) ∧ w = w' := by
  obtain ⟨h0, h1, hk⟩ := tf_ok h
  obtain ⟨k0, k1⟩ := okK_bd hk
  have H : Hid (bits .or .u64 (n * 8) k = n * 8 + k) := tag_or n k (by omega) h1 k0 (by omega)
  clear h hk
  go_enter Try.func23, Try.ntmps23
  go_wp2
  go_ret
  exact ⟨ret_int H.out, rfl⟩

end Go.Proofs.Ytaedbgdjjnkloab
