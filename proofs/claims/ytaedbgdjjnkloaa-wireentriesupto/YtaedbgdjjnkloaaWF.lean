/-
  Walks over tags, the program's and the document's.
-/
import Derived.Test.YtaedbgdjjnkloaaWE
import Derived.Test.YtaedbgdjjnkloaaM2
namespace Go.Proofs.Ytaedbgdjjnkloaa
open Go.RowKit

theorem ret_bool {a b : Bool} (h : a = b) : Ending.returned (.bool a) = .returned (.bool b) := by rw [h]

theorem isKindW (k : Int) (w : World) : Calls Try.prog 56 #[.int .i64 k] w fun e w' => e = .returned (.bool (okK k)) ∧ w = w' := by
  by_cases h0 : k = 0
  · subst h0
    go_enter Try.func56, Try.ntmps56
    go_wp2
    go_ret
    exact ⟨rfl, rfl⟩
  by_cases h1 : k = 1
  · subst h1
    go_enter Try.func56, Try.ntmps56
    go_wp2
    go_ret
    exact ⟨rfl, rfl⟩
  by_cases h2 : k = 2
  · subst h2
    go_enter Try.func56, Try.ntmps56
    go_wp2
    go_ret
    exact ⟨rfl, rfl⟩
  by_cases h5 : k = 5
  · subst h5
    go_enter Try.func56, Try.ntmps56
    go_wp2
    go_ret
    exact ⟨rfl, rfl⟩
  have e0 : (k == 0) = false := by simp [h0]
  have e1 : (k == 1) = false := by simp [h1]
  have e2 : (k == 2) = false := by simp [h2]
  have e5 : (k == 5) = false := by simp [h5]
  have H : Hid (okK k = false) := by show _ = _; simp [okK, h0, h1, h2, h5]
  clear h0 h1 h2 h5
  go_enter Try.func56, Try.ntmps56
  go_wp2
  go_ret
  exact ⟨ret_bool H.out.symm, rfl⟩

theorem isKindR (k : Int) (w : World) : Calls Try.prog 53 #[.int .i64 k] w fun e w' => e = .returned (.bool (okK k)) ∧ w = w' := by
  by_cases h0 : k = 0
  · subst h0
    go_enter Try.func53, Try.ntmps53
    go_wp2
    go_ret
    exact ⟨rfl, rfl⟩
  by_cases h1 : k = 1
  · subst h1
    go_enter Try.func53, Try.ntmps53
    go_wp2
    go_ret
    exact ⟨rfl, rfl⟩
  by_cases h2 : k = 2
  · subst h2
    go_enter Try.func53, Try.ntmps53
    go_wp2
    go_ret
    exact ⟨rfl, rfl⟩
  by_cases h5 : k = 5
  · subst h5
    go_enter Try.func53, Try.ntmps53
    go_wp2
    go_ret
    exact ⟨rfl, rfl⟩
  have e0 : (k == 0) = false := by simp [h0]
  have e1 : (k == 1) = false := by simp [h1]
  have e2 : (k == 2) = false := by simp [h2]
  have e5 : (k == 5) = false := by simp [h5]
  have H : Hid (okK k = false) := by show _ = _; simp [okK, h0, h1, h2, h5]
  clear h0 h1 h2 h5
  go_enter Try.func53, Try.ntmps53
  go_wp2
  go_ret
  exact ⟨ret_bool H.out.symm, rfl⟩

theorem tagFaultW (n k : Int) (w : World) : Calls Try.prog 48 #[.int .i64 n, .int .i64 k] w fun e w' => e = .returned (.int .i64 (tf n k)) ∧ w = w' := by
  by_cases h1 : n < 1
  · have H : Hid (tf n k = 5) := by show _ = _; simp [tf, h1]
    have d1 : decide (n < 1) = true := by simpa using h1
    go_enter Try.func48, Try.ntmps48
    go_wp2
    go_ret
    exact ⟨ret_int H.out.symm, rfl⟩
  by_cases h2 : 536870911 < n
  · have H : Hid (tf n k = 5) := by show _ = _; simp [tf, h2]
    have d1 : decide (n < 1) = false := by simpa using h1
    have d2 : decide (536870911 < n) = true := by simpa using h2
    go_enter Try.func48, Try.ntmps48
    go_wp2
    go_ret
    exact ⟨ret_int H.out.symm, rfl⟩
  have d1 : decide (n < 1) = false := by simpa using h1
  have d2 : decide (536870911 < n) = false := by simpa using h2
  cases hk : okK k with
  | true =>
    have H : Hid (tf n k = 0) := by show _ = _; simp [tf, h1, h2, hk]
    have HK : Hid (okK k = true) := hk
    clear hk
    go_enter Try.func48, Try.ntmps48
    go_wp2_with (go_at_call 56; refine (isKindW _ _).mono ?_; rw [HK.out]; rintro e w' ⟨rfl, rfl⟩)
    go_ret
    exact ⟨ret_int H.out.symm, rfl⟩
  | false =>
    have H : Hid (tf n k = 6) := by show _ = _; simp [tf, h1, h2, hk]
    have HK : Hid (okK k = false) := hk
    clear hk
    go_enter Try.func48, Try.ntmps48
    go_wp2_with (go_at_call 56; refine (isKindW _ _).mono ?_; rw [HK.out]; rintro e w' ⟨rfl, rfl⟩)
    go_ret
    exact ⟨ret_int H.out.symm, rfl⟩

theorem tagW (n k : Int) (w : World) (h : tf n k = 0) : Calls Try.prog 49 #[.int .i64 n, .int .i64 k] w fun e w' => e = .returned (.int .u64 (n * 8 + k)) ∧ w = w' := by
  obtain ⟨h0, h1, hk⟩ := tf_ok h
  obtain ⟨k0, k1⟩ := okK_bd hk
  have H : Hid (bits .or .u64 (n * 8) k = n * 8 + k) := tag_or n k (by omega) h1 k0 (by omega)
  clear h hk
  go_enter Try.func49, Try.ntmps49
  go_wp2
  go_ret
  exact ⟨ret_int H.out, rfl⟩

/-- PutTag with a fault. -/
theorem putTagNo (n k : Int) (w : World) (h : tf n k ≠ 0) : Calls Try.prog 20 #[.int .i64 n, .int .i64 k] w fun e w' => e = .returned (.tuple #[.slice none 0 0, .int .i64 (tf n k)]) ∧ w = w' := by
  have hn : (tf n k != 0) = true := by simp [h]
  clear h
  go_enter Try.func20, Try.ntmps20
  go_wp2_with (go_at_call 48; refine (tagFaultW _ _ _).mono ?_; rintro e w' ⟨rfl, rfl⟩)
  go_ret2
  exact ⟨rfl, rfl⟩
/-- PutTag without one. -/
theorem putTagYes (n k : Int) (w : World) (h : tf n k = 0) : Calls Try.prog 20 #[.int .i64 n, .int .i64 k] w fun e w' => ∃ v, e = .returned (.tuple #[v, .int .i64 0]) ∧ w'.ownsRow w.heap.size 5 1 v (pv (n * 8 + k)).length ((pv (n * 8 + k)).map (Value.int .u8)) ∧ Below w.heap.size w w' := by
  obtain ⟨h0, h1, hk⟩ := tf_ok h
  obtain ⟨k0, k1⟩ := okK_bd hk
  have H : Hid (tf n k = 0) := h
  clear h hk
  go_enter Try.func20, Try.ntmps20
  go_wp2_with (first
    | (go_at_call 48; refine (tagFaultW _ _ _).mono ?_; rw [H.out]; rintro e w' ⟨rfl, rfl⟩)
    | (go_at_call 49; refine (tagW _ _ _ H.out).mono ?_; rintro e w' ⟨rfl, rfl⟩)
    | (go_at_call 11; refine (putvW _ _ (by omega) (by omega)).mono ?_; rintro e w1 ⟨v, rfl, ho, hb⟩))
  go_ret2
  exact ⟨v, rfl, ho, hb⟩

theorem refPutTagNo (n k : Int) (w : World) (h : tf n k ≠ 0) : Calls Try.prog 38 #[.int .i64 n, .int .i64 k] w fun e w' => e = .returned (.tuple #[.slice none 0 0, .int .i64 (tf n k)]) ∧ w = w' := by
  by_cases h1 : n < 1
  · have H : tf n k = 5 := by simp [tf, h1]
    have d1 : decide (n < 1) = true := by simpa using h1
    rw [H]
    clear h H
    go_enter Try.func38, Try.ntmps38
    go_wp2
    go_ret2
    exact ⟨rfl, rfl⟩
  by_cases h2 : 536870911 < n
  · have H : tf n k = 5 := by simp [tf, h2]
    have d1 : decide (n < 1) = false := by simpa using h1
    have d2 : decide (536870911 < n) = true := by simpa using h2
    rw [H]
    clear h H
    go_enter Try.func38, Try.ntmps38
    go_wp2
    go_ret2
    exact ⟨rfl, rfl⟩
  have d1 : decide (n < 1) = false := by simpa using h1
  have d2 : decide (536870911 < n) = false := by simpa using h2
  cases hk : okK k with
  | true => exact absurd (by simp [tf, h1, h2, hk]) h
  | false =>
    have H : tf n k = 6 := by simp [tf, h1, h2, hk]
    have HK : Hid (okK k = false) := hk
    rw [H]
    clear hk h H
    go_enter Try.func38, Try.ntmps38
    go_wp2_with (go_at_call 53; refine (isKindR _ _).mono ?_; rw [HK.out]; rintro e w' ⟨rfl, rfl⟩)
    go_ret2
    exact ⟨rfl, rfl⟩
theorem refPutTagYes (n k : Int) (w : World) (h : tf n k = 0) : Calls Try.prog 38 #[.int .i64 n, .int .i64 k] w fun e w' => ∃ v, e = .returned (.tuple #[v, .int .i64 0]) ∧ w'.ownsRow w.heap.size 5 1 v (pv (n * 8 + k)).length ((pv (n * 8 + k)).map (Value.int .u8)) ∧ Below w.heap.size w w' := by
  obtain ⟨h0, h1, hk⟩ := tf_ok h
  obtain ⟨k0, k1⟩ := okK_bd hk
  have d1 : decide (n < 1) = false := by simp; omega
  have d2 : decide (536870911 < n) = false := by simp; omega
  have HK : Hid (okK k = true) := hk
  clear h hk
  go_enter Try.func38, Try.ntmps38
  go_wp2_with (first
    | (go_at_call 53; refine (isKindR _ _).mono ?_; rw [HK.out]; rintro e w' ⟨rfl, rfl⟩)
    | (go_at_call 28; refine (putvR _ _ (by omega) (by omega)).mono ?_; rintro e w1 ⟨v, rfl, ho, hb⟩))
  go_ret2
  exact ⟨v, rfl, ho, hb⟩
end Go.Proofs.Ytaedbgdjjnkloaa
